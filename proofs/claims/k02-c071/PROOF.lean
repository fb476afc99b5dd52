import PyProof.Rows.All
import Wide.All
import OpenK.AllK
import Wide.FinOn
import HandS.ForMost
import HandS.IsInst
import HandS.TupAny
import HandS.Wide
import HandS.Codes
import HandS.Style
import PyProof.ReprRoads
import PyProof.ReprLen
import PyProof.ReprBulk
import PyProof.FitsInt
import HandS.Deep
import HandS.Zip
import HandS.Walk
import HandS.CallLocal
import PySem.Challenge.RW_roomprofile_k02_sizes_of_jobs
set_option Elab.async false
set_option linter.all false
set_option maxRecDepth 100000
set_option maxHeartbeats 4000000
/-! Rp: what the proofs of the laws over roomprofile share: powers, data, repr, isinstance, heaps. -/
namespace Rp
open PySem L2

/-! ### powers of great ints -/
def CPowW (i j : Int) : Prop := 0 ≤ j ∧ (Builtin.Int.intBits i : Int) * j ≤ 2 ^ 27
theorem bits_le {i : Int} {b : Nat} (hi : i.natAbs < 2 ^ b) : Builtin.Int.intBits i ≤ b := by
  unfold Builtin.Int.intBits
  split
  · exact Nat.zero_le _
  · rename_i hne
    have h0 : i.natAbs ≠ 0 := by
      intro z
      apply hne
      have : i = 0 := by omega
      subst this
      rfl
    have := (Nat.log2_lt h0).mpr hi
    omega
theorem powW_of {i j : Int} (b : Nat) (h0 : 0 ≤ j) (hi : i.natAbs < 2 ^ b) (hb : (b : Int) * j ≤ 2 ^ 27) : CPowW i j := by
  refine ⟨h0, Int.le_trans ?_ hb⟩
  have := bits_le hi
  exact Int.mul_le_mul_of_nonneg_right (by omega) h0
section
variable {X : Cx}
theorem op_powW : OpR X (binaryOp .Pow) (rI CPowW fun i j => .int (i ^ j.toNat)) := opI fun _ _ _ _ _ _ _ hc q => PyProof.Rows.pow_int hc.1 hc.2 q
end

/-! ### data -/
def tyN : PyData → String
  | .none => "NoneType"
  | .bool _ => "bool"
  | .int _ => "int"
  | .str _ => "str"
  | .list _ => "list"
  | .tuple _ => "tuple"
  | .dict _ => "dict"
theorem dp_ty {K : PySem.W.Frag} {H : Hp} {v : V} {d : PyData} (h : Dp K H v d) : TyX K H v (.type (tyN d)) := by
  cases h with
  | non => exact .base .non
  | bl b => exact .base (.bl b)
  | int i => exact .base (.int i)
  | str x => exact .base (.str x)
  | lst hs ha =>
    rcases hs with (e | ⟨o, e⟩) | ⟨o, its, n, hk, hc, _⟩
    · exact .base (.lst e)
    · exact .base (.frz e)
    · exact .kList hk hc
  | tup hs ha =>
    rcases hs with (e | ⟨o, e⟩) | ⟨o, its, n, hk, hc, _⟩
    · exact .base (.tup e)
    · exact .fTuple e
    · exact .kTuple hk hc
def isInt : PyData → Bool
  | .int _ => true
  | .bool _ => true
  | _ => false
def isBoo : PyData → Bool
  | .bool _ => true
  | _ => false
def isTup : PyData → Bool
  | .tuple _ => true
  | _ => false
def isStr : PyData → Bool
  | .str _ => true
  | _ => false
def isLst : PyData → Bool
  | .list _ => true
  | _ => false
theorem kit_int (d : PyData) : kitB (tyN d) "int" = some (isInt d) := by cases d <;> (simp only [tyN, isInt]; decide +kernel)
theorem kit_bool (d : PyData) : kitB (tyN d) "bool" = some (isBoo d) := by cases d <;> (simp only [tyN, isBoo]; decide +kernel)
theorem kit_tuple (d : PyData) : kitB (tyN d) "tuple" = some (isTup d) := by cases d <;> (simp only [tyN, isTup]; decide +kernel)
theorem kit_str (d : PyData) : kitB (tyN d) "str" = some (isStr d) := by cases d <;> (simp only [tyN, isStr]; decide +kernel)
theorem kit_list (d : PyData) : kitB (tyN d) "list" = some (isLst d) := by cases d <;> (simp only [tyN, isLst]; decide +kernel)
section
variable {X : Cx}
def rIsD (K : PySem.W.Frag) : List V → Hp → VK → Prop := fun xs H Q => ∃ (v : V) (n : String) (d : PyData) (b : Bool), xs = [v, .ty n] ∧ Dp K H v d ∧ kitB (tyN d) n = some b ∧ Q (.bl b) H
theorem call_isD : CallR X (.builtin "isinstance") (rIsD X.K) := by
  intro pins s σ H xs us Q I r h
  obtain ⟨v, n, d, b, e, hd, hk, q⟩ := h
  exact call_isi pins s σ H xs us Q I r ⟨v, .ty n, _, _, _, e, .ty n, dp_ty hd, kit_ty hk, q⟩
end

/-! ### len, list(..), tuple(..) by names -/
section
variable {X : Cx}
def rLenS (K : PySem.W.Frag) : List V → Hp → VK → Prop := fun xs H Q => ∃ (p : Addr) (ys : List V), xs = [.ref p] ∧ (SqL K H p ys ∨ SqT K H p ys) ∧ Q (.int ys.length) H
theorem call_lenS : CallR X (.builtin "len") (rLenS X.K) := call_len_seq
def rListS (K : PySem.W.Frag) : List V → Hp → VK → Prop := fun xs H Q => ∃ (p : Addr) (ys : List V), xs = [.ref p] ∧ (SqL K H p ys ∨ SqT K H p ys) ∧ ∀ l, H l = none → Q (.ref l) (upd H l (.lst ys))
theorem call_listS : CallR X (.type "list") (rListS X.K) := call_list_of
def rTupS (K : PySem.W.Frag) : List V → Hp → VK → Prop := fun xs H Q => ∃ (p : Addr) (ys : List V), xs = [.ref p] ∧ ((SqL K H p ys ∧ ∀ l, H l = none → Q (.ref l) (upd H l (.tup ys))) ∨ (SqT K H p ys ∧ Q (.ref p) H))
theorem call_tupS : CallR X (.type "tuple") (rTupS X.K) := call_tuple_of
end

/-! ### repr of data -/
mutual
/-- data whose text is made without trouble: no dicts, ints of at most 180 digits, signs below 16 ^ 8 -/
def fine : PyData → Prop
  | .int i => i.natAbs < 10 ^ 180
  | .str x => (x.cps.toList.all fun c => decide (c < 16 ^ 8)) = true
  | .list xs => fines xs
  | .tuple xs => fines xs
  | .dict _ => False
  | _ => True
def fines : List PyData → Prop
  | [] => True
  | x :: xs => fine x ∧ fines xs
end
theorem int_log {i : Int} (h : i.natAbs < 10 ^ 180) : i.natAbs.log2 < 1920 := by
  by_cases z : i.natAbs = 0
  · rw [z]
    decide
  · exact (Nat.log2_lt z).mpr (Nat.lt_trans h (by decide +kernel))
theorem shown_int {i : Int} (h : i.natAbs < 10 ^ 180) : (PyData.shown (.int i)).length ≤ 200 := by
  have e := int_text_length_le10 (k := 180) (by decide) h
  show (Str.ofString (toString i)).length ≤ 200
  rw [ofString_length]
  omega
mutual
theorem fine_ok : ∀ d : PyData, fine d → d.showable = true ∧ d.leavesShort 200 = true ∧ d.hasDict = false
  | .none, _ => by simp [PyData.showable, PyData.leavesShort, PyData.hasDict]
  | .bool _, _ => by simp [PyData.showable, PyData.leavesShort, PyData.hasDict]
  | .int i, h => by
    simp only [fine] at h
    simp only [PyData.showable, PyData.leavesShort, PyData.hasDict, decide_eq_true_eq, and_true]
    exact ⟨int_log h, shown_int h⟩
  | .str x, h => by
    simp only [fine] at h
    simp only [PyData.showable, PyData.leavesShort, PyData.hasDict, and_true, true_and]
    exact h
  | .list xs, h => by
    simp only [fine] at h
    simp only [PyData.showable, PyData.leavesShort, PyData.hasDict]
    exact fines_ok xs h
  | .tuple xs, h => by
    simp only [fine] at h
    simp only [PyData.showable, PyData.leavesShort, PyData.hasDict]
    exact fines_ok xs h
  | .dict _, h => by simp only [fine] at h
theorem fines_ok : ∀ xs : List PyData, fines xs → PyData.showableAll xs = true ∧ PyData.leavesShortAll 200 xs = true ∧ PyData.hasDictAll xs = false
  | [], _ => by simp [PyData.showableAll, PyData.leavesShortAll, PyData.hasDictAll]
  | x :: xs, h => by
    simp only [fines] at h
    obtain ⟨a1, a2, a3⟩ := fine_ok x h.1
    obtain ⟨b1, b2, b3⟩ := fines_ok xs h.2
    simp only [PyData.showableAll, PyData.leavesShortAll, PyData.hasDictAll, a1, a2, a3, b1, b2, b3, Bool.and_self, Bool.or_self, and_self]
end
section
variable {X : Cx}
def rRepr (K : PySem.W.Frag) : List V → Hp → VK → Prop := fun xs H Q => ∃ (v : V) (d : PyData), xs = [v] ∧ Dp K H v d ∧ fine d ∧ d.depth ≤ 64 ∧ d.bulk ≤ 80000 ∧ Q (.str d.shown) H
theorem call_reprD (hg : X.A.guards = some []) (hu : X.A.units + 66 < cLine) : CallR X (.builtin "repr") (rRepr X.K) := by
  intro pins s σ H xs us Q I r h
  obtain ⟨v, d, rfl, hd, hf, hdep, hw, q⟩ := h
  obtain ⟨hs, hl, hnd⟩ := fine_ok d hf
  have hz : d.shown.length ≤ sizeLine := by
    have := PyData.shown_le_bulk 200 (by decide) d hl
    rw [sizeLine_eq]
    omega
  obtain ⟨u, rfl, ru⟩ := vals1 r
  have hsm : ∀ as : List Addr, d.hasDict = true → sysModules ∉ as := fun as => PyData.noDict_hsm hnd
  obtain ⟨as, hr⟩ := Dp.reads I d v u hd ru
  cases hr with
  | none => exact P.repr_of_none ⟨.str _, H, I.tok _, ⟨_, rfl⟩, q⟩
  | bool b => exact P.repr_of_bool ⟨.str _, H, I.tok _, ⟨_, rfl⟩, q⟩
  | int i t => exact P.repr_of_int (by simpa [PyData.showable] using hs) ⟨.str _, H, I.tok _, ⟨_, rfl⟩, q⟩
  | str x t => exact P.repr_of_str ⟨.str _, H, I.tok _, ⟨_, rfl⟩, q⟩ (by simpa only [PyData.shown] using hz)
  | list h1 h2 h3 h4 =>
    refine repr_of_reads' (h₀ := s.heap) (.list h1 h2 h3 h4) hs (hsm _) hg (by omega) (fun _ _ e => e) (fun h' u' tk hk => ?_) hz
    exact ⟨.str _, H, I.kept hk, ⟨_, rfl⟩, q⟩
  | tuple h1 h2 h3 h4 =>
    refine repr_of_reads' (h₀ := s.heap) (.tuple h1 h2 h3 h4) hs (hsm _) hg (by omega) (fun _ _ e => e) (fun h' u' tk hk => ?_) hz
    exact ⟨.str _, H, I.kept hk, ⟨_, rfl⟩, q⟩
  | dict _ _ _ _ _ => exact absurd hnd (by simp [PyData.hasDict])
end

/-! ### what stays of the heap -/
theorem same_sqT {K : PySem.W.Frag} {H H' : Hp} {a : Addr} {xs : List V} (s : Same H H') (h : SqT K H a xs) : SqT K H' a xs := by
  rcases h with (h | ⟨o, h⟩) | h
  · exact .inl (.inl (s _ _ h))
  · exact .inl (.inr ⟨o, s _ _ h⟩)
  · exact .inr h
theorem same_new {H : Hp} {p : Addr} {o : HO} (h : H p = none) : Same H (upd H p o) := fun b u q => by rw [upd_ne (ne_of_none q h)]; exact q
mutual
theorem dp_same {K : PySem.W.Frag} {H H' : Hp} (s : Same H H') : ∀ {d : PyData} {v : V}, Dp K H v d → Dp K H' v d
  | .none, _, h => by cases h; exact .non
  | .bool _, _, h => by cases h; exact .bl _
  | .int _, _, h => by cases h; exact .int _
  | .str _, _, h => by cases h; exact .str _
  | .list ds, _, h => by
    cases h with
    | lst hs ha => exact .lst (s.seq hs) (dpAll_same s ha)
  | .tuple ds, _, h => by
    cases h with
    | tup hs ha => exact .tup (same_sqT s hs) (dpAll_same s ha)
  | .dict _, _, h => by cases h
theorem dpAll_same {K : PySem.W.Frag} {H H' : Hp} (s : Same H H') : ∀ {ds : List PyData} {vs : List V}, DpAll K H vs ds → DpAll K H' vs ds
  | [], _, h => by cases h; exact .nil
  | d :: ds, _, h => by
    cases h with
    | cons h1 h2 => exact .cons (dp_same s h1) (dpAll_same s h2)
end
/-- all but p stays -/
def Sx (p : Addr) (H H' : Hp) : Prop := ∀ b o, b ≠ p → H b = some o → H' b = some o
theorem Sx.refl {p : Addr} {H : Hp} : Sx p H H := fun _ _ _ h => h
theorem Sx.trans {p : Addr} {H H1 H2 : Hp} (a : Sx p H H1) (b : Sx p H1 H2) : Sx p H H2 := fun c o n h => b c o n (a c o n h)
theorem Same.sx {p : Addr} {H H' : Hp} (s : Same H H') : Sx p H H' := fun b o _ h => s b o h
theorem sx_upd {p : Addr} {H : Hp} {o : HO} : Sx p H (upd H p o) := fun b u n h => by rw [upd_ne n]; exact h
theorem sx_new {p q : Addr} {H : Hp} {o : HO} (h : H q = none) : Sx p H (upd H q o) := fun b u _ q => same_new h b u q
/-! data without lists and dicts -/
mutual
def noL : PyData → Bool
  | .list _ => false
  | .dict _ => false
  | .tuple ds => noLs ds
  | _ => true
def noLs : List PyData → Bool
  | [] => true
  | d :: ds => noL d && noLs ds
end
theorem Sx.sqT {K : PySem.W.Frag} {p a : Addr} {H H' : Hp} {l xs : List V} (s : Sx p H H') (hp : H p = some (.lst l)) (h : SqT K H a xs) : SqT K H' a xs := by
  rcases h with (h | ⟨o, h⟩) | h
  · exact .inl (.inl (s _ _ (ne_of h hp (by intro z; cases z)) h))
  · exact .inl (.inr ⟨o, s _ _ (ne_of h hp (by intro z; cases z)) h⟩)
  · exact .inr h
mutual
theorem dp_keep {K : PySem.W.Frag} {H H' : Hp} (s : ∀ a xs, SqT K H a xs → SqT K H' a xs) : ∀ {d : PyData} {v : V}, noL d = true → Dp K H v d → Dp K H' v d
  | .none, _, _, h => by cases h; exact .non
  | .bool _, _, _, h => by cases h; exact .bl _
  | .int _, _, _, h => by cases h; exact .int _
  | .str _, _, _, h => by cases h; exact .str _
  | .list ds, _, n, h => by simp [noL] at n
  | .tuple ds, _, n, h => by
    cases h with
    | tup hs ha => exact .tup (s _ _ hs) (dpAll_keep s (by simpa [noL] using n) ha)
  | .dict _, _, _, h => by cases h
theorem dpAll_keep {K : PySem.W.Frag} {H H' : Hp} (s : ∀ a xs, SqT K H a xs → SqT K H' a xs) : ∀ {ds : List PyData} {vs : List V}, noLs ds = true → DpAll K H vs ds → DpAll K H' vs ds
  | [], _, _, h => by cases h; exact .nil
  | d :: ds, _, n, h => by
    cases h with
    | cons h1 h2 =>
      have n' : noL d = true ∧ noLs ds = true := by simpa [noLs] using n
      exact .cons (dp_keep s n'.1 h1) (dpAll_keep s n'.2 h2)
end
theorem Sx.dp {K : PySem.W.Frag} {p : Addr} {H H' : Hp} {l : List V} {d : PyData} {v : V} (s : Sx p H H') (hp : H p = some (.lst l)) (n : noL d = true) (h : Dp K H v d) : Dp K H' v d :=
  dp_keep (fun _ _ z => s.sqT hp z) n h
theorem dpAll_length {K : PySem.W.Frag} {H : Hp} : ∀ {vs : List V} {ds : List PyData}, DpAll K H vs ds → vs.length = ds.length
  | _, _, .nil => rfl
  | _, _, .cons _ h => congrArg (· + 1) (dpAll_length h)
theorem dpAll_get {K : PySem.W.Frag} {H : Hp} : ∀ {vs : List V} {ds : List PyData} {i : Nat} {v : V}, DpAll K H vs ds → vs[i]? = some v → ∃ d, ds[i]? = some d ∧ Dp K H v d
  | _, _, _, _, .nil, e => by simp at e
  | _, _, 0, _, .cons h _, e => by
    simp at e
    subst e
    exact ⟨_, rfl, h⟩
  | _, _, i + 1, _, .cons _ t, e => by
    obtain ⟨d, e1, e2⟩ := dpAll_get (i := i) t (by simpa using e)
    exact ⟨d, by simpa using e1, e2⟩
theorem dpAll_append {K : PySem.W.Frag} {H : Hp} : ∀ {vs ws : List V} {ds es : List PyData}, DpAll K H vs ds → DpAll K H ws es → DpAll K H (vs ++ ws) (ds ++ es)
  | _, _, _, _, .nil, h => h
  | _, _, _, _, .cons h t, h' => .cons h (dpAll_append t h')
theorem dpAll_one {K : PySem.W.Frag} {H : Hp} {v : V} {d : PyData} (h : Dp K H v d) : DpAll K H [v] [d] := .cons h .nil
theorem dpAll_rev {K : PySem.W.Frag} {H : Hp} : ∀ {vs : List V} {ds : List PyData}, DpAll K H vs ds → DpAll K H vs.reverse ds.reverse
  | _, _, .nil => .nil
  | _, _, .cons h t => by
    rw [List.reverse_cons, List.reverse_cons]
    exact dpAll_append (dpAll_rev t) (.cons h .nil)
theorem dp_int_inv {K : PySem.W.Frag} {H : Hp} {v : V} {i : Int} (h : Dp K H v (.int i)) : v = .int i := by cases h; rfl
theorem dp_str_inv {K : PySem.W.Frag} {H : Hp} {v : V} {x : Str} (h : Dp K H v (.str x)) : v = .str x := by cases h; rfl
theorem dp_none_inv {K : PySem.W.Frag} {H : Hp} {v : V} (h : Dp K H v .none) : v = .non := by cases h; rfl
theorem dp_bool_inv {K : PySem.W.Frag} {H : Hp} {v : V} {b : Bool} (h : Dp K H v (.bool b)) : v = .bl b := by cases h; rfl
theorem dp_tup_inv {K : PySem.W.Frag} {H : Hp} {v : V} {ds : List PyData} (h : Dp K H v (.tuple ds)) : ∃ a xs, v = .ref a ∧ SqT K H a xs ∧ DpAll K H xs ds := by
  cases h with
  | tup h1 h2 => exact ⟨_, _, rfl, h1, h2⟩
theorem dp_lst_inv {K : PySem.W.Frag} {H : Hp} {v : V} {ds : List PyData} (h : Dp K H v (.list ds)) : ∃ a xs, v = .ref a ∧ SqL K H a xs ∧ DpAll K H xs ds := by
  cases h with
  | lst h1 h2 => exact ⟨_, _, rfl, h1, h2⟩
theorem tup_fresh {K : PySem.W.Frag} {H : Hp} {p : Addr} {xs : List V} {ds : List PyData} (hp : H p = none) (h : DpAll K H xs ds) : Same H (upd H p (.tup xs)) ∧ Dp K (upd H p (.tup xs)) (.ref p) (.tuple ds) :=
  ⟨same_new hp, .tup (.inl (.inl upd_same)) (dpAll_same (same_new hp) h)⟩
theorem lst_fresh {K : PySem.W.Frag} {H : Hp} {p : Addr} {xs : List V} {ds : List PyData} (hp : H p = none) (h : DpAll K H xs ds) : Same H (upd H p (.lst xs)) ∧ Dp K (upd H p (.lst xs)) (.ref p) (.list ds) :=
  ⟨same_new hp, .lst (.inl (.inl upd_same)) (dpAll_same (same_new hp) h)⟩
theorem Same.sx_free {H H1 H2 : Hp} {p : Addr} (s : Same H H1) (h : H p = none) (t : Sx p H1 H2) : Same H H2 := fun b o e =>
  t b o (ne_of_none e h) (s b o e)
theorem small {n : Nat} (h : n ≤ 1000) : n ≤ sizeLine := Nat.le_of_lt (small1000 h)
theorem small' {n : Nat} (h : n ≤ 1000000) : n ≤ sizeLine := by rw [sizeLine_eq]; omega

theorem atI_at {α : Type} {xs : List α} {k : Int} {j : Nat} {v : α} (e : k = (j : Int)) (h : xs[j]? = some v) : atI xs k = some v := by
  subst e
  exact atI_nat h
theorem atI_int {ns : List Int} {k : Int} (h0 : 0 ≤ k) (h : k < (ns.length : Int)) : ∃ z, z ∈ ns ∧ atI (ns.map V.int) k = some (.int z) := by
  have hk : k.toNat < ns.length := by omega
  refine ⟨ns[k.toNat], List.getElem_mem hk, atI_at (j := k.toNat) (by omega) ?_⟩
  rw [List.getElem?_map, List.getElem?_eq_getElem hk]
  rfl

/-! ### the script as the law gets it: it never changes -/
def Scr (K : PySem.W.Frag) (H : Hp) (a : Addr) (ns : List Int) : Prop := (∃ o, H a = some (.frz o (.lst (ns.map V.int)))) ∨
  ∃ (o : Obj) (its : Array Value) (n : Nat), K.lookup a = some o ∧ o.cls = .type "list" ∧ o.dict = none ∧ o.data = .seq its n ∧ its.size ≤ sizeLine ∧ Vals (ns.map V.int) its.toList
theorem Scr.sq {K : PySem.W.Frag} {H : Hp} {a : Addr} {ns : List Int} (h : Scr K H a ns) : SqL K H a (ns.map V.int) := by
  rcases h with ⟨o, h⟩ | h
  · exact .inl (.inr ⟨o, h⟩)
  · exact .inr h
theorem Scr.of {K : PySem.W.Frag} {H : Hp} {a : Addr} {ns : List Int} (hO : Only H) (h : SqL K H a (ns.map V.int)) : Scr K H a ns := by
  rcases h with (h | h) | h
  · rcases hO a with z | ⟨o, xs, z⟩
    · rw [h] at z; cases z
    · rw [h] at z; cases z
  · exact .inl h
  · exact .inr h
theorem Scr.same {K : PySem.W.Frag} {H H' : Hp} {a : Addr} {ns : List Int} (s : Same H H') (h : Scr K H a ns) : Scr K H' a ns := by
  rcases h with ⟨o, h⟩ | h
  · exact .inl ⟨o, s _ _ h⟩
  · exact .inr h
theorem Scr.sx {K : PySem.W.Frag} {H H' : Hp} {a p : Addr} {ns : List Int} {l : List V} (s : Sx p H H') (hp : H p = some (.lst l)) (h : Scr K H a ns) : Scr K H' a ns := by
  rcases h with ⟨o, h⟩ | h
  · exact .inl ⟨o, s _ _ (ne_of h hp (by intro z; cases z)) h⟩
  · exact .inr h
end Rp
/-! RpG: defs that say repr of made data: the layer's judgements where no repr is under way (guards known), and the law's end over them. -/
namespace Rp
open PySem L2 PyProof.Rows

structure FnG (P : Program) (w : World) (K : PySem.W.Frag) (mg : Str → Option Value) (base : Heap) (CX : CXT) (k : Nat) (f : Addr) (fd : FuncData) (ps : List Str) (sp : Sp) : Prop where
  len : ∀ vs H Q E, sp vs H Q E → vs.length = ps.length
  run : ∀ (A : Around) (outer : List Env) (s : Shared) (H : Hp) (args : Args) (us : List Value) (vs : List V) (Q : VK) (E : XK), Room k A → A.guards = some [] →
    Env0 P w K mg base A outer s H → BindsTo s fd args (ps.zip us) → Vals vs us → sp vs H Q E → codeAny (model P w) A (.call (.ref f) args) (CR CX outer P w H s Q E) s

theorem room66 {k : Nat} {A : Around} (hr : Room k A) : A.units + 66 < cLine := by
  have := hr.un
  omega
section
variable {P : Program} {w : World} {K : PySem.W.Frag} {mg : Str → Option Value} {base : Heap}
theorem okG {name qual : Str} {st : Stmt} {f : Addr} {fd : FuncData} {N ps : List Str} {k : Nat} {sp : Sp} (F : Fun K name qual st f fd) (S : FnScope N ps (defScope st))
    (hlen : ∀ vs H Q E, sp vs H Q E → vs.length = ps.length)
    (hb : ∀ (cdv : Value) (A : Around) (outer : List Env) (s : Shared) (H : Hp) (vs : List V) (Q : VK) (E : XK),
      Room k (A.deeper (envOfC qual (defScope st) s.heap.objs.size f cdv)) → A.guards = some [] → sp vs H Q E →
      ∃ t, PSs (cxOf CX0 P w K mg base N qual (defScope st) f cdv A outer s H E).nox (defBody st) t ∧
        t { nx := fun _ H' => Q .non H', rt := Q } (start N vs) H) : FnG P w K mg base CX0 (k + 1) f fd ps sp := by
  obtain ⟨oc, od, kV, doc, pm, an, cdv, ct, osl, rfl, lk, hcd⟩ := F.ex
  refine ⟨hlen, fun A outer s H args us vs Q E room gd en bd rv want => ?_⟩
  have kin : K.In s.heap := en.mod.kin.keeps fun b o z => (en.bs b o z).1
  have nolim : s.heap.NoLimit := en.mod.nolimit.keeps fun b o z => (en.bs b o z).1
  have hl := hlen _ _ _ _ want
  refine Att.call_fn kin nolim lk hcd room.depth bd ?_ (fun s1 ic => ?_) S.co S.gen S.kind
  · refine List.all_eq_true.mpr fun y hy => ?_
    obtain ⟨a, b⟩ := y
    rcases S.par a (List.of_mem_zip hy).1 with z | z
    · simp [z]
    · simp [z]
  · obtain ⟨t, ht, hq⟩ := hb cdv A outer s H vs Q E (room.deeper _) gd want
    have I := inv_start (CX := CX0) (P := P) (w := w) (K := K) (mg := mg) (base := base) (E := E) S room.hd en hl rv ic
    refine wpAny_mono (ht.nox.run [] s1 (start N vs) H _ I hq) (fun fl s' hs => ?_) (fun e s' hs => hs)
    cases fl with
    | ret u =>
      obtain ⟨v, σ', H', J, rr, q⟩ := hs
      exact ⟨v, H', J.os, J.bare, J.base, J.hok, rr, q⟩
    | next =>
      obtain ⟨σ', H', J, q⟩ := hs
      exact ⟨V.non, H', J.os, J.bare, J.base, J.hok, rfl, q⟩
    | brk =>
      obtain ⟨_, _, _, q⟩ := hs
      exact False.elim q
    | cont =>
      obtain ⟨_, _, _, q⟩ := hs
      exact False.elim q
end
section
variable {X : Cx} {k : Nat} {f : Addr} {fd : FuncData} {ps : List Str} {sp : Sp} {dvs : List V} {ds : List Value} {x : Str} {p pos : Pos} {e : Expr} {es : List Expr} {t : TA}
theorem runG {pins : List (Addr × Obj)} {σ : L2.St} {H : Hp} {s : Shared} {Q : VK} {us : List Value} {vs : List V} (F : FnG X.prog X.w X.K X.mg X.base CX0 k f fd ps sp) (room : Room k X.A) (gd : X.A.guards = some [])
    (bd : Binds X.K fd ps ds) (dv : Vals dvs ds) (I : Inv X pins σ H s) (rv : Vals vs us) (want : sp (vs ++ dvs) H Q E0) : wpAny (model X.prog X.w) X.A (call (.ref f) us) (EP X pins σ Q) X.xe s := by
  have rv2 : Vals (vs ++ dvs) (us ++ ds) := rv.append dv
  have hl : (us ++ ds).length = ps.length := by
    rw [← rv2.length]
    exact F.len _ _ _ _ want
  refine wpAny_call (codeAny_mono (F.run X.A X.stack s H ⟨us, []⟩ (us ++ ds) (vs ++ dvs) Q E0 room gd I.env0 (bd s us I.kIn hl) rv2 want) fun r s' hq => ?_)
  cases r with
  | error e => exact False.elim hq
  | ok fl =>
    cases fl with
    | ret u => exact I.after hq
    | next => exact False.elim hq
    | brk => exact False.elim hq
    | cont => exact False.elim hq
theorem pe_callG (F : FnG X.prog X.w X.K X.mg X.base CX0 k f fd ps sp) (room : Room k X.A) (gd : X.A.guards = some []) (gl : Gl X x) (hm : X.mg x = some (.ref f)) (kp : PySem.W.keepIn X.K (.ref f) = true)
    (bd : Binds X.K fd ps ds) (dv : Vals dvs ds) (ha : PA X (e :: es) t) (nodbg : (x == ("__debug__" : Str)) = false := by decide)
    (he : starEach (e :: es) X.env = (false, eval e X.env) :: starEach es X.env := by rfl) (hpl : (backTo pos (starEach es X.env)).any (·.1) = false := by rfl) :
    PE X (.Call (.Name x p) (e :: es) [] pos) (tCall sp dvs E0 t) := by
  constructor
  intro pins s σ H Q I want
  refine wpAny_Call_Name_kw (ld_glob I gl hm (PySem.W.callWith_K (h₀ := X.base) I.ok.mod.kin kp (thn (ha.run pos pins s σ H _ I want) ?_) he hpl) nodbg)
  rintro us s1 ⟨vs, H1, I1, rv, q⟩
  exact ⟨I1.kIn, runG F room gd bd dv I1 rv q⟩
theorem pe_callG0 (F : FnG X.prog X.w X.K X.mg X.base CX0 k f fd ps sp) (room : Room k X.A) (gd : X.A.guards = some []) (gl : Gl X x) (hm : X.mg x = some (.ref f)) (kp : PySem.W.keepIn X.K (.ref f) = true)
    (bd : Binds X.K fd ps ds) (dv : Vals dvs ds) (nodbg : (x == ("__debug__" : Str)) = false := by decide) : PE X (.Call (.Name x p) [] [] pos) (tCall sp dvs E0 tNil) := by
  constructor
  intro pins s σ H Q I want
  exact wpAny_Call_Name_kw (ld_glob I gl hm (PySem.W.callWith_K0 I.kIn kp (runG (us := []) F room gd bd dv I .nil want)) nodbg)
end

/-! ### the law's end -/
/-- a heap that tells of the script alone -/
theorem script_heap {P : Program} {w : World} {K : PySem.W.Frag} {h : Heap} {a : Addr} {vs : List Value} {ns : List Int} (kin : K.In h) (ha : h.get? a = some { cls := .type "list", data := .seq vs.toArray })
    (hi : IntsAre vs ns) (hl : ns.length ≤ sizeLine) :
    ∃ H : Hp, Only H ∧ SqL K H a (ns.map V.int) ∧ HOk P w H h ∧ (∀ b, H b ≠ none → b = a) ∧ (∀ b o, K.lookup b = some o → H b = none) := by
  have rv := vals_ints hi
  have len := hi.length
  cases hk : K.lookup a with
  | some o =>
    have eo := kin a o hk
    rw [ha] at eo
    cases eo
    refine ⟨fun _ => none, fun _ => .inl rfl, .inr ⟨_, vs.toArray, _, hk, rfl, rfl, rfl, ?_, by simpa using rv⟩, (fun b u z => nomatch z), (fun b z => absurd rfl z), fun _ _ _ => rfl⟩
    rw [List.size_toArray, len]
    exact hl
  | none =>
    let H : Hp := fun b => if b = a then some (.frz { cls := .type "list", data := .seq vs.toArray } (.lst (ns.map V.int))) else none
    have at_a : H a = some (.frz { cls := .type "list", data := .seq vs.toArray } (.lst (ns.map V.int))) := if_pos rfl
    have off : ∀ b, b ≠ a → H b = none := fun b z => if_neg z
    refine ⟨H, fun b => ?_, .inl (.inr ⟨_, at_a⟩), fun b u z => ?_, fun b z => ?_, fun b o z => off b ?_⟩
    · by_cases c : b = a
      · exact .inr ⟨_, _, c ▸ at_a⟩
      · exact .inl (off b c)
    · by_cases c : b = a
      · subst c
        rw [at_a] at z
        cases z
        refine ⟨ha, ?_, vs, _, rv, ha⟩
        rw [List.length_map]
        exact hl
      · rw [off b c] at z
        cases z
    · by_cases c : b = a
      · exact c
      · exact absurd (off b c) z
    · intro c
      rw [c, hk] at z
      cases z

theorem law_end {l : PySem.W.OpenLaw} {n k : Nat} {q : Program} {loose : List Str} {XP : (Str → Option Value) → Heap → Prop} {YP : World → Heap → Prop} {d : DefRec} {K : Params → PySem.W.Frag} {sp : PySem.W.Frag → Sp} {x : Str}
    (hn : l.most = some n) (hn2 : n ≤ sizeLine) (hdf : d.params.defaults = []) (hr : Room k callerA)
    (hY : ∀ (w : World) (h : Heap), YP w h → (K w.params).In h)
    (F : ∀ (w : World) (mg : Str → Option Value) (fa : Addr) (h : Heap), (K w.params).In h → h.Ns mainGlobals mg → mg d.name = some (.ref fa) →
      ∃ fd : FuncData, (∀ (s : Shared) (u : Value), BindsTo s fd ⟨[u], []⟩ [(x, u)]) ∧
        ∀ base : Heap, (K w.params).In base → base.Ns mainGlobals mg → FnG l.prog w (K w.params) mg base CX0 k fa fd [x] (sp (K w.params)))
    (hsp : ∀ (K : PySem.W.Frag) (H : Hp) (a : Addr) (ns : List Int), ns.length ≤ n → Only H → SqL K H a (ns.map V.int) → sp K [.ref a] H (fun v _ => v = .bl true) fun _ _ _ => False) :
    PySem.W.WalkO q loose XP YP l.row.toRowW d [] (fun f vs => PySem.call f vs) := by
  refine Att.attach_call hn hdf fun w s₀ s₁ mg mb fa o pm cd doc a vs ns G Y ho hd hcd hmg hobj hints hlen hgens => ?_
  have kin := hY w _ Y
  obtain ⟨fd, bd, FF⟩ := F w mg fa _ kin G.T.g hmg
  obtain ⟨H, hO, hS, hok, only, notK⟩ := script_heap (P := l.prog) (w := w) kin hobj hints (Nat.le_trans hlen hn2)
  have free : ∀ {b : Addr} {ob : Obj} {es : Array DictEntry} {ep : Nat}, s₁.heap.get? b = some ob → ob.data = .dict es ep → H b = none := by
    intro b ob es ep h1 h2
    cases c : H b with
    | none => rfl
    | some u =>
      have e : b = a := only b (by rw [c]; exact fun z => nomatch z)
      rw [e, hobj] at h1
      have h3 := congrArg Obj.data (Option.some.inj h1)
      rw [h2] at h3
      exact nomatch h3
  have ns' : ∀ {b : Addr} {m : Str → Option Value}, s₁.heap.Ns b m → (hidT s₁.heap H).Ns b m := by
    rintro b m ⟨ob, es, ep, h1, h2, h3⟩
    exact ⟨ob, es, ep, hidT_get h1 (free h1 h2), h2, h3⟩
  have kinB : (K w.params).In (hidT s₁.heap H) := fun b ob e => hidT_get (kin b ob e) (notK b ob e)
  have lim : (hidT s₁.heap H).NoLimit := by
    obtain ⟨mc, h1, h2⟩ := G.T.nolimit
    exact ⟨mc, ns' h1, h2⟩
  have en : Env0 l.prog w (K w.params) mg (hidT s₁.heap H) callerA [] s₁ H :=
    ⟨rfl, ⟨kinB, ns' G.T.g, ⟨mb, ns' G.T.b, G.T.builtins⟩, lim⟩, fun b ob e => of_hidT e, Nat.le_of_eq (hidT_size _ _), trivial, (fun b z => nomatch z), hok, .of_eq hgens⟩
  refine codeAny_mono ((FF _ kinB (ns' G.T.g)).run callerA [] s₁ H ⟨[.ref a], []⟩ [.ref a] [.ref a] _ _ hr rfl en (bd s₁ (.ref a)) (.cons rfl .nil) (hsp _ H a ns hlen hO hS)) fun r s' z => ?_
  cases r with
  | error e => exact False.elim z
  | ok fl =>
    cases fl with
    | next => exact False.elim z
    | brk => exact False.elim z
    | cont => exact False.elim z
    | ret u =>
      obtain ⟨v, H', os, bare, un, hok', rr, e⟩ := z
      have e' : v = .bl true := e
      subst e'
      obtain rfl : u = Value.bool true := rr
      refine ⟨rfl, OldK.of_keep fun b ob hb => ?_, os, bare⟩
      cases c : H b with
      | none => exact un.keep b ob hb c (fun z => nomatch z) (fun z => nomatch z)
      | some u =>
        rcases hO b with z | ⟨ox, xs, z⟩
        · rw [c] at z
          cases z
        · obtain ⟨e1, _⟩ := hok b _ z
          obtain ⟨e2, _⟩ := hok' b _ (un.frzs b ox _ z)
          rw [hb] at e1
          cases e1
          exact e2
end Rp
/-! Jm: jobs as a type of trees, their data, sizes; what the pot holds. No Python here. -/
namespace Lw
open PySem L2 Rp

abbrev M30 : Int := 1000000000000000000000000000000
inductive J where
  | st (i : Int)
  | ps (par : Bool) (xs : List J)
  | rn (cop : Bool) (n : Int) (x : J)
def kwP (b : Bool) : Str := if b then "par" else "seq"
def kwR (b : Bool) : Str := if b then "copies" else "repeat"
mutual
def J.toD : J → PyData
  | .st i => .int i
  | .ps k xs => .tuple [.str (kwP k), .tuple (J.toDs xs)]
  | .rn k n x => .tuple [.str (kwR k), .int n, x.toD]
def J.toDs : List J → List PyData
  | [] => []
  | x :: xs => x.toD :: J.toDs xs
end
mutual
theorem J.noL : ∀ j : J, noL j.toD = true
  | .st _ => rfl
  | .ps _ xs => by
    have h := J.noLs xs
    simp [J.toD, Rp.noL, Rp.noLs, h]
  | .rn _ _ x => by
    have h := J.noL x
    simp [J.toD, Rp.noL, Rp.noLs, h]
theorem J.noLs : ∀ js : List J, noLs (J.toDs js) = true
  | [] => rfl
  | x :: xs => by
    have h1 := J.noL x
    have h2 := J.noLs xs
    simp [J.toDs, Rp.noLs, h1, h2]
end
theorem J.toDs_eq : ∀ xs : List J, J.toDs xs = xs.map J.toD
  | [] => rfl
  | x :: xs => by rw [J.toDs, J.toDs_eq xs]; rfl

/-! sizes as the program finds them -/
def within (nodes steps : Int) : Option (Int × Int) := if steps ≤ M30 then some (nodes, steps) else none
mutual
def szJ : J → Int → Int → Option (Int × Int)
  | .st i, room, lv => if room < 1 ∨ lv < 1 then none else if -M30 ≤ i ∧ i ≤ M30 then some (1, 1) else none
  | .ps _ xs, room, lv => if room < 1 ∨ lv < 1 then none else if (xs.length : Int) > 400 then none else szJs xs 1 0 room lv
  | .rn _ n x, room, lv => if room < 1 ∨ lv < 1 then none else if ¬ (0 ≤ n ∧ n ≤ M30) then none else
      match szJ x (room - 1) (lv - 1) with
      | none => none
      | some (a, b) => within (a + 1) (b * n)
def szJs : List J → Int → Int → Int → Int → Option (Int × Int)
  | [], nodes, steps, _, _ => within nodes steps
  | x :: xs, nodes, steps, room, lv =>
      match szJ x (room - nodes) (lv - 1) with
      | none => none
      | some (a, b) => szJs xs (nodes + a) (steps + b) room lv
end
mutual
def J.nodes : J → Int
  | .st _ => 1
  | .ps _ xs => 1 + J.nodesL xs
  | .rn _ _ x => x.nodes + 1
def J.nodesL : List J → Int
  | [] => 0
  | x :: xs => x.nodes + J.nodesL xs
end
mutual
def J.steps : J → Int
  | .st _ => 1
  | .ps _ xs => J.stepsL xs
  | .rn _ n x => x.steps * n
def J.stepsL : List J → Int
  | [] => 0
  | x :: xs => x.steps + J.stepsL xs
end
mutual
def J.deep : J → Nat
  | .st _ => 1
  | .ps _ xs => J.deepL xs + 1
  | .rn _ _ x => x.deep + 1
def J.deepL : List J → Nat
  | [] => 0
  | x :: xs => max x.deep (J.deepL xs)
end
mutual
/-- a job but for nodes and nesting -/
def J.ok : J → Prop
  | .st i => -M30 ≤ i ∧ i ≤ M30
  | .ps _ xs => (xs.length : Int) ≤ 400 ∧ J.okL xs ∧ J.stepsL xs ≤ M30
  | .rn _ n x => (0 ≤ n ∧ n ≤ M30) ∧ x.ok ∧ x.steps * n ≤ M30
def J.okL : List J → Prop
  | [] => True
  | x :: xs => x.ok ∧ J.okL xs
end
mutual
theorem J.nodes_pos : ∀ j : J, 1 ≤ j.nodes
  | .st _ => by simp [J.nodes]
  | .ps _ xs => by have := J.nodesL_pos xs; simp only [J.nodes]; omega
  | .rn _ _ x => by have := J.nodes_pos x; simp only [J.nodes]; omega
theorem J.nodesL_pos : ∀ xs : List J, 0 ≤ J.nodesL xs
  | [] => by simp [J.nodesL]
  | x :: xs => by have := J.nodes_pos x; have := J.nodesL_pos xs; simp only [J.nodesL]; omega
end
theorem J.deep_pos : ∀ j : J, 1 ≤ j.deep
  | .st _ => by simp [J.deep]
  | .ps _ xs => by simp only [J.deep]; omega
  | .rn _ _ x => by simp only [J.deep]; omega
mutual
theorem J.steps_nn : ∀ j : J, j.ok → 0 ≤ j.steps
  | .st _, _ => by simp [J.steps]
  | .ps _ xs, h => by
    simp only [J.ok] at h
    simp only [J.steps]
    exact J.stepsL_nn xs h.2.1
  | .rn _ n x, h => by
    simp only [J.ok] at h
    simp only [J.steps]
    exact Int.mul_nonneg (J.steps_nn x h.2.1) h.1.1
theorem J.stepsL_nn : ∀ xs : List J, J.okL xs → 0 ≤ J.stepsL xs
  | [], _ => by simp [J.stepsL]
  | x :: xs, h => by
    simp only [J.okL] at h
    have := J.steps_nn x h.1
    have := J.stepsL_nn xs h.2
    simp only [J.stepsL]
    omega
end
theorem J.steps_le (j : J) (h : j.ok) : j.steps ≤ M30 := by
  cases j with
  | st i => simp only [J.steps]; decide
  | ps k xs => simp only [J.ok] at h; simp only [J.steps]; exact h.2.2
  | rn k n x => simp only [J.ok] at h; simp only [J.steps]; exact h.2.2
/-! the closed form: is a job within room and levels, and then its sizes -/
mutual
theorem szJ_some : ∀ (j : J) (room lv : Int), j.ok → j.nodes ≤ room → (j.deep : Int) ≤ lv → szJ j room lv = some (j.nodes, j.steps)
  | .st i, room, lv, h, h1, h2 => by
    simp only [J.ok] at h
    simp only [J.nodes, J.deep] at h1 h2
    simp only [szJ, J.nodes, J.steps]
    rw [if_neg (by omega), if_pos h]
  | .ps k xs, room, lv, h, h1, h2 => by
    simp only [J.ok] at h
    simp only [J.nodes, J.deep] at h1 h2
    have hn := J.nodesL_pos xs
    simp only [szJ, J.nodes, J.steps]
    rw [if_neg (by omega), if_neg (by omega)]
    have := szJs_some xs 1 0 room lv h.2.1 (by omega) (by omega) (by omega) (by omega)
    rw [this, Int.zero_add]
  | .rn k n x, room, lv, h, h1, h2 => by
    simp only [J.ok] at h
    simp only [J.nodes, J.deep] at h1 h2
    have hn := J.nodes_pos x
    simp only [szJ, J.nodes, J.steps]
    rw [if_neg (by omega), if_neg (by omega), szJ_some x (room - 1) (lv - 1) h.2.1 (by omega) (by omega)]
    simp only [within]
    rw [if_pos h.2.2]
theorem szJs_some : ∀ (xs : List J) (nodes steps room lv : Int), J.okL xs → 1 ≤ nodes → nodes + J.nodesL xs ≤ room → (J.deepL xs : Int) ≤ lv - 1 → steps + J.stepsL xs ≤ M30 → szJs xs nodes steps room lv = some (nodes + J.nodesL xs, steps + J.stepsL xs)
  | [], nodes, steps, room, lv, _, _, _, _, h => by
    simp only [J.nodesL, J.stepsL, szJs, within, Int.add_zero] at *
    rw [if_pos h]
  | x :: xs, nodes, steps, room, lv, h, h0, h1, h2, h3 => by
    simp only [J.okL] at h
    simp only [J.nodesL, J.stepsL, J.deepL] at *
    have p1 := J.nodes_pos x
    have p2 := J.nodesL_pos xs
    have p3 := J.stepsL_nn xs h.2
    simp only [szJs]
    rw [szJ_some x (room - nodes) (lv - 1) h.1 (by omega) (by omega)]
    simp only
    rw [szJs_some xs (nodes + x.nodes) (steps + x.steps) room lv h.2 (by omega) (by omega) (by omega) (by omega)]
    rw [Int.add_assoc, Int.add_assoc]
end
mutual
theorem szJ_inv : ∀ (j : J) (room lv a b : Int), szJ j room lv = some (a, b) → j.ok ∧ j.nodes ≤ room ∧ (j.deep : Int) ≤ lv ∧ a = j.nodes ∧ b = j.steps
  | .st i, room, lv, a, b, h => by
    simp only [szJ] at h
    split at h
    · cases h
    · split at h
      · rename_i h1 h2
        cases h
        simp only [J.ok, J.nodes, J.deep, J.steps]
        refine ⟨h2, by omega, by omega, ?_, ?_⟩ <;> trivial
      · cases h
  | .ps k xs, room, lv, a, b, h => by
    simp only [szJ] at h
    split at h
    · cases h
    · split at h
      · cases h
      · rename_i h1 h2
        obtain ⟨q1, q2, q3, q4, q5, q6⟩ := szJs_inv xs 1 0 room lv a b h (by omega)
        simp only [J.ok, J.nodes, J.deep, J.steps]
        have q3' : (J.deepL xs : Int) ≤ lv - 1 := by
          rcases q3 with q3 | q3
          · exact q3
          · subst q3
            simp only [J.deepL]
            omega
        refine ⟨⟨by omega, q1, by omega⟩, by omega, by omega, by omega, by omega⟩
  | .rn k n x, room, lv, a, b, h => by
    simp only [szJ] at h
    split at h
    · cases h
    · split at h
      · cases h
      · rename_i h1 h2
        split at h
        · cases h
        · rename_i a1 b1 h3
          obtain ⟨q1, q2, q3, q4, q5⟩ := szJ_inv x (room - 1) (lv - 1) a1 b1 h3
          simp only [within] at h
          split at h
          · rename_i h4
            cases h
            subst q4 q5
            simp only [J.ok, J.nodes, J.deep, J.steps]
            refine ⟨⟨Decidable.not_not.mp h2, q1, h4⟩, by omega, by omega, ?_, ?_⟩ <;> trivial
          · cases h
theorem szJs_inv : ∀ (xs : List J) (nodes steps room lv a b : Int), szJs xs nodes steps room lv = some (a, b) → nodes ≤ room → J.okL xs ∧ nodes + J.nodesL xs ≤ room ∧ ((J.deepL xs : Int) ≤ lv - 1 ∨ xs = []) ∧ steps + J.stepsL xs ≤ M30 ∧ a = nodes + J.nodesL xs ∧ b = steps + J.stepsL xs
  | [], nodes, steps, room, lv, a, b, h, h0 => by
    simp only [szJs, within] at h
    split at h
    · rename_i h1
      cases h
      simp only [J.okL, J.nodesL, J.stepsL, Int.add_zero]
      refine ⟨trivial, h0, .inr ?_, h1, ?_, ?_⟩ <;> trivial
    · cases h
  | x :: xs, nodes, steps, room, lv, a, b, h, h0 => by
    simp only [szJs] at h
    split at h
    · cases h
    · rename_i a1 b1 h3
      obtain ⟨q1, q2, q3, q4, q5⟩ := szJ_inv x (room - nodes) (lv - 1) a1 b1 h3
      subst q4 q5
      obtain ⟨r1, r2, r3, r4, r5, r6⟩ := szJs_inv xs (nodes + x.nodes) (steps + x.steps) room lv a b h (by omega)
      have dp := J.deep_pos x
      simp only [J.okL, J.nodesL, J.stepsL, J.deepL]
      refine ⟨⟨q1, r1⟩, by omega, .inl ?_, by omega, by omega, by omega⟩
      rcases r3 with r3 | r3
      · omega
      · subst r3
        simp only [J.deepL]
        omega
end
end Lw
namespace Lw
open PySem L2 Rp
local macro_rules | `(tactic| walk_at "rd") => `(tactic| repeat (first | refine ⟨_, rfl, ?_⟩ | refine ⟨_, _, rfl, rfl, ?_⟩))
def top (i : Nat) : Stmt := PySem.Challenge.pw_roomprofile_k02_sizes_of_jobs.main.body.getD i (.Pass ⟨0, 0, 0, 0⟩)
abbrev s_is_integer : Stmt := top 4
abbrev N_is_integer : List Str := ["value"]
theorem sc_is_integer : FnScope N_is_integer ["value"] (defScope s_is_integer) := ⟨rfl, rfl, rfl, by decide +kernel, rfl, by decide +kernel, by decide +kernel⟩
abbrev s_is_within : Stmt := top 5
abbrev N_is_within : List Str := ["value", "least", "greatest"]
theorem sc_is_within : FnScope N_is_within ["value", "least", "greatest"] (defScope s_is_within) := ⟨rfl, rfl, rfl, by decide +kernel, rfl, by decide +kernel, by decide +kernel⟩
abbrev s_is_job : Stmt := top 12
abbrev N_is_job : List Str := ["value"]
theorem sc_is_job : FnScope N_is_job ["value"] (defScope s_is_job) := ⟨rfl, rfl, rfl, by decide +kernel, rfl, by decide +kernel, by decide +kernel⟩
abbrev s_node_count : Stmt := top 13
abbrev N_node_count : List Str := ["job"]
theorem sc_node_count : FnScope N_node_count ["job"] (defScope s_node_count) := ⟨rfl, rfl, rfl, by decide +kernel, rfl, by decide +kernel, by decide +kernel⟩
abbrev s_step_count : Stmt := top 14
abbrev N_step_count : List Str := ["job"]
theorem sc_step_count : FnScope N_step_count ["job"] (defScope s_step_count) := ⟨rfl, rfl, rfl, by decide +kernel, rfl, by decide +kernel, by decide +kernel⟩
abbrev s_is_empty : Stmt := top 15
abbrev N_is_empty : List Str := ["job"]
theorem sc_is_empty : FnScope N_is_empty ["job"] (defScope s_is_empty) := ⟨rfl, rfl, rfl, by decide +kernel, rfl, by decide +kernel, by decide +kernel⟩
abbrev s_checked_sizes : Stmt := top 16
abbrev N_checked_sizes : List Str := ["job", "sizes"]
theorem sc_checked_sizes : FnScope N_checked_sizes ["job"] (defScope s_checked_sizes) := ⟨rfl, rfl, rfl, by decide +kernel, rfl, by decide +kernel, by decide +kernel⟩
abbrev s_steps_of_leaf : Stmt := top 17
abbrev N_steps_of_leaf : List Str := ["value"]
theorem sc_steps_of_leaf : FnScope N_steps_of_leaf ["value"] (defScope s_steps_of_leaf) := ⟨rfl, rfl, rfl, by decide +kernel, rfl, by decide +kernel, by decide +kernel⟩
abbrev s_sizes_of : Stmt := top 18
abbrev N_sizes_of : List Str := ["value", "leaf_steps"]
theorem sc_sizes_of : FnScope N_sizes_of ["value", "leaf_steps"] (defScope s_sizes_of) := ⟨rfl, rfl, rfl, by decide +kernel, rfl, by decide +kernel, by decide +kernel⟩
abbrev s__sizes : Stmt := top 19
abbrev N__sizes : List Str := ["value", "leaf_steps", "room", "levels", "steps"]
theorem sc__sizes : FnScope N__sizes ["value", "leaf_steps", "room", "levels"] (defScope s__sizes) := ⟨rfl, rfl, rfl, by decide +kernel, rfl, by decide +kernel, by decide +kernel⟩
abbrev s__sizes_of_parts : Stmt := top 20
abbrev N__sizes_of_parts : List Str := ["parts", "leaf_steps", "room", "levels", "nodes", "steps", "part", "sizes"]
theorem sc__sizes_of_parts : FnScope N__sizes_of_parts ["parts", "leaf_steps", "room", "levels"] (defScope s__sizes_of_parts) := ⟨rfl, rfl, rfl, by decide +kernel, rfl, by decide +kernel, by decide +kernel⟩
abbrev s__sizes_of_rounds : Stmt := top 21
abbrev N__sizes_of_rounds : List Str := ["n", "inner", "leaf_steps", "room", "levels", "sizes"]
theorem sc__sizes_of_rounds : FnScope N__sizes_of_rounds ["n", "inner", "leaf_steps", "room", "levels"] (defScope s__sizes_of_rounds) := ⟨rfl, rfl, rfl, by decide +kernel, rfl, by decide +kernel, by decide +kernel⟩
abbrev s__within_count : Stmt := top 22
abbrev N__within_count : List Str := ["nodes", "steps"]
theorem sc__within_count : FnScope N__within_count ["nodes", "steps"] (defScope s__within_count) := ⟨rfl, rfl, rfl, by decide +kernel, rfl, by decide +kernel, by decide +kernel⟩
abbrev s__law_pot : Stmt := top 24
abbrev N__law_pot : List Str := ["_law_script", "_law_k", "_law_cell", "_law_mixed"]
theorem sc__law_pot : FnScope N__law_pot ["_law_script", "_law_k"] (defScope s__law_pot) := ⟨rfl, rfl, rfl, by decide +kernel, rfl, by decide +kernel, by decide +kernel⟩
abbrev s__law_take : Stmt := top 25
abbrev N__law_take : List Str := ["_law_pot_here", "_law_many", "_law_found", "_law_one", "_law_other"]
theorem sc__law_take : FnScope N__law_take ["_law_pot_here", "_law_many"] (defScope s__law_take) := ⟨rfl, rfl, rfl, by decide +kernel, rfl, by decide +kernel, by decide +kernel⟩
abbrev s__law_step : Stmt := top 26
abbrev N__law_step : List Str := ["_law_pot_here", "_law_way", "_law_great"]
theorem sc__law_step : FnScope N__law_step ["_law_pot_here"] (defScope s__law_step) := ⟨rfl, rfl, rfl, by decide +kernel, rfl, by decide +kernel, by decide +kernel⟩
abbrev s__law_job : Stmt := top 27
abbrev N__law_job : List Str := ["_law_pot_here", "_law_deep", "_law_counts", "_law_way", "_law_many", "_law_turn"]
theorem sc__law_job : FnScope N__law_job ["_law_pot_here", "_law_deep", "_law_counts"] (defScope s__law_job) := ⟨rfl, rfl, rfl, by decide +kernel, rfl, by decide +kernel, by decide +kernel⟩
abbrev s__law_steps : Stmt := top 28
abbrev N__law_steps : List Str := ["_law_job_here", "_law_part"]
theorem sc__law_steps : FnScope N__law_steps ["_law_job_here"] (defScope s__law_steps) := ⟨rfl, rfl, rfl, by decide +kernel, rfl, by decide +kernel, by decide +kernel⟩
abbrev s__law_nodes : Stmt := top 29
abbrev N__law_nodes : List Str := ["_law_job_here", "_law_part"]
theorem sc__law_nodes : FnScope N__law_nodes ["_law_job_here"] (defScope s__law_nodes) := ⟨rfl, rfl, rfl, by decide +kernel, rfl, by decide +kernel, by decide +kernel⟩
abbrev s_law : Stmt := top 30
abbrev N_law : List Str := ["_law_script", "_law_empty", "_law_k", "_law_pot_here", "_law_job_here", "_law_one"]
theorem sc_law : FnScope N_law ["_law_script"] (defScope s_law) := ⟨rfl, rfl, rfl, by decide +kernel, rfl, by decide +kernel, by decide +kernel⟩
structure Txt (K : PySem.W.Frag) (mg : Str → Option Value) where
  f_is_integer : Addr
  d_is_integer : FuncData
  F_is_integer : Fun K "is_integer" "is_integer" s_is_integer f_is_integer d_is_integer
  b_is_integer : Binds K d_is_integer ["value"] []
  m_is_integer : mg "is_integer" = some (.ref f_is_integer)
  f_is_within : Addr
  d_is_within : FuncData
  F_is_within : Fun K "is_within" "is_within" s_is_within f_is_within d_is_within
  b_is_within : Binds K d_is_within ["value", "least", "greatest"] []
  m_is_within : mg "is_within" = some (.ref f_is_within)
  f_is_job : Addr
  d_is_job : FuncData
  F_is_job : Fun K "is_job" "is_job" s_is_job f_is_job d_is_job
  b_is_job : Binds K d_is_job ["value"] []
  m_is_job : mg "is_job" = some (.ref f_is_job)
  f_node_count : Addr
  d_node_count : FuncData
  F_node_count : Fun K "node_count" "node_count" s_node_count f_node_count d_node_count
  b_node_count : Binds K d_node_count ["job"] []
  m_node_count : mg "node_count" = some (.ref f_node_count)
  f_step_count : Addr
  d_step_count : FuncData
  F_step_count : Fun K "step_count" "step_count" s_step_count f_step_count d_step_count
  b_step_count : Binds K d_step_count ["job"] []
  m_step_count : mg "step_count" = some (.ref f_step_count)
  f_is_empty : Addr
  d_is_empty : FuncData
  F_is_empty : Fun K "is_empty" "is_empty" s_is_empty f_is_empty d_is_empty
  b_is_empty : Binds K d_is_empty ["job"] []
  m_is_empty : mg "is_empty" = some (.ref f_is_empty)
  f_checked_sizes : Addr
  d_checked_sizes : FuncData
  F_checked_sizes : Fun K "checked_sizes" "checked_sizes" s_checked_sizes f_checked_sizes d_checked_sizes
  b_checked_sizes : Binds K d_checked_sizes ["job"] []
  m_checked_sizes : mg "checked_sizes" = some (.ref f_checked_sizes)
  f_steps_of_leaf : Addr
  d_steps_of_leaf : FuncData
  F_steps_of_leaf : Fun K "steps_of_leaf" "steps_of_leaf" s_steps_of_leaf f_steps_of_leaf d_steps_of_leaf
  b_steps_of_leaf : Binds K d_steps_of_leaf ["value"] []
  m_steps_of_leaf : mg "steps_of_leaf" = some (.ref f_steps_of_leaf)
  f_sizes_of : Addr
  d_sizes_of : FuncData
  F_sizes_of : Fun K "sizes_of" "sizes_of" s_sizes_of f_sizes_of d_sizes_of
  b_sizes_of : Binds K d_sizes_of ["value", "leaf_steps"] []
  m_sizes_of : mg "sizes_of" = some (.ref f_sizes_of)
  f__sizes : Addr
  d__sizes : FuncData
  F__sizes : Fun K "_sizes" "_sizes" s__sizes f__sizes d__sizes
  b__sizes : Binds K d__sizes ["value", "leaf_steps", "room", "levels"] []
  m__sizes : mg "_sizes" = some (.ref f__sizes)
  f__sizes_of_parts : Addr
  d__sizes_of_parts : FuncData
  F__sizes_of_parts : Fun K "_sizes_of_parts" "_sizes_of_parts" s__sizes_of_parts f__sizes_of_parts d__sizes_of_parts
  b__sizes_of_parts : Binds K d__sizes_of_parts ["parts", "leaf_steps", "room", "levels"] []
  m__sizes_of_parts : mg "_sizes_of_parts" = some (.ref f__sizes_of_parts)
  f__sizes_of_rounds : Addr
  d__sizes_of_rounds : FuncData
  F__sizes_of_rounds : Fun K "_sizes_of_rounds" "_sizes_of_rounds" s__sizes_of_rounds f__sizes_of_rounds d__sizes_of_rounds
  b__sizes_of_rounds : Binds K d__sizes_of_rounds ["n", "inner", "leaf_steps", "room", "levels"] []
  m__sizes_of_rounds : mg "_sizes_of_rounds" = some (.ref f__sizes_of_rounds)
  f__within_count : Addr
  d__within_count : FuncData
  F__within_count : Fun K "_within_count" "_within_count" s__within_count f__within_count d__within_count
  b__within_count : Binds K d__within_count ["nodes", "steps"] []
  m__within_count : mg "_within_count" = some (.ref f__within_count)
  f__law_pot : Addr
  d__law_pot : FuncData
  F__law_pot : Fun K "_law_pot" "_law_pot" s__law_pot f__law_pot d__law_pot
  b__law_pot : Binds K d__law_pot ["_law_script", "_law_k"] []
  m__law_pot : mg "_law_pot" = some (.ref f__law_pot)
  f__law_take : Addr
  d__law_take : FuncData
  F__law_take : Fun K "_law_take" "_law_take" s__law_take f__law_take d__law_take
  b__law_take : Binds K d__law_take ["_law_pot_here", "_law_many"] []
  m__law_take : mg "_law_take" = some (.ref f__law_take)
  f__law_step : Addr
  d__law_step : FuncData
  F__law_step : Fun K "_law_step" "_law_step" s__law_step f__law_step d__law_step
  b__law_step : Binds K d__law_step ["_law_pot_here"] []
  m__law_step : mg "_law_step" = some (.ref f__law_step)
  f__law_job : Addr
  d__law_job : FuncData
  F__law_job : Fun K "_law_job" "_law_job" s__law_job f__law_job d__law_job
  b__law_job : Binds K d__law_job ["_law_pot_here", "_law_deep", "_law_counts"] []
  m__law_job : mg "_law_job" = some (.ref f__law_job)
  f__law_steps : Addr
  d__law_steps : FuncData
  F__law_steps : Fun K "_law_steps" "_law_steps" s__law_steps f__law_steps d__law_steps
  b__law_steps : Binds K d__law_steps ["_law_job_here"] []
  m__law_steps : mg "_law_steps" = some (.ref f__law_steps)
  f__law_nodes : Addr
  d__law_nodes : FuncData
  F__law_nodes : Fun K "_law_nodes" "_law_nodes" s__law_nodes f__law_nodes d__law_nodes
  b__law_nodes : Binds K d__law_nodes ["_law_job_here"] []
  m__law_nodes : mg "_law_nodes" = some (.ref f__law_nodes)
  t_MAX_STEP : Tok
  g_MAX_STEP : mg "MAX_STEP" = some (.int 1000000000000000000000000000000 t_MAX_STEP)
  t_MAX_COUNT : Tok
  g_MAX_COUNT : mg "MAX_COUNT" = some (.int 1000000000000000000000000000000 t_MAX_COUNT)
  t_MAX_PARTS : Tok
  g_MAX_PARTS : mg "MAX_PARTS" = some (.int 400 t_MAX_PARTS)
  t_MAX_NODES : Tok
  g_MAX_NODES : mg "MAX_NODES" = some (.int 400 t_MAX_NODES)
  t_MAX_DEPTH : Tok
  g_MAX_DEPTH : mg "MAX_DEPTH" = some (.int 13 t_MAX_DEPTH)
  n_abs : mg "abs" = none
  n_bool : mg "bool" = none
  n_int : mg "int" = none
  n_isinstance : mg "isinstance" = none
  n_len : mg "len" = none
  n_max : mg "max" = none
  n_min : mg "min" = none
  n_range : mg "range" = none
  n_repr : mg "repr" = none
  n_sum : mg "sum" = none
  n_tuple : mg "tuple" = none
/-! block SizesN (of the later code): is_integer, is_within, steps_of_leaf, sizes_of, _within_count, _sizes and its two helpers, is_job, checked_sizes -/
def spIsInt (K : PySem.W.Frag) : Sp := fun vs H Q _ => ∃ (v : V) (d : PyData), vs = [v] ∧ Dp K H v d ∧ Q (.bl (isInt d && !isBoo d)) H
/-- a pair of ints, or None -/
def RepSz (H : Hp) (r : V) : Option (Int × Int) → Prop
  | none => r = .non
  | some (a, b) => ∃ t, r = .ref t ∧ H t = some (.tup [.int a, .int b])
def spWithin : Sp := fun vs H Q _ => ∃ a b : Int, vs = [.int a, .int b] ∧ ∀ (H' : Hp) (r : V), Same H H' → RepSz H' r (within a b) → Q r H'
def inW : PyData → Int → Int → Bool
  | .int i, a, b => decide (a ≤ i) && decide (i ≤ b)
  | _, _, _ => false
theorem inW_int {i a b : Int} : inW (.int i) a b = (decide (a ≤ i) && decide (i ≤ b)) := rfl
def spWi (K : PySem.W.Frag) : Sp := fun vs H Q _ => ∃ (v : V) (d : PyData) (a b : Int), vs = [v, .int a, .int b] ∧ Dp K H v d ∧ Q (.bl (inW d a b)) H
def spLeaf (K : PySem.W.Frag) : Sp := fun vs H Q _ => ∃ (v : V) (d : PyData), vs = [v] ∧ Dp K H v d ∧ Q (if inW d (-M30) M30 = true then .int 1 else .non) H
def spSz (K : PySem.W.Frag) (L : Addr) (n : Nat) : Sp := fun vs H Q _ => ∃ (v : V) (j : J) (room lv : Int), vs = [v, .ref L, .int room, .int lv] ∧ Dp K H v j.toD ∧ 0 ≤ lv ∧ lv < (n : Int) ∧
  ∀ (H' : Hp) (r : V), Same H H' → RepSz H' r (szJ j room lv) → Q r H'
def spSzs (K : PySem.W.Frag) (L : Addr) (n : Nat) : Sp := fun vs H Q _ => ∃ (v : V) (js : List J) (room lv : Int), vs = [v, .ref L, .int room, .int lv] ∧ Dp K H v (.tuple (J.toDs js)) ∧ 1 ≤ lv ∧ lv ≤ (n : Int) ∧
  ∀ (H' : Hp) (r : V), Same H H' → RepSz H' r (if (js.length : Int) > 400 then none else szJs js 1 0 room lv) → Q r H'
def spSzr (K : PySem.W.Frag) (L : Addr) (n : Nat) : Sp := fun vs H Q _ => ∃ (v : V) (c : Int) (j : J) (room lv : Int), vs = [.int c, v, .ref L, .int room, .int lv] ∧ Dp K H v j.toD ∧ 1 ≤ lv ∧ lv ≤ (n : Int) ∧
  ∀ (H' : Hp) (r : V), Same H H' → RepSz H' r (if ¬ (0 ≤ c ∧ c ≤ M30) then none else match szJ j (room - 1) (lv - 1) with | none => none | some (a, b) => within (a + 1) (b * c)) → Q r H'
section
variable {P : Program} {w : World} {K : PySem.W.Frag} {mg : Str → Option Value} {base : Heap}
theorem ok_isint (T : Txt K mg) : FnOk P w K mg base CX0 1 T.f_is_integer T.d_is_integer ["value"] (spIsInt K) := by
  refine T.F_is_integer.ok sc_is_integer (fun vs H Q E h => ?_) (fun cdv A outer s H vs Q E hr h => ?_)
  · obtain ⟨v, d, rfl, _⟩ := h
    rfl
  obtain ⟨v, d, rfl, hd, q⟩ := h
  refine ⟨_, (pss_one (ps_ret (pe_and (pe_callB (r := rIsD K) call_isD (by rfl) T.n_isinstance (by decide +kernel) (pa_cons (pv 0) (pa_cons (pe_bltn (v := .ty "int") (by rfl) T.n_int (by decide +kernel) rfl) pa_nil))) (pe_one (pe_not (pe_callB (r := rIsD K) call_isD (by rfl) T.n_isinstance (by decide +kernel) (pa_cons (pv 0) (pa_cons (pe_bltn (v := .ty "bool") (by rfl) T.n_bool (by decide +kernel) rfl) pa_nil)))))))), ?_⟩
  refine ⟨_, rfl, v, _, d, _, rfl, hd, kit_int d, _, rfl, ?_⟩
  cases e : isInt d with
  | false =>
    refine iteF ?_
    rw [e] at q
    exact q
  | true =>
    refine iteT ⟨_, rfl, v, _, d, _, rfl, hd, kit_bool d, _, rfl, ?_⟩
    rw [e] at q
    exact q
theorem ok_wi (T : Txt K mg) : FnOk P w K mg base CX0 2 T.f_is_within T.d_is_within ["value", "least", "greatest"] (spWi K) := by
  have g_is_integer : FnOk P w K mg base CX0 1 T.f_is_integer T.d_is_integer ["value"] (spIsInt K) := ok_isint T
  refine T.F_is_within.ok sc_is_within (fun vs H Q E h => ?_) (fun cdv A outer s H vs Q E hr h => ?_)
  · obtain ⟨v, d, a, b, rfl, _⟩ := h
    rfl
  obtain ⟨v, d, a, b, rfl, hd, q⟩ := h
  refine ⟨_, (pss_one (ps_ret (pe_and (pe_call g_is_integer (hr.mono (by omega)) rfl T.m_is_integer T.F_is_integer.kp T.b_is_integer .nil pass0 (pa_cons (pv 0) pa_nil)) (pe_one (pe_chain op_le op_le (pv 1) (pv 0) (pv 2)))))), ?_⟩
  refine ⟨_, rfl, v, d, rfl, hd, _, rfl, ?_⟩
  by_cases e : ∃ i, d = .int i
  · obtain ⟨i, rfl⟩ := e
    obtain rfl := dp_int_inv hd
    refine iteT ?_
    refine ⟨_, rfl, _, rfl, _, _, rfl, rfl, _, rfl, ?_⟩
    rw [inW_int] at q
    cases e1 : decide (a ≤ i) with
    | true =>
      refine iteT ?_
      rw [e1, Bool.true_and] at q
      exact ⟨_, rfl, _, _, rfl, rfl, q⟩
    | false =>
      refine iteF ?_
      rw [e1, Bool.false_and] at q
      exact q
  · have e1 : (isInt d && !isBoo d) = false ∧ inW d a b = false := by
      cases d <;> first | exact absurd ⟨_, rfl⟩ e | exact ⟨rfl, rfl⟩
    rw [e1.1]
    rw [e1.2] at q
    refine iteF ?_
    exact q
theorem ok_leaf (T : Txt K mg) : FnOk P w K mg base CX0 3 T.f_steps_of_leaf T.d_steps_of_leaf ["value"] (spLeaf K) := by
  have g_is_within := ok_wi (P := P) (w := w) (base := base) T
  refine T.F_steps_of_leaf.ok sc_steps_of_leaf (fun vs H Q E h => ?_) (fun cdv A outer s H vs Q E hr h => ?_)
  · obtain ⟨v, d, rfl, _⟩ := h
    rfl
  obtain ⟨v, d, rfl, hd, q⟩ := h
  refine ⟨_, (pss_one (ps_ret (pe_ifExp (pt_val (pe_call g_is_within (hr.mono (by omega)) rfl T.m_is_within T.F_is_within.kp T.b_is_within .nil pass0 (pa_cons (pv 0) (pa_cons (pe_un un_neg (pe_glob (v := .int 1000000000000000000000000000000) rfl T.g_MAX_STEP ⟨_, rfl⟩)) (pa_cons (pe_glob (v := .int 1000000000000000000000000000000) rfl T.g_MAX_STEP ⟨_, rfl⟩) pa_nil))))) pe_int pe_non))), ?_⟩
  refine ⟨_, rfl, _, rfl, v, d, -M30, M30, rfl, hd, _, rfl, ?_⟩
  cases e : inW d (-M30) M30 with
  | true =>
    rw [e] at q
    refine iteT ?_
    exact q
  | false =>
    rw [e] at q
    refine iteF ?_
    exact q
theorem ok_within (T : Txt K mg) : FnOk P w K mg base CX0 1 T.f__within_count T.d__within_count ["nodes", "steps"] spWithin := by
  refine T.F__within_count.ok sc__within_count (fun vs H Q E h => ?_) (fun cdv A outer s H vs Q E hr h => ?_)
  · obtain ⟨a, b, rfl, _⟩ := h
    rfl
  obtain ⟨a, b, rfl, q⟩ := h
  refine ⟨_, (pss_one (ps_ret (pe_ifExp (pt_cmpR op_le (pv 1) (pe_glob (v := .int 1000000000000000000000000000000) rfl T.g_MAX_COUNT ⟨_, rfl⟩) (nomark _)) (pe_tup (pa_cons (pv 0) (pa_cons (pv 1) pa_nil))) pe_non))), ?_⟩
  refine ⟨_, rfl, _, _, rfl, rfl, _, rfl, ?_⟩
  unfold within at q
  refine ite2 (fun g => ?_) (fun g => ?_)
  · rw [if_pos (of_decide_eq_true g)] at q
    refine ⟨_, rfl, _, rfl, (by show 2 ≤ sizeLine; decide), fun t ht => ?_⟩
    exact q _ _ (same_new ht) ⟨t, rfl, upd_same⟩
  · rw [if_neg (fun z => g (decide_eq_true z))] at q
    exact q _ _ (Same.refl _) rfl
theorem ok_szs (T : Txt K mg) {n : Nat} (g__sizes : FnOk P w K mg base CX0 (2 * n + 2) T.f__sizes T.d__sizes ["value", "leaf_steps", "room", "levels"] (spSz K T.f_steps_of_leaf n)) :
    FnOk P w K mg base CX0 (2 * n + 3) T.f__sizes_of_parts T.d__sizes_of_parts ["parts", "leaf_steps", "room", "levels"] (spSzs K T.f_steps_of_leaf n) := by
  have g__within_count : FnOk P w K mg base CX0 1 T.f__within_count T.d__within_count ["nodes", "steps"] spWithin := ok_within T
  refine T.F__sizes_of_parts.ok sc__sizes_of_parts (fun vs H Q E h => ?_) (fun cdv A outer s H vs Q E hr h => ?_)
  · obtain ⟨v, js, room, lv, rfl, _⟩ := h
    rfl
  obtain ⟨v, js, room, lv, rfl, hd, hn1, hn, q⟩ := h
  refine ⟨_, (pss_cons (ps_if (PW.pt (pw_or (pt_not (pt_val (pe_callB (r := rIsD K) call_isD (by rfl) T.n_isinstance (by decide +kernel) (pa_cons (pv 0) (pa_cons (pe_bltn (v := .ty "tuple") (by rfl) T.n_tuple (by decide +kernel) rfl) pa_nil))))) (pw_or1 (pt_cmpR op_gt (pe_callB (r := rLenS K) call_lenS (by rfl) T.n_len (by decide +kernel) (pa_cons (pv 0) pa_nil)) (pe_glob (v := .int 400) rfl T.g_MAX_PARTS ⟨_, rfl⟩) (nomark _))))) (pss_one (ps_ret pe_non)) pss_nil)
      (pss_cons (ps_set (i := 4) sc__sizes_of_parts.nd rfl (Or.inl rfl) pe_int)
      (pss_cons (ps_set (i := 5) sc__sizes_of_parts.nd rfl (Or.inl rfl) pe_int)
      (pss_cons (ps_for PassesOwn.never rfl (pi_tup (pv 0)) (pg_name (i := 6) sc__sizes_of_parts.nd rfl (Or.inl rfl))
        (pss_cons (ps_set (i := 7) sc__sizes_of_parts.nd rfl (Or.inl rfl) (pe_call g__sizes (hr.mono (by omega)) rfl T.m__sizes T.F__sizes.kp T.b__sizes .nil pass0 (pa_cons (pv 6) (pa_cons (pv 1) (pa_cons (pe_op op_sub (pv 2) (pv 4)) (pa_cons (pe_op op_sub (pv 3) pe_int) pa_nil))))))
        (pss_cons (ps_if (pt_cmpR op_isN (pv 7) pe_non (nomark _)) (pss_one (ps_ret pe_non)) pss_nil)
        (pss_cons (ps_aug (i := 4) sc__sizes_of_parts.nd rfl (Or.inl rfl) (pe_ix (r := rIxT K) ix_tup (pv 7) pe_int (fun _ _ => rfl)) ip_add)
        (pss_one (ps_aug (i := 5) sc__sizes_of_parts.nd rfl (Or.inl rfl) (pe_ix (r := rIxT K) ix_tup (pv 7) pe_int (fun _ _ => rfl)) ip_add))))))
      (pss_one (ps_ret (pe_call g__within_count (hr.mono (by omega)) rfl T.m__within_count T.F__within_count.kp T.b__within_count .nil pass0 (pa_cons (pv 4) (pa_cons (pv 5) pa_nil))))))))), ?_⟩
  obtain ⟨a, xs, rfl, hxs, hall⟩ := dp_tup_inv hd
  have hlen : xs.length = js.length := by rw [dpAll_length hall, J.toDs_eq, List.length_map]
  refine ⟨_, rfl, _, _, _, _, rfl, hd, kit_tuple _, _, rfl, ?_⟩
  refine iteF ?_
  refine ⟨_, rfl, a, xs, rfl, .inr hxs, _, _, rfl, rfl, _, rfl, ?_⟩
  refine ite2 (fun g => ?_) (fun g => ?_)
  · have g' : (400 : Int) < (xs.length : Int) := of_decide_eq_true g
    rw [if_pos (by omega)] at q
    exact q _ _ (Same.refl _) rfl
  have g' : ¬ (400 : Int) < (xs.length : Int) := fun z => g (decide_eq_true z)
  rw [if_neg (by omega)] at q
  refine ⟨_, rfl, a, rfl, ⟨xs, hxs⟩, ?_⟩
  -- the loop: what is left of the parts gives what is left of the sizes
  refine for_tup (K := K) (a := a) (xs := xs) (fun i σ H' => ∃ (nodes steps : Int) (y5 y6 : Option V), σ = [some (.ref a), some (.ref T.f_steps_of_leaf), some (.int room), some (.int lv), some (.int nodes), some (.int steps), y5, y6] ∧ Same H H' ∧
    szJs js 1 0 room lv = szJs (js.drop i) nodes steps room lv) ⟨1, 0, none, none, rfl, Same.refl _, rfl⟩ (fun i σ H' _ ⟨_, _, _, _, _, s1, _⟩ => same_sqT s1 hxs) ?_ ?_
  · rintro i x σ H' hi ⟨nodes, steps, y5, y6, rfl, s1, es⟩
    obtain ⟨d, ed, hd'⟩ := dpAll_get hall hi
    have hij : i < js.length := by
      rw [← hlen]
      exact (List.getElem?_eq_some_iff.mp hi).1
    have ej : d = (js[i]).toD := by
      rw [J.toDs_eq, List.getElem?_map, List.getElem?_eq_getElem hij] at ed
      exact (Option.some.inj ed).symm
    subst ej
    have hdrop : js.drop i = js[i] :: js.drop (i + 1) := List.drop_eq_getElem_cons hij
    rw [hdrop] at es
    refine ⟨_, rfl, _, rfl, _, rfl, _, rfl, _, _, rfl, rfl, _, rfl, _, _, rfl, rfl, x, js[i], room - nodes, lv - 1, rfl, dp_same s1 hd', by omega, by omega, fun H2 r2 s2 h2 => ?_⟩
    simp only [szJs] at es
    cases ez : szJ js[i] (room - nodes) (lv - 1) with
    | none =>
      rw [ez] at h2 es
      obtain rfl : r2 = .non := h2
      refine ⟨_, rfl, rfl, _, rfl, ?_⟩
      refine iteT ?_
      rw [es] at q
      exact q _ _ (s1.trans s2) rfl
    | some ab =>
      obtain ⟨a1, b1⟩ := ab
      rw [ez] at h2 es
      obtain ⟨t, rfl, ht⟩ := h2
      refine ⟨_, rfl, rfl, _, rfl, ?_⟩
      refine iteF ?_
      refine ⟨_, rfl, _, rfl, _, _, _, _, rfl, rfl, SqT.of ht, rfl, _, _, rfl, rfl, ?_⟩
      refine ⟨_, rfl, _, rfl, _, _, _, _, rfl, rfl, SqT.of ht, rfl, _, _, rfl, rfl, ?_⟩
      exact ⟨_, _, _, _, rfl, s1.trans s2, es⟩
  · rintro σ H' ⟨nodes, steps, y5, y6, rfl, s1, es⟩
    rw [hlen, List.drop_length] at es
    simp only [szJs] at es
    refine ⟨_, rfl, _, rfl, nodes, steps, rfl, fun H2 r2 s2 h2 => ?_⟩
    rw [es] at q
    exact q _ _ (s1.trans s2) h2
theorem ok_szr (T : Txt K mg) {n : Nat} (g__sizes : FnOk P w K mg base CX0 (2 * n + 2) T.f__sizes T.d__sizes ["value", "leaf_steps", "room", "levels"] (spSz K T.f_steps_of_leaf n)) :
    FnOk P w K mg base CX0 (2 * n + 3) T.f__sizes_of_rounds T.d__sizes_of_rounds ["n", "inner", "leaf_steps", "room", "levels"] (spSzr K T.f_steps_of_leaf n) := by
  have g__within_count : FnOk P w K mg base CX0 1 T.f__within_count T.d__within_count ["nodes", "steps"] spWithin := ok_within T
  have g_is_within := ok_wi (P := P) (w := w) (base := base) T
  refine T.F__sizes_of_rounds.ok sc__sizes_of_rounds (fun vs H Q E h => ?_) (fun cdv A outer s H vs Q E hr h => ?_)
  · obtain ⟨v, c, j, room, lv, rfl, _⟩ := h
    rfl
  obtain ⟨v, c, j, room, lv, rfl, hd, hn1, hn, q⟩ := h
  refine ⟨_, (pss_cons (ps_if (pt_not (pt_val (pe_call g_is_within (hr.mono (by omega)) rfl T.m_is_within T.F_is_within.kp T.b_is_within .nil pass0 (pa_cons (pv 0) (pa_cons pe_int (pa_cons (pe_glob (v := .int 1000000000000000000000000000000) rfl T.g_MAX_COUNT ⟨_, rfl⟩) pa_nil)))))) (pss_one (ps_ret pe_non)) pss_nil)
      (pss_cons (ps_set (i := 5) sc__sizes_of_rounds.nd rfl (Or.inl rfl) (pe_call g__sizes (hr.mono (by omega)) rfl T.m__sizes T.F__sizes.kp T.b__sizes .nil pass0 (pa_cons (pv 1) (pa_cons (pv 2) (pa_cons (pe_op op_sub (pv 3) pe_int) (pa_cons (pe_op op_sub (pv 4) pe_int) pa_nil))))))
      (pss_cons (ps_if (pt_cmpR op_isN (pv 5) pe_non (nomark _)) (pss_one (ps_ret pe_non)) pss_nil)
      (pss_one (ps_ret (pe_call g__within_count (hr.mono (by omega)) rfl T.m__within_count T.F__within_count.kp T.b__within_count .nil pass0 (pa_cons (pe_op op_add (pe_ix (r := rIxT K) ix_tup (pv 5) pe_int (fun _ _ => rfl)) pe_int) (pa_cons (pe_op op_mulW (pe_ix (r := rIxT K) ix_tup (pv 5) pe_int (fun _ _ => rfl)) (pv 0)) pa_nil)))))))), ?_⟩
  refine ⟨_, rfl, .int c, .int c, 0, M30, rfl, .int c, _, rfl, ?_⟩
  show if (!(decide (0 ≤ c) && decide (c ≤ M30))) = true then _ else _
  refine ite2 (fun g => ?_) (fun g => ?_)
  · rw [if_pos (fun z => by rw [decide_eq_true z.1, decide_eq_true z.2] at g; cases g)] at q
    exact q _ _ (Same.refl _) rfl
  obtain ⟨g0, g1⟩ : 0 ≤ c ∧ c ≤ M30 := by
    by_cases z : 0 ≤ c ∧ c ≤ M30
    · exact z
    · exfalso
      apply g
      rw [Bool.not_eq_true', Bool.and_eq_false_iff]
      by_cases z0 : 0 ≤ c
      · exact .inr (decide_eq_false fun y => z ⟨z0, y⟩)
      · exact .inl (decide_eq_false z0)
  rw [if_neg (fun z => z ⟨g0, g1⟩)] at q
  refine ⟨_, rfl, _, rfl, _, rfl, _, _, rfl, rfl, _, rfl, _, _, rfl, rfl, v, j, room - 1, lv - 1, rfl, hd, by omega, by omega, fun H2 r2 s2 h2 => ?_⟩
  cases ez : szJ j (room - 1) (lv - 1) with
  | none =>
    rw [ez] at h2 q
    obtain rfl : r2 = .non := h2
    refine ⟨_, rfl, rfl, _, rfl, ?_⟩
    refine iteT ?_
    exact q _ _ s2 rfl
  | some ab =>
    obtain ⟨a1, b1⟩ := ab
    rw [ez] at h2 q
    obtain ⟨t, rfl, ht⟩ := h2
    refine ⟨_, rfl, rfl, _, rfl, ?_⟩
    refine iteF ?_
    obtain ⟨jo, _, _, ea, eb⟩ := szJ_inv j _ _ _ _ ez
    have hb0 := J.steps_nn j jo
    have hb1 := J.steps_le j jo
    rw [← eb] at hb0 hb1
    refine ⟨_, rfl, _, _, _, _, rfl, rfl, SqT.of ht, rfl, _, _, rfl, rfl, _, rfl, _, _, _, _, rfl, rfl, SqT.of ht, rfl, _, rfl, _, _, rfl, rfl, ?_, ?_⟩
    · have e1 : b1.natAbs < 2 ^ 128 := Nat.lt_of_le_of_lt (show b1.natAbs ≤ 1000000000000000000000000000000 by simp only [M30] at hb1; omega) (by decide)
      have e2 : c.natAbs < 2 ^ 128 := Nat.lt_of_le_of_lt (show c.natAbs ≤ 1000000000000000000000000000000 by simp only [M30] at g1; omega) (by decide)
      exact wide_mul (a := 128) (b := 128) e1 e2 (by decide) (by decide) (by decide)
    refine ⟨_, _, rfl, fun H3 r3 s3 h3 => ?_⟩
    exact q _ _ (s2.trans s3) h3
theorem in_parts (k : Bool) : inV (.str (kwP k)) [.str "seq", .str "par"] = true := by cases k <;> decide +kernel
theorem in_parts_no (k : Bool) : inV (.str (kwR k)) [.str "seq", .str "par"] = false := by cases k <;> decide +kernel
theorem in_rounds (k : Bool) : inV (.str (kwR k)) [.str "repeat", .str "copies"] = true := by cases k <;> decide +kernel
theorem ok_sz (T : Txt K mg) {n : Nat} (g__sizes_of_parts : FnOk P w K mg base CX0 (2 * n + 3) T.f__sizes_of_parts T.d__sizes_of_parts ["parts", "leaf_steps", "room", "levels"] (spSzs K T.f_steps_of_leaf n))
    (g__sizes_of_rounds : FnOk P w K mg base CX0 (2 * n + 3) T.f__sizes_of_rounds T.d__sizes_of_rounds ["n", "inner", "leaf_steps", "room", "levels"] (spSzr K T.f_steps_of_leaf n)) :
    FnOk P w K mg base CX0 (2 * (n + 1) + 2) T.f__sizes T.d__sizes ["value", "leaf_steps", "room", "levels"] (spSz K T.f_steps_of_leaf (n + 1)) := by
  have g_steps_of_leaf := ok_leaf (P := P) (w := w) (base := base) T
  refine T.F__sizes.ok sc__sizes (fun vs H Q E h => ?_) (fun cdv A outer s H vs Q E hr h => ?_)
  · obtain ⟨v, j, room, lv, rfl, _⟩ := h
    rfl
  obtain ⟨v, j, room, lv, rfl, hd, hn1, hn, q⟩ := h
  refine ⟨_, (pss_cons (ps_if (PW.pt (pw_or (pt_cmpR op_lt (pv 2) pe_int (nomark _)) (pw_or1 (pt_cmpR op_lt (pv 3) pe_int (nomark _))))) (pss_one (ps_ret pe_non)) pss_nil)
      (pss_cons (ps_set (i := 4) sc__sizes.nd rfl (Or.inl rfl) (pe_callL (i := 1) g_steps_of_leaf (hr.mono (by omega)) rfl (.inl rfl) T.F_steps_of_leaf.kp T.b_steps_of_leaf .nil pass0 (pa_cons (pv 0) pa_nil)))
      (pss_cons (ps_if (pt_cmpR op_notN (pv 4) pe_non (nomark _)) (pss_one (ps_ret (pe_tup (pa_cons pe_int (pa_cons (pv 4) pa_nil))))) pss_nil)
      (pss_cons (ps_if (pt_not (pt_val (pe_callB (r := rIsD K) call_isD (by rfl) T.n_isinstance (by decide +kernel) (pa_cons (pv 0) (pa_cons (pe_bltn (v := .ty "tuple") (by rfl) T.n_tuple (by decide +kernel) rfl) pa_nil))))) (pss_one (ps_ret pe_non)) pss_nil)
      (pss_cons (ps_if (PW.pt (pw_and (pt_cmpR op_eq (pe_callB (r := rLenS K) call_lenS (by rfl) T.n_len (by decide +kernel) (pa_cons (pv 0) pa_nil)) pe_int (nomark _)) (pw_and1 (pt_cmpR (r := rIn K false) op_in_seq (pe_ix (r := rIxT K) ix_tup (pv 0) pe_int (fun _ _ => rfl)) (pe_tup (pa_cons pe_str (pa_cons pe_str pa_nil))) (by rfl))))) (pss_one (ps_ret (pe_call g__sizes_of_parts (hr.mono (by omega)) rfl T.m__sizes_of_parts T.F__sizes_of_parts.kp T.b__sizes_of_parts .nil pass0 (pa_cons (pe_ix (r := rIxT K) ix_tup (pv 0) pe_int (fun _ _ => rfl)) (pa_cons (pv 1) (pa_cons (pv 2) (pa_cons (pv 3) pa_nil))))))) pss_nil)
      (pss_cons (ps_if (PW.pt (pw_and (pt_cmpR op_eq (pe_callB (r := rLenS K) call_lenS (by rfl) T.n_len (by decide +kernel) (pa_cons (pv 0) pa_nil)) pe_int (nomark _)) (pw_and1 (pt_cmpR (r := rIn K false) op_in_seq (pe_ix (r := rIxT K) ix_tup (pv 0) pe_int (fun _ _ => rfl)) (pe_tup (pa_cons pe_str (pa_cons pe_str pa_nil))) (by rfl))))) (pss_one (ps_ret (pe_call g__sizes_of_rounds (hr.mono (by omega)) rfl T.m__sizes_of_rounds T.F__sizes_of_rounds.kp T.b__sizes_of_rounds .nil pass0 (pa_cons (pe_ix (r := rIxT K) ix_tup (pv 0) pe_int (fun _ _ => rfl)) (pa_cons (pe_ix (r := rIxT K) ix_tup (pv 0) pe_int (fun _ _ => rfl)) (pa_cons (pv 1) (pa_cons (pv 2) (pa_cons (pv 3) pa_nil)))))))) pss_nil)
      (pss_one (ps_ret pe_non)))))))), ?_⟩
  -- room < 1 or levels < 1
  have no : ∀ R : V → Hp → Prop, R = Q → (room < 1 ∨ lv < 1) → R .non H := by
    rintro R rfl z
    have e : szJ j room lv = none := by cases j <;> simp only [szJ] <;> rw [if_pos z]
    rw [e] at q
    exact q _ _ (Same.refl _) rfl
  refine ⟨_, rfl, _, _, rfl, rfl, _, rfl, ?_⟩
  refine ite2 (fun g => ?_) (fun g => ?_)
  · refine iteT ?_
    exact no _ rfl (.inl (of_decide_eq_true g))
  refine ⟨_, rfl, _, _, rfl, rfl, _, rfl, ?_⟩
  refine ite2 (fun g2 => ?_) (fun g2 => ?_)
  · exact no _ rfl (.inr (of_decide_eq_true g2))
  have g' : ¬ (room < 1 ∨ lv < 1) := fun z => z.elim (fun y => g (decide_eq_true y)) (fun y => g2 (decide_eq_true y))
  clear no
  cases j with
  | st i =>
    obtain rfl := dp_int_inv hd
    simp only [szJ] at q
    rw [if_neg g'] at q
    refine ⟨rfl, _, rfl, .int i, .int i, rfl, .int i, ?_⟩
    by_cases z : -M30 ≤ i ∧ i ≤ M30
    · rw [if_pos z] at q
      have e : inW (.int i) (-M30) M30 = true := by
        rw [inW_int, decide_eq_true z.1, decide_eq_true z.2] <;> rfl
      rw [if_pos e]
      refine ⟨_, rfl, rfl, _, rfl, ?_⟩
      refine iteT ?_
      refine ⟨_, rfl, (by show 2 ≤ sizeLine; decide), fun t ht => ?_⟩
      exact q _ _ (same_new ht) ⟨t, rfl, upd_same⟩
    · rw [if_neg z] at q
      have e : ¬ inW (.int i) (-M30) M30 = true := by
        rw [inW_int, Bool.and_eq_true, decide_eq_true_eq, decide_eq_true_eq]
        exact z
      rw [if_neg e]
      refine ⟨_, rfl, rfl, _, rfl, ?_⟩
      refine iteF ?_
      refine ⟨_, rfl, _, _, _, _, rfl, .int i, kit_tuple _, _, rfl, ?_⟩
      refine iteT ?_
      exact q _ _ (Same.refl _) rfl
  | ps k xs =>
    simp only [szJ] at q
    rw [if_neg g'] at q
    have hd0 := hd
    rw [J.toD] at hd
    obtain ⟨a, ys, rfl, hys, hall⟩ := dp_tup_inv hd
    cases hall with
    | cons e1 hall =>
      obtain rfl := dp_str_inv e1
      cases hall with
      | cons e2 hall =>
        cases hall
        rename_i vp
        refine ⟨rfl, _, rfl, .ref a, _, rfl, hd, ?_⟩
        refine ⟨_, rfl, rfl, _, rfl, ?_⟩
        refine iteF ?_
        refine ⟨_, rfl, _, _, _, _, rfl, hd, kit_tuple _, _, rfl, ?_⟩
        refine iteF ?_
        refine ⟨_, rfl, a, _, rfl, .inr hys, rfl, _, rfl, ?_⟩
        refine iteT ?_
        refine ⟨_, rfl, _, _, _, _, rfl, rfl, hys, rfl, (by show 2 ≤ sizeLine; decide), fun t ht => ?_⟩
        refine ⟨t, _, rfl, .inr (SqT.of upd_same), rfl, rfl, _, rfl, ?_⟩
        have s1 : Same H (upd H t (.tup [.str "seq", .str "par"])) := same_new ht
        show if inV (.str (kwP k)) [.str "seq", .str "par"] = true then _ else _
        rw [in_parts]
        refine iteT ?_
        refine ⟨_, rfl, _, _, _, _, rfl, rfl, same_sqT s1 hys, rfl, _, rfl, _, rfl, _, rfl, vp, xs, room, lv, rfl, dp_same s1 e2, by omega, by omega, fun H2 r2 s2 h2 => ?_⟩
        exact q _ _ (s1.trans s2) h2
  | rn k c x =>
    simp only [szJ] at q
    rw [if_neg g'] at q
    rw [J.toD] at hd
    obtain ⟨a, ys, rfl, hys, hall⟩ := dp_tup_inv hd
    cases hall with
    | cons e1 hall =>
      obtain rfl := dp_str_inv e1
      cases hall with
      | cons e2 hall =>
        obtain rfl := dp_int_inv e2
        cases hall with
        | cons e3 hall =>
          cases hall
          rename_i vx
          refine ⟨rfl, _, rfl, .ref a, _, rfl, hd, ?_⟩
          refine ⟨_, rfl, rfl, _, rfl, ?_⟩
          refine iteF ?_
          refine ⟨_, rfl, _, _, _, _, rfl, hd, kit_tuple _, _, rfl, ?_⟩
          refine iteF ?_
          refine ⟨_, rfl, a, _, rfl, .inr hys, rfl, _, rfl, ?_⟩
          refine iteF ?_
          refine ⟨_, rfl, a, _, rfl, .inr hys, rfl, _, rfl, ?_⟩
          refine iteT ?_
          refine ⟨_, rfl, _, _, _, _, rfl, rfl, hys, rfl, (by show 2 ≤ sizeLine; decide), fun t ht => ?_⟩
          refine ⟨t, _, rfl, .inr (SqT.of upd_same), rfl, rfl, _, rfl, ?_⟩
          have s1 : Same H (upd H t (.tup [.str "repeat", .str "copies"])) := same_new ht
          show if inV (.str (kwR k)) [.str "repeat", .str "copies"] = true then _ else _
          rw [in_rounds]
          refine iteT ?_
          refine ⟨_, rfl, _, _, _, _, rfl, rfl, same_sqT s1 hys, rfl, _, rfl, _, _, _, _, rfl, rfl, same_sqT s1 hys, rfl, _, rfl, _, rfl, _, rfl, vx, c, x, room, lv, rfl, dp_same s1 e3, by omega, by omega, fun H2 r2 s2 h2 => ?_⟩
          exact q _ _ (s1.trans s2) h2
theorem ok_sizes (T : Txt K mg) : ∀ n : Nat, FnOk P w K mg base CX0 (2 * n + 2) T.f__sizes T.d__sizes ["value", "leaf_steps", "room", "levels"] (spSz K T.f_steps_of_leaf n)
  | 0 => by
    have no : ∀ vs H Q E, ¬ spSz K T.f_steps_of_leaf 0 vs H Q E := by
      rintro vs H Q E ⟨v, j, room, lv, _, _, h1, h2, _⟩
      omega
    exact ⟨fun vs H Q E h => absurd h (no vs H Q E), fun A outer s H args us vs Q E _ _ _ _ h => absurd h (no vs H Q E)⟩
  | n + 1 => ok_sz T (ok_szs T (ok_sizes T n)) (ok_szr T (ok_sizes T n))
/-- jobs of at most thirteen levels -/
def spIsJob (K : PySem.W.Frag) : Sp := fun vs H Q _ => ∃ (v : V) (j : J), vs = [v] ∧ Dp K H v j.toD ∧ j.deep ≤ 20 ∧ ∀ H', Same H H' → Q (.bl (szJ j 400 13).isSome) H'
def spChecked (K : PySem.W.Frag) : Sp := fun vs H Q _ => ∃ (v : V) (j : J) (a b : Int), vs = [v] ∧ Dp K H v j.toD ∧ j.deep ≤ 20 ∧ szJ j 400 13 = some (a, b) ∧
  ∀ (H' : Hp) (t : Addr), Same H H' → H' t = some (.tup [.int a, .int b]) → Q (.ref t) H'
def spSzOf (K : PySem.W.Frag) (L : Addr) : Sp := fun vs H Q _ => ∃ (v : V) (j : J), vs = [v, .ref L] ∧ Dp K H v j.toD ∧ ∀ (H' : Hp) (r : V), Same H H' → RepSz H' r (szJ j 400 13) → Q r H'
theorem ok_szof (T : Txt K mg) : FnOk P w K mg base CX0 31 T.f_sizes_of T.d_sizes_of ["value", "leaf_steps"] (spSzOf K T.f_steps_of_leaf) := by
  have g__sizes := ok_sizes (P := P) (w := w) (base := base) T 14
  refine T.F_sizes_of.ok sc_sizes_of (fun vs H Q E h => ?_) (fun cdv A outer s H vs Q E hr h => ?_)
  · obtain ⟨v, j, rfl, _⟩ := h
    rfl
  obtain ⟨v, j, rfl, hd, q⟩ := h
  refine ⟨_, (pss_one (ps_ret (pe_call g__sizes (hr.mono (by omega)) rfl T.m__sizes T.F__sizes.kp T.b__sizes .nil pass0 (pa_cons (pv 0) (pa_cons (pv 1) (pa_cons (pe_glob (v := .int 400) rfl T.g_MAX_NODES ⟨_, rfl⟩) (pa_cons (pe_glob (v := .int 13) rfl T.g_MAX_DEPTH ⟨_, rfl⟩) pa_nil))))))), ?_⟩
  exact ⟨_, rfl, _, rfl, v, j, 400, 13, rfl, hd, by decide, by decide, q⟩
theorem ok_isjob (T : Txt K mg) : FnOk P w K mg base CX0 43 T.f_is_job T.d_is_job ["value"] (spIsJob K) := by
  have g_sizes_of := ok_szof (P := P) (w := w) (base := base) T
  refine T.F_is_job.ok sc_is_job (fun vs H Q E h => ?_) (fun cdv A outer s H vs Q E hr h => ?_)
  · obtain ⟨v, j, rfl, _⟩ := h
    rfl
  obtain ⟨v, j, rfl, hd, hn, q⟩ := h
  refine ⟨_, (pss_one (ps_ret (pe_cmpR op_notN (pe_call g_sizes_of (hr.mono (by omega)) rfl T.m_sizes_of T.F_sizes_of.kp T.b_sizes_of .nil pass0 (pa_cons (pv 0) (pa_cons (pe_glob (v := .ref T.f_steps_of_leaf) rfl T.m_steps_of_leaf rfl) pa_nil))) pe_non (nomark _)))), ?_⟩
  refine ⟨_, rfl, v, j, rfl, hd, fun H2 r2 s2 h2 => ?_⟩
  cases ez : szJ j 400 13 with
  | none =>
    rw [ez] at h2 q
    obtain rfl : r2 = .non := h2
    exact ⟨rfl, q _ s2⟩
  | some ab =>
    obtain ⟨a, b⟩ := ab
    rw [ez] at h2 q
    obtain ⟨t, rfl, ht⟩ := h2
    exact ⟨rfl, q _ s2⟩
theorem ok_checked (T : Txt K mg) : FnOk P w K mg base CX0 43 T.f_checked_sizes T.d_checked_sizes ["job"] (spChecked K) := by
  have g_sizes_of := ok_szof (P := P) (w := w) (base := base) T
  refine T.F_checked_sizes.ok sc_checked_sizes (fun vs H Q E h => ?_) (fun cdv A outer s H vs Q E hr h => ?_)
  · obtain ⟨v, j, a, b, rfl, _⟩ := h
    rfl
  obtain ⟨v, j, a, b, rfl, hd, hn, ez, q⟩ := h
  refine ⟨_, (pss_cons (ps_set (i := 1) sc_checked_sizes.nd rfl (Or.inl rfl) (pe_call g_sizes_of (hr.mono (by omega)) rfl T.m_sizes_of T.F_sizes_of.kp T.b_sizes_of .nil pass0 (pa_cons (pv 0) (pa_cons (pe_glob (v := .ref T.f_steps_of_leaf) rfl T.m_steps_of_leaf rfl) pa_nil))))
      (pss_cons (ps_if (pt_cmpR op_isN (pv 1) pe_non (nomark _)) (pss_one ps_never) pss_nil)
      (pss_one (ps_ret (pv 1))))), ?_⟩
  refine ⟨_, rfl, v, j, rfl, hd, fun H2 r2 s2 h2 => ?_⟩
  rw [ez] at h2
  obtain ⟨t, rfl, ht⟩ := h2
  refine ⟨_, rfl, rfl, _, rfl, ?_⟩
  refine iteF ?_
  exact ⟨_, rfl, q _ t s2 ht⟩
end
/-! block Pot: _law_pot, _law_take, _law_step -/
/-- a pot at p: what is left of the cell, the mixed number, how many were taken (at most n) -/
def Pot (H : Hp) (p : Addr) (n : Nat) : Prop := ∃ a b c : Int, H p = some (.lst [.int a, .int b, .int c]) ∧ (0 ≤ a ∧ a.natAbs < 2 ^ 3000) ∧ (0 ≤ b ∧ b < 2305843009213693951) ∧ (0 ≤ c ∧ c ≤ (n : Int))
theorem Pot.lst {H : Hp} {p : Addr} {n : Nat} (h : Pot H p n) : ∃ l, H p = some (.lst l) := by
  obtain ⟨a, b, c, h, _⟩ := h
  exact ⟨_, h⟩
theorem Pot.mono {H : Hp} {p : Addr} {n m : Nat} (h : Pot H p n) (e : n ≤ m) : Pot H p m := by
  obtain ⟨a, b, c, h1, h2, h3, h4⟩ := h
  exact ⟨a, b, c, h1, h2, h3, h4.1, by omega⟩
theorem Pot.same {H H' : Hp} {p : Addr} {n : Nat} (h : Pot H p n) (s : Same H H') : Pot H' p n := by
  obtain ⟨a, b, c, h1, h2⟩ := h
  exact ⟨a, b, c, s _ _ h1, h2⟩
def spPot (K : PySem.W.Frag) : Sp := fun vs H Q _ => ∃ (a : Addr) (ns : List Int) (k : Int), vs = [.ref a, .int k] ∧ SqL K H a (ns.map V.int) ∧ ns.length ≤ 1000 ∧ 0 ≤ k ∧ k ≤ 1000 ∧
  ∀ (H' : Hp) (p : Addr), Same H H' → H p = none → Pot H' p 0 → Q (.ref p) H'
def spTake : Sp := fun vs H Q _ => ∃ (p : Addr) (n : Nat) (m : Int), vs = [.ref p, .int m] ∧ Pot H p n ∧ n ≤ 1099511627776 ∧ 0 < m ∧ m.natAbs < 2 ^ 200 ∧
  ∀ (H' : Hp) (r : Int), Sx p H H' → Pot H' p (n + 1) → 0 ≤ r → r < m → Q (.int r) H'
def spStep : Sp := fun vs H Q _ => ∃ (p : Addr) (n : Nat), vs = [.ref p] ∧ Pot H p n ∧ n + 4 ≤ 1099511627776 ∧
  ∀ (H' : Hp) (r : Int), Sx p H H' → Pot H' p (n + 4) → -M30 ≤ r → r ≤ M30 → Q (.int r) H'
theorem natAbs_lt {i : Int} {B : Nat} (h0 : 0 ≤ i) (h : i < (B : Int)) : i.natAbs < B := by omega
theorem big14 : ((((10 : Int) ^ (60 : Int).toNat) ^ (14 : Int).toNat)).natAbs < 2 ^ 3000 := by decide +kernel
theorem pos14 : 0 < ((10 : Int) ^ (60 : Int).toNat) ^ (14 : Int).toNat := by decide +kernel
theorem mod_big {z m : Int} {B : Nat} (hm : 0 < m) (hB : m.natAbs < B) : 0 ≤ z % m ∧ (z % m).natAbs < B := by
  have h1 := Int.emod_nonneg z (Int.ne_of_gt hm)
  have h2 := Int.emod_lt_of_pos z hm
  exact ⟨h1, by omega⟩
section
variable {P : Program} {w : World} {K : PySem.W.Frag} {mg : Str → Option Value} {base : Heap}
theorem ok_pot (T : Txt K mg) : FnOk P w K mg base CX0 1 T.f__law_pot T.d__law_pot ["_law_script", "_law_k"] (spPot K) := by
  refine T.F__law_pot.ok sc__law_pot (fun vs H Q E h => ?_) (fun cdv A outer s H vs Q E hr h => ?_)
  · obtain ⟨a, ns, k, rfl, _⟩ := h
    rfl
  obtain ⟨a, ns, k, rfl, hS, hlen, hk0, hk1, q⟩ := h
  refine ⟨_, (pss_cons (ps_set (i := 2) sc__law_pot.nd rfl (Or.inl rfl) pe_int)
      (C8.pss_cut (ps_if (pt_cmpR op_lt (pv 1) (pe_callB (r := rLenS K) call_lenS (by rfl) T.n_len (by decide +kernel) (pa_cons (pv 0) pa_nil)) (nomark _)) (pss_one (ps_set (i := 2) sc__law_pot.nd rfl (Or.inl rfl) (pe_op op_mod (pe_callB call_abs (by rfl) T.n_abs (by decide +kernel) (pa_cons (pe_ix (r := rIxL K) ix_list (pv 0) (pv 1) (fun _ _ => rfl)) pa_nil)) (pe_op op_powW (pe_op op_powW pe_int pe_int) pe_int)))) pss_nil)
      (pss_cons (ps_set (i := 3) sc__law_pot.nd rfl (Or.inl rfl) (pe_op op_mod (pe_op op_powW (pe_op op_add (pe_op op_add (pe_op op_mod (pv 2) pe_int) (pe_op op_mulW pe_int (pv 1))) pe_int) pe_int) pe_int))
      (pss_one (ps_ret (pe_lst (pa_cons (pe_op op_mulW (pv 2) (pe_callTy call_int1 (by rfl) T.n_int (by decide +kernel) (pa_cons (pe_cmpR op_ge (pv 2) (pe_op op_powW pe_int pe_int) (nomark _)) pa_nil))) (pa_cons (pv 3) (pa_cons pe_int pa_nil))))))))), ?_⟩
  refine ⟨fun σ' H' => ∃ cell : Int, σ' = [some (.ref a), some (.int k), some (.int cell), none] ∧ H' = H ∧ 0 ≤ cell ∧ cell.natAbs < 2 ^ 3000, ?_, ?_⟩
  · refine ⟨_, rfl, _, rfl, a, _, rfl, .inl hS, _, _, rfl, rfl, _, rfl, ?_⟩
    refine ite2 (fun c => ?_) (fun c => ?_)
    · have c' := of_decide_eq_true c
      rw [List.length_map] at c'
      obtain ⟨z, _, hz⟩ := atI_int (ns := ns) hk0 c'
      refine ⟨_, rfl, _, rfl, _, _, _, _, rfl, rfl, hS, hz, _, rfl, _, _, rfl, rfl, powW_of 4 (by decide) (by decide) (by decide), _, _, rfl, rfl, powW_of 200 (by decide) (by decide +kernel) (by decide), _, _, rfl, rfl, pos14, ?_⟩
      have hb := mod_big (z := if z < 0 then -z else z) pos14 big14
      exact ⟨_, rfl, rfl, hb⟩
    · exact ⟨0, rfl, rfl, by decide, by decide⟩
  · rintro σ' H' ⟨cell, rfl, rfl, hc0, hc1⟩
    walk_at "rd"
    refine ⟨(by show (0 : Int) < 2147483587; decide), ?_⟩
    walk_at "rd"
    refine ⟨wide_mul (a := 64) (b := 64) (by decide) (by omega) (by decide) (by decide) (by decide), ?_⟩
    walk_at "rd"
    refine ⟨powW_of 64 (by decide) (by omega) (by decide), ?_⟩
    walk_at "rd"
    refine ⟨(by show (0 : Int) < 2305843009213693951; decide), ?_⟩
    dsimp only
    generalize (cell % 2147483587 + 6151 * k + 3) ^ (5 : Int).toNat = pw
    have hm0 : 0 ≤ pw % 2305843009213693951 := by omega
    have hm1 : pw % 2305843009213693951 < 2305843009213693951 := by omega
    generalize pw % 2305843009213693951 = mixed at hm0 hm1 ⊢
    walk_at "rd"
    refine ⟨powW_of 4 (by decide) (by decide) (by decide), ?_⟩
    walk_at "rd"
    refine .inr ⟨_, rfl, ?_⟩
    walk_at "rd"
    refine ⟨wide_mul (a := 3000) (b := 1) hc1 (by split <;> decide) (by decide) (by decide) (by decide), ?_⟩
    dsimp only
    have hk : 0 ≤ cell * (if decide ((10 : Int) ^ (18 : Int).toNat ≤ cell) = true then 1 else 0) ∧ (cell * (if decide ((10 : Int) ^ (18 : Int).toNat ≤ cell) = true then 1 else 0)).natAbs < 2 ^ 3000 := by
      split
      · rw [Int.mul_one]
        exact ⟨hc0, hc1⟩
      · rw [Int.mul_zero]
        exact ⟨Int.le_refl _, by decide⟩
    generalize cell * (if decide ((10 : Int) ^ (18 : Int).toNat ≤ cell) = true then 1 else 0) = c2 at hk ⊢
    walk_at "rd"
    refine ⟨(by show 3 ≤ sizeLine; decide), fun p hp => ?_⟩
    exact q _ p (same_new hp) hp ⟨_, _, _, upd_same, hk, ⟨hm0, hm1⟩, by decide, by decide⟩
theorem ok_take (T : Txt K mg) : FnOk P w K mg base CX0 1 T.f__law_take T.d__law_take ["_law_pot_here", "_law_many"] spTake := by
  refine T.F__law_take.ok sc__law_take (fun vs H Q E h => ?_) (fun cdv A outer s H vs Q E hr h => ?_)
  · obtain ⟨p, n, m, rfl, _⟩ := h
    rfl
  obtain ⟨p, n, m, rfl, ⟨a, b, c, hp, ⟨a0, a1⟩, ⟨b0, b1⟩, c0, c1⟩, hn, hm, hm2, q⟩ := h
  refine ⟨_, (pss_cons (ps_if (pt_cmpR op_gt (pe_ix (r := rIxL K) ix_list (pv 0) pe_int (fun _ _ => rfl)) pe_int (nomark _)) (pss_cons (ps_set (i := 2) sc__law_take.nd rfl (Or.inl rfl) (pe_op op_mod (pe_ix (r := rIxL K) ix_list (pv 0) pe_int (fun _ _ => rfl)) (pv 1)))
        (pss_cons (ps_asg (pe_op op_fdivW (pe_ix (r := rIxL K) ix_list (pv 0) pe_int (fun _ _ => rfl)) (pv 1)) (pg_sub (pv 0) pe_int set_list))
        (pss_one (ps_ret (pv 2))))) pss_nil)
      (pss_cons (ps_asg (pe_op op_add (pe_ix (r := rIxL K) ix_list (pv 0) pe_int (fun _ _ => rfl)) pe_int) (pg_sub (pv 0) pe_int set_list))
      (pss_cons (ps_set (i := 3) sc__law_take.nd rfl (Or.inl rfl) (pe_op op_mod (pe_op op_powW (pe_op op_add (pe_ix (r := rIxL K) ix_list (pv 0) pe_int (fun _ _ => rfl)) (pe_op op_mulW pe_int (pe_ix (r := rIxL K) ix_list (pv 0) pe_int (fun _ _ => rfl)))) pe_int) pe_int))
      (pss_cons (ps_set (i := 4) sc__law_take.nd rfl (Or.inl rfl) (pe_op op_mod (pe_op op_powW (pe_op op_add (pe_op op_add (pv 3) (pe_op op_mod (pe_ix (r := rIxL K) ix_list (pv 0) pe_int (fun _ _ => rfl)) pe_int)) (pe_op op_mulW pe_int (pe_ix (r := rIxL K) ix_list (pv 0) pe_int (fun _ _ => rfl)))) pe_int) pe_int))
      (pss_one (ps_ret (pe_op op_mod (pe_op op_fdivW (pv 4) pe_int) (pv 1)))))))), ?_⟩
  refine ⟨_, rfl, _, _, _, _, rfl, rfl, SqL.of hp, rfl, _, _, rfl, rfl, _, rfl, ?_⟩
  refine ite2 (fun g => ?_) (fun g => ?_)
  · refine ⟨_, rfl, _, _, _, _, rfl, rfl, SqL.of hp, rfl, _, rfl, _, _, rfl, rfl, hm, ?_⟩
    refine ⟨_, rfl, _, _, _, _, rfl, rfl, SqL.of hp, rfl, _, rfl, _, _, rfl, rfl, wide_div hm hm2 (by decide) (by decide), ?_⟩
    refine ⟨_, rfl, _, _, _, _, rfl, rfl, hp, rfl, ?_⟩
    refine ⟨_, rfl, ?_⟩
    have d0 : 0 ≤ a / m := Int.ediv_nonneg a0 (by omega)
    have d1 : a / m ≤ a := Int.ediv_le_self m a0
    exact q _ _ sx_upd ⟨_, _, _, upd_same, ⟨d0, Nat.lt_of_le_of_lt (by omega) a1⟩, ⟨b0, b1⟩, c0, by omega⟩ (Int.emod_nonneg _ (by omega)) (Int.emod_lt_of_pos _ hm)
  · refine ⟨_, rfl, _, _, _, _, rfl, rfl, SqL.of hp, rfl, _, _, rfl, rfl, ?_⟩
    refine ⟨_, rfl, _, _, _, _, rfl, rfl, hp, rfl, ?_⟩
    dsimp only
    have hq : (upd H p (.lst [.int a, .int b, .int (c + 1)])) p = some (.lst [.int a, .int b, .int (c + 1)]) := upd_same
    refine ⟨_, rfl, _, _, _, _, rfl, rfl, SqL.of hq, rfl, _, rfl, _, _, _, _, rfl, rfl, SqL.of hq, rfl, _, _, rfl, rfl, wide_mul (a := 64) (b := 64) (by decide) (by omega) (by decide) (by decide) (by decide), ?_⟩
    walk_at "rd"
    refine ⟨powW_of 64 (by decide) (by omega) (by decide), ?_⟩
    walk_at "rd"
    refine ⟨(by show (0 : Int) < 2305843009213693921; decide), ?_⟩
    dsimp only
    generalize (b + 98317 * (c + 1)) ^ (3 : Int).toNat = pw
    have o0 : 0 ≤ pw % 2305843009213693921 := by omega
    have o1 : pw % 2305843009213693921 < 2305843009213693921 := by omega
    generalize pw % 2305843009213693921 = one at o0 o1 ⊢
    refine ⟨_, rfl, _, rfl, _, _, _, _, rfl, rfl, SqL.of hq, rfl, _, _, rfl, rfl, (by show (0 : Int) < 65521; decide), _, _, rfl, rfl, _, rfl, _, _, _, _, rfl, rfl, SqL.of hq, rfl, _, _, rfl, rfl, wide_mul (a := 64) (b := 64) (by decide) (by omega) (by decide) (by decide) (by decide), ?_⟩
    walk_at "rd"
    refine ⟨powW_of 64 (by decide) (by omega) (by decide), ?_⟩
    walk_at "rd"
    refine ⟨(by show (0 : Int) < 2305843009213693907; decide), ?_⟩
    dsimp only
    generalize (one + b % 65521 + 37 * (c + 1)) ^ (5 : Int).toNat % 2305843009213693907 = two
    walk_at "rd"
    refine ⟨wide_div (b := 12) (by decide) (by decide) (by decide) (by decide), ?_⟩
    walk_at "rd"
    refine ⟨hm, ?_⟩
    exact q _ _ sx_upd ⟨_, _, _, upd_same, ⟨a0, a1⟩, ⟨b0, b1⟩, by omega, by omega⟩ (Int.emod_nonneg _ (by omega)) (Int.emod_lt_of_pos _ hm)
theorem ok_step (T : Txt K mg) : FnOk P w K mg base CX0 2 T.f__law_step T.d__law_step ["_law_pot_here"] spStep := by
  have g__law_take : FnOk P w K mg base CX0 1 T.f__law_take T.d__law_take ["_law_pot_here", "_law_many"] spTake := ok_take T
  refine T.F__law_step.ok sc__law_step (fun vs H Q E h => ?_) (fun cdv A outer s H vs Q E hr h => ?_)
  · obtain ⟨p, n, rfl, _⟩ := h
    rfl
  obtain ⟨p, n, rfl, hp, hn, q⟩ := h
  refine ⟨_, (pss_cons (ps_set (i := 1) sc__law_step.nd rfl (Or.inl rfl) (pe_call g__law_take (hr.mono (by omega)) rfl T.m__law_take T.F__law_take.kp T.b__law_take .nil pass0 (pa_cons (pv 0) (pa_cons pe_int pa_nil))))
      (pss_cons (ps_if (pt_cmpR op_eq (pv 1) pe_int (nomark _)) (pss_one (ps_ret pe_int)) pss_nil)
      (pss_cons (ps_if (pt_cmpR op_eq (pv 1) pe_int (nomark _)) (pss_cons (ps_set (i := 2) sc__law_step.nd rfl (Or.inl rfl) (pe_op op_add (pe_op op_mulW (pe_call g__law_take (hr.mono (by omega)) rfl T.m__law_take T.F__law_take.kp T.b__law_take .nil pass0 (pa_cons (pv 0) (pa_cons (pe_op op_powW pe_int pe_int) pa_nil))) (pe_op op_powW pe_int pe_int)) (pe_call g__law_take (hr.mono (by omega)) rfl T.m__law_take T.F__law_take.kp T.b__law_take .nil pass0 (pa_cons (pv 0) (pa_cons (pe_op op_powW pe_int pe_int) pa_nil)))))
        (pss_one (ps_ret (pe_ix (r := rIxL K) ix_list (pe_lst (pa_cons (pv 2) (pa_cons (pe_op op_sub pe_int (pv 2)) (pa_cons (pe_op op_powW pe_int pe_int) (pa_cons (pe_op op_sub pe_int (pe_op op_powW pe_int pe_int)) pa_nil))))) (pe_call g__law_take (hr.mono (by omega)) rfl T.m__law_take T.F__law_take.kp T.b__law_take .nil pass0 (pa_cons (pv 0) (pa_cons pe_int pa_nil))) (fun _ _ => rfl))))) pss_nil)
      (pss_one (ps_ret (pe_op op_sub (pe_call g__law_take (hr.mono (by omega)) rfl T.m__law_take T.F__law_take.kp T.b__law_take .nil pass0 (pa_cons (pv 0) (pa_cons pe_int pa_nil))) pe_int)))))), ?_⟩
  refine ⟨_, rfl, p, n, 14, rfl, hp, by omega, by decide, by decide, fun H1 r1 s1 hp1 h0 h1 => ?_⟩
  refine ⟨_, rfl, rfl, _, rfl, ?_⟩
  refine ite2 (fun g => ?_) (fun g => ?_)
  · exact q _ _ s1 (hp1.mono (by omega)) (by decide) (by decide)
  refine ⟨_, rfl, rfl, _, rfl, ?_⟩
  refine ite2 (fun g => ?_) (fun g => ?_)
  · refine ⟨_, rfl, _, _, rfl, rfl, powW_of 4 (by decide) (by decide) (by decide), p, n + 1, _, rfl, hp1, by omega, by decide, by decide, fun H2 r2 s2 hp2 k0 k1 => ?_⟩
    walk_at "rd"
    refine ⟨powW_of 4 (by decide) (by decide) (by decide), ?_⟩
    have k1' : r2 < 1000000000000000 := k1
    refine ⟨_, _, rfl, rfl, wide_mul (a := 64) (b := 64) (by omega) (by decide) (by decide) (by decide) (by decide), ?_⟩
    refine ⟨_, rfl, _, _, rfl, rfl, powW_of 4 (by decide) (by decide) (by decide), p, n + 2, _, rfl, hp2, by omega, by decide, by decide, fun H3 r3 s3 hp3 j0 j1 => ?_⟩
    have j1' : r3 < 1000000000000000 := j1
    walk_at "rd"
    dsimp only
    have e15 : (10 : Int) ^ (15 : Int).toNat = 1000000000000000 := by decide
    rw [e15]
    have b0 : 0 ≤ r2 * 1000000000000000 + r3 := by omega
    have b1 : r2 * 1000000000000000 + r3 < M30 := by
      show _ < (1000000000000000000000000000000 : Int)
      omega
    generalize r2 * 1000000000000000 + r3 = great at b0 b1 ⊢
    walk_at "rd"
    refine ⟨powW_of 4 (by decide) (by decide) (by decide), ?_⟩
    walk_at "rd"
    refine ⟨powW_of 4 (by decide) (by decide) (by decide), ?_⟩
    walk_at "rd"
    have e30 : (10 : Int) ^ (30 : Int).toNat = M30 := by decide
    dsimp only
    rw [e30]
    refine ⟨(by show 4 ≤ sizeLine; decide), fun l hl => ?_⟩
    have hp4 := hp3.same (same_new (o := .lst [.int great, .int (0 - great), .int M30, .int (0 - M30)]) hl)
    refine ⟨_, rfl, p, n + 3, _, rfl, hp4, by omega, by decide, by decide, fun H4 r4 s4 hp5 i0 i1 => ?_⟩
    obtain ⟨z, hz, ez⟩ := atI_int (ns := [great, 0 - great, M30, 0 - M30]) i0 i1
    obtain ⟨lp, hlp⟩ := hp3.lst
    have nlp : l ≠ p := fun e => by rw [e, hlp] at hl; cases hl
    refine ⟨_, _, _, _, rfl, rfl, SqL.of (s4 l _ nlp upd_same), ez, ?_⟩
    refine q _ _ (s1.trans (s2.trans (s3.trans ((sx_new hl).trans s4)))) hp5 ?_ ?_
    · simp only [List.mem_cons, List.not_mem_nil, or_false] at hz
      rcases hz with rfl | rfl | rfl | rfl <;> (try simp only [M30] at *) <;> omega
    · simp only [List.mem_cons, List.not_mem_nil, or_false] at hz
      rcases hz with rfl | rfl | rfl | rfl <;> (try simp only [M30] at *) <;> omega
  · refine ⟨_, rfl, p, n + 1, _, rfl, hp1, by omega, by decide, by decide, fun H2 r2 s2 hp2 k0 k1 => ?_⟩
    walk_at "rd"
    refine q _ _ (s1.trans s2) (hp2.mono (by omega)) ?_ ?_
    · show -(1000000000000000000000000000000 : Int) ≤ _
      omega
    · show _ ≤ (1000000000000000000000000000000 : Int)
      omega
end
/-! block Job: _law_job, the drawn jobs -/
def TB : Nat → Nat
  | 0 => 20
  | n + 1 => 20 + 3 * TB n
def NB : Nat → Int
  | 0 => 1
  | 1 => 1
  | 2 => 5
  | n + 3 => 1 + 3 * NB (n + 2)
mutual
/-- all numbers in bounds, few parts -/
def J.small : J → Prop
  | .st i => -M30 ≤ i ∧ i ≤ M30
  | .ps _ xs => xs.length ≤ 4 ∧ J.smallL xs
  | .rn _ n x => (0 ≤ n ∧ n ≤ M30) ∧ x.small
def J.smallL : List J → Prop
  | [] => True
  | x :: xs => x.small ∧ J.smallL xs
end
mutual
/-- all numbers of rounds and copies are among these -/
def J.cin (cs : List Int) : J → Prop
  | .st _ => True
  | .ps _ xs => J.cinL cs xs
  | .rn _ n x => n ∈ cs ∧ J.cin cs x
def J.cinL (cs : List Int) : List J → Prop
  | [] => True
  | x :: xs => J.cin cs x ∧ J.cinL cs xs
end
theorem J.cinL_app (cs : List Int) : ∀ xs ys : List J, J.cinL cs (xs ++ ys) ↔ J.cinL cs xs ∧ J.cinL cs ys
  | [], ys => by simp [J.cinL]
  | x :: xs, ys => by simp only [List.cons_append, J.cinL, J.cinL_app cs xs ys, and_assoc]
structure GenOk (cs : List Int) (n : Nat) (j : J) : Prop where
  cin : j.cin cs
  deep : j.deep ≤ max n 1
  nodes : j.nodes ≤ NB n
  small : j.small
structure GensOk (cs : List Int) (n : Nat) (js : List J) : Prop where
  cin : J.cinL cs js
  deep : J.deepL js ≤ max n 1
  nodes : J.nodesL js ≤ js.length * NB n
  small : J.smallL js
theorem NB_pos : ∀ n, 1 ≤ NB n
  | 0 => by decide
  | 1 => by decide
  | 2 => by decide
  | n + 3 => by
    have := NB_pos (n + 2)
    simp only [NB]
    omega
theorem J.deepL_app : ∀ xs ys : List J, J.deepL (xs ++ ys) = max (J.deepL xs) (J.deepL ys)
  | [], ys => by simp [J.deepL]
  | x :: xs, ys => by simp only [List.cons_append, J.deepL, J.deepL_app xs ys]; omega
theorem J.nodesL_app : ∀ xs ys : List J, J.nodesL (xs ++ ys) = J.nodesL xs + J.nodesL ys
  | [], ys => by simp [J.nodesL]
  | x :: xs, ys => by simp only [List.cons_append, J.nodesL, J.nodesL_app xs ys]; omega
theorem J.smallL_app : ∀ xs ys : List J, J.smallL (xs ++ ys) ↔ J.smallL xs ∧ J.smallL ys
  | [], ys => by simp [J.smallL]
  | x :: xs, ys => by simp only [List.cons_append, J.smallL, J.smallL_app xs ys, and_assoc]
theorem J.toDs_app : ∀ xs ys : List J, J.toDs (xs ++ ys) = J.toDs xs ++ J.toDs ys
  | [], ys => by simp [J.toDs]
  | x :: xs, ys => by simp only [List.cons_append, J.toDs, J.toDs_app xs ys]
theorem GensOk.nil {cs : List Int} {n : Nat} : GensOk cs n [] := ⟨trivial, by simp [J.deepL], by simp [J.nodesL], trivial⟩
theorem GensOk.snoc {cs : List Int} {n : Nat} {js : List J} {j : J} (h : GensOk cs n js) (g : GenOk cs n j) : GensOk cs n (js ++ [j]) := by
  refine ⟨(J.cinL_app _ _ _).mpr ⟨h.cin, g.cin, trivial⟩, ?_, ?_, ?_⟩
  · rw [J.deepL_app]
    have := h.deep
    have := g.deep
    simp only [J.deepL]
    omega
  · rw [J.nodesL_app, List.length_append, List.length_singleton]
    have h1 := h.nodes
    have h2 := g.nodes
    simp only [J.nodesL]
    have e : (((js.length + 1 : Nat) : Int)) * NB n = js.length * NB n + NB n := by
      rw [Int.natCast_add, Int.add_mul]
      simp
    rw [e]
    omega
  · rw [J.smallL_app]
    exact ⟨h.small, g.small, trivial⟩
theorem GenOk.step {cs : List Int} {n : Nat} {i : Int} (h1 : -M30 ≤ i) (h2 : i ≤ M30) : GenOk cs n (.st i) := by
  refine ⟨trivial, ?_, ?_, ?_⟩
  · simp only [J.deep]
    omega
  · simp only [J.nodes]
    exact NB_pos n
  · simp only [J.small]
    exact ⟨h1, h2⟩
/-- up to four steps in a row -/
theorem GenOk.row {cs : List Int} {n : Nat} {js : List J} (h : GensOk cs 1 js) (hl : js.length ≤ 4) : GenOk cs (n + 2) (.ps false js) := by
  have h1 := h.deep
  have h2 := h.nodes
  refine ⟨h.cin, ?_, ?_, ?_⟩
  · simp only [J.deep]
    omega
  · simp only [J.nodes]
    have e : NB 1 = 1 := rfl
    rw [e] at h2
    have : 5 ≤ NB (n + 2) := by
      cases n with
      | zero => decide
      | succ n =>
        have : ∀ n, 5 ≤ NB (n + 2) := by
          intro n
          induction n with
          | zero => decide
          | succ n ih => simp only [NB] at *; omega
        exact this _
    omega
  · simp only [J.small]
    exact ⟨hl, h.small⟩
theorem GenOk.parts {cs : List Int} {n : Nat} {k : Bool} {js : List J} (h : GensOk cs (n + 1) js) (hl : js.length ≤ 3) : GenOk cs (n + 2) (.ps k js) := by
  have h1 := h.deep
  have h2 := h.nodes
  refine ⟨h.cin, ?_, ?_, ?_⟩
  · simp only [J.deep]
    omega
  · simp only [J.nodes]
    have p := NB_pos (n + 1)
    have b : (js.length : Int) * NB (n + 1) ≤ 3 * NB (n + 1) := Int.mul_le_mul_of_nonneg_right (by omega) (by omega)
    cases n with
    | zero => simp only [NB] at *; omega
    | succ n =>
      have e : NB (n + 1 + 1) = NB (n + 2) := rfl
      rw [e] at *
      simp only [NB]
      omega
  · simp only [J.small]
    exact ⟨by omega, h.small⟩
theorem GenOk.rounds {cs : List Int} {n : Nat} {k : Bool} {c : Int} {x : J} (h : GenOk cs (n + 1) x) (h0 : 0 ≤ c) (h1 : c ≤ M30) (hc : c ∈ cs) : GenOk cs (n + 2) (.rn k c x) := by
  have h2 := h.deep
  have h3 := h.nodes
  refine ⟨⟨hc, h.cin⟩, ?_, ?_, ?_⟩
  · simp only [J.deep]
    omega
  · simp only [J.nodes]
    have p := NB_pos (n + 1)
    cases n with
    | zero => simp only [NB] at *; omega
    | succ n =>
      have e : NB (n + 1 + 1) = NB (n + 2) := rfl
      rw [e] at *
      simp only [NB]
      omega
  · simp only [J.small]
    exact ⟨⟨h0, h1⟩, h.small⟩
theorem pick2 {r : Int} (f : Bool → Str) (h0 : 0 ≤ r) (h1 : r < 2) : ∃ b : Bool, atI [V.str (f false), V.str (f true)] r = some (.str (f b)) := by
  have : r = 0 ∨ r = 1 := by omega
  rcases this with rfl | rfl
  · exact ⟨false, rfl⟩
  · exact ⟨true, rfl⟩
theorem dp_ps {K : PySem.W.Frag} {H : Hp} {t : Addr} {k : Bool} {v : V} {js : List J} (h : H t = some (.tup [.str (kwP k), v])) (d : Dp K H v (.tuple (J.toDs js))) : Dp K H (.ref t) (J.ps k js).toD := by
  rw [J.toD]
  exact .tup (.inl (.inl h)) (.cons (.str _) (.cons d .nil))
theorem dp_rn {K : PySem.W.Frag} {H : Hp} {t : Addr} {k : Bool} {n : Int} {v : V} {j : J} (h : H t = some (.tup [.str (kwR k), .int n, v])) (d : Dp K H v j.toD) : Dp K H (.ref t) (J.rn k n j).toD := by
  rw [J.toD]
  exact .tup (.inl (.inl h)) (.cons (.str _) (.cons (.int _) (.cons d .nil)))
def spJob (K : PySem.W.Frag) (n : Nat) : Sp := fun vs H Q _ => ∃ (p a : Addr) (m : Nat) (cs : List Int), vs = [.ref p, .int (n : Int), .ref a] ∧ Pot H p m ∧ m + TB n ≤ 1099511627776 ∧ H a = some (.lst (cs.map V.int)) ∧ a ≠ p ∧
  0 < cs.length ∧ cs.length ≤ 100 ∧ (∀ c ∈ cs, 0 ≤ c ∧ c ≤ M30) ∧
  ∀ (H' : Hp) (r : V) (j : J), Sx p H H' → Pot H' p (m + TB n) → Dp K H' r j.toD → GenOk cs n j → Q r H'
section
variable {P : Program} {w : World} {K : PySem.W.Frag} {mg : Str → Option Value} {base : Heap}
/-- the list that a comprehension fills beside a pot: what its turns keep -/
structure Row (K : PySem.W.Frag) (cs : List Int) (H0 : Hp) (p D : Addr) (n m : Nat) (js : List J) (H : Hp) : Prop where
  sx : Sx p H0 H
  pot : Pot H p m
  gen : GensOk cs n js
  lst : ∃ vs, H D = some (.lst vs) ∧ DpAll K H vs (J.toDs js)
theorem Row.snoc {cs : List Int} {H0 H H' : Hp} {p D : Addr} {n m m' : Nat} {js : List J} {r : V} {j : J} (R : Row K cs H0 p D n m js H) (d0 : H0 D = none) (nDp : D ≠ p) (s : Sx p H H') (hp : Pot H' p m') (hd : Dp K H' r j.toD) (g : GenOk cs n j) :
    ∃ acc, H' D = some (.lst acc) ∧ acc.length = js.length ∧ Row K cs H0 p D n m' (js ++ [j]) (upd H' D (.lst (acc ++ [r]))) := by
  obtain ⟨vs, h1, h2⟩ := R.lst
  obtain ⟨l, hl⟩ := R.pot.lst
  have h3 : H' D = some (.lst vs) := s D _ nDp h1
  refine ⟨vs, h3, ?_, ?_, ?_, R.gen.snoc g, _, upd_same, ?_⟩
  · rw [dpAll_length h2, J.toDs_eq, List.length_map]
  · intro b o nb hb
    have nbD : b ≠ D := fun e => by rw [e, d0] at hb; cases hb
    rw [upd_ne nbD]
    exact s b o nb (R.sx b o nb hb)
  · obtain ⟨a, b, c, z1, z2⟩ := hp
    exact ⟨a, b, c, by rw [upd_ne nDp.symm]; exact z1, z2⟩
  · have k1 : ∀ a xs, SqT K H a xs → SqT K H' a xs := fun a xs z => s.sqT hl z
    have k2 : ∀ a xs, SqT K H' a xs → SqT K (upd H' D (.lst (vs ++ [r]))) a xs := fun a xs z => (sx_upd (p := D)).sqT h3 z
    rw [J.toDs_app]
    exact dpAll_append (dpAll_keep k2 (J.noLs _) (dpAll_keep k1 (J.noLs _) h2)) (dpAll_one (dp_keep k2 j.noL hd))
/-- the jobs drawn with a smaller depth than n -/
def spJobs (K : PySem.W.Frag) (n : Nat) : Sp := fun vs H Q E => ∃ d, d < n ∧ spJob K d vs H Q E
theorem ok_job_next (T : Txt K mg) {n : Nat} (g__law_job : FnOk P w K mg base CX0 (n + 2) T.f__law_job T.d__law_job ["_law_pot_here", "_law_deep", "_law_counts"] (spJobs K n)) :
    FnOk P w K mg base CX0 (n + 3) T.f__law_job T.d__law_job ["_law_pot_here", "_law_deep", "_law_counts"] (spJobs K (n + 1)) := by
  have g__law_take : FnOk P w K mg base CX0 1 T.f__law_take T.d__law_take ["_law_pot_here", "_law_many"] spTake := ok_take T
  have g__law_step : FnOk P w K mg base CX0 2 T.f__law_step T.d__law_step ["_law_pot_here"] spStep := ok_step T
  refine T.F__law_job.ok sc__law_job (fun vs H Q E h => ?_) (fun cdv A outer s H vs Q E hr h => ?_)
  · obtain ⟨d, _, p, a, m, cs, rfl, _⟩ := h
    rfl
  obtain ⟨d, hd, p, a, m, cs, rfl, hp, hm, ha, nap, c0, c1, hcs, q⟩ := h
  refine ⟨_, (pss_cons (ps_set (i := 3) sc__law_job.nd rfl (Or.inl rfl) (pe_call g__law_take (hr.mono (by omega)) rfl T.m__law_take T.F__law_take.kp T.b__law_take .nil pass0 (pa_cons (pv 0) (pa_cons pe_int pa_nil))))
      (pss_cons (ps_if (PW.pt (pw_or (pt_cmpR op_lt (pv 1) pe_int (nomark _)) (pw_or1 (pt_cmpR op_eq (pv 3) pe_int (nomark _))))) (pss_one (ps_ret (pe_call g__law_step (hr.mono (by omega)) rfl T.m__law_step T.F__law_step.kp T.b__law_step .nil pass0 (pa_cons (pv 0) pa_nil)))) pss_nil)
      (pss_cons (ps_if (pt_cmpR op_lt (pv 3) pe_int (nomark _)) (pss_cons (ps_set (i := 4) sc__law_job.nd rfl (Or.inl rfl) (pe_ix (r := rIxL K) ix_list (pe_lst (pa_cons pe_int (pa_cons pe_int (pa_cons pe_int (pa_cons pe_int pa_nil))))) (pe_call g__law_take (hr.mono (by omega)) rfl T.m__law_take T.F__law_take.kp T.b__law_take .nil pass0 (pa_cons (pv 0) (pa_cons pe_int pa_nil))) (fun _ _ => rfl)))
        (pss_one (ps_ret (pe_tup (pa_cons pe_str (pa_cons (pe_callTy (r := rTupS K) call_tupS (by rfl) T.n_tuple (by decide +kernel) (pa_cons (pe_lc (own := [("_law_turn", 5)]) (g := (gName 5)) (by rfl) sc__law_job.nd (pi_range1 rfl T.n_range (pa_cons (pv 4) pa_nil)) (blkOk_by (N := N__law_job) (sc := (defScope s__law_job)) (by decide +kernel)) (fun _ _ _ _ _ => (pg_name (i := 5) sc__law_job.nd rfl (Or.inl rfl))) (fun _ _ _ _ _ => pts_nil) (fun _ _ _ _ _ => (pe_call g__law_step (hr.mono (by omega)) rfl T.m__law_step T.F__law_step.kp T.b__law_step .nil pass0 (pa_cons (pv 0) pa_nil)))) pa_nil)) pa_nil)))))) pss_nil)
      (pss_cons (ps_if (pt_cmpR op_lt (pv 3) pe_int (nomark _)) (pss_cons (ps_set (i := 4) sc__law_job.nd rfl (Or.inl rfl) (pe_ix (r := rIxL K) ix_list (pe_lst (pa_cons pe_int (pa_cons pe_int (pa_cons pe_int (pa_cons pe_int (pa_cons pe_int (pa_cons pe_int pa_nil))))))) (pe_call g__law_take (hr.mono (by omega)) rfl T.m__law_take T.F__law_take.kp T.b__law_take .nil pass0 (pa_cons (pv 0) (pa_cons pe_int pa_nil))) (fun _ _ => rfl)))
        (pss_one (ps_ret (pe_tup (pa_cons (pe_ix (r := rIxL K) ix_list (pe_lst (pa_cons pe_str (pa_cons pe_str pa_nil))) (pe_op op_mod (pv 3) pe_int) (fun _ _ => rfl)) (pa_cons (pe_callTy (r := rTupS K) call_tupS (by rfl) T.n_tuple (by decide +kernel) (pa_cons (pe_lc (own := [("_law_turn", 5)]) (g := (gName 5)) (by rfl) sc__law_job.nd (pi_range1 rfl T.n_range (pa_cons (pv 4) pa_nil)) (blkOk_by (N := N__law_job) (sc := (defScope s__law_job)) (by decide +kernel)) (fun _ _ _ _ _ => (pg_name (i := 5) sc__law_job.nd rfl (Or.inl rfl))) (fun _ _ _ _ _ => pts_nil) (fun _ _ _ _ _ => (pe_call g__law_job (hr.mono (by omega)) rfl T.m__law_job T.F__law_job.kp T.b__law_job .nil pass0 (pa_cons (pv 0) (pa_cons (pe_op op_sub (pv 1) pe_int) (pa_cons (pv 2) pa_nil)))))) pa_nil)) pa_nil)))))) pss_nil)
      (pss_one (ps_ret (pe_tup (pa_cons (pe_ix (r := rIxL K) ix_list (pe_lst (pa_cons pe_str (pa_cons pe_str pa_nil))) (pe_op op_mod (pv 3) pe_int) (fun _ _ => rfl)) (pa_cons (pe_ix (r := rIxL K) ix_list (pv 2) (pe_call g__law_take (hr.mono (by omega)) rfl T.m__law_take T.F__law_take.kp T.b__law_take .nil pass0 (pa_cons (pv 0) (pa_cons (pe_callB (r := rLenS K) call_lenS (by rfl) T.n_len (by decide +kernel) (pa_cons (pv 2) pa_nil)) pa_nil))) (fun _ _ => rfl)) (pa_cons (pe_call g__law_job (hr.mono (by omega)) rfl T.m__law_job T.F__law_job.kp T.b__law_job .nil pass0 (pa_cons (pv 0) (pa_cons (pe_op op_sub (pv 1) pe_int) (pa_cons (pv 2) pa_nil)))) pa_nil)))))))))), ?_⟩
  have tb : 20 ≤ TB d := by cases d <;> simp only [TB] <;> omega
  refine ⟨_, rfl, p, m, 9, rfl, hp, by omega, by decide, by decide, fun H1 r1 s1 hp1 h0 h1 => ?_⟩
  have ha1 := s1 a _ nap ha
  refine ⟨_, rfl, _, _, rfl, rfl, _, rfl, ?_⟩
  -- one step
  have one : ∀ (R : V → Hp → Prop), R = Q → spStep [.ref p] H1 R E0 := by
    rintro R rfl
    exact ⟨p, m + 1, rfl, hp1, by omega, fun H2 r2 s2 hp2 k0 k1 => q _ _ (.st r2) (s1.trans s2) (hp2.mono (by omega)) (.int _) (.step k0 k1)⟩
  refine ite2 (fun g => ?_) (fun g => ?_)
  · refine iteT ⟨_, rfl, ?_⟩
    exact one _ rfl
  have d2 : 2 ≤ d := by
    have g' : ¬ ((d : Int) < 2) := fun z => g (decide_eq_true z)
    omega
  obtain ⟨e, rfl⟩ : ∃ e, d = e + 2 := ⟨d - 2, by omega⟩
  refine ⟨_, rfl, rfl, _, rfl, ?_⟩
  refine ite2 (fun g => ?_) (fun g => ?_)
  · refine ⟨_, rfl, ?_⟩
    exact one _ rfl
  refine ⟨_, rfl, _, _, rfl, rfl, _, rfl, ?_⟩
  have etb : TB (e + 2) = 20 + 3 * TB (e + 1) := rfl
  have tb1 : 20 ≤ TB (e + 1) := by simp only [TB]; omega
  refine ite2 (fun g => ?_) (fun g => ?_)
  · -- a row of steps
    refine ⟨(by show 4 ≤ sizeLine; decide), fun l hl => ?_⟩
    obtain ⟨lp, hlp⟩ := hp1.lst
    have nlp : l ≠ p := fun z => by rw [z, hlp] at hl; cases hl
    refine ⟨_, rfl, p, m + 1, _, rfl, hp1.same (same_new hl), by omega, by decide, by decide, fun H2 r2 s2 hp2 k0 k1 => ?_⟩
    obtain ⟨z, hz, ez⟩ := atI_int (ns := [3, 2, 4, 0]) k0 k1
    have hz4 : 0 ≤ z ∧ z ≤ 4 := by
      simp only [List.mem_cons, List.not_mem_nil, or_false] at hz
      omega
    refine ⟨_, _, _, _, rfl, rfl, SqL.of (s2 l _ nlp upd_same), ez, ?_⟩
    have s02 : Sx p H H2 := s1.trans ((sx_new hl).trans s2)
    have h2n : m + 1 + 1 + 4 * z.toNat ≤ m + TB (e + 2) := by omega
    refine ⟨_, rfl, z, rfl, by omega, by omega, fun D hD => ?_⟩
    have nDp : D ≠ p := fun y => by
      obtain ⟨_, y2⟩ := hp2.lst
      rw [y, y2] at hD
      cases hD
    refine lc_range (lo := 0) (n := z.toNat) (fun i H' => ∃ js, js.length = i ∧ Row K cs H2 p D 1 (m + 1 + 1 + 4 * i) js H') ?_ ?_ ?_
    · exact ⟨[], rfl, fun b o nb hb => by rw [upd_ne (ne_of_none hb hD)]; exact hb, (hp2.same (same_new hD)), .nil, [], upd_same, .nil⟩
    · rintro i H' hi ⟨js, ejs, R⟩
      refine ⟨rfl, ?_⟩
      unfold tYes
      refine iteT ?_
      refine ⟨_, rfl, p, m + 1 + 1 + 4 * i, rfl, R.pot, by omega, fun H4 r4 s4 hp4 j0 j1 => ?_⟩
      obtain ⟨acc, x1, x2, x3⟩ := R.snoc hD nDp s4 hp4 (.int _) (GenOk.step (cs := cs) (n := 1) j0 j1)
      exact ⟨acc, x1, small1000 (by omega), _, by rw [List.length_append, List.length_singleton, ejs], x3⟩
    · rintro H' ⟨js, ejs, R⟩
      obtain ⟨vs, y1, y2⟩ := R.lst
      refine ⟨D, vs, rfl, .inl ⟨SqL.of y1, fun t ht => ?_⟩⟩
      refine ⟨(by show 2 ≤ sizeLine; decide), fun u hu => ?_⟩
      have st : Same H' (upd (upd H' t (.tup vs)) u (.tup [.str "seq", .ref t])) := (same_new ht).trans (same_new hu)
      refine q _ _ (.ps false js) (s02.trans (R.sx.trans (Same.sx st))) ((R.pot.same st).mono (by omega)) ?_ (GenOk.row R.gen (by omega))
      refine dp_ps (k := false) (v := .ref t) upd_same (.tup (.inl (.inl ?_)) (dpAll_same st y2))
      exact same_new hu _ _ upd_same
  refine ⟨_, rfl, _, _, rfl, rfl, _, rfl, ?_⟩
  refine ite2 (fun g => ?_) (fun g => ?_)
  · -- parts
    refine ⟨(by show 6 ≤ sizeLine; decide), fun l hl => ?_⟩
    obtain ⟨lp, hlp⟩ := hp1.lst
    have nlp : l ≠ p := fun z => by rw [z, hlp] at hl; cases hl
    refine ⟨_, rfl, p, m + 1, _, rfl, hp1.same (same_new hl), by omega, by decide, by decide, fun H2 r2 s2 hp2 k0 k1 => ?_⟩
    obtain ⟨z, hz, ez⟩ := atI_int (ns := [2, 3, 2, 1, 3, 0]) k0 k1
    have hz4 : 0 ≤ z ∧ z ≤ 3 := by
      simp only [List.mem_cons, List.not_mem_nil, or_false] at hz
      omega
    refine ⟨_, _, _, _, rfl, rfl, SqL.of (s2 l _ nlp upd_same), ez, ?_⟩
    have s02 : Sx p H H2 := s1.trans ((sx_new hl).trans s2)
    -- the kind
    refine ⟨(by show 2 ≤ sizeLine; decide), fun l2 hl2 => ?_⟩
    obtain ⟨lp2, hlp2⟩ := hp2.lst
    refine ⟨_, rfl, _, _, rfl, rfl, (by show (0 : Int) < 2; decide), ?_⟩
    obtain ⟨kb, ekb⟩ := pick2 kwP (r := r1 % 2) (by omega) (by omega)
    refine ⟨_, _, _, _, rfl, rfl, SqL.of upd_same, ekb, ?_⟩
    have s03 : Sx p H (upd H2 l2 (.lst [.str "seq", .str "par"])) := s02.trans (sx_new hl2)
    have hp3 := hp2.same (same_new (o := .lst [.str "seq", .str "par"]) hl2)
    generalize (upd H2 l2 (.lst [.str "seq", .str "par"])) = H3 at s03 hp3 ⊢
    refine ⟨_, rfl, z, rfl, by omega, by omega, fun D hD => ?_⟩
    have nDp : D ≠ p := fun y => by
      obtain ⟨_, y2⟩ := hp3.lst
      rw [y, y2] at hD
      cases hD
    refine lc_range (lo := 0) (n := z.toNat) (fun i H' => ∃ js, js.length = i ∧ Row K cs H3 p D (e + 1) (m + 1 + 1 + TB (e + 1) * i) js H') ?_ ?_ ?_
    · exact ⟨[], rfl, fun b o nb hb => by rw [upd_ne (ne_of_none hb hD)]; exact hb, (hp3.same (same_new hD)), .nil, [], upd_same, .nil⟩
    · rintro i H' hi ⟨js, ejs, R⟩
      have hi3 : i ≤ 2 := by omega
      have hmul : TB (e + 1) * i ≤ TB (e + 1) * 2 := Nat.mul_le_mul_left _ hi3
      have hmul2 : TB (e + 1) * (i + 1) = TB (e + 1) * i + TB (e + 1) := Nat.mul_succ _ _
      refine ⟨rfl, ?_⟩
      unfold tYes
      refine iteT ?_
      refine ⟨_, rfl, _, rfl, _, _, rfl, rfl, _, rfl, e + 1, by omega, p, a, m + 1 + 1 + TB (e + 1) * i, cs, ?_, R.pot, by omega, R.sx a _ nap (s03 a _ nap ha), nap, c0, c1, hcs, fun H4 r4 j4 s4 hp4 d4 g4 => ?_⟩
      · have ee : ((e + 2 : Nat) : Int) - 1 = ((e + 1 : Nat) : Int) := by omega
        rw [← ee]
        rfl
      obtain ⟨acc, x1, x2, x3⟩ := R.snoc hD nDp s4 hp4 d4 g4
      rw [Nat.add_assoc _ (TB (e + 1) * i), ← hmul2] at x3
      exact ⟨acc, x1, small1000 (by omega), _, by rw [List.length_append, List.length_singleton, ejs], x3⟩
    · rintro H' ⟨js, ejs, R⟩
      obtain ⟨vs, y1, y2⟩ := R.lst
      refine ⟨D, vs, rfl, .inl ⟨SqL.of y1, fun t ht => ?_⟩⟩
      refine ⟨(by show 2 ≤ sizeLine; decide), fun u hu => ?_⟩
      have st : Same H' (upd (upd H' t (.tup vs)) u (.tup [.str (kwP kb), .ref t])) := (same_new ht).trans (same_new hu)
      have hz3 : z.toNat ≤ 3 := by omega
      have hmul : TB (e + 1) * z.toNat ≤ TB (e + 1) * 3 := Nat.mul_le_mul_left _ hz3
      refine q _ _ (.ps kb js) (s03.trans (R.sx.trans (Same.sx st))) ((R.pot.same st).mono (by omega)) ?_ (GenOk.parts R.gen (by omega))
      refine dp_ps (k := kb) (v := .ref t) upd_same (.tup (.inl (.inl ?_)) (dpAll_same st y2))
      exact same_new hu _ _ upd_same
  -- rounds, copies
  refine ⟨(by show 2 ≤ sizeLine; decide), fun l hl => ?_⟩
  refine ⟨_, rfl, _, _, rfl, rfl, (by show (0 : Int) < 2; decide), ?_⟩
  obtain ⟨kb, ekb⟩ := pick2 kwR (r := r1 % 2) (by omega) (by omega)
  refine ⟨_, _, _, _, rfl, rfl, SqL.of upd_same, ekb, ?_⟩
  have s02 : Sx p H (upd H1 l (.lst [.str "repeat", .str "copies"])) := s1.trans (sx_new hl)
  have hp2 := hp1.same (same_new (o := .lst [.str "repeat", .str "copies"]) hl)
  generalize (upd H1 l (.lst [.str "repeat", .str "copies"])) = H2 at s02 hp2 ⊢
  have ha2 := s02 a _ nap ha
  refine ⟨_, rfl, _, rfl, _, rfl, a, _, rfl, .inl (SqL.of ha2), p, m + 1, _, rfl, hp2, by omega, ?_, ?_, fun H3 r3 s3 hp3 k0 k1 => ?_⟩
  · show (0 : Int) < ((cs.map V.int).length : Int)
    rw [List.length_map]
    omega
  · show (((cs.map V.int).length : Int)).natAbs < 2 ^ 200
    rw [List.length_map]
    exact Nat.lt_of_le_of_lt (show ((cs.length : Int)).natAbs ≤ 100 by omega) (by decide)
  rw [List.length_map] at k1
  obtain ⟨z, hz, ez⟩ := atI_int (ns := cs) k0 k1
  have ha3 := s3 a _ nap ha2
  refine ⟨_, _, _, _, rfl, rfl, SqL.of ha3, ez, ?_⟩
  refine ⟨_, rfl, _, rfl, _, _, rfl, rfl, _, rfl, e + 1, by omega, p, a, m + 1 + 1, cs, ?_, hp3, by omega, ha3, nap, c0, c1, hcs, fun H4 r4 j4 s4 hp4 d4 g4 => ?_⟩
  · have ee : ((e + 2 : Nat) : Int) - 1 = ((e + 1 : Nat) : Int) := by omega
    rw [← ee]
    rfl
  refine ⟨(by show 3 ≤ sizeLine; decide), fun u hu => ?_⟩
  have st : Same H4 (upd H4 u (.tup [.str (kwR kb), .int z, r4])) := same_new hu
  have hcz := hcs z hz
  exact q _ _ (.rn kb z j4) (s02.trans (s3.trans (s4.trans (Same.sx st)))) ((hp4.same st).mono (by omega)) (dp_rn upd_same (dp_same st d4)) (GenOk.rounds g4 hcz.1 hcz.2 hz)
theorem ok_jobs (T : Txt K mg) : ∀ n : Nat, FnOk P w K mg base CX0 (n + 2) T.f__law_job T.d__law_job ["_law_pot_here", "_law_deep", "_law_counts"] (spJobs K n)
  | 0 => ⟨fun vs H Q E h => (nomatch h.choose_spec.1), fun A outer s H args us vs Q E _ _ _ _ h => (nomatch h.choose_spec.1)⟩
  | n + 1 => ok_job_next T (ok_jobs T n)
theorem ok_job (T : Txt K mg) (n : Nat) : FnOk P w K mg base CX0 (n + 3) T.f__law_job T.d__law_job ["_law_pot_here", "_law_deep", "_law_counts"] (spJob K n) :=
  (ok_jobs T (n + 1)).imp fun vs H Q E h => ⟨n, Nat.lt_succ_self n, h⟩
end
/-! block Count: node_count, step_count, is_empty -/
def spNodeC (K : PySem.W.Frag) : Sp := fun vs H Q _ => ∃ (v : V) (j : J) (a b : Int), vs = [v] ∧ Dp K H v j.toD ∧ j.deep ≤ 20 ∧ szJ j 400 13 = some (a, b) ∧ ∀ H', Same H H' → Q (.int a) H'
def spStepC (K : PySem.W.Frag) : Sp := fun vs H Q _ => ∃ (v : V) (j : J) (a b : Int), vs = [v] ∧ Dp K H v j.toD ∧ j.deep ≤ 20 ∧ szJ j 400 13 = some (a, b) ∧ ∀ H', Same H H' → Q (.int b) H'
def spEmpty (K : PySem.W.Frag) : Sp := fun vs H Q _ => ∃ (v : V) (j : J) (a b : Int), vs = [v] ∧ Dp K H v j.toD ∧ j.deep ≤ 20 ∧ szJ j 400 13 = some (a, b) ∧ ∀ H', Same H H' → Q (.bl (decide (b = 0))) H'
section
variable {P : Program} {w : World} {K : PySem.W.Frag} {mg : Str → Option Value} {base : Heap}
theorem ok_nodeC (T : Txt K mg) : FnOk P w K mg base CX0 44 T.f_node_count T.d_node_count ["job"] (spNodeC K) := by
  have g_checked_sizes := ok_checked (P := P) (w := w) (base := base) T
  refine T.F_node_count.ok sc_node_count (fun vs H Q E h => ?_) (fun cdv A outer s H vs Q E hr h => ?_)
  · obtain ⟨v, j, a, b, rfl, _⟩ := h
    rfl
  obtain ⟨v, j, a, b, rfl, hd, hn, ez, q⟩ := h
  refine ⟨_, (pss_one (ps_ret (pe_ix (r := rIxT K) ix_tup (pe_call g_checked_sizes (hr.mono (by omega)) rfl T.m_checked_sizes T.F_checked_sizes.kp T.b_checked_sizes .nil pass0 (pa_cons (pv 0) pa_nil)) pe_int (fun _ _ => rfl)))), ?_⟩
  refine ⟨_, rfl, v, j, a, b, rfl, hd, hn, ez, fun H2 t s2 ht => ?_⟩
  exact ⟨_, _, _, _, rfl, rfl, SqT.of ht, rfl, q _ s2⟩
theorem ok_stepC (T : Txt K mg) : FnOk P w K mg base CX0 44 T.f_step_count T.d_step_count ["job"] (spStepC K) := by
  have g_checked_sizes := ok_checked (P := P) (w := w) (base := base) T
  refine T.F_step_count.ok sc_step_count (fun vs H Q E h => ?_) (fun cdv A outer s H vs Q E hr h => ?_)
  · obtain ⟨v, j, a, b, rfl, _⟩ := h
    rfl
  obtain ⟨v, j, a, b, rfl, hd, hn, ez, q⟩ := h
  refine ⟨_, (pss_one (ps_ret (pe_ix (r := rIxT K) ix_tup (pe_call g_checked_sizes (hr.mono (by omega)) rfl T.m_checked_sizes T.F_checked_sizes.kp T.b_checked_sizes .nil pass0 (pa_cons (pv 0) pa_nil)) pe_int (fun _ _ => rfl)))), ?_⟩
  refine ⟨_, rfl, v, j, a, b, rfl, hd, hn, ez, fun H2 t s2 ht => ?_⟩
  exact ⟨_, _, _, _, rfl, rfl, SqT.of ht, rfl, q _ s2⟩
theorem dec_int_iff {a b : Int} : decide (V.int a = V.int b) = decide (a = b) := by
  by_cases h : a = b
  · subst h
    simp
  · rw [decide_eq_false h, decide_eq_false (fun z => h (V.int.inj z))]
theorem ok_empty (T : Txt K mg) : FnOk P w K mg base CX0 44 T.f_is_empty T.d_is_empty ["job"] (spEmpty K) := by
  have g_checked_sizes := ok_checked (P := P) (w := w) (base := base) T
  refine T.F_is_empty.ok sc_is_empty (fun vs H Q E h => ?_) (fun cdv A outer s H vs Q E hr h => ?_)
  · obtain ⟨v, j, a, b, rfl, _⟩ := h
    rfl
  obtain ⟨v, j, a, b, rfl, hd, hn, ez, q⟩ := h
  refine ⟨_, (pss_one (ps_ret (pe_cmpR op_eq (pe_ix (r := rIxT K) ix_tup (pe_call g_checked_sizes (hr.mono (by omega)) rfl T.m_checked_sizes T.F_checked_sizes.kp T.b_checked_sizes .nil pass0 (pa_cons (pv 0) pa_nil)) pe_int (fun _ _ => rfl)) pe_int (nomark _)))), ?_⟩
  refine ⟨_, rfl, v, j, a, b, rfl, hd, hn, ez, fun H2 t s2 ht => ?_⟩
  refine ⟨_, _, _, _, rfl, rfl, SqT.of ht, rfl, rfl, ?_⟩
  rw [dec_int_iff]
  exact q _ s2
end
/-! block Steps: _law_steps -/
theorem ls_ok {j : J} (h : j.ok) : j.ok := h
def spLS (K : PySem.W.Frag) (n : Nat) : Sp := fun vs H Q _ => ∃ (v : V) (j : J), vs = [v] ∧ Dp K H v j.toD ∧ j.deep ≤ n ∧ j.ok ∧ ∀ H', Same H H' → Q (.int j.steps) H'
theorem J.stepsL_sum : ∀ xs : List J, (xs.map J.steps).sum = J.stepsL xs
  | [] => by simp [J.stepsL]
  | x :: xs => by simp only [List.map_cons, List.sum_cons, J.stepsL, J.stepsL_sum xs]
theorem J.deepL_mem : ∀ {l : List J} {y : J}, y ∈ l → y.deep ≤ J.deepL l
  | z :: r, y, h => by
    simp only [J.deepL]
    rcases List.mem_cons.mp h with rfl | h
    · omega
    · have := J.deepL_mem h
      omega
theorem J.okL_mem : ∀ {l : List J} {y : J}, J.okL l → y ∈ l → y.ok
  | z :: r, y, o, h => by
    simp only [J.okL] at o
    rcases List.mem_cons.mp h with rfl | h
    · exact o.1
    · exact J.okL_mem o.2 h
/-- the i-th part's data -/
theorem part_at {K : PySem.W.Frag} {H : Hp} {xs : List J} {vs : List V} {i : Nat} {x : V} (hall : DpAll K H vs (J.toDs xs)) (hi : vs[i]? = some x) : ∃ j, xs[i]? = some j ∧ j ∈ xs ∧ Dp K H x j.toD := by
  obtain ⟨d, ed, hd⟩ := dpAll_get hall hi
  rw [J.toDs_eq, List.getElem?_map] at ed
  cases e : xs[i]? with
  | none =>
    rw [e] at ed
    cases ed
  | some j =>
    rw [e] at ed
    obtain rfl := (Option.some.inj ed).symm
    exact ⟨j, rfl, List.mem_of_getElem? e, hd⟩
theorem take_map {α β : Type} {xs : List α} {i : Nat} {j : α} (f : α → β) (e : xs[i]? = some j) : (xs.take (i + 1)).map f = (xs.take i).map f ++ [f j] := by
  rw [List.take_add_one, e, List.map_append]
  rfl
section
variable {P : Program} {w : World} {K : PySem.W.Frag} {mg : Str → Option Value} {base : Heap}
theorem ok_ls_next (T : Txt K mg) {n : Nat} (g__law_steps : FnOk P w K mg base CX0 n T.f__law_steps T.d__law_steps ["_law_job_here"] (spLS K n)) :
    FnOk P w K mg base CX0 (n + 1) T.f__law_steps T.d__law_steps ["_law_job_here"] (spLS K (n + 1)) := by
  refine T.F__law_steps.ok sc__law_steps (fun vs H Q E h => ?_) (fun cdv A outer s H vs Q E hr h => ?_)
  · obtain ⟨v, j, rfl, _⟩ := h
    rfl
  obtain ⟨v, j, rfl, hd, hn, hok, q⟩ := h
  refine ⟨_, (pss_cons (ps_if (pt_not (pt_val (pe_callB (r := rIsD K) call_isD (by rfl) T.n_isinstance (by decide +kernel) (pa_cons (pv 0) (pa_cons (pe_bltn (v := .ty "tuple") (by rfl) T.n_tuple (by decide +kernel) rfl) pa_nil))))) (pss_one (ps_ret pe_int)) pss_nil)
      (pss_cons (ps_if (pt_cmpR (r := rIn K false) op_in_seq (pe_ix (r := rIxT K) ix_tup (pv 0) pe_int (fun _ _ => rfl)) (pe_tup (pa_cons pe_str (pa_cons pe_str pa_nil))) (by rfl)) (pss_one (ps_ret (pe_callB (r := rSum K) (cr_sum rfl) (by rfl) T.n_sum (by decide +kernel) (pa_cons (pe_lc (own := [("_law_part", 1)]) (g := (gName 1)) (by rfl) sc__law_steps.nd (pi_tup (pe_ix (r := rIxT K) ix_tup (pv 0) pe_int (fun _ _ => rfl))) (blkOk_by (N := N__law_steps) (sc := (defScope s__law_steps)) (by decide +kernel)) (fun _ _ _ _ _ => (pg_name (i := 1) sc__law_steps.nd rfl (Or.inl rfl))) (fun _ _ _ _ _ => pts_nil) (fun _ _ _ _ _ => (pe_call g__law_steps (hr.mono (by omega)) rfl T.m__law_steps T.F__law_steps.kp T.b__law_steps .nil pass0 (pa_cons (pv 1) pa_nil)))) pa_nil)))) pss_nil)
      (pss_one (ps_ret (pe_op op_mulW (pe_ix (r := rIxT K) ix_tup (pv 0) pe_int (fun _ _ => rfl)) (pe_call g__law_steps (hr.mono (by omega)) rfl T.m__law_steps T.F__law_steps.kp T.b__law_steps .nil pass0 (pa_cons (pe_ix (r := rIxT K) ix_tup (pv 0) pe_int (fun _ _ => rfl)) pa_nil))))))), ?_⟩
  cases j with
  | st i =>
    refine ⟨_, rfl, _, _, _, _, rfl, hd, kit_tuple _, _, rfl, ?_⟩
    refine iteT ?_
    simp only [J.steps] at q
    exact q _ (Same.refl _)
  | ps k xs =>
    simp only [J.deep] at hn
    simp only [J.ok] at hok
    simp only [J.steps] at q
    rw [J.toD] at hd
    obtain ⟨a, ys, rfl, hys, hall⟩ := dp_tup_inv hd
    refine ⟨_, rfl, _, _, _, _, rfl, hd, kit_tuple _, _, rfl, ?_⟩
    refine iteF ?_
    cases hall with
    | cons e1 hall =>
      obtain rfl := dp_str_inv e1
      cases hall with
      | cons e2 hall =>
        cases hall
        obtain ⟨b, vs, rfl, hvs, hall2⟩ := dp_tup_inv e2
        refine ⟨_, rfl, _, _, _, _, rfl, rfl, hys, rfl, (by show 2 ≤ sizeLine; decide), fun t ht => ?_⟩
        refine ⟨t, _, rfl, .inr (SqT.of upd_same), rfl, rfl, _, rfl, ?_⟩
        have s1 : Same H (upd H t (.tup [.str "seq", .str "par"])) := same_new ht
        show if inV (.str (kwP k)) [.str "seq", .str "par"] = true then _ else _
        rw [in_parts]
        refine iteT ?_
        generalize (upd H t (.tup [.str "seq", .str "par"])) = H1 at s1 ⊢
        refine ⟨_, rfl, _, _, _, _, rfl, rfl, same_sqT s1 hys, rfl, b, rfl, ⟨vs, same_sqT s1 hvs⟩, fun D hD => ?_⟩
        refine lc_tup (K := K) (a := b) (xs := vs) (fun i H' => Same H1 H' ∧ H' D = some (.lst (((xs.take i).map J.steps).map V.int))) ?_ ?_ ?_ ?_
        · exact ⟨same_new hD, upd_same⟩
        · rintro i H' _ ⟨s2, _⟩
          exact same_sqT s2 (same_sqT s1 hvs)
        · rintro i x H' hi ⟨s2, eD⟩
          obtain ⟨j, ej, mj, dj⟩ := part_at hall2 hi
          refine ⟨rfl, ?_⟩
          unfold tYes
          refine iteT ?_
          refine ⟨_, rfl, x, j, rfl, dp_same (s1.trans s2) dj, by have := J.deepL_mem mj; omega, J.okL_mem hok.2.1 mj, fun H3 s3 => ?_⟩
          refine ⟨_, s3 _ _ eD, ?_, ?_, ?_⟩
          · rw [List.length_map, List.length_map, List.length_take]
            have : i < vs.length := (List.getElem?_eq_some_iff.mp hi).1
            exact small1000 (by omega)
          · intro c o hc
            rw [upd_ne (ne_of_none hc hD)]
            exact s3 _ _ (s2 _ _ hc)
          · rw [upd_same, take_map J.steps ej, List.map_append]
            rfl
        · rintro H' ⟨s2, eD⟩
          have el : vs.length = xs.length := by rw [dpAll_length hall2, J.toDs_eq, List.length_map]
          rw [el, List.take_length] at eD
          refine ⟨D, xs.map J.steps, rfl, SqL.of eD, ?_⟩
          rw [J.stepsL_sum]
          exact q _ (s1.trans s2)
  | rn k c x =>
    simp only [J.deep] at hn
    have hx := hok
    simp only [J.ok] at hok
    simp only [J.steps] at q
    rw [J.toD] at hd
    obtain ⟨a, ys, rfl, hys, hall⟩ := dp_tup_inv hd
    refine ⟨_, rfl, _, _, _, _, rfl, hd, kit_tuple _, _, rfl, ?_⟩
    refine iteF ?_
    cases hall with
    | cons e1 hall =>
      obtain rfl := dp_str_inv e1
      cases hall with
      | cons e2 hall =>
        obtain rfl := dp_int_inv e2
        cases hall with
        | cons e3 hall =>
          cases hall
          refine ⟨_, rfl, _, _, _, _, rfl, rfl, hys, rfl, (by show 2 ≤ sizeLine; decide), fun t ht => ?_⟩
          refine ⟨t, _, rfl, .inr (SqT.of upd_same), rfl, rfl, _, rfl, ?_⟩
          have s1 : Same H (upd H t (.tup [.str "seq", .str "par"])) := same_new ht
          show if inV (.str (kwR k)) [.str "seq", .str "par"] = true then _ else _
          rw [in_parts_no]
          refine iteF ?_
          refine ⟨_, rfl, _, _, _, _, rfl, rfl, same_sqT s1 hys, rfl, _, rfl, _, _, _, _, rfl, rfl, same_sqT s1 hys, rfl, _, x, rfl, dp_same s1 e3, by omega, hok.2.1, fun H2 s2 => ?_⟩
          have hb0 := J.steps_nn x hok.2.1
          have hb1 := J.steps_le x hok.2.1
          have h1 := hok.1
          simp only [M30] at hb1 h1
          have e1 : x.steps.natAbs < 2 ^ 128 := Nat.lt_of_le_of_lt (show x.steps.natAbs ≤ 1000000000000000000000000000000 by omega) (by decide)
          have e2 : c.natAbs < 2 ^ 128 := Nat.lt_of_le_of_lt (show c.natAbs ≤ 1000000000000000000000000000000 by omega) (by decide)
          refine ⟨_, _, rfl, rfl, wide_mul (a := 128) (b := 128) e2 e1 (by decide) (by decide) (by decide), ?_⟩
          show Q (.int (c * x.steps)) _
          rw [Int.mul_comm]
          exact q _ (s1.trans s2)
theorem ok_ls (T : Txt K mg) : ∀ n : Nat, FnOk P w K mg base CX0 n T.f__law_steps T.d__law_steps ["_law_job_here"] (spLS K n)
  | 0 => by
    have no : ∀ vs H Q E, ¬ spLS K 0 vs H Q E := by
      rintro vs H Q E ⟨v, j, _, _, h, _⟩
      have := J.deep_pos j
      omega
    exact ⟨fun vs H Q E h => absurd h (no vs H Q E), fun A outer s H args us vs Q E _ _ _ _ h => absurd h (no vs H Q E)⟩
  | n + 1 => ok_ls_next T (ok_ls T n)
end
/-! block Nodes: _law_nodes -/
def spLN (K : PySem.W.Frag) (n : Nat) : Sp := fun vs H Q _ => ∃ (v : V) (j : J), vs = [v] ∧ Dp K H v j.toD ∧ j.deep ≤ n ∧ j.ok ∧ ∀ H', Same H H' → Q (.int j.nodes) H'
theorem J.nodesL_sum : ∀ xs : List J, (xs.map J.nodes).sum = J.nodesL xs
  | [] => by simp [J.nodesL]
  | x :: xs => by simp only [List.map_cons, List.sum_cons, J.nodesL, J.nodesL_sum xs]
section
variable {P : Program} {w : World} {K : PySem.W.Frag} {mg : Str → Option Value} {base : Heap}
theorem ok_ln_next (T : Txt K mg) {n : Nat} (g__law_nodes : FnOk P w K mg base CX0 n T.f__law_nodes T.d__law_nodes ["_law_job_here"] (spLN K n)) :
    FnOk P w K mg base CX0 (n + 1) T.f__law_nodes T.d__law_nodes ["_law_job_here"] (spLN K (n + 1)) := by
  refine T.F__law_nodes.ok sc__law_nodes (fun vs H Q E h => ?_) (fun cdv A outer s H vs Q E hr h => ?_)
  · obtain ⟨v, j, rfl, _⟩ := h
    rfl
  obtain ⟨v, j, rfl, hd, hn, hok, q⟩ := h
  refine ⟨_, (pss_cons (ps_if (pt_not (pt_val (pe_callB (r := rIsD K) call_isD (by rfl) T.n_isinstance (by decide +kernel) (pa_cons (pv 0) (pa_cons (pe_bltn (v := .ty "tuple") (by rfl) T.n_tuple (by decide +kernel) rfl) pa_nil))))) (pss_one (ps_ret pe_int)) pss_nil)
      (pss_cons (ps_if (pt_cmpR (r := rIn K false) op_in_seq (pe_ix (r := rIxT K) ix_tup (pv 0) pe_int (fun _ _ => rfl)) (pe_tup (pa_cons pe_str (pa_cons pe_str pa_nil))) (by rfl)) (pss_one (ps_ret (pe_op op_add pe_int (pe_callB (r := rSum K) (cr_sum rfl) (by rfl) T.n_sum (by decide +kernel) (pa_cons (pe_lc (own := [("_law_part", 1)]) (g := (gName 1)) (by rfl) sc__law_nodes.nd (pi_tup (pe_ix (r := rIxT K) ix_tup (pv 0) pe_int (fun _ _ => rfl))) (blkOk_by (N := N__law_nodes) (sc := (defScope s__law_nodes)) (by decide +kernel)) (fun _ _ _ _ _ => (pg_name (i := 1) sc__law_nodes.nd rfl (Or.inl rfl))) (fun _ _ _ _ _ => pts_nil) (fun _ _ _ _ _ => (pe_call g__law_nodes (hr.mono (by omega)) rfl T.m__law_nodes T.F__law_nodes.kp T.b__law_nodes .nil pass0 (pa_cons (pv 1) pa_nil)))) pa_nil))))) pss_nil)
      (pss_one (ps_ret (pe_op op_add pe_int (pe_call g__law_nodes (hr.mono (by omega)) rfl T.m__law_nodes T.F__law_nodes.kp T.b__law_nodes .nil pass0 (pa_cons (pe_ix (r := rIxT K) ix_tup (pv 0) pe_int (fun _ _ => rfl)) pa_nil))))))), ?_⟩
  cases j with
  | st i =>
    refine ⟨_, rfl, _, _, _, _, rfl, hd, kit_tuple _, _, rfl, ?_⟩
    refine iteT ?_
    simp only [J.nodes] at q
    exact q _ (Same.refl _)
  | ps k xs =>
    simp only [J.deep] at hn
    simp only [J.ok] at hok
    simp only [J.nodes] at q
    rw [J.toD] at hd
    obtain ⟨a, ys, rfl, hys, hall⟩ := dp_tup_inv hd
    refine ⟨_, rfl, _, _, _, _, rfl, hd, kit_tuple _, _, rfl, ?_⟩
    refine iteF ?_
    cases hall with
    | cons e1 hall =>
      obtain rfl := dp_str_inv e1
      cases hall with
      | cons e2 hall =>
        cases hall
        obtain ⟨b, vs, rfl, hvs, hall2⟩ := dp_tup_inv e2
        refine ⟨_, rfl, _, _, _, _, rfl, rfl, hys, rfl, (by show 2 ≤ sizeLine; decide), fun t ht => ?_⟩
        refine ⟨t, _, rfl, .inr (SqT.of upd_same), rfl, rfl, _, rfl, ?_⟩
        have s1 : Same H (upd H t (.tup [.str "seq", .str "par"])) := same_new ht
        show if inV (.str (kwP k)) [.str "seq", .str "par"] = true then _ else _
        rw [in_parts]
        refine iteT ?_
        generalize (upd H t (.tup [.str "seq", .str "par"])) = H1 at s1 ⊢
        refine ⟨_, rfl, _, _, _, _, rfl, rfl, same_sqT s1 hys, rfl, b, rfl, ⟨vs, same_sqT s1 hvs⟩, fun D hD => ?_⟩
        refine lc_tup (K := K) (a := b) (xs := vs) (fun i H' => Same H1 H' ∧ H' D = some (.lst (((xs.take i).map J.nodes).map V.int))) ?_ ?_ ?_ ?_
        · exact ⟨same_new hD, upd_same⟩
        · rintro i H' _ ⟨s2, _⟩
          exact same_sqT s2 (same_sqT s1 hvs)
        · rintro i x H' hi ⟨s2, eD⟩
          obtain ⟨j, ej, mj, dj⟩ := part_at hall2 hi
          refine ⟨rfl, ?_⟩
          unfold tYes
          refine iteT ?_
          refine ⟨_, rfl, x, j, rfl, dp_same (s1.trans s2) dj, by have := J.deepL_mem mj; omega, J.okL_mem hok.2.1 mj, fun H3 s3 => ?_⟩
          refine ⟨_, s3 _ _ eD, ?_, ?_, ?_⟩
          · rw [List.length_map, List.length_map, List.length_take]
            have : i < vs.length := (List.getElem?_eq_some_iff.mp hi).1
            exact small1000 (by omega)
          · intro c o hc
            rw [upd_ne (ne_of_none hc hD)]
            exact s3 _ _ (s2 _ _ hc)
          · rw [upd_same, take_map J.nodes ej, List.map_append]
            rfl
        · rintro H' ⟨s2, eD⟩
          have el : vs.length = xs.length := by rw [dpAll_length hall2, J.toDs_eq, List.length_map]
          rw [el, List.take_length] at eD
          refine ⟨D, xs.map J.nodes, rfl, SqL.of eD, ?_⟩
          refine ⟨_, _, rfl, rfl, ?_⟩
          dsimp only
          rw [J.nodesL_sum]
          exact q _ (s1.trans s2)
  | rn k c x =>
    simp only [J.deep] at hn
    have hx := hok
    simp only [J.ok] at hok
    simp only [J.nodes] at q
    rw [J.toD] at hd
    obtain ⟨a, ys, rfl, hys, hall⟩ := dp_tup_inv hd
    refine ⟨_, rfl, _, _, _, _, rfl, hd, kit_tuple _, _, rfl, ?_⟩
    refine iteF ?_
    cases hall with
    | cons e1 hall =>
      obtain rfl := dp_str_inv e1
      cases hall with
      | cons e2 hall =>
        obtain rfl := dp_int_inv e2
        cases hall with
        | cons e3 hall =>
          cases hall
          refine ⟨_, rfl, _, _, _, _, rfl, rfl, hys, rfl, (by show 2 ≤ sizeLine; decide), fun t ht => ?_⟩
          refine ⟨t, _, rfl, .inr (SqT.of upd_same), rfl, rfl, _, rfl, ?_⟩
          have s1 : Same H (upd H t (.tup [.str "seq", .str "par"])) := same_new ht
          show if inV (.str (kwR k)) [.str "seq", .str "par"] = true then _ else _
          rw [in_parts_no]
          refine iteF ?_
          refine ⟨_, rfl, _, _, _, _, rfl, rfl, same_sqT s1 hys, rfl, _, x, rfl, dp_same s1 e3, by omega, hok.2.1, fun H2 s2 => ?_⟩
          refine ⟨_, _, rfl, rfl, ?_⟩
          show Q (.int (1 + x.nodes)) _
          rw [Int.add_comm]
          exact q _ (s1.trans s2)
theorem ok_ln (T : Txt K mg) : ∀ n : Nat, FnOk P w K mg base CX0 n T.f__law_nodes T.d__law_nodes ["_law_job_here"] (spLN K n)
  | 0 => by
    have no : ∀ vs H Q E, ¬ spLN K 0 vs H Q E := by
      rintro vs H Q E ⟨v, j, _, _, h, _⟩
      have := J.deep_pos j
      omega
    exact ⟨fun vs H Q E h => absurd h (no vs H Q E), fun A outer s H args us vs Q E _ _ _ _ h => absurd h (no vs H Q E)⟩
  | n + 1 => ok_ln_next T (ok_ln T n)
end
/-! block Law02 -/
abbrev jE : J := .ps true [.ps false [], .rn false 0 (.st 5), .rn true M30 (.ps false [])]
abbrev jD : J := .rn true 1000000 (.ps false [.st 2, .rn false 1000000000 (.st (-1))])
/-- what the law asks of a job that it measures -/
def Good (j : J) : Prop := j.ok ∧ j.nodes ≤ 400 ∧ j.deep ≤ 13
theorem Good.sz {j : J} (g : Good j) : szJ j 400 13 = some (j.nodes, j.steps) := szJ_some j 400 13 g.1 g.2.1 (by have := g.2.2; omega)
theorem good_E : Good jE := by
  refine ⟨?_, ?_, ?_⟩
  · simp only [J.ok, J.okL, J.steps, J.stepsL, M30, List.length_cons, List.length_nil]
    decide
  · simp only [J.nodes, J.nodesL]
    decide
  · simp only [J.deep, J.deepL]
    decide
theorem good_D : Good jD := by
  refine ⟨?_, ?_, ?_⟩
  · simp only [J.ok, J.okL, J.steps, J.stepsL, M30, List.length_cons, List.length_nil]
    decide
  · simp only [J.nodes, J.nodesL]
    decide
  · simp only [J.deep, J.deepL]
    decide
theorem good_of {j : J} (h : (szJ j 400 13).isSome = true) : Good j := by
  obtain ⟨⟨a, b⟩, e⟩ := Option.isSome_iff_exists.mp h
  obtain ⟨q1, q2, q3, _⟩ := szJ_inv j 400 13 a b e
  exact ⟨q1, q2, by omega⟩
theorem good_two {j : J} (g : Good j) (h1 : j.nodes ≤ 300) (h2 : j.deep ≤ 10) : Good (.ps false [jE, j]) := by
  obtain ⟨o, _, _⟩ := g
  obtain ⟨oE, _, _⟩ := good_E
  have s1 := J.steps_le j o
  refine ⟨?_, ?_, ?_⟩
  · have e : jE.steps = 0 := by simp only [J.steps, J.stepsL]; decide
    simp only [J.ok, J.okL, List.length_cons, List.length_nil]
    refine ⟨by decide, ⟨oE, o, trivial⟩, ?_⟩
    show J.stepsL [jE, j] ≤ M30
    simp only [J.stepsL]
    rw [e]
    omega
  · have e : jE.nodes = 6 := by simp only [J.nodes, J.nodesL]; decide
    show 1 + J.nodesL [jE, j] ≤ 400
    simp only [J.nodesL]
    rw [e]
    omega
  · have e : jE.deep = 3 := by simp only [J.deep, J.deepL]; decide
    show J.deepL [jE, j] + 1 ≤ 13
    simp only [J.deepL]
    rw [e]
    omega
theorem good_none {j : J} (g : Good j) (h1 : j.nodes ≤ 300) (h2 : j.deep ≤ 10) : Good (.rn true 0 j) := by
  obtain ⟨o, _, _⟩ := g
  refine ⟨?_, ?_, ?_⟩
  · simp only [J.ok]
    exact ⟨by decide, o, by simp⟩
  · simp only [J.nodes]
    omega
  · simp only [J.deep]
    omega
theorem sz_E : szJ jE 400 13 = some (6, 0) := by
  rw [good_E.sz]
  have e1 : jE.nodes = 6 := by simp only [J.nodes, J.nodesL]; decide
  have e2 : jE.steps = 0 := by simp only [J.steps, J.stepsL]; decide
  rw [e1, e2]
theorem sz_0 : szJ (.st 0) 400 13 = some (1, 1) := by
  simp only [szJ]
  rfl
theorem lt180 {i : Int} (h0 : 0 ≤ i) (h : i ≤ M30) : i.natAbs < 10 ^ 180 := by
  have h' : i ≤ 1000000000000000000000000000000 := h
  exact Nat.lt_of_le_of_lt (show i.natAbs ≤ 1000000000000000000000000000000 by omega) (by decide +kernel)
theorem fine_pair {j : J} (g : Good j) : fine (.list [.int j.nodes, .int j.steps]) := by
  simp only [fine, fines]
  have h1 := J.nodes_pos j
  have h2 : j.nodes ≤ M30 := by
    have := g.2.1
    show j.nodes ≤ 1000000000000000000000000000000
    omega
  exact ⟨lt180 (by omega) h2, lt180 (J.steps_nn j g.1) (J.steps_le j g.1), trivial⟩
def spLaw (K : PySem.W.Frag) : Sp := fun vs H Q _ => ∃ (a : Addr) (ns : List Int), vs = [.ref a] ∧ Only H ∧ SqL K H a (ns.map V.int) ∧ ns.length ≤ 63 ∧ ∀ H', Q (.bl true) H'
/-- the law's loop: what stands ahead of it stays -/
structure Lp (K : PySem.W.Frag) (H0 H : Hp) (a e : Addr) (ns : List Int) : Prop where
  same : Same H0 H
  scr : Scr K H0 a ns
  dE : Dp K H0 (.ref e) jE.toD
section
variable {P : Program} {w : World} {K : PySem.W.Frag} {mg : Str → Option Value} {base : Heap}
theorem ok_law {f : Addr} {fd : FuncData} (F : Fun K "law" "law" s_law f fd) (T : Txt K mg) : FnG P w K mg base CX0 60 f fd ["_law_script"] (spLaw K) := by
  have g__law_pot := ok_pot (P := P) (w := w) (base := base) T
  have g__law_job := ok_job (P := P) (w := w) (base := base) T 5
  have g_is_job := ok_isjob (P := P) (w := w) (base := base) T
  have g_node_count := ok_nodeC (P := P) (w := w) (base := base) T
  have g_step_count := ok_stepC (P := P) (w := w) (base := base) T
  have g_is_empty := ok_empty (P := P) (w := w) (base := base) T
  have g__law_steps := ok_ls (P := P) (w := w) (base := base) T 20
  have g__law_nodes := ok_ln (P := P) (w := w) (base := base) T 20
  refine okG F sc_law (fun vs H Q E h => ?_) (fun cdv A outer s H vs Q E hr gd h => ?_)
  · obtain ⟨a, ns, rfl, _⟩ := h
    rfl
  obtain ⟨a, ns, rfl, hO, hS, hlen, q⟩ := h
  refine ⟨_, (pss_cons (ps_set (i := 1) sc_law.nd rfl (Or.inl rfl) (pe_tup (pa_cons pe_str (pa_cons (pe_tup (pa_cons (pe_tup (pa_cons pe_str (pa_cons (pe_tup pa_nil) pa_nil))) (pa_cons (pe_tup (pa_cons pe_str (pa_cons pe_int (pa_cons pe_int pa_nil)))) (pa_cons (pe_tup (pa_cons pe_str (pa_cons (pe_op op_powW pe_int pe_int) (pa_cons (pe_tup (pa_cons pe_str (pa_cons (pe_tup pa_nil) pa_nil))) pa_nil)))) pa_nil)))) pa_nil))))
      (pss_cons (ps_for PassesOwn.never rfl (pi_range1 rfl T.n_range (pa_cons (pe_callB (call_max2 rfl) (by rfl) T.n_max (by decide +kernel) (pa_cons pe_int (pa_cons (pe_callB (call_min2 rfl) (by rfl) T.n_min (by decide +kernel) (pa_cons pe_int (pa_cons (pe_callB (r := rLenS K) call_lenS (by rfl) T.n_len (by decide +kernel) (pa_cons (pv 0) pa_nil)) pa_nil))) pa_nil))) pa_nil)) (pg_name (i := 2) sc_law.nd rfl (Or.inl rfl))
        (pss_cons (ps_set (i := 3) sc_law.nd rfl (Or.inl rfl) (pe_call g__law_pot (hr.mono (by omega)) rfl T.m__law_pot T.F__law_pot.kp T.b__law_pot .nil pass0 (pa_cons (pv 0) (pa_cons (pv 2) pa_nil))))
        (pss_cons (ps_set (i := 4) sc_law.nd rfl (Or.inl rfl) (pe_call g__law_job (hr.mono (by omega)) rfl T.m__law_job T.F__law_job.kp T.b__law_job .nil pass0 (pa_cons (pv 3) (pa_cons pe_int (pa_cons (pe_lst (pa_cons pe_int (pa_cons pe_int (pa_cons pe_int (pa_cons pe_int (pa_cons (pe_op op_powW pe_int pe_int) (pa_cons pe_int pa_nil))))))) pa_nil)))))
        (C8.pss_cut (ps_if (pt_not (pt_val (pe_call g_is_job (hr.mono (by omega)) rfl T.m_is_job T.F_is_job.kp T.b_is_job .nil pass0 (pa_cons (pv 4) pa_nil)))) (pss_one (ps_set (i := 4) sc_law.nd rfl (Or.inl rfl) (pe_tup (pa_cons pe_str (pa_cons (pe_op op_powW pe_int pe_int) (pa_cons (pe_tup (pa_cons pe_str (pa_cons (pe_tup (pa_cons pe_int (pa_cons (pe_tup (pa_cons pe_str (pa_cons (pe_op op_powW pe_int pe_int) (pa_cons (pe_un un_neg pe_int) pa_nil)))) pa_nil))) pa_nil))) pa_nil)))))) pss_nil)
        (pss_one (ps_for PassesOwn.never rfl (pi_tup (pe_tup (pa_cons (pv 4) (pa_cons (pe_tup (pa_cons pe_str (pa_cons (pe_tup (pa_cons (pv 1) (pa_cons (pv 4) pa_nil))) pa_nil))) (pa_cons (pe_tup (pa_cons pe_str (pa_cons pe_int (pa_cons (pv 4) pa_nil)))) pa_nil))))) (pg_name (i := 5) sc_law.nd rfl (Or.inl rfl))
          (pss_cons (ps_if (pt_cmpR op_ne (pe_callB (r := rRepr K) (call_reprD gd (room66 hr)) (by rfl) T.n_repr (by decide +kernel) (pa_cons (pe_lst (pa_cons (pe_call g_node_count (hr.mono (by omega)) rfl T.m_node_count T.F_node_count.kp T.b_node_count .nil pass0 (pa_cons (pv 5) pa_nil)) (pa_cons (pe_call g_step_count (hr.mono (by omega)) rfl T.m_step_count T.F_step_count.kp T.b_step_count .nil pass0 (pa_cons (pv 5) pa_nil)) pa_nil))) pa_nil)) (pe_callB (r := rRepr K) (call_reprD gd (room66 hr)) (by rfl) T.n_repr (by decide +kernel) (pa_cons (pe_lst (pa_cons (pe_call g__law_nodes (hr.mono (by omega)) rfl T.m__law_nodes T.F__law_nodes.kp T.b__law_nodes .nil pass0 (pa_cons (pv 5) pa_nil)) (pa_cons (pe_call g__law_steps (hr.mono (by omega)) rfl T.m__law_steps T.F__law_steps.kp T.b__law_steps .nil pass0 (pa_cons (pv 5) pa_nil)) pa_nil))) pa_nil)) (nomark _)) (pss_one (ps_ret pe_bl)) pss_nil)
          (pss_one (ps_if (pt_cmpR op_ne (pe_callB (r := rRepr K) (call_reprD gd (room66 hr)) (by rfl) T.n_repr (by decide +kernel) (pa_cons (pe_call g_is_empty (hr.mono (by omega)) rfl T.m_is_empty T.F_is_empty.kp T.b_is_empty .nil pass0 (pa_cons (pv 5) pa_nil)) pa_nil)) (pe_callB (r := rRepr K) (call_reprD gd (room66 hr)) (by rfl) T.n_repr (by decide +kernel) (pa_cons (pe_cmpR op_eq (pe_call g__law_steps (hr.mono (by omega)) rfl T.m__law_steps T.F__law_steps.kp T.b__law_steps .nil pass0 (pa_cons (pv 5) pa_nil)) pe_int (nomark _)) pa_nil)) (nomark _)) (pss_one (ps_ret pe_bl)) pss_nil)))))))))
      (pss_one (ps_ret (pe_cmpR (r := rEqD K) (op_eqD hr.units) (pe_lst (pa_cons (pe_call g_node_count (hr.mono (by omega)) rfl T.m_node_count T.F_node_count.kp T.b_node_count .nil pass0 (pa_cons (pv 1) pa_nil)) (pa_cons (pe_call g_step_count (hr.mono (by omega)) rfl T.m_step_count T.F_step_count.kp T.b_step_count .nil pass0 (pa_cons (pv 1) pa_nil)) (pa_cons (pe_call g_is_empty (hr.mono (by omega)) rfl T.m_is_empty T.F_is_empty.kp T.b_is_empty .nil pass0 (pa_cons (pv 1) pa_nil)) (pa_cons (pe_call g_is_empty (hr.mono (by omega)) rfl T.m_is_empty T.F_is_empty.kp T.b_is_empty .nil pass0 (pa_cons pe_int pa_nil)) pa_nil))))) (pe_lst (pa_cons pe_int (pa_cons pe_int (pa_cons pe_bl (pa_cons pe_bl pa_nil))))) (nomark _)))))), ?_⟩
  -- the empty job
  have e30 : (10 : Int) ^ (30 : Int).toNat = M30 := by decide
  refine ⟨(by show 0 ≤ sizeLine; decide), fun p1 hp1 => ?_⟩
  obtain ⟨s1, d1⟩ := tup_fresh (K := K) (ds := []) hp1 .nil
  generalize (upd H p1 (.tup [])) = H1 at s1 d1 ⊢
  refine ⟨(by show 2 ≤ sizeLine; decide), fun p2 hp2 => ?_⟩
  obtain ⟨s2, d2⟩ := tup_fresh (K := K) (ds := [.str "seq", .tuple []]) hp2 (.cons (.str _) (.cons d1 .nil))
  generalize (upd H1 p2 (.tup [.str "seq", .ref p1])) = H2 at s2 d2 ⊢
  refine ⟨(by show 3 ≤ sizeLine; decide), fun p3 hp3 => ?_⟩
  obtain ⟨s3, d3⟩ := tup_fresh (K := K) (ds := [.str "repeat", .int 0, .int 5]) hp3 (.cons (.str _) (.cons (.int _) (.cons (.int _) .nil)))
  generalize (upd H2 p3 (.tup [.str "repeat", .int 0, .int 5])) = H3 at s3 d3 ⊢
  refine ⟨_, _, rfl, rfl, powW_of 4 (by decide) (by decide) (by decide), ?_⟩
  dsimp only
  rw [e30]
  refine ⟨(by show 0 ≤ sizeLine; decide), fun p4 hp4 => ?_⟩
  obtain ⟨s4, d4⟩ := tup_fresh (K := K) (ds := []) hp4 .nil
  generalize (upd H3 p4 (.tup [])) = H4 at s4 d4 ⊢
  refine ⟨(by show 2 ≤ sizeLine; decide), fun p5 hp5 => ?_⟩
  obtain ⟨s5, d5⟩ := tup_fresh (K := K) (ds := [.str "seq", .tuple []]) hp5 (.cons (.str _) (.cons d4 .nil))
  generalize (upd H4 p5 (.tup [.str "seq", .ref p4])) = H5 at s5 d5 ⊢
  refine ⟨(by show 3 ≤ sizeLine; decide), fun p6 hp6 => ?_⟩
  obtain ⟨s6, d6⟩ := tup_fresh (K := K) (ds := [.str "copies", .int M30, .tuple [.str "seq", .tuple []]]) hp6 (.cons (.str _) (.cons (.int _) (.cons d5 .nil)))
  generalize (upd H5 p6 (.tup [.str "copies", .int M30, .ref p5])) = H6 at s6 d6 ⊢
  refine ⟨(by show 3 ≤ sizeLine; decide), fun p7 hp7 => ?_⟩
  have t26 : Same H2 H6 := s3.trans (s4.trans (s5.trans s6))
  have t36 : Same H3 H6 := s4.trans (s5.trans s6)
  obtain ⟨s7, d7⟩ := tup_fresh (K := K) (ds := [.tuple [.str "seq", .tuple []], .tuple [.str "repeat", .int 0, .int 5], .tuple [.str "copies", .int M30, .tuple [.str "seq", .tuple []]]]) hp7
    (.cons (dp_same t26 d2) (.cons (dp_same t36 d3) (.cons d6 .nil)))
  generalize (upd H6 p7 (.tup [.ref p2, .ref p3, .ref p6])) = H7 at s7 d7 ⊢
  refine ⟨(by show 2 ≤ sizeLine; decide), fun pe hpe => ?_⟩
  obtain ⟨s8, d8⟩ := tup_fresh (K := K) (ds := [.str "par", .tuple [.tuple [.str "seq", .tuple []], .tuple [.str "repeat", .int 0, .int 5], .tuple [.str "copies", .int M30, .tuple [.str "seq", .tuple []]]]]) hpe (.cons (.str _) (.cons d7 .nil))
  generalize (upd H7 pe (.tup [.str "par", .ref p7])) = H8 at s8 d8 ⊢
  have t18 : Same H H8 := s1.trans (s2.trans (t26.trans (s7.trans s8)))
  have dE : Dp K H8 (.ref pe) jE.toD := d8
  have hsc : Scr K H8 a ns := (Scr.of hO hS).same t18
  clear hS hO s1 d1 s2 d2 s3 d3 s4 d4 s5 d5 s6 d6 s7 d7 s8 d8 hp1 hp2 hp3 hp4 hp5 hp6 hp7 hpe t26 t36 t18
  -- the loop
  refine ⟨_, rfl, a, _, rfl, .inl hsc.sq, _, _, rfl, _, _, rfl, _, rfl, ?_, ?_, ?_⟩
  · show -(2 ^ 62) ≤ (if (if (((ns.map V.int).length : Nat) : Int) < 8 then (((ns.map V.int).length : Nat) : Int) else 8) > 1 then (if (((ns.map V.int).length : Nat) : Int) < 8 then (((ns.map V.int).length : Nat) : Int) else 8) else 1)
    split <;> (try split) <;> omega
  · show (if (if (((ns.map V.int).length : Nat) : Int) < 8 then (((ns.map V.int).length : Nat) : Int) else 8) > 1 then (if (((ns.map V.int).length : Nat) : Int) < 8 then (((ns.map V.int).length : Nat) : Int) else 8) else 1) < 2 ^ 62
    split <;> (try split) <;> omega
  have hturns : (if (if (((ns.map V.int).length : Nat) : Int) < 8 then (((ns.map V.int).length : Nat) : Int) else 8) > 1 then (if (((ns.map V.int).length : Nat) : Int) < 8 then (((ns.map V.int).length : Nat) : Int) else 8) else 1).toNat ≤ 8 := by
    split <;> (try split) <;> omega
  generalize (if (if (((ns.map V.int).length : Nat) : Int) < 8 then (((ns.map V.int).length : Nat) : Int) else 8) > 1 then (if (((ns.map V.int).length : Nat) : Int) < 8 then (((ns.map V.int).length : Nat) : Int) else 8) else 1) = turns at hturns ⊢
  refine for_range (lo := 0) (n := turns.toNat) (fun i σ H' => ∃ y2 y3 y4 y5 : Option V, σ = [some (.ref a), some (.ref pe), y2, y3, y4, y5] ∧ Same H8 H') ⟨none, none, none, none, rfl, Same.refl _⟩ ?_ ?_
  · rintro i σ H' hi ⟨y2, y3, y4, y5, rfl, t⟩
    refine ⟨_, rfl, _, rfl, a, ns, 0 + (i : Int), rfl, (hsc.same t).sq, by omega, by omega, by omega, fun G1 p s1 hpn hp => ?_⟩
    have e12 : (10 : Int) ^ (12 : Int).toNat = 1000000000000 := by decide
    refine ⟨_, rfl, _, _, rfl, rfl, powW_of 4 (by decide) (by decide) (by decide), ?_⟩
    dsimp only
    rw [e12]
    refine ⟨(by show 6 ≤ sizeLine; decide), fun l hl => ?_⟩
    obtain ⟨lp, hlp⟩ := hp.lst
    have nlp : l ≠ p := fun z => by rw [z, hlp] at hl; cases hl
    refine ⟨p, l, 0, [0, 1, 2, 3, 1000000000000, 7], rfl, hp.same (same_new hl), by decide, upd_same, nlp, by decide, by decide, ?_, fun G2 v j s2 hp2 dj gj => ?_⟩
    · simp only [List.mem_cons, List.not_mem_nil, or_false, M30]
      rintro c (rfl | rfl | rfl | rfl | rfl | rfl) <;> omega
    have t2 : Same H8 G2 := Same.sx_free ((t.trans s1).trans (same_new hl)) (t.free hpn) s2
    have jd := gj.deep
    have jn : j.nodes ≤ 148 := gj.nodes
    refine ⟨fun σ' H'' => ∃ (v' : V) (j' : J), σ' = [some (.ref a), some (.ref pe), some (.int (0 + (i : Int))), some (.ref p), some v', y5] ∧ Same H8 H'' ∧ Dp K H'' v' j'.toD ∧ Good j' ∧ j'.nodes ≤ 300 ∧ j'.deep ≤ 10, ?_, ?_⟩
    · refine ⟨_, rfl, v, j, rfl, dj, by omega, fun G3 s3 => ?_⟩
      refine ⟨_, rfl, ?_⟩
      cases ej : (szJ j 400 13).isSome with
      | true =>
        refine iteF ?_
        exact ⟨v, j, rfl, t2.trans s3, dp_same s3 dj, good_of ej, by omega, by omega⟩
      | false =>
        refine iteT ?_
        have e6 : (10 : Int) ^ (6 : Int).toNat = 1000000 := by decide
        have e9 : (10 : Int) ^ (9 : Int).toNat = 1000000000 := by decide
        refine ⟨_, _, rfl, rfl, powW_of 4 (by decide) (by decide) (by decide), _, _, rfl, rfl, powW_of 4 (by decide) (by decide) (by decide), _, rfl, (by show 3 ≤ sizeLine; decide), fun q1 hq1 => ?_⟩
        dsimp only
        rw [e6, e9]
        obtain ⟨u1, d1⟩ := tup_fresh (K := K) (ds := [.str "repeat", .int 1000000000, .int (-1)]) hq1 (.cons (.str _) (.cons (.int _) (.cons (.int _) .nil)))
        generalize (upd G3 q1 (.tup [.str "repeat", .int 1000000000, .int (-1)])) = F1 at u1 d1 ⊢
        refine ⟨(by show 2 ≤ sizeLine; decide), fun q2 hq2 => ?_⟩
        obtain ⟨u2, d2⟩ := tup_fresh (K := K) (ds := [.int 2, .tuple [.str "repeat", .int 1000000000, .int (-1)]]) hq2 (.cons (.int _) (.cons d1 .nil))
        generalize (upd F1 q2 (.tup [.int 2, .ref q1])) = F2 at u2 d2 ⊢
        refine ⟨(by show 2 ≤ sizeLine; decide), fun q3 hq3 => ?_⟩
        obtain ⟨u3, d3⟩ := tup_fresh (K := K) (ds := [.str "seq", .tuple [.int 2, .tuple [.str "repeat", .int 1000000000, .int (-1)]]]) hq3 (.cons (.str _) (.cons d2 .nil))
        generalize (upd F2 q3 (.tup [.str "seq", .ref q2])) = F3 at u3 d3 ⊢
        refine ⟨(by show 3 ≤ sizeLine; decide), fun q4 hq4 => ?_⟩
        obtain ⟨u4, d4⟩ := tup_fresh (K := K) (ds := [.str "copies", .int 1000000, .tuple [.str "seq", .tuple [.int 2, .tuple [.str "repeat", .int 1000000000, .int (-1)]]]]) hq4 (.cons (.str _) (.cons (.int _) (.cons d3 .nil)))
        refine ⟨.ref q4, jD, rfl, t2.trans (s3.trans (u1.trans (u2.trans (u3.trans u4)))), d4, good_D, ?_, ?_⟩
        · simp only [J.nodes, J.nodesL]
          decide
        · simp only [J.deep, J.deepL]
          decide
    · rintro σ' H'' ⟨v', j', rfl, t', dj', gj', n', dp'⟩
      refine ⟨_, rfl, _, rfl, _, rfl, (by show 2 ≤ sizeLine; decide), fun q1 hq1 => ?_⟩
      obtain ⟨u1, d1⟩ := tup_fresh (K := K) (ds := [jE.toD, j'.toD]) hq1 (.cons (dp_same t' dE) (.cons dj' .nil))
      generalize (upd H'' q1 (.tup [.ref pe, v'])) = F1 at u1 d1 ⊢
      refine ⟨(by show 2 ≤ sizeLine; decide), fun q2 hq2 => ?_⟩
      obtain ⟨u2, d2⟩ := tup_fresh (K := K) (ds := [.str "seq", .tuple [jE.toD, j'.toD]]) hq2 (.cons (.str _) (.cons d1 .nil))
      generalize (upd F1 q2 (.tup [.str "seq", .ref q1])) = F2 at u2 d2 ⊢
      refine ⟨_, rfl, (by show 3 ≤ sizeLine; decide), fun q3 hq3 => ?_⟩
      obtain ⟨u3, d3⟩ := tup_fresh (K := K) (ds := [.str "copies", .int 0, j'.toD]) hq3 (.cons (.str _) (.cons (.int _) (.cons (dp_same (u1.trans u2) dj') .nil)))
      generalize (upd F2 q3 (.tup [.str "copies", .int 0, v'])) = F3 at u3 d3 ⊢
      refine ⟨(by show 3 ≤ sizeLine; decide), fun q4 hq4 => ?_⟩
      have u4 : Same F3 (upd F3 q4 (.tup [v', .ref q2, .ref q3])) := same_new hq4
      have hq : (upd F3 q4 (.tup [v', .ref q2, .ref q3])) q4 = some (.tup [v', .ref q2, .ref q3]) := upd_same
      have goods : ∀ x ∈ ([v', .ref q2, .ref q3] : List V), ∃ jj, Dp K (upd F3 q4 (.tup [v', .ref q2, .ref q3])) x jj.toD ∧ Good jj := by
        intro x hx
        simp only [List.mem_cons, List.not_mem_nil, or_false] at hx
        rcases hx with rfl | rfl | rfl
        · exact ⟨j', dp_same (u1.trans (u2.trans (u3.trans u4))) dj', gj'⟩
        · exact ⟨.ps false [jE, j'], dp_same (u3.trans u4) d2, good_two gj' n' dp'⟩
        · exact ⟨.rn true 0 j', dp_same u4 d3, good_none gj' n' dp'⟩
      have t4 : Same H8 (upd F3 q4 (.tup [v', .ref q2, .ref q3])) := t'.trans (u1.trans (u2.trans (u3.trans u4)))
      generalize (upd F3 q4 (.tup [v', .ref q2, .ref q3])) = G4 at hq goods t4 ⊢
      refine ⟨q4, rfl, ⟨_, SqT.of hq⟩, ?_⟩
      refine for_tup (K := K) (a := q4) (xs := [v', .ref q2, .ref q3]) (fun _ σ H3 => ∃ y5 : Option V, σ = [some (.ref a), some (.ref pe), some (.int (0 + (i : Int))), some (.ref p), some v', y5] ∧ Same G4 H3) ⟨y5, rfl, Same.refl _⟩
        (fun _ σ H3 _ ⟨_, _, t5⟩ => SqT.of (t5 _ _ hq)) ?_ ?_
      · rintro i2 x σ H3 hx ⟨y5, rfl, t5⟩
        obtain ⟨jj, djj, gjj⟩ := goods x (List.mem_of_getElem? hx)
        have d20 : jj.deep ≤ 20 := Nat.le_trans gjj.2.2 (by decide)
        have d3' := dp_same t5 djj
        refine ⟨_, rfl, x, jj, _, _, rfl, d3', d20, gjj.sz, fun K1 u1 => ?_⟩
        refine ⟨_, rfl, x, jj, _, _, rfl, dp_same u1 d3', d20, gjj.sz, fun K2 u2 => ?_⟩
        refine ⟨(by show 2 ≤ sizeLine; decide), fun l1 hl1 => ?_⟩
        obtain ⟨u3, dl1⟩ := lst_fresh (K := K) (ds := [.int jj.nodes, .int jj.steps]) hl1 (.cons (.int _) (.cons (.int _) .nil))
        generalize (upd K2 l1 (.lst [.int jj.nodes, .int jj.steps])) = K3 at u3 dl1 ⊢
        have fp := fine_pair gjj
        refine ⟨_, _, rfl, dl1, fp, (by simp [PyData.depth, PyData.depthAll]), (by simp [PyData.bulk, PyData.bulkAll]), ?_⟩
        have d4 := dp_same (u1.trans (u2.trans u3)) d3'
        refine ⟨_, rfl, x, jj, rfl, d4, d20, gjj.1, fun K4 u4 => ?_⟩
        refine ⟨_, rfl, x, jj, rfl, dp_same u4 d4, d20, gjj.1, fun K5 u5 => ?_⟩
        refine ⟨(by show 2 ≤ sizeLine; decide), fun l2 hl2 => ?_⟩
        obtain ⟨u6, dl2⟩ := lst_fresh (K := K) (ds := [.int jj.nodes, .int jj.steps]) hl2 (.cons (.int _) (.cons (.int _) .nil))
        generalize (upd K5 l2 (.lst [.int jj.nodes, .int jj.steps])) = K6 at u6 dl2 ⊢
        refine ⟨_, _, rfl, dl2, fp, (by simp [PyData.depth, PyData.depthAll]), (by simp [PyData.bulk, PyData.bulkAll]), rfl, _, rfl, ?_⟩
        refine iteNS rfl ?_
        have d5 := dp_same (u4.trans (u5.trans u6)) d4
        refine ⟨_, rfl, x, jj, _, _, rfl, d5, d20, gjj.sz, fun K7 u7 => ?_⟩
        refine ⟨_, _, rfl, .bl _, trivial, (by simp [PyData.depth]), (by simp [PyData.bulk]), ?_⟩
        refine ⟨_, rfl, x, jj, rfl, dp_same u7 d5, d20, gjj.1, fun K8 u8 => ?_⟩
        refine ⟨rfl, ?_⟩
        refine ⟨_, _, rfl, .bl _, trivial, (by simp [PyData.depth]), (by simp [PyData.bulk]), rfl, _, rfl, ?_⟩
        refine iteNS (by rw [dec_int_iff]) ?_
        exact ⟨_, rfl, t5.trans (u1.trans (u2.trans (u3.trans (u4.trans (u5.trans (u6.trans (u7.trans u8)))))))⟩
      · rintro σ H3 ⟨y5, rfl, t5⟩
        exact ⟨_, _, _, _, rfl, t4.trans t5⟩
  · rintro σ H' ⟨y2, y3, y4, y5, rfl, t⟩
    have dE' := dp_same t dE
    have dd : jE.deep ≤ 20 := Nat.le_trans good_E.2.2 (by decide)
    refine ⟨_, rfl, _, jE, _, _, rfl, dE', dd, sz_E, fun K1 u1 => ?_⟩
    refine ⟨_, rfl, _, jE, _, _, rfl, dp_same u1 dE', dd, sz_E, fun K2 u2 => ?_⟩
    refine ⟨_, rfl, _, jE, _, _, rfl, dp_same (u1.trans u2) dE', dd, sz_E, fun K3 u3 => ?_⟩
    refine ⟨_, .st 0, _, _, rfl, .int 0, (by decide), sz_0, fun K4 u4 => ?_⟩
    refine ⟨(by show 4 ≤ sizeLine; decide), fun l1 hl1 => ?_⟩
    obtain ⟨u5, dl1⟩ := lst_fresh (K := K) (ds := [.int 6, .int 0, .bool true, .bool false]) hl1 (.cons (.int _) (.cons (.int _) (.cons (.bl _) (.cons (.bl _) .nil))))
    refine ⟨(by show 4 ≤ sizeLine; decide), fun l2 hl2 => ?_⟩
    obtain ⟨u6, dl2⟩ := lst_fresh (K := K) (ds := [.int 6, .int 0, .bool true, .bool false]) hl2 (.cons (.int _) (.cons (.int _) (.cons (.bl _) (.cons (.bl _) .nil))))
    refine ⟨_, _, dp_same u6 dl1, dl2, (by decide), (by decide), ?_⟩
    have ev : PyData.eqv (.list [.int 6, .int 0, .bool true, .bool false]) (.list [.int 6, .int 0, .bool true, .bool false]) = true := by decide +kernel
    rw [ev]
    exact q _
end
theorem all_mk {l : PySem.W.OpenLaw} {w : World} {K : PySem.W.Frag} {h : Heap} {mg : Str → Option Value} {fa : Addr} (X : K.In h) (G : h.Ns mainGlobals mg) (hfa : mg "law" = some (.ref fa))
    {od0 an0 : Option Addr} {sl0 : Array (Option Value)} {oc0 kV0 dc0 pm0 cd0 ct0 : Value} {f0 : Addr}
    {od1 an1 : Option Addr} {sl1 : Array (Option Value)} {oc1 kV1 dc1 pm1 cd1 ct1 : Value} {f1 : Addr}
    {od2 an2 : Option Addr} {sl2 : Array (Option Value)} {oc2 kV2 dc2 pm2 cd2 ct2 : Value} {f2 : Addr}
    {od3 an3 : Option Addr} {sl3 : Array (Option Value)} {oc3 kV3 dc3 pm3 cd3 ct3 : Value} {f3 : Addr}
    {od4 an4 : Option Addr} {sl4 : Array (Option Value)} {oc4 kV4 dc4 pm4 cd4 ct4 : Value} {f4 : Addr}
    {od5 an5 : Option Addr} {sl5 : Array (Option Value)} {oc5 kV5 dc5 pm5 cd5 ct5 : Value} {f5 : Addr}
    {od6 an6 : Option Addr} {sl6 : Array (Option Value)} {oc6 kV6 dc6 pm6 cd6 ct6 : Value} {f6 : Addr}
    {od7 an7 : Option Addr} {sl7 : Array (Option Value)} {oc7 kV7 dc7 pm7 cd7 ct7 : Value} {f7 : Addr}
    {od8 an8 : Option Addr} {sl8 : Array (Option Value)} {oc8 kV8 dc8 pm8 cd8 ct8 : Value} {f8 : Addr}
    {od9 an9 : Option Addr} {sl9 : Array (Option Value)} {oc9 kV9 dc9 pm9 cd9 ct9 : Value} {f9 : Addr}
    {od10 an10 : Option Addr} {sl10 : Array (Option Value)} {oc10 kV10 dc10 pm10 cd10 ct10 : Value} {f10 : Addr}
    {od11 an11 : Option Addr} {sl11 : Array (Option Value)} {oc11 kV11 dc11 pm11 cd11 ct11 : Value} {f11 : Addr}
    {od12 an12 : Option Addr} {sl12 : Array (Option Value)} {oc12 kV12 dc12 pm12 cd12 ct12 : Value} {f12 : Addr}
    {od13 an13 : Option Addr} {sl13 : Array (Option Value)} {oc13 kV13 dc13 pm13 cd13 ct13 : Value} {f13 : Addr}
    {od14 an14 : Option Addr} {sl14 : Array (Option Value)} {oc14 kV14 dc14 pm14 cd14 ct14 : Value} {f14 : Addr}
    {od15 an15 : Option Addr} {sl15 : Array (Option Value)} {oc15 kV15 dc15 pm15 cd15 ct15 : Value} {f15 : Addr}
    {od16 an16 : Option Addr} {sl16 : Array (Option Value)} {oc16 kV16 dc16 pm16 cd16 ct16 : Value} {f16 : Addr}
    {od17 an17 : Option Addr} {sl17 : Array (Option Value)} {oc17 kV17 dc17 pm17 cd17 ct17 : Value} {f17 : Addr}
    {od18 an18 : Option Addr} {sl18 : Array (Option Value)} {oc18 kV18 dc18 pm18 cd18 ct18 : Value} {f18 : Addr}
    {od19 an19 : Option Addr} {sl19 : Array (Option Value)} {oc19 kV19 dc19 pm19 cd19 ct19 : Value} {f19 : Addr}
    {tk0 : Tok}
    {tk1 : Tok}
    {tk2 : Tok}
    {tk3 : Tok}
    {tk4 : Tok}
    (a0 : PySem.W.nsIn K mainGlobals "is_integer" = some (some (.ref f0)))
    (l0 : K.lookup f0 = some ⟨oc0, od0, .func (PySem.W.fnOf "is_integer" "is_integer" (defArgs s_is_integer) (defBody s_is_integer) (defScope s_is_integer) .none kV0 dc0 pm0 an0 cd0 ct0), sl0⟩)
    (c0 : PySem.W.codeIn K cd0 "is_integer" = true) (k0 : PySem.W.keepIn K (.ref f0) = true)
    (a1 : PySem.W.nsIn K mainGlobals "is_within" = some (some (.ref f1)))
    (l1 : K.lookup f1 = some ⟨oc1, od1, .func (PySem.W.fnOf "is_within" "is_within" (defArgs s_is_within) (defBody s_is_within) (defScope s_is_within) .none kV1 dc1 pm1 an1 cd1 ct1), sl1⟩)
    (c1 : PySem.W.codeIn K cd1 "is_within" = true) (k1 : PySem.W.keepIn K (.ref f1) = true)
    (a2 : PySem.W.nsIn K mainGlobals "is_job" = some (some (.ref f2)))
    (l2 : K.lookup f2 = some ⟨oc2, od2, .func (PySem.W.fnOf "is_job" "is_job" (defArgs s_is_job) (defBody s_is_job) (defScope s_is_job) .none kV2 dc2 pm2 an2 cd2 ct2), sl2⟩)
    (c2 : PySem.W.codeIn K cd2 "is_job" = true) (k2 : PySem.W.keepIn K (.ref f2) = true)
    (a3 : PySem.W.nsIn K mainGlobals "node_count" = some (some (.ref f3)))
    (l3 : K.lookup f3 = some ⟨oc3, od3, .func (PySem.W.fnOf "node_count" "node_count" (defArgs s_node_count) (defBody s_node_count) (defScope s_node_count) .none kV3 dc3 pm3 an3 cd3 ct3), sl3⟩)
    (c3 : PySem.W.codeIn K cd3 "node_count" = true) (k3 : PySem.W.keepIn K (.ref f3) = true)
    (a4 : PySem.W.nsIn K mainGlobals "step_count" = some (some (.ref f4)))
    (l4 : K.lookup f4 = some ⟨oc4, od4, .func (PySem.W.fnOf "step_count" "step_count" (defArgs s_step_count) (defBody s_step_count) (defScope s_step_count) .none kV4 dc4 pm4 an4 cd4 ct4), sl4⟩)
    (c4 : PySem.W.codeIn K cd4 "step_count" = true) (k4 : PySem.W.keepIn K (.ref f4) = true)
    (a5 : PySem.W.nsIn K mainGlobals "is_empty" = some (some (.ref f5)))
    (l5 : K.lookup f5 = some ⟨oc5, od5, .func (PySem.W.fnOf "is_empty" "is_empty" (defArgs s_is_empty) (defBody s_is_empty) (defScope s_is_empty) .none kV5 dc5 pm5 an5 cd5 ct5), sl5⟩)
    (c5 : PySem.W.codeIn K cd5 "is_empty" = true) (k5 : PySem.W.keepIn K (.ref f5) = true)
    (a6 : PySem.W.nsIn K mainGlobals "checked_sizes" = some (some (.ref f6)))
    (l6 : K.lookup f6 = some ⟨oc6, od6, .func (PySem.W.fnOf "checked_sizes" "checked_sizes" (defArgs s_checked_sizes) (defBody s_checked_sizes) (defScope s_checked_sizes) .none kV6 dc6 pm6 an6 cd6 ct6), sl6⟩)
    (c6 : PySem.W.codeIn K cd6 "checked_sizes" = true) (k6 : PySem.W.keepIn K (.ref f6) = true)
    (a7 : PySem.W.nsIn K mainGlobals "steps_of_leaf" = some (some (.ref f7)))
    (l7 : K.lookup f7 = some ⟨oc7, od7, .func (PySem.W.fnOf "steps_of_leaf" "steps_of_leaf" (defArgs s_steps_of_leaf) (defBody s_steps_of_leaf) (defScope s_steps_of_leaf) .none kV7 dc7 pm7 an7 cd7 ct7), sl7⟩)
    (c7 : PySem.W.codeIn K cd7 "steps_of_leaf" = true) (k7 : PySem.W.keepIn K (.ref f7) = true)
    (a8 : PySem.W.nsIn K mainGlobals "sizes_of" = some (some (.ref f8)))
    (l8 : K.lookup f8 = some ⟨oc8, od8, .func (PySem.W.fnOf "sizes_of" "sizes_of" (defArgs s_sizes_of) (defBody s_sizes_of) (defScope s_sizes_of) .none kV8 dc8 pm8 an8 cd8 ct8), sl8⟩)
    (c8 : PySem.W.codeIn K cd8 "sizes_of" = true) (k8 : PySem.W.keepIn K (.ref f8) = true)
    (a9 : PySem.W.nsIn K mainGlobals "_sizes" = some (some (.ref f9)))
    (l9 : K.lookup f9 = some ⟨oc9, od9, .func (PySem.W.fnOf "_sizes" "_sizes" (defArgs s__sizes) (defBody s__sizes) (defScope s__sizes) .none kV9 dc9 pm9 an9 cd9 ct9), sl9⟩)
    (c9 : PySem.W.codeIn K cd9 "_sizes" = true) (k9 : PySem.W.keepIn K (.ref f9) = true)
    (a10 : PySem.W.nsIn K mainGlobals "_sizes_of_parts" = some (some (.ref f10)))
    (l10 : K.lookup f10 = some ⟨oc10, od10, .func (PySem.W.fnOf "_sizes_of_parts" "_sizes_of_parts" (defArgs s__sizes_of_parts) (defBody s__sizes_of_parts) (defScope s__sizes_of_parts) .none kV10 dc10 pm10 an10 cd10 ct10), sl10⟩)
    (c10 : PySem.W.codeIn K cd10 "_sizes_of_parts" = true) (k10 : PySem.W.keepIn K (.ref f10) = true)
    (a11 : PySem.W.nsIn K mainGlobals "_sizes_of_rounds" = some (some (.ref f11)))
    (l11 : K.lookup f11 = some ⟨oc11, od11, .func (PySem.W.fnOf "_sizes_of_rounds" "_sizes_of_rounds" (defArgs s__sizes_of_rounds) (defBody s__sizes_of_rounds) (defScope s__sizes_of_rounds) .none kV11 dc11 pm11 an11 cd11 ct11), sl11⟩)
    (c11 : PySem.W.codeIn K cd11 "_sizes_of_rounds" = true) (k11 : PySem.W.keepIn K (.ref f11) = true)
    (a12 : PySem.W.nsIn K mainGlobals "_within_count" = some (some (.ref f12)))
    (l12 : K.lookup f12 = some ⟨oc12, od12, .func (PySem.W.fnOf "_within_count" "_within_count" (defArgs s__within_count) (defBody s__within_count) (defScope s__within_count) .none kV12 dc12 pm12 an12 cd12 ct12), sl12⟩)
    (c12 : PySem.W.codeIn K cd12 "_within_count" = true) (k12 : PySem.W.keepIn K (.ref f12) = true)
    (a13 : PySem.W.nsIn K mainGlobals "_law_pot" = some (some (.ref f13)))
    (l13 : K.lookup f13 = some ⟨oc13, od13, .func (PySem.W.fnOf "_law_pot" "_law_pot" (defArgs s__law_pot) (defBody s__law_pot) (defScope s__law_pot) .none kV13 dc13 pm13 an13 cd13 ct13), sl13⟩)
    (c13 : PySem.W.codeIn K cd13 "_law_pot" = true) (k13 : PySem.W.keepIn K (.ref f13) = true)
    (a14 : PySem.W.nsIn K mainGlobals "_law_take" = some (some (.ref f14)))
    (l14 : K.lookup f14 = some ⟨oc14, od14, .func (PySem.W.fnOf "_law_take" "_law_take" (defArgs s__law_take) (defBody s__law_take) (defScope s__law_take) .none kV14 dc14 pm14 an14 cd14 ct14), sl14⟩)
    (c14 : PySem.W.codeIn K cd14 "_law_take" = true) (k14 : PySem.W.keepIn K (.ref f14) = true)
    (a15 : PySem.W.nsIn K mainGlobals "_law_step" = some (some (.ref f15)))
    (l15 : K.lookup f15 = some ⟨oc15, od15, .func (PySem.W.fnOf "_law_step" "_law_step" (defArgs s__law_step) (defBody s__law_step) (defScope s__law_step) .none kV15 dc15 pm15 an15 cd15 ct15), sl15⟩)
    (c15 : PySem.W.codeIn K cd15 "_law_step" = true) (k15 : PySem.W.keepIn K (.ref f15) = true)
    (a16 : PySem.W.nsIn K mainGlobals "_law_job" = some (some (.ref f16)))
    (l16 : K.lookup f16 = some ⟨oc16, od16, .func (PySem.W.fnOf "_law_job" "_law_job" (defArgs s__law_job) (defBody s__law_job) (defScope s__law_job) .none kV16 dc16 pm16 an16 cd16 ct16), sl16⟩)
    (c16 : PySem.W.codeIn K cd16 "_law_job" = true) (k16 : PySem.W.keepIn K (.ref f16) = true)
    (a17 : PySem.W.nsIn K mainGlobals "_law_steps" = some (some (.ref f17)))
    (l17 : K.lookup f17 = some ⟨oc17, od17, .func (PySem.W.fnOf "_law_steps" "_law_steps" (defArgs s__law_steps) (defBody s__law_steps) (defScope s__law_steps) .none kV17 dc17 pm17 an17 cd17 ct17), sl17⟩)
    (c17 : PySem.W.codeIn K cd17 "_law_steps" = true) (k17 : PySem.W.keepIn K (.ref f17) = true)
    (a18 : PySem.W.nsIn K mainGlobals "_law_nodes" = some (some (.ref f18)))
    (l18 : K.lookup f18 = some ⟨oc18, od18, .func (PySem.W.fnOf "_law_nodes" "_law_nodes" (defArgs s__law_nodes) (defBody s__law_nodes) (defScope s__law_nodes) .none kV18 dc18 pm18 an18 cd18 ct18), sl18⟩)
    (c18 : PySem.W.codeIn K cd18 "_law_nodes" = true) (k18 : PySem.W.keepIn K (.ref f18) = true)
    (a19 : PySem.W.nsIn K mainGlobals "law" = some (some (.ref f19)))
    (l19 : K.lookup f19 = some ⟨oc19, od19, .func (PySem.W.fnOf "law" "law" (defArgs s_law) (defBody s_law) (defScope s_law) .none kV19 dc19 pm19 an19 cd19 ct19), sl19⟩)
    (c19 : PySem.W.codeIn K cd19 "law" = true) (k19 : PySem.W.keepIn K (.ref f19) = true)
    (gc0 : PySem.W.nsIn K mainGlobals "MAX_STEP" = some (some (.int 1000000000000000000000000000000 tk0)))
    (gc1 : PySem.W.nsIn K mainGlobals "MAX_COUNT" = some (some (.int 1000000000000000000000000000000 tk1)))
    (gc2 : PySem.W.nsIn K mainGlobals "MAX_PARTS" = some (some (.int 400 tk2)))
    (gc3 : PySem.W.nsIn K mainGlobals "MAX_NODES" = some (some (.int 400 tk3)))
    (gc4 : PySem.W.nsIn K mainGlobals "MAX_DEPTH" = some (some (.int 13 tk4)))
    (z0 : PySem.W.nsIn K mainGlobals "abs" = some none)
    (z1 : PySem.W.nsIn K mainGlobals "bool" = some none)
    (z2 : PySem.W.nsIn K mainGlobals "int" = some none)
    (z3 : PySem.W.nsIn K mainGlobals "isinstance" = some none)
    (z4 : PySem.W.nsIn K mainGlobals "len" = some none)
    (z5 : PySem.W.nsIn K mainGlobals "max" = some none)
    (z6 : PySem.W.nsIn K mainGlobals "min" = some none)
    (z7 : PySem.W.nsIn K mainGlobals "range" = some none)
    (z8 : PySem.W.nsIn K mainGlobals "repr" = some none)
    (z9 : PySem.W.nsIn K mainGlobals "sum" = some none)
    (z10 : PySem.W.nsIn K mainGlobals "tuple" = some none) :
    ∃ fd : FuncData, (∀ (s : Shared) (v : Value), BindsTo s fd ⟨[v], []⟩ [("_law_script", v)]) ∧ ∀ base : Heap, K.In base → base.Ns mainGlobals mg → FnG l.prog w K mg base CX0 60 fa fd ["_law_script"] (spLaw K) := by
  have e := hfa.symm.trans (PySem.W.mg_of X G a19)
  cases e
  have T : Txt K mg := by
    have F0 := fun_mk (st := s_is_integer) l0 c0 k0
    have F1 := fun_mk (st := s_is_within) l1 c1 k1
    have F2 := fun_mk (st := s_is_job) l2 c2 k2
    have F3 := fun_mk (st := s_node_count) l3 c3 k3
    have F4 := fun_mk (st := s_step_count) l4 c4 k4
    have F5 := fun_mk (st := s_is_empty) l5 c5 k5
    have F6 := fun_mk (st := s_checked_sizes) l6 c6 k6
    have F7 := fun_mk (st := s_steps_of_leaf) l7 c7 k7
    have F8 := fun_mk (st := s_sizes_of) l8 c8 k8
    have F9 := fun_mk (st := s__sizes) l9 c9 k9
    have F10 := fun_mk (st := s__sizes_of_parts) l10 c10 k10
    have F11 := fun_mk (st := s__sizes_of_rounds) l11 c11 k11
    have F12 := fun_mk (st := s__within_count) l12 c12 k12
    have F13 := fun_mk (st := s__law_pot) l13 c13 k13
    have F14 := fun_mk (st := s__law_take) l14 c14 k14
    have F15 := fun_mk (st := s__law_step) l15 c15 k15
    have F16 := fun_mk (st := s__law_job) l16 c16 k16
    have F17 := fun_mk (st := s__law_steps) l17 c17 k17
    have F18 := fun_mk (st := s__law_nodes) l18 c18 k18
    have B0 := F0.binds (ps := ["value"]) fun _ _ _ _ _ _ us hl => match us, hl with | [_], _ => rfl
    have B1 := F1.binds (ps := ["value", "least", "greatest"]) fun _ _ _ _ _ _ us hl => match us, hl with | [_, _, _], _ => rfl
    have B2 := F2.binds (ps := ["value"]) fun _ _ _ _ _ _ us hl => match us, hl with | [_], _ => rfl
    have B3 := F3.binds (ps := ["job"]) fun _ _ _ _ _ _ us hl => match us, hl with | [_], _ => rfl
    have B4 := F4.binds (ps := ["job"]) fun _ _ _ _ _ _ us hl => match us, hl with | [_], _ => rfl
    have B5 := F5.binds (ps := ["job"]) fun _ _ _ _ _ _ us hl => match us, hl with | [_], _ => rfl
    have B6 := F6.binds (ps := ["job"]) fun _ _ _ _ _ _ us hl => match us, hl with | [_], _ => rfl
    have B7 := F7.binds (ps := ["value"]) fun _ _ _ _ _ _ us hl => match us, hl with | [_], _ => rfl
    have B8 := F8.binds (ps := ["value", "leaf_steps"]) fun _ _ _ _ _ _ us hl => match us, hl with | [_, _], _ => rfl
    have B9 := F9.binds (ps := ["value", "leaf_steps", "room", "levels"]) fun _ _ _ _ _ _ us hl => match us, hl with | [_, _, _, _], _ => rfl
    have B10 := F10.binds (ps := ["parts", "leaf_steps", "room", "levels"]) fun _ _ _ _ _ _ us hl => match us, hl with | [_, _, _, _], _ => rfl
    have B11 := F11.binds (ps := ["n", "inner", "leaf_steps", "room", "levels"]) fun _ _ _ _ _ _ us hl => match us, hl with | [_, _, _, _, _], _ => rfl
    have B12 := F12.binds (ps := ["nodes", "steps"]) fun _ _ _ _ _ _ us hl => match us, hl with | [_, _], _ => rfl
    have B13 := F13.binds (ps := ["_law_script", "_law_k"]) fun _ _ _ _ _ _ us hl => match us, hl with | [_, _], _ => rfl
    have B14 := F14.binds (ps := ["_law_pot_here", "_law_many"]) fun _ _ _ _ _ _ us hl => match us, hl with | [_, _], _ => rfl
    have B15 := F15.binds (ps := ["_law_pot_here"]) fun _ _ _ _ _ _ us hl => match us, hl with | [_], _ => rfl
    have B16 := F16.binds (ps := ["_law_pot_here", "_law_deep", "_law_counts"]) fun _ _ _ _ _ _ us hl => match us, hl with | [_, _, _], _ => rfl
    have B17 := F17.binds (ps := ["_law_job_here"]) fun _ _ _ _ _ _ us hl => match us, hl with | [_], _ => rfl
    have B18 := F18.binds (ps := ["_law_job_here"]) fun _ _ _ _ _ _ us hl => match us, hl with | [_], _ => rfl
    exact {
      f_is_integer := f0, d_is_integer := _, F_is_integer := F0, b_is_integer := B0, m_is_integer := PySem.W.mg_of X G a0,
      f_is_within := f1, d_is_within := _, F_is_within := F1, b_is_within := B1, m_is_within := PySem.W.mg_of X G a1,
      f_is_job := f2, d_is_job := _, F_is_job := F2, b_is_job := B2, m_is_job := PySem.W.mg_of X G a2,
      f_node_count := f3, d_node_count := _, F_node_count := F3, b_node_count := B3, m_node_count := PySem.W.mg_of X G a3,
      f_step_count := f4, d_step_count := _, F_step_count := F4, b_step_count := B4, m_step_count := PySem.W.mg_of X G a4,
      f_is_empty := f5, d_is_empty := _, F_is_empty := F5, b_is_empty := B5, m_is_empty := PySem.W.mg_of X G a5,
      f_checked_sizes := f6, d_checked_sizes := _, F_checked_sizes := F6, b_checked_sizes := B6, m_checked_sizes := PySem.W.mg_of X G a6,
      f_steps_of_leaf := f7, d_steps_of_leaf := _, F_steps_of_leaf := F7, b_steps_of_leaf := B7, m_steps_of_leaf := PySem.W.mg_of X G a7,
      f_sizes_of := f8, d_sizes_of := _, F_sizes_of := F8, b_sizes_of := B8, m_sizes_of := PySem.W.mg_of X G a8,
      f__sizes := f9, d__sizes := _, F__sizes := F9, b__sizes := B9, m__sizes := PySem.W.mg_of X G a9,
      f__sizes_of_parts := f10, d__sizes_of_parts := _, F__sizes_of_parts := F10, b__sizes_of_parts := B10, m__sizes_of_parts := PySem.W.mg_of X G a10,
      f__sizes_of_rounds := f11, d__sizes_of_rounds := _, F__sizes_of_rounds := F11, b__sizes_of_rounds := B11, m__sizes_of_rounds := PySem.W.mg_of X G a11,
      f__within_count := f12, d__within_count := _, F__within_count := F12, b__within_count := B12, m__within_count := PySem.W.mg_of X G a12,
      f__law_pot := f13, d__law_pot := _, F__law_pot := F13, b__law_pot := B13, m__law_pot := PySem.W.mg_of X G a13,
      f__law_take := f14, d__law_take := _, F__law_take := F14, b__law_take := B14, m__law_take := PySem.W.mg_of X G a14,
      f__law_step := f15, d__law_step := _, F__law_step := F15, b__law_step := B15, m__law_step := PySem.W.mg_of X G a15,
      f__law_job := f16, d__law_job := _, F__law_job := F16, b__law_job := B16, m__law_job := PySem.W.mg_of X G a16,
      f__law_steps := f17, d__law_steps := _, F__law_steps := F17, b__law_steps := B17, m__law_steps := PySem.W.mg_of X G a17,
      f__law_nodes := f18, d__law_nodes := _, F__law_nodes := F18, b__law_nodes := B18, m__law_nodes := PySem.W.mg_of X G a18,
      t_MAX_STEP := tk0, g_MAX_STEP := PySem.W.mg_of X G gc0,
      t_MAX_COUNT := tk1, g_MAX_COUNT := PySem.W.mg_of X G gc1,
      t_MAX_PARTS := tk2, g_MAX_PARTS := PySem.W.mg_of X G gc2,
      t_MAX_NODES := tk3, g_MAX_NODES := PySem.W.mg_of X G gc3,
      t_MAX_DEPTH := tk4, g_MAX_DEPTH := PySem.W.mg_of X G gc4,
      n_abs := PySem.W.mg_none_of X G z0,
      n_bool := PySem.W.mg_none_of X G z1,
      n_int := PySem.W.mg_none_of X G z2,
      n_isinstance := PySem.W.mg_none_of X G z3,
      n_len := PySem.W.mg_none_of X G z4,
      n_max := PySem.W.mg_none_of X G z5,
      n_min := PySem.W.mg_none_of X G z6,
      n_range := PySem.W.mg_none_of X G z7,
      n_repr := PySem.W.mg_none_of X G z8,
      n_sum := PySem.W.mg_none_of X G z9,
      n_tuple := PySem.W.mg_none_of X G z10 }
  exact ⟨PySem.W.fnOf "law" "law" (defArgs s_law) (defBody s_law) (defScope s_law) .none kV19 dc19 pm19 an19 cd19 ct19, fun s v => .of_eq rfl, fun base _ _ => ok_law (fun_mk (st := s_law) l19 c19 k19) T⟩
end Lw

open PySem PySem.W PyProof.Rows
set_option maxRecDepth 100000 in
set_option maxHeartbeats 0 in
theorem PySem.Challenge.cw_roomprofile_k02_sizes_of_jobs_holds : PySem.Challenge.rw_roomprofile_k02_sizes_of_jobs.Holds := by
  w_on; o_law; k_head; (case hw => w_witness2)
  k_fill
  refine Rp.law_end (l := PySem.Challenge.rw_roomprofile_k02_sizes_of_jobs) (n := 63) (k := 60) (x := "_law_script") (sp := Lw.spLaw) rfl (by decide) rfl ⟨rfl, by decide, by decide⟩ (fun w h Y => PySem.W.kIn_of Y) ?F (fun K H a ns hl hO hS => ⟨a, ns, rfl, hO, hS, hl, fun _ => rfl⟩)
  case F =>
    intro w mg fa h KX G hmg
    refine' Lw.all_mk KX G hmg ?a0 ?l0 ?c0 ?k0 ?a1 ?l1 ?c1 ?k1 ?a2 ?l2 ?c2 ?k2 ?a3 ?l3 ?c3 ?k3 ?a4 ?l4 ?c4 ?k4 ?a5 ?l5 ?c5 ?k5 ?a6 ?l6 ?c6 ?k6 ?a7 ?l7 ?c7 ?k7 ?a8 ?l8 ?c8 ?k8 ?a9 ?l9 ?c9 ?k9 ?a10 ?l10 ?c10 ?k10 ?a11 ?l11 ?c11 ?k11 ?a12 ?l12 ?c12 ?k12 ?a13 ?l13 ?c13 ?k13 ?a14 ?l14 ?c14 ?k14 ?a15 ?l15 ?c15 ?k15 ?a16 ?l16 ?c16 ?k16 ?a17 ?l17 ?c17 ?k17 ?a18 ?l18 ?c18 ?k18 ?a19 ?l19 ?c19 ?k19 ?gc0 ?gc1 ?gc2 ?gc3 ?gc4 ?z0 ?z1 ?z2 ?z3 ?z4 ?z5 ?z6 ?z7 ?z8 ?z9 ?z10
    (case a0 => k_is)
    (case l0 => k_is)
    (case c0 => k_is)
    (case k0 => k_is)
    (case a1 => k_is)
    (case l1 => k_is)
    (case c1 => k_is)
    (case k1 => k_is)
    (case a2 => k_is)
    (case l2 => k_is)
    (case c2 => k_is)
    (case k2 => k_is)
    (case a3 => k_is)
    (case l3 => k_is)
    (case c3 => k_is)
    (case k3 => k_is)
    (case a4 => k_is)
    (case l4 => k_is)
    (case c4 => k_is)
    (case k4 => k_is)
    (case a5 => k_is)
    (case l5 => k_is)
    (case c5 => k_is)
    (case k5 => k_is)
    (case a6 => k_is)
    (case l6 => k_is)
    (case c6 => k_is)
    (case k6 => k_is)
    (case a7 => k_is)
    (case l7 => k_is)
    (case c7 => k_is)
    (case k7 => k_is)
    (case a8 => k_is)
    (case l8 => k_is)
    (case c8 => k_is)
    (case k8 => k_is)
    (case a9 => k_is)
    (case l9 => k_is)
    (case c9 => k_is)
    (case k9 => k_is)
    (case a10 => k_is)
    (case l10 => k_is)
    (case c10 => k_is)
    (case k10 => k_is)
    (case a11 => k_is)
    (case l11 => k_is)
    (case c11 => k_is)
    (case k11 => k_is)
    (case a12 => k_is)
    (case l12 => k_is)
    (case c12 => k_is)
    (case k12 => k_is)
    (case a13 => k_is)
    (case l13 => k_is)
    (case c13 => k_is)
    (case k13 => k_is)
    (case a14 => k_is)
    (case l14 => k_is)
    (case c14 => k_is)
    (case k14 => k_is)
    (case a15 => k_is)
    (case l15 => k_is)
    (case c15 => k_is)
    (case k15 => k_is)
    (case a16 => k_is)
    (case l16 => k_is)
    (case c16 => k_is)
    (case k16 => k_is)
    (case a17 => k_is)
    (case l17 => k_is)
    (case c17 => k_is)
    (case k17 => k_is)
    (case a18 => k_is)
    (case l18 => k_is)
    (case c18 => k_is)
    (case k18 => k_is)
    (case a19 => k_is)
    (case l19 => k_is)
    (case c19 => k_is)
    (case k19 => k_is)
    (case gc0 => k_is)
    (case gc1 => k_is)
    (case gc2 => k_is)
    (case gc3 => k_is)
    (case gc4 => k_is)
    (case z0 => k_is)
    (case z1 => k_is)
    (case z2 => k_is)
    (case z3 => k_is)
    (case z4 => k_is)
    (case z5 => k_is)
    (case z6 => k_is)
    (case z7 => k_is)
    (case z8 => k_is)
    (case z9 => k_is)
    (case z10 => k_is)
