import PyProof.Rows.All
import Wide.All
import OpenK.AllK
import Wide.FinOn
import HandS.ForMost
import HandS.IsInst
import HandS.TupAny
import HandS.Wide
import HandS.Codes
import HandS.Style
import PyProof.ReprRoads
import PyProof.ReprLen
import PyProof.ReprBulk
import PyProof.FitsInt
import HandS.TryOnly
import HandS.Deep
import HandS.Zip
import HandS.Walk
import HandS.CallLocal
import PySem.Challenge.RW_roomprofile_k03_whole_lowest_usage
set_option Elab.async false
set_option linter.all false
set_option maxRecDepth 100000
set_option maxHeartbeats 4000000
/-! Rp: what the proofs of the laws over roomprofile share: powers, data, repr, isinstance, heaps. -/
namespace Rp
open PySem L2

/-! ### powers of great ints -/
def CPowW (i j : Int) : Prop := 0 ≤ j ∧ (Builtin.Int.intBits i : Int) * j ≤ 2 ^ 27
theorem bits_le {i : Int} {b : Nat} (hi : i.natAbs < 2 ^ b) : Builtin.Int.intBits i ≤ b := by
  unfold Builtin.Int.intBits
  split
  · exact Nat.zero_le _
  · rename_i hne
    have h0 : i.natAbs ≠ 0 := by
      intro z
      apply hne
      have : i = 0 := by omega
      subst this
      rfl
    have := (Nat.log2_lt h0).mpr hi
    omega
theorem powW_of {i j : Int} (b : Nat) (h0 : 0 ≤ j) (hi : i.natAbs < 2 ^ b) (hb : (b : Int) * j ≤ 2 ^ 27) : CPowW i j := by
  refine ⟨h0, Int.le_trans ?_ hb⟩
  have := bits_le hi
  exact Int.mul_le_mul_of_nonneg_right (by omega) h0
section
variable {X : Cx}
theorem op_powW : OpR X (binaryOp .Pow) (rI CPowW fun i j => .int (i ^ j.toNat)) := opI fun _ _ _ _ _ _ _ hc q => PyProof.Rows.pow_int hc.1 hc.2 q
end

/-! ### data -/
def tyN : PyData → String
  | .none => "NoneType"
  | .bool _ => "bool"
  | .int _ => "int"
  | .str _ => "str"
  | .list _ => "list"
  | .tuple _ => "tuple"
  | .dict _ => "dict"
theorem dp_ty {K : PySem.W.Frag} {H : Hp} {v : V} {d : PyData} (h : Dp K H v d) : TyX K H v (.type (tyN d)) := by
  cases h with
  | non => exact .base .non
  | bl b => exact .base (.bl b)
  | int i => exact .base (.int i)
  | str x => exact .base (.str x)
  | lst hs ha =>
    rcases hs with (e | ⟨o, e⟩) | ⟨o, its, n, hk, hc, _⟩
    · exact .base (.lst e)
    · exact .base (.frz e)
    · exact .kList hk hc
  | tup hs ha =>
    rcases hs with (e | ⟨o, e⟩) | ⟨o, its, n, hk, hc, _⟩
    · exact .base (.tup e)
    · exact .fTuple e
    · exact .kTuple hk hc
def isInt : PyData → Bool
  | .int _ => true
  | .bool _ => true
  | _ => false
def isBoo : PyData → Bool
  | .bool _ => true
  | _ => false
def isTup : PyData → Bool
  | .tuple _ => true
  | _ => false
def isStr : PyData → Bool
  | .str _ => true
  | _ => false
def isLst : PyData → Bool
  | .list _ => true
  | _ => false
theorem kit_int (d : PyData) : kitB (tyN d) "int" = some (isInt d) := by cases d <;> (simp only [tyN, isInt]; decide +kernel)
theorem kit_bool (d : PyData) : kitB (tyN d) "bool" = some (isBoo d) := by cases d <;> (simp only [tyN, isBoo]; decide +kernel)
theorem kit_tuple (d : PyData) : kitB (tyN d) "tuple" = some (isTup d) := by cases d <;> (simp only [tyN, isTup]; decide +kernel)
theorem kit_str (d : PyData) : kitB (tyN d) "str" = some (isStr d) := by cases d <;> (simp only [tyN, isStr]; decide +kernel)
theorem kit_list (d : PyData) : kitB (tyN d) "list" = some (isLst d) := by cases d <;> (simp only [tyN, isLst]; decide +kernel)
section
variable {X : Cx}
def rIsD (K : PySem.W.Frag) : List V → Hp → VK → Prop := fun xs H Q => ∃ (v : V) (n : String) (d : PyData) (b : Bool), xs = [v, .ty n] ∧ Dp K H v d ∧ kitB (tyN d) n = some b ∧ Q (.bl b) H
theorem call_isD : CallR X (.builtin "isinstance") (rIsD X.K) := by
  intro pins s σ H xs us Q I r h
  obtain ⟨v, n, d, b, e, hd, hk, q⟩ := h
  exact call_isi pins s σ H xs us Q I r ⟨v, .ty n, _, _, _, e, .ty n, dp_ty hd, kit_ty hk, q⟩
end

/-! ### len, list(..), tuple(..) by names -/
section
variable {X : Cx}
def rLenS (K : PySem.W.Frag) : List V → Hp → VK → Prop := fun xs H Q => ∃ (p : Addr) (ys : List V), xs = [.ref p] ∧ (SqL K H p ys ∨ SqT K H p ys) ∧ Q (.int ys.length) H
theorem call_lenS : CallR X (.builtin "len") (rLenS X.K) := call_len_seq
def rListS (K : PySem.W.Frag) : List V → Hp → VK → Prop := fun xs H Q => ∃ (p : Addr) (ys : List V), xs = [.ref p] ∧ (SqL K H p ys ∨ SqT K H p ys) ∧ ∀ l, H l = none → Q (.ref l) (upd H l (.lst ys))
theorem call_listS : CallR X (.type "list") (rListS X.K) := call_list_of
def rTupS (K : PySem.W.Frag) : List V → Hp → VK → Prop := fun xs H Q => ∃ (p : Addr) (ys : List V), xs = [.ref p] ∧ ((SqL K H p ys ∧ ∀ l, H l = none → Q (.ref l) (upd H l (.tup ys))) ∨ (SqT K H p ys ∧ Q (.ref p) H))
theorem call_tupS : CallR X (.type "tuple") (rTupS X.K) := call_tuple_of
end

/-! ### repr of data -/
mutual
/-- data whose text is made without trouble: no dicts, ints of at most 180 digits, signs below 16 ^ 8 -/
def fine : PyData → Prop
  | .int i => i.natAbs < 10 ^ 180
  | .str x => (x.cps.toList.all fun c => decide (c < 16 ^ 8)) = true
  | .list xs => fines xs
  | .tuple xs => fines xs
  | .dict _ => False
  | _ => True
def fines : List PyData → Prop
  | [] => True
  | x :: xs => fine x ∧ fines xs
end
theorem int_log {i : Int} (h : i.natAbs < 10 ^ 180) : i.natAbs.log2 < 1920 := by
  by_cases z : i.natAbs = 0
  · rw [z]
    decide
  · exact (Nat.log2_lt z).mpr (Nat.lt_trans h (by decide +kernel))
theorem shown_int {i : Int} (h : i.natAbs < 10 ^ 180) : (PyData.shown (.int i)).length ≤ 200 := by
  have e := int_text_length_le10 (k := 180) (by decide) h
  show (Str.ofString (toString i)).length ≤ 200
  rw [ofString_length]
  omega
mutual
theorem fine_ok : ∀ d : PyData, fine d → d.showable = true ∧ d.leavesShort 200 = true ∧ d.hasDict = false
  | .none, _ => by simp [PyData.showable, PyData.leavesShort, PyData.hasDict]
  | .bool _, _ => by simp [PyData.showable, PyData.leavesShort, PyData.hasDict]
  | .int i, h => by
    simp only [fine] at h
    simp only [PyData.showable, PyData.leavesShort, PyData.hasDict, decide_eq_true_eq, and_true]
    exact ⟨int_log h, shown_int h⟩
  | .str x, h => by
    simp only [fine] at h
    simp only [PyData.showable, PyData.leavesShort, PyData.hasDict, and_true, true_and]
    exact h
  | .list xs, h => by
    simp only [fine] at h
    simp only [PyData.showable, PyData.leavesShort, PyData.hasDict]
    exact fines_ok xs h
  | .tuple xs, h => by
    simp only [fine] at h
    simp only [PyData.showable, PyData.leavesShort, PyData.hasDict]
    exact fines_ok xs h
  | .dict _, h => by simp only [fine] at h
theorem fines_ok : ∀ xs : List PyData, fines xs → PyData.showableAll xs = true ∧ PyData.leavesShortAll 200 xs = true ∧ PyData.hasDictAll xs = false
  | [], _ => by simp [PyData.showableAll, PyData.leavesShortAll, PyData.hasDictAll]
  | x :: xs, h => by
    simp only [fines] at h
    obtain ⟨a1, a2, a3⟩ := fine_ok x h.1
    obtain ⟨b1, b2, b3⟩ := fines_ok xs h.2
    simp only [PyData.showableAll, PyData.leavesShortAll, PyData.hasDictAll, a1, a2, a3, b1, b2, b3, Bool.and_self, Bool.or_self, and_self]
end
section
variable {X : Cx}
def rRepr (K : PySem.W.Frag) : List V → Hp → VK → Prop := fun xs H Q => ∃ (v : V) (d : PyData), xs = [v] ∧ Dp K H v d ∧ fine d ∧ d.depth ≤ 64 ∧ d.bulk ≤ 80000 ∧ Q (.str d.shown) H
theorem call_reprD (hg : X.A.guards = some []) (hu : X.A.units + 66 < cLine) : CallR X (.builtin "repr") (rRepr X.K) := by
  intro pins s σ H xs us Q I r h
  obtain ⟨v, d, rfl, hd, hf, hdep, hw, q⟩ := h
  obtain ⟨hs, hl, hnd⟩ := fine_ok d hf
  have hz : d.shown.length ≤ sizeLine := by
    have := PyData.shown_le_bulk 200 (by decide) d hl
    rw [sizeLine_eq]
    omega
  obtain ⟨u, rfl, ru⟩ := vals1 r
  have hsm : ∀ as : List Addr, d.hasDict = true → sysModules ∉ as := fun as => PyData.noDict_hsm hnd
  obtain ⟨as, hr⟩ := Dp.reads I d v u hd ru
  cases hr with
  | none => exact P.repr_of_none ⟨.str _, H, I.tok _, ⟨_, rfl⟩, q⟩
  | bool b => exact P.repr_of_bool ⟨.str _, H, I.tok _, ⟨_, rfl⟩, q⟩
  | int i t => exact P.repr_of_int (by simpa [PyData.showable] using hs) ⟨.str _, H, I.tok _, ⟨_, rfl⟩, q⟩
  | str x t => exact P.repr_of_str ⟨.str _, H, I.tok _, ⟨_, rfl⟩, q⟩ (by simpa only [PyData.shown] using hz)
  | list h1 h2 h3 h4 =>
    refine repr_of_reads' (h₀ := s.heap) (.list h1 h2 h3 h4) hs (hsm _) hg (by omega) (fun _ _ e => e) (fun h' u' tk hk => ?_) hz
    exact ⟨.str _, H, I.kept hk, ⟨_, rfl⟩, q⟩
  | tuple h1 h2 h3 h4 =>
    refine repr_of_reads' (h₀ := s.heap) (.tuple h1 h2 h3 h4) hs (hsm _) hg (by omega) (fun _ _ e => e) (fun h' u' tk hk => ?_) hz
    exact ⟨.str _, H, I.kept hk, ⟨_, rfl⟩, q⟩
  | dict _ _ _ _ _ => exact absurd hnd (by simp [PyData.hasDict])
end

/-! ### what stays of the heap -/
theorem same_sqT {K : PySem.W.Frag} {H H' : Hp} {a : Addr} {xs : List V} (s : Same H H') (h : SqT K H a xs) : SqT K H' a xs := by
  rcases h with (h | ⟨o, h⟩) | h
  · exact .inl (.inl (s _ _ h))
  · exact .inl (.inr ⟨o, s _ _ h⟩)
  · exact .inr h
theorem same_new {H : Hp} {p : Addr} {o : HO} (h : H p = none) : Same H (upd H p o) := fun b u q => by rw [upd_ne (ne_of_none q h)]; exact q
mutual
theorem dp_same {K : PySem.W.Frag} {H H' : Hp} (s : Same H H') : ∀ {d : PyData} {v : V}, Dp K H v d → Dp K H' v d
  | .none, _, h => by cases h; exact .non
  | .bool _, _, h => by cases h; exact .bl _
  | .int _, _, h => by cases h; exact .int _
  | .str _, _, h => by cases h; exact .str _
  | .list ds, _, h => by
    cases h with
    | lst hs ha => exact .lst (s.seq hs) (dpAll_same s ha)
  | .tuple ds, _, h => by
    cases h with
    | tup hs ha => exact .tup (same_sqT s hs) (dpAll_same s ha)
  | .dict _, _, h => by cases h
theorem dpAll_same {K : PySem.W.Frag} {H H' : Hp} (s : Same H H') : ∀ {ds : List PyData} {vs : List V}, DpAll K H vs ds → DpAll K H' vs ds
  | [], _, h => by cases h; exact .nil
  | d :: ds, _, h => by
    cases h with
    | cons h1 h2 => exact .cons (dp_same s h1) (dpAll_same s h2)
end
/-- all but p stays -/
def Sx (p : Addr) (H H' : Hp) : Prop := ∀ b o, b ≠ p → H b = some o → H' b = some o
theorem Sx.refl {p : Addr} {H : Hp} : Sx p H H := fun _ _ _ h => h
theorem Sx.trans {p : Addr} {H H1 H2 : Hp} (a : Sx p H H1) (b : Sx p H1 H2) : Sx p H H2 := fun c o n h => b c o n (a c o n h)
theorem Same.sx {p : Addr} {H H' : Hp} (s : Same H H') : Sx p H H' := fun b o _ h => s b o h
theorem sx_upd {p : Addr} {H : Hp} {o : HO} : Sx p H (upd H p o) := fun b u n h => by rw [upd_ne n]; exact h
theorem sx_new {p q : Addr} {H : Hp} {o : HO} (h : H q = none) : Sx p H (upd H q o) := fun b u _ q => same_new h b u q
/-! data without lists and dicts -/
mutual
def noL : PyData → Bool
  | .list _ => false
  | .dict _ => false
  | .tuple ds => noLs ds
  | _ => true
def noLs : List PyData → Bool
  | [] => true
  | d :: ds => noL d && noLs ds
end
theorem Sx.sqT {K : PySem.W.Frag} {p a : Addr} {H H' : Hp} {l xs : List V} (s : Sx p H H') (hp : H p = some (.lst l)) (h : SqT K H a xs) : SqT K H' a xs := by
  rcases h with (h | ⟨o, h⟩) | h
  · exact .inl (.inl (s _ _ (ne_of h hp (by intro z; cases z)) h))
  · exact .inl (.inr ⟨o, s _ _ (ne_of h hp (by intro z; cases z)) h⟩)
  · exact .inr h
mutual
theorem dp_keep {K : PySem.W.Frag} {H H' : Hp} (s : ∀ a xs, SqT K H a xs → SqT K H' a xs) : ∀ {d : PyData} {v : V}, noL d = true → Dp K H v d → Dp K H' v d
  | .none, _, _, h => by cases h; exact .non
  | .bool _, _, _, h => by cases h; exact .bl _
  | .int _, _, _, h => by cases h; exact .int _
  | .str _, _, _, h => by cases h; exact .str _
  | .list ds, _, n, h => by simp [noL] at n
  | .tuple ds, _, n, h => by
    cases h with
    | tup hs ha => exact .tup (s _ _ hs) (dpAll_keep s (by simpa [noL] using n) ha)
  | .dict _, _, _, h => by cases h
theorem dpAll_keep {K : PySem.W.Frag} {H H' : Hp} (s : ∀ a xs, SqT K H a xs → SqT K H' a xs) : ∀ {ds : List PyData} {vs : List V}, noLs ds = true → DpAll K H vs ds → DpAll K H' vs ds
  | [], _, _, h => by cases h; exact .nil
  | d :: ds, _, n, h => by
    cases h with
    | cons h1 h2 =>
      have n' : noL d = true ∧ noLs ds = true := by simpa [noLs] using n
      exact .cons (dp_keep s n'.1 h1) (dpAll_keep s n'.2 h2)
end
theorem Sx.dp {K : PySem.W.Frag} {p : Addr} {H H' : Hp} {l : List V} {d : PyData} {v : V} (s : Sx p H H') (hp : H p = some (.lst l)) (n : noL d = true) (h : Dp K H v d) : Dp K H' v d :=
  dp_keep (fun _ _ z => s.sqT hp z) n h
theorem dpAll_length {K : PySem.W.Frag} {H : Hp} : ∀ {vs : List V} {ds : List PyData}, DpAll K H vs ds → vs.length = ds.length
  | _, _, .nil => rfl
  | _, _, .cons _ h => congrArg (· + 1) (dpAll_length h)
theorem dpAll_get {K : PySem.W.Frag} {H : Hp} : ∀ {vs : List V} {ds : List PyData} {i : Nat} {v : V}, DpAll K H vs ds → vs[i]? = some v → ∃ d, ds[i]? = some d ∧ Dp K H v d
  | _, _, _, _, .nil, e => by simp at e
  | _, _, 0, _, .cons h _, e => by
    simp at e
    subst e
    exact ⟨_, rfl, h⟩
  | _, _, i + 1, _, .cons _ t, e => by
    obtain ⟨d, e1, e2⟩ := dpAll_get (i := i) t (by simpa using e)
    exact ⟨d, by simpa using e1, e2⟩
theorem dpAll_append {K : PySem.W.Frag} {H : Hp} : ∀ {vs ws : List V} {ds es : List PyData}, DpAll K H vs ds → DpAll K H ws es → DpAll K H (vs ++ ws) (ds ++ es)
  | _, _, _, _, .nil, h => h
  | _, _, _, _, .cons h t, h' => .cons h (dpAll_append t h')
theorem dpAll_one {K : PySem.W.Frag} {H : Hp} {v : V} {d : PyData} (h : Dp K H v d) : DpAll K H [v] [d] := .cons h .nil
theorem dpAll_rev {K : PySem.W.Frag} {H : Hp} : ∀ {vs : List V} {ds : List PyData}, DpAll K H vs ds → DpAll K H vs.reverse ds.reverse
  | _, _, .nil => .nil
  | _, _, .cons h t => by
    rw [List.reverse_cons, List.reverse_cons]
    exact dpAll_append (dpAll_rev t) (.cons h .nil)
theorem dp_int_inv {K : PySem.W.Frag} {H : Hp} {v : V} {i : Int} (h : Dp K H v (.int i)) : v = .int i := by cases h; rfl
theorem dp_str_inv {K : PySem.W.Frag} {H : Hp} {v : V} {x : Str} (h : Dp K H v (.str x)) : v = .str x := by cases h; rfl
theorem dp_none_inv {K : PySem.W.Frag} {H : Hp} {v : V} (h : Dp K H v .none) : v = .non := by cases h; rfl
theorem dp_bool_inv {K : PySem.W.Frag} {H : Hp} {v : V} {b : Bool} (h : Dp K H v (.bool b)) : v = .bl b := by cases h; rfl
theorem dp_tup_inv {K : PySem.W.Frag} {H : Hp} {v : V} {ds : List PyData} (h : Dp K H v (.tuple ds)) : ∃ a xs, v = .ref a ∧ SqT K H a xs ∧ DpAll K H xs ds := by
  cases h with
  | tup h1 h2 => exact ⟨_, _, rfl, h1, h2⟩
theorem dp_lst_inv {K : PySem.W.Frag} {H : Hp} {v : V} {ds : List PyData} (h : Dp K H v (.list ds)) : ∃ a xs, v = .ref a ∧ SqL K H a xs ∧ DpAll K H xs ds := by
  cases h with
  | lst h1 h2 => exact ⟨_, _, rfl, h1, h2⟩
theorem tup_fresh {K : PySem.W.Frag} {H : Hp} {p : Addr} {xs : List V} {ds : List PyData} (hp : H p = none) (h : DpAll K H xs ds) : Same H (upd H p (.tup xs)) ∧ Dp K (upd H p (.tup xs)) (.ref p) (.tuple ds) :=
  ⟨same_new hp, .tup (.inl (.inl upd_same)) (dpAll_same (same_new hp) h)⟩
theorem lst_fresh {K : PySem.W.Frag} {H : Hp} {p : Addr} {xs : List V} {ds : List PyData} (hp : H p = none) (h : DpAll K H xs ds) : Same H (upd H p (.lst xs)) ∧ Dp K (upd H p (.lst xs)) (.ref p) (.list ds) :=
  ⟨same_new hp, .lst (.inl (.inl upd_same)) (dpAll_same (same_new hp) h)⟩
theorem Same.sx_free {H H1 H2 : Hp} {p : Addr} (s : Same H H1) (h : H p = none) (t : Sx p H1 H2) : Same H H2 := fun b o e =>
  t b o (ne_of_none e h) (s b o e)
theorem small {n : Nat} (h : n ≤ 1000) : n ≤ sizeLine := Nat.le_of_lt (small1000 h)
theorem small' {n : Nat} (h : n ≤ 1000000) : n ≤ sizeLine := by rw [sizeLine_eq]; omega

theorem atI_at {α : Type} {xs : List α} {k : Int} {j : Nat} {v : α} (e : k = (j : Int)) (h : xs[j]? = some v) : atI xs k = some v := by
  subst e
  exact atI_nat h
theorem atI_int {ns : List Int} {k : Int} (h0 : 0 ≤ k) (h : k < (ns.length : Int)) : ∃ z, z ∈ ns ∧ atI (ns.map V.int) k = some (.int z) := by
  have hk : k.toNat < ns.length := by omega
  refine ⟨ns[k.toNat], List.getElem_mem hk, atI_at (j := k.toNat) (by omega) ?_⟩
  rw [List.getElem?_map, List.getElem?_eq_getElem hk]
  rfl

/-! ### the script as the law gets it: it never changes -/
def Scr (K : PySem.W.Frag) (H : Hp) (a : Addr) (ns : List Int) : Prop := (∃ o, H a = some (.frz o (.lst (ns.map V.int)))) ∨
  ∃ (o : Obj) (its : Array Value) (n : Nat), K.lookup a = some o ∧ o.cls = .type "list" ∧ o.dict = none ∧ o.data = .seq its n ∧ its.size ≤ sizeLine ∧ Vals (ns.map V.int) its.toList
theorem Scr.sq {K : PySem.W.Frag} {H : Hp} {a : Addr} {ns : List Int} (h : Scr K H a ns) : SqL K H a (ns.map V.int) := by
  rcases h with ⟨o, h⟩ | h
  · exact .inl (.inr ⟨o, h⟩)
  · exact .inr h
theorem Scr.of {K : PySem.W.Frag} {H : Hp} {a : Addr} {ns : List Int} (hO : Only H) (h : SqL K H a (ns.map V.int)) : Scr K H a ns := by
  rcases h with (h | h) | h
  · rcases hO a with z | ⟨o, xs, z⟩
    · rw [h] at z; cases z
    · rw [h] at z; cases z
  · exact .inl h
  · exact .inr h
theorem Scr.same {K : PySem.W.Frag} {H H' : Hp} {a : Addr} {ns : List Int} (s : Same H H') (h : Scr K H a ns) : Scr K H' a ns := by
  rcases h with ⟨o, h⟩ | h
  · exact .inl ⟨o, s _ _ h⟩
  · exact .inr h
theorem Scr.sx {K : PySem.W.Frag} {H H' : Hp} {a p : Addr} {ns : List Int} {l : List V} (s : Sx p H H') (hp : H p = some (.lst l)) (h : Scr K H a ns) : Scr K H' a ns := by
  rcases h with ⟨o, h⟩ | h
  · exact .inl ⟨o, s _ _ (ne_of h hp (by intro z; cases z)) h⟩
  · exact .inr h
end Rp
/-! RpG: defs that say repr of made data: the layer's judgements where no repr is under way (guards known), and the law's end over them. -/
namespace Rp
open PySem L2 PyProof.Rows

structure FnG (P : Program) (w : World) (K : PySem.W.Frag) (mg : Str → Option Value) (base : Heap) (CX : CXT) (k : Nat) (f : Addr) (fd : FuncData) (ps : List Str) (sp : Sp) : Prop where
  len : ∀ vs H Q E, sp vs H Q E → vs.length = ps.length
  run : ∀ (A : Around) (outer : List Env) (s : Shared) (H : Hp) (args : Args) (us : List Value) (vs : List V) (Q : VK) (E : XK), Room k A → A.guards = some [] →
    Env0 P w K mg base A outer s H → BindsTo s fd args (ps.zip us) → Vals vs us → sp vs H Q E → codeAny (model P w) A (.call (.ref f) args) (CR CX outer P w H s Q E) s

theorem room66 {k : Nat} {A : Around} (hr : Room k A) : A.units + 66 < cLine := by
  have := hr.un
  omega
section
variable {P : Program} {w : World} {K : PySem.W.Frag} {mg : Str → Option Value} {base : Heap}
theorem okG {name qual : Str} {st : Stmt} {f : Addr} {fd : FuncData} {N ps : List Str} {k : Nat} {sp : Sp} (F : Fun K name qual st f fd) (S : FnScope N ps (defScope st))
    (hlen : ∀ vs H Q E, sp vs H Q E → vs.length = ps.length)
    (hb : ∀ (cdv : Value) (A : Around) (outer : List Env) (s : Shared) (H : Hp) (vs : List V) (Q : VK) (E : XK),
      Room k (A.deeper (envOfC qual (defScope st) s.heap.objs.size f cdv)) → A.guards = some [] → sp vs H Q E →
      ∃ t, PSs (cxOf CX0 P w K mg base N qual (defScope st) f cdv A outer s H E).nox (defBody st) t ∧
        t { nx := fun _ H' => Q .non H', rt := Q } (start N vs) H) : FnG P w K mg base CX0 (k + 1) f fd ps sp := by
  obtain ⟨oc, od, kV, doc, pm, an, cdv, ct, osl, rfl, lk, hcd⟩ := F.ex
  refine ⟨hlen, fun A outer s H args us vs Q E room gd en bd rv want => ?_⟩
  have kin : K.In s.heap := en.mod.kin.keeps fun b o z => (en.bs b o z).1
  have nolim : s.heap.NoLimit := en.mod.nolimit.keeps fun b o z => (en.bs b o z).1
  have hl := hlen _ _ _ _ want
  refine Att.call_fn kin nolim lk hcd room.depth bd ?_ (fun s1 ic => ?_) S.co S.gen S.kind
  · refine List.all_eq_true.mpr fun y hy => ?_
    obtain ⟨a, b⟩ := y
    rcases S.par a (List.of_mem_zip hy).1 with z | z
    · simp [z]
    · simp [z]
  · obtain ⟨t, ht, hq⟩ := hb cdv A outer s H vs Q E (room.deeper _) gd want
    have I := inv_start (CX := CX0) (P := P) (w := w) (K := K) (mg := mg) (base := base) (E := E) S room.hd en hl rv ic
    refine wpAny_mono (ht.nox.run [] s1 (start N vs) H _ I hq) (fun fl s' hs => ?_) (fun e s' hs => hs)
    cases fl with
    | ret u =>
      obtain ⟨v, σ', H', J, rr, q⟩ := hs
      exact ⟨v, H', J.os, J.bare, J.base, J.hok, rr, q⟩
    | next =>
      obtain ⟨σ', H', J, q⟩ := hs
      exact ⟨V.non, H', J.os, J.bare, J.base, J.hok, rfl, q⟩
    | brk =>
      obtain ⟨_, _, _, q⟩ := hs
      exact False.elim q
    | cont =>
      obtain ⟨_, _, _, q⟩ := hs
      exact False.elim q
end
section
variable {X : Cx} {k : Nat} {f : Addr} {fd : FuncData} {ps : List Str} {sp : Sp} {dvs : List V} {ds : List Value} {x : Str} {p pos : Pos} {e : Expr} {es : List Expr} {t : TA}
theorem runG {pins : List (Addr × Obj)} {σ : L2.St} {H : Hp} {s : Shared} {Q : VK} {us : List Value} {vs : List V} (F : FnG X.prog X.w X.K X.mg X.base CX0 k f fd ps sp) (room : Room k X.A) (gd : X.A.guards = some [])
    (bd : Binds X.K fd ps ds) (dv : Vals dvs ds) (I : Inv X pins σ H s) (rv : Vals vs us) (want : sp (vs ++ dvs) H Q E0) : wpAny (model X.prog X.w) X.A (call (.ref f) us) (EP X pins σ Q) X.xe s := by
  have rv2 : Vals (vs ++ dvs) (us ++ ds) := rv.append dv
  have hl : (us ++ ds).length = ps.length := by
    rw [← rv2.length]
    exact F.len _ _ _ _ want
  refine wpAny_call (codeAny_mono (F.run X.A X.stack s H ⟨us, []⟩ (us ++ ds) (vs ++ dvs) Q E0 room gd I.env0 (bd s us I.kIn hl) rv2 want) fun r s' hq => ?_)
  cases r with
  | error e => exact False.elim hq
  | ok fl =>
    cases fl with
    | ret u => exact I.after hq
    | next => exact False.elim hq
    | brk => exact False.elim hq
    | cont => exact False.elim hq
theorem pe_callG (F : FnG X.prog X.w X.K X.mg X.base CX0 k f fd ps sp) (room : Room k X.A) (gd : X.A.guards = some []) (gl : Gl X x) (hm : X.mg x = some (.ref f)) (kp : PySem.W.keepIn X.K (.ref f) = true)
    (bd : Binds X.K fd ps ds) (dv : Vals dvs ds) (ha : PA X (e :: es) t) (nodbg : (x == ("__debug__" : Str)) = false := by decide)
    (he : starEach (e :: es) X.env = (false, eval e X.env) :: starEach es X.env := by rfl) (hpl : (backTo pos (starEach es X.env)).any (·.1) = false := by rfl) :
    PE X (.Call (.Name x p) (e :: es) [] pos) (tCall sp dvs E0 t) := by
  constructor
  intro pins s σ H Q I want
  refine wpAny_Call_Name_kw (ld_glob I gl hm (PySem.W.callWith_K (h₀ := X.base) I.ok.mod.kin kp (thn (ha.run pos pins s σ H _ I want) ?_) he hpl) nodbg)
  rintro us s1 ⟨vs, H1, I1, rv, q⟩
  exact ⟨I1.kIn, runG F room gd bd dv I1 rv q⟩
theorem pe_callG0 (F : FnG X.prog X.w X.K X.mg X.base CX0 k f fd ps sp) (room : Room k X.A) (gd : X.A.guards = some []) (gl : Gl X x) (hm : X.mg x = some (.ref f)) (kp : PySem.W.keepIn X.K (.ref f) = true)
    (bd : Binds X.K fd ps ds) (dv : Vals dvs ds) (nodbg : (x == ("__debug__" : Str)) = false := by decide) : PE X (.Call (.Name x p) [] [] pos) (tCall sp dvs E0 tNil) := by
  constructor
  intro pins s σ H Q I want
  exact wpAny_Call_Name_kw (ld_glob I gl hm (PySem.W.callWith_K0 I.kIn kp (runG (us := []) F room gd bd dv I .nil want)) nodbg)
end

/-! ### the law's end -/
/-- a heap that tells of the script alone -/
theorem script_heap {P : Program} {w : World} {K : PySem.W.Frag} {h : Heap} {a : Addr} {vs : List Value} {ns : List Int} (kin : K.In h) (ha : h.get? a = some { cls := .type "list", data := .seq vs.toArray })
    (hi : IntsAre vs ns) (hl : ns.length ≤ sizeLine) :
    ∃ H : Hp, Only H ∧ SqL K H a (ns.map V.int) ∧ HOk P w H h ∧ (∀ b, H b ≠ none → b = a) ∧ (∀ b o, K.lookup b = some o → H b = none) := by
  have rv := vals_ints hi
  have len := hi.length
  cases hk : K.lookup a with
  | some o =>
    have eo := kin a o hk
    rw [ha] at eo
    cases eo
    refine ⟨fun _ => none, fun _ => .inl rfl, .inr ⟨_, vs.toArray, _, hk, rfl, rfl, rfl, ?_, by simpa using rv⟩, (fun b u z => nomatch z), (fun b z => absurd rfl z), fun _ _ _ => rfl⟩
    rw [List.size_toArray, len]
    exact hl
  | none =>
    let H : Hp := fun b => if b = a then some (.frz { cls := .type "list", data := .seq vs.toArray } (.lst (ns.map V.int))) else none
    have at_a : H a = some (.frz { cls := .type "list", data := .seq vs.toArray } (.lst (ns.map V.int))) := if_pos rfl
    have off : ∀ b, b ≠ a → H b = none := fun b z => if_neg z
    refine ⟨H, fun b => ?_, .inl (.inr ⟨_, at_a⟩), fun b u z => ?_, fun b z => ?_, fun b o z => off b ?_⟩
    · by_cases c : b = a
      · exact .inr ⟨_, _, c ▸ at_a⟩
      · exact .inl (off b c)
    · by_cases c : b = a
      · subst c
        rw [at_a] at z
        cases z
        refine ⟨ha, ?_, vs, _, rv, ha⟩
        rw [List.length_map]
        exact hl
      · rw [off b c] at z
        cases z
    · by_cases c : b = a
      · exact c
      · exact absurd (off b c) z
    · intro c
      rw [c, hk] at z
      cases z

theorem law_end {l : PySem.W.OpenLaw} {n k : Nat} {q : Program} {loose : List Str} {XP : (Str → Option Value) → Heap → Prop} {YP : World → Heap → Prop} {d : DefRec} {K : Params → PySem.W.Frag} {sp : PySem.W.Frag → Sp} {x : Str}
    (hn : l.most = some n) (hn2 : n ≤ sizeLine) (hdf : d.params.defaults = []) (hr : Room k callerA)
    (hY : ∀ (w : World) (h : Heap), YP w h → (K w.params).In h)
    (F : ∀ (w : World) (mg : Str → Option Value) (fa : Addr) (h : Heap), (K w.params).In h → h.Ns mainGlobals mg → mg d.name = some (.ref fa) →
      ∃ fd : FuncData, (∀ (s : Shared) (u : Value), BindsTo s fd ⟨[u], []⟩ [(x, u)]) ∧
        ∀ base : Heap, (K w.params).In base → base.Ns mainGlobals mg → FnG l.prog w (K w.params) mg base CX0 k fa fd [x] (sp (K w.params)))
    (hsp : ∀ (K : PySem.W.Frag) (H : Hp) (a : Addr) (ns : List Int), ns.length ≤ n → Only H → SqL K H a (ns.map V.int) → sp K [.ref a] H (fun v _ => v = .bl true) fun _ _ _ => False) :
    PySem.W.WalkO q loose XP YP l.row.toRowW d [] (fun f vs => PySem.call f vs) := by
  refine Att.attach_call hn hdf fun w s₀ s₁ mg mb fa o pm cd doc a vs ns G Y ho hd hcd hmg hobj hints hlen hgens => ?_
  have kin := hY w _ Y
  obtain ⟨fd, bd, FF⟩ := F w mg fa _ kin G.T.g hmg
  obtain ⟨H, hO, hS, hok, only, notK⟩ := script_heap (P := l.prog) (w := w) kin hobj hints (Nat.le_trans hlen hn2)
  have free : ∀ {b : Addr} {ob : Obj} {es : Array DictEntry} {ep : Nat}, s₁.heap.get? b = some ob → ob.data = .dict es ep → H b = none := by
    intro b ob es ep h1 h2
    cases c : H b with
    | none => rfl
    | some u =>
      have e : b = a := only b (by rw [c]; exact fun z => nomatch z)
      rw [e, hobj] at h1
      have h3 := congrArg Obj.data (Option.some.inj h1)
      rw [h2] at h3
      exact nomatch h3
  have ns' : ∀ {b : Addr} {m : Str → Option Value}, s₁.heap.Ns b m → (hidT s₁.heap H).Ns b m := by
    rintro b m ⟨ob, es, ep, h1, h2, h3⟩
    exact ⟨ob, es, ep, hidT_get h1 (free h1 h2), h2, h3⟩
  have kinB : (K w.params).In (hidT s₁.heap H) := fun b ob e => hidT_get (kin b ob e) (notK b ob e)
  have lim : (hidT s₁.heap H).NoLimit := by
    obtain ⟨mc, h1, h2⟩ := G.T.nolimit
    exact ⟨mc, ns' h1, h2⟩
  have en : Env0 l.prog w (K w.params) mg (hidT s₁.heap H) callerA [] s₁ H :=
    ⟨rfl, ⟨kinB, ns' G.T.g, ⟨mb, ns' G.T.b, G.T.builtins⟩, lim⟩, fun b ob e => of_hidT e, Nat.le_of_eq (hidT_size _ _), trivial, (fun b z => nomatch z), hok, .of_eq hgens⟩
  refine codeAny_mono ((FF _ kinB (ns' G.T.g)).run callerA [] s₁ H ⟨[.ref a], []⟩ [.ref a] [.ref a] _ _ hr rfl en (bd s₁ (.ref a)) (.cons rfl .nil) (hsp _ H a ns hlen hO hS)) fun r s' z => ?_
  cases r with
  | error e => exact False.elim z
  | ok fl =>
    cases fl with
    | next => exact False.elim z
    | brk => exact False.elim z
    | cont => exact False.elim z
    | ret u =>
      obtain ⟨v, H', os, bare, un, hok', rr, e⟩ := z
      have e' : v = .bl true := e
      subst e'
      obtain rfl : u = Value.bool true := rr
      refine ⟨rfl, OldK.of_keep fun b ob hb => ?_, os, bare⟩
      cases c : H b with
      | none => exact un.keep b ob hb c (fun z => nomatch z) (fun z => nomatch z)
      | some u =>
        rcases hO b with z | ⟨ox, xs, z⟩
        · rw [c] at z
          cases z
        · obtain ⟨e1, _⟩ := hok b _ z
          obtain ⟨e2, _⟩ := hok' b _ (un.frzs b ox _ z)
          rw [hb] at e1
          cases e1
          exact e2
end Rp
/-! Jm: jobs as a type of trees, their data, sizes; what the pot holds. No Python here. -/
namespace Lw
open PySem L2 Rp

abbrev M30 : Int := 1000000000000000000000000000000
inductive J where
  | st (i : Int)
  | ps (par : Bool) (xs : List J)
  | rn (cop : Bool) (n : Int) (x : J)
def kwP (b : Bool) : Str := if b then "par" else "seq"
def kwR (b : Bool) : Str := if b then "copies" else "repeat"
mutual
def J.toD : J → PyData
  | .st i => .int i
  | .ps k xs => .tuple [.str (kwP k), .tuple (J.toDs xs)]
  | .rn k n x => .tuple [.str (kwR k), .int n, x.toD]
def J.toDs : List J → List PyData
  | [] => []
  | x :: xs => x.toD :: J.toDs xs
end
mutual
theorem J.noL : ∀ j : J, noL j.toD = true
  | .st _ => rfl
  | .ps _ xs => by
    have h := J.noLs xs
    simp [J.toD, Rp.noL, Rp.noLs, h]
  | .rn _ _ x => by
    have h := J.noL x
    simp [J.toD, Rp.noL, Rp.noLs, h]
theorem J.noLs : ∀ js : List J, noLs (J.toDs js) = true
  | [] => rfl
  | x :: xs => by
    have h1 := J.noL x
    have h2 := J.noLs xs
    simp [J.toDs, Rp.noLs, h1, h2]
end
theorem J.toDs_eq : ∀ xs : List J, J.toDs xs = xs.map J.toD
  | [] => rfl
  | x :: xs => by rw [J.toDs, J.toDs_eq xs]; rfl

/-! sizes as the program finds them -/
def within (nodes steps : Int) : Option (Int × Int) := if steps ≤ M30 then some (nodes, steps) else none
mutual
def szJ : J → Int → Int → Option (Int × Int)
  | .st i, room, lv => if room < 1 ∨ lv < 1 then none else if -M30 ≤ i ∧ i ≤ M30 then some (1, 1) else none
  | .ps _ xs, room, lv => if room < 1 ∨ lv < 1 then none else if (xs.length : Int) > 400 then none else szJs xs 1 0 room lv
  | .rn _ n x, room, lv => if room < 1 ∨ lv < 1 then none else if ¬ (0 ≤ n ∧ n ≤ M30) then none else
      match szJ x (room - 1) (lv - 1) with
      | none => none
      | some (a, b) => within (a + 1) (b * n)
def szJs : List J → Int → Int → Int → Int → Option (Int × Int)
  | [], nodes, steps, _, _ => within nodes steps
  | x :: xs, nodes, steps, room, lv =>
      match szJ x (room - nodes) (lv - 1) with
      | none => none
      | some (a, b) => szJs xs (nodes + a) (steps + b) room lv
end
mutual
def J.nodes : J → Int
  | .st _ => 1
  | .ps _ xs => 1 + J.nodesL xs
  | .rn _ _ x => x.nodes + 1
def J.nodesL : List J → Int
  | [] => 0
  | x :: xs => x.nodes + J.nodesL xs
end
mutual
def J.steps : J → Int
  | .st _ => 1
  | .ps _ xs => J.stepsL xs
  | .rn _ n x => x.steps * n
def J.stepsL : List J → Int
  | [] => 0
  | x :: xs => x.steps + J.stepsL xs
end
mutual
def J.deep : J → Nat
  | .st _ => 1
  | .ps _ xs => J.deepL xs + 1
  | .rn _ _ x => x.deep + 1
def J.deepL : List J → Nat
  | [] => 0
  | x :: xs => max x.deep (J.deepL xs)
end
mutual
/-- a job but for nodes and nesting -/
def J.ok : J → Prop
  | .st i => -M30 ≤ i ∧ i ≤ M30
  | .ps _ xs => (xs.length : Int) ≤ 400 ∧ J.okL xs ∧ J.stepsL xs ≤ M30
  | .rn _ n x => (0 ≤ n ∧ n ≤ M30) ∧ x.ok ∧ x.steps * n ≤ M30
def J.okL : List J → Prop
  | [] => True
  | x :: xs => x.ok ∧ J.okL xs
end
mutual
theorem J.nodes_pos : ∀ j : J, 1 ≤ j.nodes
  | .st _ => by simp [J.nodes]
  | .ps _ xs => by have := J.nodesL_pos xs; simp only [J.nodes]; omega
  | .rn _ _ x => by have := J.nodes_pos x; simp only [J.nodes]; omega
theorem J.nodesL_pos : ∀ xs : List J, 0 ≤ J.nodesL xs
  | [] => by simp [J.nodesL]
  | x :: xs => by have := J.nodes_pos x; have := J.nodesL_pos xs; simp only [J.nodesL]; omega
end
theorem J.deep_pos : ∀ j : J, 1 ≤ j.deep
  | .st _ => by simp [J.deep]
  | .ps _ xs => by simp only [J.deep]; omega
  | .rn _ _ x => by simp only [J.deep]; omega
mutual
theorem J.steps_nn : ∀ j : J, j.ok → 0 ≤ j.steps
  | .st _, _ => by simp [J.steps]
  | .ps _ xs, h => by
    simp only [J.ok] at h
    simp only [J.steps]
    exact J.stepsL_nn xs h.2.1
  | .rn _ n x, h => by
    simp only [J.ok] at h
    simp only [J.steps]
    exact Int.mul_nonneg (J.steps_nn x h.2.1) h.1.1
theorem J.stepsL_nn : ∀ xs : List J, J.okL xs → 0 ≤ J.stepsL xs
  | [], _ => by simp [J.stepsL]
  | x :: xs, h => by
    simp only [J.okL] at h
    have := J.steps_nn x h.1
    have := J.stepsL_nn xs h.2
    simp only [J.stepsL]
    omega
end
theorem J.steps_le (j : J) (h : j.ok) : j.steps ≤ M30 := by
  cases j with
  | st i => simp only [J.steps]; decide
  | ps k xs => simp only [J.ok] at h; simp only [J.steps]; exact h.2.2
  | rn k n x => simp only [J.ok] at h; simp only [J.steps]; exact h.2.2
/-! the closed form: is a job within room and levels, and then its sizes -/
mutual
theorem szJ_some : ∀ (j : J) (room lv : Int), j.ok → j.nodes ≤ room → (j.deep : Int) ≤ lv → szJ j room lv = some (j.nodes, j.steps)
  | .st i, room, lv, h, h1, h2 => by
    simp only [J.ok] at h
    simp only [J.nodes, J.deep] at h1 h2
    simp only [szJ, J.nodes, J.steps]
    rw [if_neg (by omega), if_pos h]
  | .ps k xs, room, lv, h, h1, h2 => by
    simp only [J.ok] at h
    simp only [J.nodes, J.deep] at h1 h2
    have hn := J.nodesL_pos xs
    simp only [szJ, J.nodes, J.steps]
    rw [if_neg (by omega), if_neg (by omega)]
    have := szJs_some xs 1 0 room lv h.2.1 (by omega) (by omega) (by omega) (by omega)
    rw [this, Int.zero_add]
  | .rn k n x, room, lv, h, h1, h2 => by
    simp only [J.ok] at h
    simp only [J.nodes, J.deep] at h1 h2
    have hn := J.nodes_pos x
    simp only [szJ, J.nodes, J.steps]
    rw [if_neg (by omega), if_neg (by omega), szJ_some x (room - 1) (lv - 1) h.2.1 (by omega) (by omega)]
    simp only [within]
    rw [if_pos h.2.2]
theorem szJs_some : ∀ (xs : List J) (nodes steps room lv : Int), J.okL xs → 1 ≤ nodes → nodes + J.nodesL xs ≤ room → (J.deepL xs : Int) ≤ lv - 1 → steps + J.stepsL xs ≤ M30 → szJs xs nodes steps room lv = some (nodes + J.nodesL xs, steps + J.stepsL xs)
  | [], nodes, steps, room, lv, _, _, _, _, h => by
    simp only [J.nodesL, J.stepsL, szJs, within, Int.add_zero] at *
    rw [if_pos h]
  | x :: xs, nodes, steps, room, lv, h, h0, h1, h2, h3 => by
    simp only [J.okL] at h
    simp only [J.nodesL, J.stepsL, J.deepL] at *
    have p1 := J.nodes_pos x
    have p2 := J.nodesL_pos xs
    have p3 := J.stepsL_nn xs h.2
    simp only [szJs]
    rw [szJ_some x (room - nodes) (lv - 1) h.1 (by omega) (by omega)]
    simp only
    rw [szJs_some xs (nodes + x.nodes) (steps + x.steps) room lv h.2 (by omega) (by omega) (by omega) (by omega)]
    rw [Int.add_assoc, Int.add_assoc]
end
mutual
theorem szJ_inv : ∀ (j : J) (room lv a b : Int), szJ j room lv = some (a, b) → j.ok ∧ j.nodes ≤ room ∧ (j.deep : Int) ≤ lv ∧ a = j.nodes ∧ b = j.steps
  | .st i, room, lv, a, b, h => by
    simp only [szJ] at h
    split at h
    · cases h
    · split at h
      · rename_i h1 h2
        cases h
        simp only [J.ok, J.nodes, J.deep, J.steps]
        refine ⟨h2, by omega, by omega, ?_, ?_⟩ <;> trivial
      · cases h
  | .ps k xs, room, lv, a, b, h => by
    simp only [szJ] at h
    split at h
    · cases h
    · split at h
      · cases h
      · rename_i h1 h2
        obtain ⟨q1, q2, q3, q4, q5, q6⟩ := szJs_inv xs 1 0 room lv a b h (by omega)
        simp only [J.ok, J.nodes, J.deep, J.steps]
        have q3' : (J.deepL xs : Int) ≤ lv - 1 := by
          rcases q3 with q3 | q3
          · exact q3
          · subst q3
            simp only [J.deepL]
            omega
        refine ⟨⟨by omega, q1, by omega⟩, by omega, by omega, by omega, by omega⟩
  | .rn k n x, room, lv, a, b, h => by
    simp only [szJ] at h
    split at h
    · cases h
    · split at h
      · cases h
      · rename_i h1 h2
        split at h
        · cases h
        · rename_i a1 b1 h3
          obtain ⟨q1, q2, q3, q4, q5⟩ := szJ_inv x (room - 1) (lv - 1) a1 b1 h3
          simp only [within] at h
          split at h
          · rename_i h4
            cases h
            subst q4 q5
            simp only [J.ok, J.nodes, J.deep, J.steps]
            refine ⟨⟨Decidable.not_not.mp h2, q1, h4⟩, by omega, by omega, ?_, ?_⟩ <;> trivial
          · cases h
theorem szJs_inv : ∀ (xs : List J) (nodes steps room lv a b : Int), szJs xs nodes steps room lv = some (a, b) → nodes ≤ room → J.okL xs ∧ nodes + J.nodesL xs ≤ room ∧ ((J.deepL xs : Int) ≤ lv - 1 ∨ xs = []) ∧ steps + J.stepsL xs ≤ M30 ∧ a = nodes + J.nodesL xs ∧ b = steps + J.stepsL xs
  | [], nodes, steps, room, lv, a, b, h, h0 => by
    simp only [szJs, within] at h
    split at h
    · rename_i h1
      cases h
      simp only [J.okL, J.nodesL, J.stepsL, Int.add_zero]
      refine ⟨trivial, h0, .inr ?_, h1, ?_, ?_⟩ <;> trivial
    · cases h
  | x :: xs, nodes, steps, room, lv, a, b, h, h0 => by
    simp only [szJs] at h
    split at h
    · cases h
    · rename_i a1 b1 h3
      obtain ⟨q1, q2, q3, q4, q5⟩ := szJ_inv x (room - nodes) (lv - 1) a1 b1 h3
      subst q4 q5
      obtain ⟨r1, r2, r3, r4, r5, r6⟩ := szJs_inv xs (nodes + x.nodes) (steps + x.steps) room lv a b h (by omega)
      have dp := J.deep_pos x
      simp only [J.okL, J.nodesL, J.stepsL, J.deepL]
      refine ⟨⟨q1, r1⟩, by omega, .inl ?_, by omega, by omega, by omega⟩
      rcases r3 with r3 | r3
      · omega
      · subst r3
        simp only [J.deepL]
        omega
end
end Lw
/-! Jn: nets, lowest usages and mirrors of jobs. No Python here. -/
namespace Lw
open PySem L2 Rp
mutual
def J.net : J → Int
  | .st i => i
  | .ps _ xs => J.netL xs
  | .rn _ n x => n * x.net
def J.netL : List J → Int
  | [] => 0
  | x :: xs => x.net + J.netL xs
end
mutual
def J.low : J → Int
  | .st i => min 0 i
  | .ps false xs => J.lowS xs
  | .ps true xs => J.lowL xs
  | .rn true n x => n * x.low
  | .rn false n x => if n = 0 then 0 else x.low + (n - 1) * min 0 x.net
/-- in sequence -/
def J.lowS : List J → Int
  | [] => 0
  | x :: xs => min x.low (x.net + J.lowS xs)
/-- side by side -/
def J.lowL : List J → Int
  | [] => 0
  | x :: xs => x.low + J.lowL xs
end
theorem mul_min_nonneg {a b : Int} (h : 0 ≤ a) : a * min 0 b ≤ 0 ∧ a * min 0 b ≤ a * b := by
  constructor
  · have : 0 ≤ a * (- min 0 b) := Int.mul_nonneg h (by omega)
    rw [Int.mul_neg] at this
    omega
  · exact Int.mul_le_mul_of_nonneg_left (by omega) h
mutual
/-- the lowest usage is at most 0 and at most the net -/
theorem J.low_le : ∀ j : J, j.ok → j.low ≤ 0 ∧ j.low ≤ j.net
  | .st i, _ => by simp only [J.low, J.net]; omega
  | .ps false xs, h => by
    simp only [J.ok] at h
    simp only [J.low, J.net]
    exact J.lowS_le xs h.2.1
  | .ps true xs, h => by
    simp only [J.ok] at h
    simp only [J.low, J.net]
    exact J.lowL_le xs h.2.1
  | .rn true n x, h => by
    simp only [J.ok] at h
    have ih := J.low_le x h.2.1
    simp only [J.low, J.net]
    constructor
    · have : 0 ≤ n * (- x.low) := Int.mul_nonneg h.1.1 (by omega)
      rw [Int.mul_neg] at this
      omega
    · exact Int.mul_le_mul_of_nonneg_left ih.2 h.1.1
  | .rn false n x, h => by
    simp only [J.ok] at h
    have ih := J.low_le x h.2.1
    simp only [J.low, J.net]
    split
    · rename_i e
      subst e
      omega
    · have p := mul_min_nonneg (a := n - 1) (b := x.net) (by omega)
      have e : n * x.net = (n - 1) * x.net + x.net := by rw [Int.sub_mul, Int.one_mul]; omega
      omega
theorem J.lowS_le : ∀ xs : List J, J.okL xs → J.lowS xs ≤ 0 ∧ J.lowS xs ≤ J.netL xs
  | [], _ => by simp only [J.lowS, J.netL]; omega
  | x :: xs, h => by
    simp only [J.okL] at h
    have h1 := J.low_le x h.1
    have h2 := J.lowS_le xs h.2
    simp only [J.lowS, J.netL]
    omega
theorem J.lowL_le : ∀ xs : List J, J.okL xs → J.lowL xs ≤ 0 ∧ J.lowL xs ≤ J.netL xs
  | [], _ => by simp only [J.lowL, J.netL]; omega
  | x :: xs, h => by
    simp only [J.okL] at h
    have h1 := J.low_le x h.1
    have h2 := J.lowL_le xs h.2
    simp only [J.lowL, J.netL]
    omega
end
/-! sizes: at most the steps times a step's greatest -/
theorem mul_natAbs_le {n b c : Int} (h0 : 0 ≤ n) (h : b.natAbs ≤ c.natAbs) : (n * b).natAbs ≤ (n * c).natAbs := by
  rw [Int.natAbs_mul, Int.natAbs_mul]
  exact Nat.mul_le_mul_left _ h
mutual
theorem J.net_big : ∀ j : J, j.ok → -(j.steps * M30) ≤ j.net ∧ j.net ≤ j.steps * M30
  | .st i, h => by
    simp only [J.ok, M30] at h
    simp only [J.net, J.steps, M30]
    omega
  | .ps _ xs, h => by
    simp only [J.ok] at h
    simp only [J.net, J.steps]
    exact J.netL_big xs h.2.1
  | .rn _ n x, h => by
    simp only [J.ok] at h
    have ih := J.net_big x h.2.1
    simp only [J.net, J.steps]
    have e : x.steps * n * M30 = n * (x.steps * M30) := by rw [Int.mul_comm x.steps n, Int.mul_assoc]
    rw [e]
    constructor
    · rw [← Int.mul_neg]
      exact Int.mul_le_mul_of_nonneg_left ih.1 h.1.1
    · exact Int.mul_le_mul_of_nonneg_left ih.2 h.1.1
theorem J.netL_big : ∀ xs : List J, J.okL xs → -(J.stepsL xs * M30) ≤ J.netL xs ∧ J.netL xs ≤ J.stepsL xs * M30
  | [], _ => by simp only [J.netL, J.stepsL]; omega
  | x :: xs, h => by
    simp only [J.okL] at h
    have h1 := J.net_big x h.1
    have h2 := J.netL_big xs h.2
    simp only [J.netL, J.stepsL, M30] at *
    omega
end
mutual
theorem J.low_big : ∀ j : J, j.ok → -(j.steps * M30) ≤ j.low
  | .st i, h => by
    simp only [J.ok, M30] at h
    simp only [J.low, J.steps, M30]
    omega
  | .ps false xs, h => by
    simp only [J.ok] at h
    simp only [J.low, J.steps]
    exact J.lowS_big xs h.2.1
  | .ps true xs, h => by
    simp only [J.ok] at h
    simp only [J.low, J.steps]
    exact J.lowL_big xs h.2.1
  | .rn true n x, h => by
    simp only [J.ok] at h
    have ih := J.low_big x h.2.1
    simp only [J.low, J.steps]
    have e : x.steps * n * M30 = n * (x.steps * M30) := by rw [Int.mul_comm x.steps n, Int.mul_assoc]
    rw [e, ← Int.mul_neg]
    exact Int.mul_le_mul_of_nonneg_left ih h.1.1
  | .rn false n x, h => by
    simp only [J.ok] at h
    have ih := J.low_big x h.2.1
    have ih2 := J.net_big x h.2.1
    have nn := J.steps_nn x h.2.1
    simp only [J.low, J.steps]
    have e : x.steps * n * M30 = n * (x.steps * M30) := by rw [Int.mul_comm x.steps n, Int.mul_assoc]
    rw [e]
    split
    · rename_i z
      subst z
      omega
    · have hm : -(x.steps * M30) ≤ min 0 x.net := by
        have : 0 ≤ x.steps * M30 := Int.mul_nonneg nn (by decide)
        omega
      have p : (n - 1) * (-(x.steps * M30)) ≤ (n - 1) * min 0 x.net := Int.mul_le_mul_of_nonneg_left hm (by omega)
      have e2 : (n - 1) * (-(x.steps * M30)) = -(n * (x.steps * M30)) + x.steps * M30 := by rw [Int.mul_neg, Int.sub_mul, Int.one_mul]; omega
      omega
theorem J.lowS_big : ∀ xs : List J, J.okL xs → -(J.stepsL xs * M30) ≤ J.lowS xs
  | [], _ => by simp only [J.lowS, J.stepsL]; omega
  | x :: xs, h => by
    simp only [J.okL] at h
    have h1 := J.low_big x h.1
    have h2 := J.lowS_big xs h.2
    have h3 := J.net_big x h.1
    have n1 := J.steps_nn x h.1
    have n2 := J.stepsL_nn xs h.2
    simp only [J.lowS, J.stepsL, M30] at *
    omega
theorem J.lowL_big : ∀ xs : List J, J.okL xs → -(J.stepsL xs * M30) ≤ J.lowL xs
  | [], _ => by simp only [J.lowL, J.stepsL]; omega
  | x :: xs, h => by
    simp only [J.okL] at h
    have h1 := J.low_big x h.1
    have h2 := J.lowL_big xs h.2
    simp only [J.lowL, J.stepsL, M30] at *
    omega
end
abbrev M60 : Int := 1000000000000000000000000000000000000000000000000000000000000
theorem J.net_60 (j : J) (h : j.ok) : -M60 ≤ j.net ∧ j.net ≤ M60 := by
  have h1 := J.net_big j h
  have h2 := J.steps_le j h
  simp only [M30, M60] at *
  omega
theorem J.low_60 (j : J) (h : j.ok) : -M60 ≤ j.low ∧ j.low ≤ 0 := by
  have h1 := J.low_big j h
  have h2 := J.steps_le j h
  have h3 := (J.low_le j h).1
  simp only [M30, M60] at *
  omega
/-! the mirror -/
mutual
def J.mir : J → J
  | .st i => .st (-i)
  | .ps false xs => .ps false (J.mirL xs).reverse
  | .ps true xs => .ps true (J.mirL xs)
  | .rn k n x => .rn k n x.mir
def J.mirL : List J → List J
  | [] => []
  | x :: xs => x.mir :: J.mirL xs
end
theorem J.mirL_eq : ∀ xs : List J, J.mirL xs = xs.map J.mir
  | [] => rfl
  | x :: xs => by rw [J.mirL, J.mirL_eq xs]; rfl
theorem J.mirL_rev (xs : List J) : J.mirL xs.reverse = (J.mirL xs).reverse := by rw [J.mirL_eq, J.mirL_eq, List.map_reverse]
mutual
theorem J.mir_mir : ∀ j : J, j.mir.mir = j
  | .st i => by simp [J.mir]
  | .ps false xs => by simp only [J.mir, J.mirL_rev, List.reverse_reverse, J.mirL_mirL xs]
  | .ps true xs => by simp only [J.mir, J.mirL_mirL xs]
  | .rn k n x => by simp only [J.mir, J.mir_mir x]
theorem J.mirL_mirL : ∀ xs : List J, J.mirL (J.mirL xs) = xs
  | [] => rfl
  | x :: xs => by simp only [J.mirL, J.mir_mir x, J.mirL_mirL xs]
end
theorem J.nodesL_rev (xs : List J) : J.nodesL xs.reverse = J.nodesL xs := by
  induction xs with
  | nil => rfl
  | cons x xs ih =>
    have app : ∀ xs ys : List J, J.nodesL (xs ++ ys) = J.nodesL xs + J.nodesL ys := by
      intro xs ys
      induction xs with
      | nil => simp [J.nodesL]
      | cons a l ih => simp only [List.cons_append, J.nodesL, ih]; omega
    rw [List.reverse_cons, app, ih]
    simp only [J.nodesL]
    omega
theorem J.stepsL_app (xs ys : List J) : J.stepsL (xs ++ ys) = J.stepsL xs + J.stepsL ys := by
  induction xs with
  | nil => simp [J.stepsL]
  | cons a l ih => simp only [List.cons_append, J.stepsL, ih]; omega
theorem J.stepsL_rev (xs : List J) : J.stepsL xs.reverse = J.stepsL xs := by
  induction xs with
  | nil => rfl
  | cons x xs ih =>
    rw [List.reverse_cons, J.stepsL_app, ih]
    simp only [J.stepsL]
    omega
theorem J.netL_app (xs ys : List J) : J.netL (xs ++ ys) = J.netL xs + J.netL ys := by
  induction xs with
  | nil => simp [J.netL]
  | cons a l ih => simp only [List.cons_append, J.netL, ih]; omega
theorem J.netL_rev (xs : List J) : J.netL xs.reverse = J.netL xs := by
  induction xs with
  | nil => rfl
  | cons x xs ih =>
    rw [List.reverse_cons, J.netL_app, ih]
    simp only [J.netL]
    omega
theorem J.deepL_rev (xs : List J) : J.deepL xs.reverse = J.deepL xs := by
  induction xs with
  | nil => rfl
  | cons x xs ih =>
    have app : ∀ xs ys : List J, J.deepL (xs ++ ys) = max (J.deepL xs) (J.deepL ys) := by
      intro xs ys
      induction xs with
      | nil => simp [J.deepL]
      | cons a l ih => simp only [List.cons_append, J.deepL, ih]; omega
    rw [List.reverse_cons, app, ih]
    simp only [J.deepL]
    omega
theorem J.okL_iff : ∀ xs : List J, J.okL xs ↔ ∀ x ∈ xs, x.ok
  | [] => by simp [J.okL]
  | x :: xs => by simp only [J.okL, J.okL_iff xs, List.forall_mem_cons]
theorem J.okL_rev (xs : List J) : J.okL xs.reverse ↔ J.okL xs := by
  rw [J.okL_iff, J.okL_iff]
  simp
theorem J.mirL_len (xs : List J) : (J.mirL xs).length = xs.length := by rw [J.mirL_eq, List.length_map]
mutual
theorem J.mir_same : ∀ j : J, j.mir.nodes = j.nodes ∧ j.mir.steps = j.steps ∧ j.mir.deep = j.deep ∧ j.mir.net = -j.net ∧ (j.ok → j.mir.ok)
  | .st i => by
    simp only [J.mir, J.nodes, J.steps, J.deep, J.net, J.ok, true_and]
    omega
  | .ps false xs => by
    obtain ⟨h1, h2, h3, h4, h5⟩ := J.mirL_same xs
    simp only [J.mir, J.nodes, J.steps, J.deep, J.net, J.ok, J.nodesL_rev, J.stepsL_rev, J.deepL_rev, J.netL_rev, J.okL_rev, List.length_reverse, J.mirL_len, h1, h2, h3, h4, true_and]
    exact fun z => ⟨z.1, h5 z.2.1, z.2.2⟩
  | .ps true xs => by
    obtain ⟨h1, h2, h3, h4, h5⟩ := J.mirL_same xs
    simp only [J.mir, J.nodes, J.steps, J.deep, J.net, J.ok, J.mirL_len, h1, h2, h3, h4, true_and]
    exact fun z => ⟨z.1, h5 z.2.1, z.2.2⟩
  | .rn k n x => by
    obtain ⟨h1, h2, h3, h4, h5⟩ := J.mir_same x
    simp only [J.mir, J.nodes, J.steps, J.deep, J.net, J.ok, h1, h2, h3, h4, true_and, Int.mul_neg]
    exact fun z => ⟨z.1, h5 z.2.1, z.2.2⟩
theorem J.mirL_same : ∀ xs : List J, J.nodesL (J.mirL xs) = J.nodesL xs ∧ J.stepsL (J.mirL xs) = J.stepsL xs ∧ J.deepL (J.mirL xs) = J.deepL xs ∧ J.netL (J.mirL xs) = -J.netL xs ∧ (J.okL xs → J.okL (J.mirL xs))
  | [] => by simp [J.mirL, J.nodesL, J.stepsL, J.deepL, J.netL, J.okL]
  | x :: xs => by
    obtain ⟨h1, h2, h3, h4, h5⟩ := J.mir_same x
    obtain ⟨k1, k2, k3, k4, k5⟩ := J.mirL_same xs
    simp only [J.mirL, J.nodesL, J.stepsL, J.deepL, J.netL, J.okL, h1, h2, h3, h4, k1, k2, k3, k4, true_and]
    refine ⟨by omega, fun z => ⟨h5 z.1, k5 z.2⟩⟩
end
theorem J.lowS_app (xs : List J) (y : J) (hy : y.ok) (hx : J.okL xs) : J.lowS (xs ++ [y]) = min (J.lowS xs) (J.netL xs + y.low) := by
  induction xs with
  | nil =>
    have := J.low_le y hy
    simp only [List.nil_append, J.lowS, J.netL]
    omega
  | cons x xs ih =>
    simp only [J.okL] at hx
    simp only [List.cons_append, J.lowS, J.netL, ih hx.2]
    omega
mutual
theorem J.mir_low : ∀ j : J, j.ok → j.mir.low = j.low - j.net
  | .st i, _ => by simp only [J.mir, J.low, J.net]; omega
  | .ps false xs, h => by
    simp only [J.ok] at h
    simp only [J.mir, J.low, J.net]
    exact J.mirL_lowS xs h.2.1
  | .ps true xs, h => by
    simp only [J.ok] at h
    simp only [J.mir, J.low, J.net]
    exact J.mirL_lowL xs h.2.1
  | .rn true n x, h => by
    simp only [J.ok] at h
    simp only [J.mir, J.low, J.net, J.mir_low x h.2.1, Int.mul_sub]
  | .rn false n x, h => by
    simp only [J.ok] at h
    obtain ⟨_, _, _, hn, _⟩ := J.mir_same x
    simp only [J.mir, J.low, J.net, J.mir_low x h.2.1, hn]
    split
    · rename_i e
      subst e
      omega
    · have e : min 0 (-x.net) = min 0 x.net - x.net := by omega
      have e1 : (n - 1) * (min 0 x.net - x.net) = (n - 1) * min 0 x.net - (n - 1) * x.net := Int.mul_sub _ _ _
      have e2 : (n - 1) * x.net = n * x.net - x.net := by rw [Int.sub_mul, Int.one_mul]
      rw [e, e1]
      omega
theorem J.mirL_lowS : ∀ xs : List J, J.okL xs → J.lowS (J.mirL xs).reverse = J.lowS xs - J.netL xs
  | [], _ => by simp only [J.mirL, List.reverse_nil, J.lowS, J.netL]; omega
  | x :: xs, h => by
    simp only [J.okL] at h
    obtain ⟨_, _, _, _, ho⟩ := J.mir_same x
    obtain ⟨_, _, _, hn, hos⟩ := J.mirL_same xs
    simp only [J.mirL, List.reverse_cons]
    rw [J.lowS_app _ _ (ho h.1) ((J.okL_rev _).mpr (hos h.2)), J.mirL_lowS xs h.2, J.mir_low x h.1, J.netL_rev, hn]
    simp only [J.lowS, J.netL]
    omega
theorem J.mirL_lowL : ∀ xs : List J, J.okL xs → J.lowL (J.mirL xs) = J.lowL xs - J.netL xs
  | [], _ => by simp only [J.mirL, J.lowL, J.netL]; omega
  | x :: xs, h => by
    simp only [J.okL] at h
    simp only [J.mirL, J.lowL, J.netL, J.mirL_lowL xs h.2, J.mir_low x h.1]
    omega
end
/-! a job's data at hand -/
theorem ps_inv {K : PySem.W.Frag} {H : Hp} {v : V} {k : Bool} {xs : List J} (h : Dp K H v (J.ps k xs).toD) : ∃ a b vs, v = .ref a ∧ SqT K H a [.str (kwP k), .ref b] ∧ SqT K H b vs ∧ DpAll K H vs (J.toDs xs) := by
  rw [J.toD] at h
  obtain ⟨a, ys, rfl, hys, hall⟩ := dp_tup_inv h
  cases hall with
  | cons e1 hall =>
    obtain rfl := dp_str_inv e1
    cases hall with
    | cons e2 hall =>
      cases hall
      obtain ⟨b, vs, rfl, hvs, hall2⟩ := dp_tup_inv e2
      exact ⟨a, b, vs, rfl, hys, hvs, hall2⟩
theorem rn_inv {K : PySem.W.Frag} {H : Hp} {v : V} {k : Bool} {n : Int} {x : J} (h : Dp K H v (J.rn k n x).toD) : ∃ a w, v = .ref a ∧ SqT K H a [.str (kwR k), .int n, w] ∧ Dp K H w x.toD := by
  rw [J.toD] at h
  obtain ⟨a, ys, rfl, hys, hall⟩ := dp_tup_inv h
  cases hall with
  | cons e1 hall =>
    obtain rfl := dp_str_inv e1
    cases hall with
    | cons e2 hall =>
      obtain rfl := dp_int_inv e2
      cases hall with
      | cons e3 hall =>
        cases hall
        exact ⟨a, _, rfl, hys, e3⟩
theorem parts_at {K : PySem.W.Frag} {H : Hp} {xs : List J} {vs : List V} {i : Nat} {x : V} (hall : DpAll K H vs (J.toDs xs)) (hi : vs[i]? = some x) : ∃ j, xs[i]? = some j ∧ j ∈ xs ∧ Dp K H x j.toD := by
  obtain ⟨d, ed, hd⟩ := dpAll_get hall hi
  rw [J.toDs_eq, List.getElem?_map] at ed
  cases e : xs[i]? with
  | none =>
    rw [e] at ed
    cases ed
  | some j =>
    rw [e] at ed
    obtain rfl := (Option.some.inj ed).symm
    exact ⟨j, rfl, List.mem_of_getElem? e, hd⟩
theorem parts_len {K : PySem.W.Frag} {H : Hp} {xs : List J} {vs : List V} (hall : DpAll K H vs (J.toDs xs)) : vs.length = xs.length := by
  rw [dpAll_length hall, J.toDs_eq, List.length_map]
theorem deep_mem : ∀ {l : List J} {y : J}, y ∈ l → y.deep ≤ J.deepL l
  | z :: r, y, h => by
    simp only [J.deepL]
    rcases List.mem_cons.mp h with rfl | h
    · omega
    · have := deep_mem h
      omega
theorem ok_mem {l : List J} {y : J} (o : J.okL l) (h : y ∈ l) : y.ok := (J.okL_iff l).mp o y h
theorem take_step {α β : Type} {xs : List α} {i : Nat} {j : α} (f : α → β) (e : xs[i]? = some j) : (xs.take (i + 1)).map f = (xs.take i).map f ++ [f j] := by
  rw [List.take_add_one, e, List.map_append]
  rfl
/-! words -/
theorem w_in_parts (k : Bool) : inV (.str (kwP k)) [.str "seq", .str "par"] = true := by cases k <;> decide +kernel
theorem w_in_parts_no (k : Bool) : inV (.str (kwR k)) [.str "seq", .str "par"] = false := by cases k <;> decide +kernel
theorem w_in_rounds (k : Bool) : inV (.str (kwR k)) [.str "repeat", .str "copies"] = true := by cases k <;> decide +kernel
theorem w_in_rounds_no (k : Bool) : inV (.str (kwP k)) [.str "repeat", .str "copies"] = false := by cases k <;> decide +kernel
theorem w_seq (k : Bool) : decide (V.str (kwP k) = V.str "seq") = !k := by cases k <;> decide +kernel
theorem w_par (k : Bool) : decide (V.str (kwP k) = V.str "par") = k := by cases k <;> decide +kernel
theorem w_seq_no (k : Bool) : decide (V.str (kwR k) = V.str "seq") = false := by cases k <;> decide +kernel
theorem w_par_no (k : Bool) : decide (V.str (kwR k) = V.str "par") = false := by cases k <;> decide +kernel
theorem w_copies (k : Bool) : decide (V.str (kwR k) = V.str "copies") = k := by cases k <;> decide +kernel
theorem w_dec_int {a b : Int} : decide (V.int a = V.int b) = decide (a = b) := by
  by_cases h : a = b
  · subst h
    simp
  · rw [decide_eq_false h, decide_eq_false (fun z => h (V.int.inj z))]
/-! the data of a job: fine to be shown, comparable -/
theorem kwP_fine (k : Bool) : fine (.str (kwP k)) := by cases k <;> (simp only [fine]; decide +kernel)
theorem kwR_fine (k : Bool) : fine (.str (kwR k)) := by cases k <;> (simp only [fine]; decide +kernel)
theorem kwP_bulk (k : Bool) : (PyData.str (kwP k)).bulk ≤ 10 := by cases k <;> (simp only [PyData.bulk]; decide +kernel)
theorem kwR_bulk (k : Bool) : (PyData.str (kwR k)).bulk ≤ 10 := by cases k <;> (simp only [PyData.bulk]; decide +kernel)
theorem lt180 {i : Int} (h0 : -M60 ≤ i) (h : i ≤ M60) : i.natAbs < 10 ^ 180 := by
  simp only [M60] at h0 h
  exact Nat.lt_of_le_of_lt (show i.natAbs ≤ 1000000000000000000000000000000000000000000000000000000000000 by omega) (by decide +kernel)
mutual
theorem J.fine : ∀ j : J, j.ok → fine j.toD
  | .st i, h => by
    simp only [J.ok, M30] at h
    simp only [J.toD, Rp.fine]
    exact lt180 (by simp only [M60]; omega) (by simp only [M60]; omega)
  | .ps k xs, h => by
    simp only [J.ok] at h
    have h1 := J.fines xs h.2.1
    have h2 := kwP_fine k
    simp only [J.toD, Rp.fine, fines] at *
    exact ⟨h2, h1, trivial⟩
  | .rn k n x, h => by
    simp only [J.ok, M30] at h
    have h1 := J.fine x h.2.1
    have h2 := kwR_fine k
    simp only [J.toD, Rp.fine, fines] at *
    exact ⟨h2, lt180 (by simp only [M60]; omega) (by simp only [M60]; omega), h1, trivial⟩
theorem J.fines : ∀ xs : List J, J.okL xs → fines (J.toDs xs)
  | [], _ => by simp [J.toDs, Rp.fines]
  | x :: xs, h => by
    simp only [J.okL] at h
    simp only [J.toDs, Rp.fines]
    exact ⟨J.fine x h.1, J.fines xs h.2⟩
end
mutual
theorem J.bulk : ∀ j : J, (j.toD.bulk : Int) ≤ 20 * j.nodes - 5
  | .st i => by simp only [J.toD, PyData.bulk, J.nodes]; omega
  | .ps k xs => by
    have h1 := J.bulks xs
    have h2 := kwP_bulk k
    simp only [J.toD, PyData.bulk, PyData.bulkAll, J.nodes] at *
    omega
  | .rn k n x => by
    have h1 := J.bulk x
    have h2 := kwR_bulk k
    simp only [J.toD, PyData.bulk, PyData.bulkAll, J.nodes] at *
    omega
theorem J.bulks : ∀ xs : List J, (PyData.bulkAll (J.toDs xs) : Int) ≤ 20 * J.nodesL xs
  | [] => by simp [J.toDs, PyData.bulkAll, J.nodesL]
  | x :: xs => by
    have h1 := J.bulk x
    have h2 := J.bulks xs
    simp only [J.toDs, PyData.bulkAll, J.nodesL, List.length_cons] at *
    omega
end
mutual
theorem J.depth : ∀ j : J, j.toD.depth ≤ 2 * j.deep
  | .st i => by simp [J.toD, PyData.depth]
  | .ps k xs => by
    have h1 := J.depths xs
    simp only [J.toD, PyData.depth, PyData.depthAll, J.deep]
    omega
  | .rn k n x => by
    have h1 := J.depth x
    simp only [J.toD, PyData.depth, PyData.depthAll, J.deep]
    omega
theorem J.depths : ∀ xs : List J, PyData.depthAll (J.toDs xs) ≤ 2 * J.deepL xs
  | [] => by simp [J.toDs, PyData.depthAll, J.deepL]
  | x :: xs => by
    have h1 := J.depth x
    have h2 := J.depths xs
    simp only [J.toDs, PyData.depthAll, J.deepL]
    omega
end
theorem kwP_strOk (k : Bool) : PyData.canLay0 (.str (kwP k)) = true := by cases k <;> (simp only [PyData.canLay0]; decide +kernel)
theorem kwR_strOk (k : Bool) : PyData.canLay0 (.str (kwR k)) = true := by cases k <;> (simp only [PyData.canLay0]; decide +kernel)
mutual
theorem J.canLay : ∀ j : J, j.toD.canLay0 = true
  | .st i => by simp [J.toD, PyData.canLay0]
  | .ps k xs => by
    have h1 := J.canLays xs
    have h2 := kwP_strOk k
    simp only [J.toD, PyData.canLay0, PyData.canLayAll0, h1, Bool.and_true, Bool.true_and] at *
    exact h2
  | .rn k n x => by
    have h1 := J.canLay x
    have h2 := kwR_strOk k
    simp only [J.toD, PyData.canLay0, PyData.canLayAll0, h1, Bool.and_true, Bool.true_and] at *
    exact h2
theorem J.canLays : ∀ xs : List J, PyData.canLayAll0 (J.toDs xs) = true
  | [] => rfl
  | x :: xs => by
    have h1 := J.canLay x
    have h2 := J.canLays xs
    simp only [J.toDs, PyData.canLayAll0, h1, h2, Bool.and_self]
end
theorem J.shaped (j : J) (h : j.deep ≤ 30) : SeqAt.shaped j.toD = true := by
  have h1 := J.canLay j
  have h2 := J.depth j
  unfold SeqAt.shaped
  rw [h1, decide_eq_true (by omega)]
  rfl
theorem J.eqv (j : J) : PyData.eqv j.toD j.toD = true := SeqAt.eqv_refl _ (J.canLay j)
end Lw
/-! Rq: data of any kind (lists that nobody changes, dicts), beside a pot at p: isinstance, in, repr. -/
namespace Rp
open PySem L2 PyProof.Rows

theorem str_eq_dict (b : Str) (u : Tok) (a : Addr) : Meets (Builtin.«str.__eq__» { pos := [Value.str b u, Value.ref a] }) fun _ R s => (∃ o es n, s.heap.get? a = some o ∧ o.data = Data.dict es n) ∧ R (.ok (.ret Value.notImplemented)) s := by
  rintro prog w A R s ⟨⟨o, es, n, h, hd⟩, q⟩
  have e : Builtin.«str.__eq__» { pos := [Value.str b u, Value.ref a] } = (do
      let o ← asStr? (Value.ref a)
      match o with
      | some o => ret (Value.bool (b.cps.toList == o.cps.toList))
      | none => do
          rule (toString "str." ++ toString "__eq__" ++ toString ".not-a-str")
          ret Value.notImplemented) := rfl
  rw [e]
  refine wpAny_bind ?_
  unfold asStr?
  refine wpAny_bind (wpAny_load h ?_)
  rw [hd]
  refine wpAny_pure ?_
  refine wpAny_bind (wpAny_rule ?_)
  exact wpAny_pure q
theorem dict_eq_str (b : Str) (u : Tok) (a : Addr) : Meets (Builtin.«dict.__eq__» { pos := [Value.ref a, Value.str b u] }) fun _ R s => R (.ok (.ret Value.notImplemented)) s := by
  rintro prog w A R s q
  have e : Builtin.«dict.__eq__» { pos := [Value.ref a, Value.str b u] } = (do
      let x ← isInstance (Value.str b u) (Value.type "dict")
      if (!x) = true then do
          rule (toString "dict." ++ toString "__eq__" ++ toString ".not-a-dict")
          ret Value.notImplemented
        else do
          let p ← Builtin.Dict.addrOf (Value.ref a)
          let q ← Builtin.Dict.addrOf (Value.str b u)
          let z ← Builtin.Dict.samePairs (toString "dict." ++ toString "__eq__") p q
          ret (Value.bool (z == true))) := rfl
  rw [e]
  refine wpAny_bind (wpAny_isInstance_val (b := false) (T := "str") rfl (by rfl) ?_)
  refine wpAny_bind (wpAny_rule ?_)
  exact wpAny_pure q
theorem rc_str_dict {A : Around} {s : Shared} {a : Addr} {o : Obj} {es : Array DictEntry} {n : Nat} (b : Str) (u : Tok) (h : s.heap.get? a = some o) (hc : o.cls = .type "dict") (hd : o.data = .dict es n) (room : A.units < cLine) : SeqAt.RcAt A s (.str b u) (.ref a) false := by
  intro prog w E Q q
  have ta : s.TypeIs (.str b u) "str" := by rfl
  have tb : s.TypeIs (.ref a) "dict" := ⟨o, h, hc⟩
  have e1 : ∀ Q' : Value → Shared → Prop, Q' Value.notImplemented s → wpAny (model prog w) A (call (Value.builtin "str.__eq__") [.str b u, .ref a]) Q' E s := fun Q' z =>
    call_meets PyProof.Rows.slot_str_eq ta F.entry_str_eq (F.args_str_eq_2 _ _) (str_eq_dict b u a) ⟨⟨o, es, n, h, hd⟩, z⟩
  have e2 : ∀ Q' : Value → Shared → Prop, Q' Value.notImplemented s → wpAny (model prog w) A (call (Value.builtin "dict.__eq__") [.ref a, .str b u]) Q' E s := fun Q' z =>
    call_meets F.slot_dict_eq tb F.entry_dict_eq (F.args_dict_eq_2 _ _) (dict_eq_str b u a) z
  exact SeqAt.rc_eq_decline_or (Ta := "str") (Tb := "dict") (k := false) ta tb (by decide) (by rfl) PyProof.Rows.slot_str_eq F.slot_dict_eq_refl e1 e2 (fun Q' z => wpAny_pure z) (.inr room) q
theorem eq_str_dict {A : Around} {s : Shared} {a : Addr} {o : Obj} {es : Array DictEntry} {n : Nat} (b : Str) (u : Tok) (h : s.heap.get? a = some o) (hc : o.cls = .type "dict") (hd : o.data = .dict es n) (room : A.units < cLine) : SeqAt.EqAt A s (.str b u) (.ref a) false := by
  intro prog w E Q q
  unfold eqBool
  refine wpAny_holding ?_
  have e : (Value.str b u == Value.ref a) = false := rfl
  simp only [e, Bool.false_eq_true, if_false]
  refine wpAny_bind (rc_str_dict b u h hc hd room prog w E _ ?_)
  exact wpAny_truthy_bool q

mutual
inductive Dq (K : PySem.W.Frag) (p : Addr) (H : Hp) : V → PyData → Prop
  | non : Dq K p H .non .none
  | bl (b : Bool) : Dq K p H (.bl b) (.bool b)
  | int (i : Int) : Dq K p H (.int i) (.int i)
  | str (x : Str) : Dq K p H (.str x) (.str x)
  | lst {a : Addr} {xs : List V} {ds : List PyData} : a ≠ p → H a = some (.lst xs) → DqAll K p H xs ds → Dq K p H (.ref a) (.list ds)
  | tup {a : Addr} {xs : List V} {ds : List PyData} : SqT K H a xs → DqAll K p H xs ds → Dq K p H (.ref a) (.tuple ds)
  | dct {a : Addr} {kvs : List (Key × V)} {ds : List (PyData × PyData)} : a ≠ p → H a = some (.dK kvs) → (ds = [] → kvs = []) → Dq K p H (.ref a) (.dict ds)
inductive DqAll (K : PySem.W.Frag) (p : Addr) (H : Hp) : List V → List PyData → Prop
  | nil : DqAll K p H [] []
  | cons {v : V} {d : PyData} {vs : List V} {ds : List PyData} : Dq K p H v d → DqAll K p H vs ds → DqAll K p H (v :: vs) (d :: ds)
end
mutual
theorem dq_of {K : PySem.W.Frag} {p : Addr} {H : Hp} : ∀ {d : PyData} {v : V}, noL d = true → Dp K H v d → Dq K p H v d
  | .none, _, _, h => by cases h; exact .non
  | .bool _, _, _, h => by cases h; exact .bl _
  | .int _, _, _, h => by cases h; exact .int _
  | .str _, _, _, h => by cases h; exact .str _
  | .list _, _, n, _ => by simp [noL] at n
  | .tuple ds, _, n, h => by
    cases h with
    | tup hs ha => exact .tup hs (dqAll_of (by simpa [noL] using n) ha)
  | .dict _, _, _, h => by cases h
theorem dqAll_of {K : PySem.W.Frag} {p : Addr} {H : Hp} : ∀ {ds : List PyData} {vs : List V}, noLs ds = true → DpAll K H vs ds → DqAll K p H vs ds
  | [], _, _, h => by cases h; exact .nil
  | d :: ds, _, n, h => by
    cases h with
    | cons h1 h2 =>
      have n' : noL d = true ∧ noLs ds = true := by simpa [noLs] using n
      exact .cons (dq_of n'.1 h1) (dqAll_of n'.2 h2)
end
/-- what keeps such data: tuples, and all but p -/
structure Kp (K : PySem.W.Frag) (p : Addr) (H H' : Hp) : Prop where
  sx : Sx p H H'
  tp : ∀ a xs, SqT K H a xs → SqT K H' a xs
theorem Kp.refl {K : PySem.W.Frag} {p : Addr} {H : Hp} : Kp K p H H := ⟨Sx.refl, fun _ _ h => h⟩
theorem Kp.trans {K : PySem.W.Frag} {p : Addr} {H H1 H2 : Hp} (a : Kp K p H H1) (b : Kp K p H1 H2) : Kp K p H H2 := ⟨a.sx.trans b.sx, fun x xs h => b.tp x xs (a.tp x xs h)⟩
theorem Same.kp {K : PySem.W.Frag} {p : Addr} {H H' : Hp} (s : Same H H') : Kp K p H H' := ⟨Same.sx s, fun _ _ h => same_sqT s h⟩
theorem Sx.kp {K : PySem.W.Frag} {p : Addr} {H H' : Hp} {l : List V} (s : Sx p H H') (hp : H p = some (.lst l)) : Kp K p H H' := ⟨s, fun _ _ h => s.sqT hp h⟩
mutual
theorem Dq.keep {K : PySem.W.Frag} {p : Addr} {H H' : Hp} (s : Kp K p H H') : ∀ {d : PyData} {v : V}, Dq K p H v d → Dq K p H' v d
  | .none, _, h => by cases h; exact .non
  | .bool _, _, h => by cases h; exact .bl _
  | .int _, _, h => by cases h; exact .int _
  | .str _, _, h => by cases h; exact .str _
  | .list ds, _, h => by
    cases h with
    | lst n e ha => exact .lst n (s.sx _ _ n e) (DqAll.keep s ha)
  | .tuple ds, _, h => by
    cases h with
    | tup hs ha => exact .tup (s.tp _ _ hs) (DqAll.keep s ha)
  | .dict _, _, h => by
    cases h with
    | dct n e z => exact .dct n (s.sx _ _ n e) z
theorem DqAll.keep {K : PySem.W.Frag} {p : Addr} {H H' : Hp} (s : Kp K p H H') : ∀ {ds : List PyData} {vs : List V}, DqAll K p H vs ds → DqAll K p H' vs ds
  | [], _, h => by cases h; exact .nil
  | d :: ds, _, h => by
    cases h with
    | cons h1 h2 => exact .cons (Dq.keep s h1) (DqAll.keep s h2)
end
theorem dqAll_length {K : PySem.W.Frag} {p : Addr} {H : Hp} : ∀ {vs : List V} {ds : List PyData}, DqAll K p H vs ds → vs.length = ds.length
  | _, _, .nil => rfl
  | _, _, .cons _ h => congrArg (· + 1) (dqAll_length h)
theorem dqAll_get {K : PySem.W.Frag} {p : Addr} {H : Hp} : ∀ {vs : List V} {ds : List PyData} {i : Nat} {v : V}, DqAll K p H vs ds → vs[i]? = some v → ∃ d, ds[i]? = some d ∧ Dq K p H v d
  | _, _, _, _, .nil, e => by simp at e
  | _, _, 0, _, .cons h _, e => by
    simp at e
    subst e
    exact ⟨_, rfl, h⟩
  | _, _, i + 1, _, .cons _ t, e => by
    obtain ⟨d, e1, e2⟩ := dqAll_get (i := i) t (by simpa using e)
    exact ⟨d, by simpa using e1, e2⟩
theorem dqAll_append {K : PySem.W.Frag} {p : Addr} {H : Hp} : ∀ {vs ws : List V} {ds es : List PyData}, DqAll K p H vs ds → DqAll K p H ws es → DqAll K p H (vs ++ ws) (ds ++ es)
  | _, _, _, _, .nil, h => h
  | _, _, _, _, .cons h t, h' => .cons h (dqAll_append t h')
theorem dqAll_take {K : PySem.W.Frag} {p : Addr} {H : Hp} : ∀ (n : Nat) {vs : List V} {ds : List PyData}, DqAll K p H vs ds → DqAll K p H (vs.take n) (ds.take n)
  | 0, _, _, _ => by simpa using .nil
  | n + 1, _, _, .nil => by simpa using .nil
  | n + 1, _, _, .cons h t => by simpa using .cons h (dqAll_take n t)
theorem dqAll_drop {K : PySem.W.Frag} {p : Addr} {H : Hp} : ∀ (n : Nat) {vs : List V} {ds : List PyData}, DqAll K p H vs ds → DqAll K p H (vs.drop n) (ds.drop n)
  | 0, _, _, h => by simpa using h
  | n + 1, _, _, .nil => by simpa using .nil
  | n + 1, _, _, .cons h t => by simpa using dqAll_drop n t
theorem dq_int_inv {K : PySem.W.Frag} {p : Addr} {H : Hp} {v : V} {i : Int} (h : Dq K p H v (.int i)) : v = .int i := by cases h; rfl
theorem dq_str_inv {K : PySem.W.Frag} {p : Addr} {H : Hp} {v : V} {x : Str} (h : Dq K p H v (.str x)) : v = .str x := by cases h; rfl
theorem dq_bool_inv {K : PySem.W.Frag} {p : Addr} {H : Hp} {v : V} {b : Bool} (h : Dq K p H v (.bool b)) : v = .bl b := by cases h; rfl
theorem dq_tup_inv {K : PySem.W.Frag} {p : Addr} {H : Hp} {v : V} {ds : List PyData} (h : Dq K p H v (.tuple ds)) : ∃ a xs, v = .ref a ∧ SqT K H a xs ∧ DqAll K p H xs ds := by
  cases h with
  | tup h1 h2 => exact ⟨_, _, rfl, h1, h2⟩
theorem tupq {K : PySem.W.Frag} {p q : Addr} {H : Hp} {xs : List V} {ds : List PyData} (hq : H q = none) (h : DqAll K p H xs ds) : Same H (upd H q (.tup xs)) ∧ Dq K p (upd H q (.tup xs)) (.ref q) (.tuple ds) :=
  ⟨same_new hq, .tup (.inl (.inl upd_same)) (h.keep (Same.kp (same_new hq)))⟩
theorem lstq {K : PySem.W.Frag} {p q : Addr} {H : Hp} {xs : List V} {ds : List PyData} (n : q ≠ p) (hq : H q = none) (h : DqAll K p H xs ds) : Same H (upd H q (.lst xs)) ∧ Dq K p (upd H q (.lst xs)) (.ref q) (.list ds) :=
  ⟨same_new hq, .lst n upd_same (h.keep (Same.kp (same_new hq)))⟩

mutual
def noD : PyData → Bool
  | .list ds => noDs ds
  | .tuple ds => noDs ds
  | .dict _ => false
  | _ => true
def noDs : List PyData → Bool
  | [] => true
  | d :: ds => noD d && noDs ds
end
mutual
theorem Dq.dp {K : PySem.W.Frag} {p : Addr} {H : Hp} : ∀ {d : PyData} {v : V}, noD d = true → Dq K p H v d → Dp K H v d
  | .none, _, _, h => by cases h; exact .non
  | .bool _, _, _, h => by cases h; exact .bl _
  | .int _, _, _, h => by cases h; exact .int _
  | .str _, _, _, h => by cases h; exact .str _
  | .list ds, _, n, h => by
    cases h with
    | lst _ e ha => exact .lst (SqL.of e) (DqAll.dp (by simpa [noD] using n) ha)
  | .tuple ds, _, n, h => by
    cases h with
    | tup hs ha => exact .tup hs (DqAll.dp (by simpa [noD] using n) ha)
  | .dict _, _, n, _ => by simp [noD] at n
theorem DqAll.dp {K : PySem.W.Frag} {p : Addr} {H : Hp} : ∀ {ds : List PyData} {vs : List V}, noDs ds = true → DqAll K p H vs ds → DpAll K H vs ds
  | [], _, _, h => by cases h; exact .nil
  | d :: ds, _, n, h => by
    cases h with
    | cons h1 h2 =>
      have n' : noD d = true ∧ noDs ds = true := by simpa [noDs] using n
      exact .cons (Dq.dp n'.1 h1) (DqAll.dp n'.2 h2)
end
theorem dq_ty {K : PySem.W.Frag} {p : Addr} {H : Hp} {v : V} {d : PyData} (h : Dq K p H v d) : TyX K H v (.type (tyN d)) := by
  cases h with
  | non => exact .base .non
  | bl b => exact .base (.bl b)
  | int i => exact .base (.int i)
  | str x => exact .base (.str x)
  | lst n hs ha => exact .base (.lst hs)
  | tup hs ha =>
    rcases hs with (e | ⟨o, e⟩) | ⟨o, its, n, hk, hc, _⟩
    · exact .base (.tup e)
    · exact .fTuple e
    · exact .kTuple hk hc
  | dct n e z => exact .base (.dK e)
section
variable {X : Cx}
def rIsQ (K : PySem.W.Frag) : List V → Hp → VK → Prop := fun xs H Q => ∃ (v : V) (n : String) (p : Addr) (d : PyData) (b : Bool), xs = [v, .ty n] ∧ Dq K p H v d ∧ kitB (tyN d) n = some b ∧ Q (.bl b) H
theorem call_isQ : CallR X (.builtin "isinstance") (rIsQ X.K) := by
  intro pins s σ H xs us Q I r h
  obtain ⟨v, n, p, d, b, e, hd, hk, q⟩ := h
  exact call_isi pins s σ H xs us Q I r ⟨v, .ty n, _, _, _, e, .ty n, dq_ty hd, kit_ty hk, q⟩
/-- is the data one of these texts -/
def inS (d : PyData) (ss : List Str) : Bool := match d with
  | .str x => ss.any (· == x)
  | _ => false
theorem isTuple_of {pins : List (Addr × Obj)} {σ : L2.St} {H : Hp} {s : Shared} {a : Addr} {xs : List V} (I : Inv X pins σ H s) (h : SqT X.K H a xs) : ∃ its : Array Value, Vals xs its.toList ∧ s.heap.IsTuple a its := by
  rcases h with h | ⟨o, its, n, hk, hc, hd, hz, hv⟩
  · obtain ⟨_, its, hv, ht⟩ := h.ok I.hok
    exact ⟨its.toArray, by simpa using hv, ht⟩
  · exact ⟨its, hv, o, I.kIn _ _ hk, hc, n, hd⟩
theorem vals_strs : ∀ {ss : List Str} {us : List Value}, Vals (ss.map V.str) us → ∃ ts : List (Str × Tok), us = ts.map (fun z => .str z.1 z.2) ∧ ts.map (·.1) = ss
  | [], us, h => by
    generalize e : ([] : List Str).map V.str = vs at h
    cases h with
    | nil => exact ⟨[], rfl, rfl⟩
    | cons r h => cases e
  | x :: ss, us, h => by
    generalize e : (x :: ss).map V.str = vs at h
    cases h with
    | nil => cases e
    | cons r h =>
      obtain ⟨rfl, rfl⟩ := List.cons.inj e
      obtain ⟨ts, rfl, rfl⟩ := vals_strs h
      obtain ⟨t, rfl⟩ := r
      exact ⟨(x, t) :: ts, rfl, rfl⟩
def rInQ (K : PySem.W.Frag) : R2 := fun x y H Q => ∃ (p a : Addr) (ss : List Str) (d : PyData), y = .ref a ∧ SqT K H a (ss.map V.str) ∧ Dq K p H x d ∧ Q (.bl (inS d ss)) H
theorem op_inQ (hu : X.A.units + 66 < cLine) : OpR X (compareOp .In) (rInQ X.K) := by
  rintro pins s σ H x y v u Q I rv ru ⟨p, a, ss, d, rfl, ht, hd, q⟩
  obtain rfl : u = .ref a := ru
  obtain ⟨its, hv, hit⟩ := isTuple_of I ht
  obtain ⟨ts, e1, e2⟩ := vals_strs hv
  have room : X.A.in1.units < cLine := by
    show X.A.units + 1 < cLine
    omega
  refine SeqAt.in_tupleAt (fun y => match y with | .str w _ => inS d [w] | _ => false) hit (fun y hy => ?_) ?_
  · have hy' : y ∈ its.toList := by simpa using hy
    rw [e1] at hy'
    obtain ⟨⟨w, t⟩, _, rfl⟩ := List.mem_map.mp hy'
    show SeqAt.EqAt X.A.in1 s (.str w t) v (inS d [w])
    cases hd with
    | non =>
      obtain rfl : v = .none := rv
      exact SeqAt.EqAt.str_none _ _
    | bl b =>
      obtain rfl : v = .bool b := rv
      exact SeqAt.EqAt.str_bool _ _ _
    | int i =>
      obtain ⟨t', rfl⟩ := rv
      exact SeqAt.EqAt.str_int _ _ _ _
    | str x =>
      obtain ⟨t', rfl⟩ := rv
      have e : inS (.str x) [w] = (w == x) := by simp [inS]
      rw [e]
      exact SeqAt.EqAt.str_str _ _ _ _
    | lst n e ha =>
      rename_i l xs ds
      obtain rfl : v = .ref l := rv
      obtain ⟨_, its', n', hv', ho⟩ := I.hok _ _ e
      exact SeqAt.EqAt.str_list (items := its'.toArray) _ _ ⟨_, ho, rfl, n', rfl⟩ room
    | tup hs ha =>
      rename_i l xs ds
      obtain rfl : v = .ref l := rv
      obtain ⟨its', hv', ho⟩ := isTuple_of I hs
      exact SeqAt.EqAt.str_tuple (items := its') _ _ ho room
    | dct n e z =>
      rename_i l kvs ds
      obtain rfl : v = .ref l := rv
      obtain ⟨_, _, vs, _, o, es, ep, h1, h2, h3, _⟩ := I.hok _ _ e
      exact eq_str_dict _ _ h1 h2.1 h3 room
  · refine ⟨.bl (inS d ss), H, I, ?_, q⟩
    show Value.bool _ = Value.bool _
    congr 1
    rw [← Array.any_toList, e1, ← e2, List.any_map]
    cases d <;> simp [inS, Function.comp_def]

mutual
/-- data whose text is made without trouble: only empty dicts -/
def fineQ : PyData → Prop
  | .int i => i.natAbs < 10 ^ 180
  | .str x => (x.cps.toList.all fun c => decide (c < 16 ^ 8)) = true
  | .list xs => finesQ xs
  | .tuple xs => finesQ xs
  | .dict ds => ds = []
  | _ => True
def finesQ : List PyData → Prop
  | [] => True
  | x :: xs => fineQ x ∧ finesQ xs
end
mutual
theorem fineQ_ok : ∀ d : PyData, fineQ d → d.showable = true ∧ d.leavesShort 200 = true
  | .none, _ => by simp [PyData.showable, PyData.leavesShort]
  | .bool _, _ => by simp [PyData.showable, PyData.leavesShort]
  | .int i, h => by
    simp only [fineQ] at h
    simp only [PyData.showable, PyData.leavesShort, decide_eq_true_eq]
    exact ⟨int_log h, shown_int h⟩
  | .str x, h => by
    simp only [fineQ] at h
    simp only [PyData.showable, PyData.leavesShort, true_and]
    exact h
  | .list xs, h => by
    simp only [fineQ] at h
    simp only [PyData.showable, PyData.leavesShort]
    exact finesQ_ok xs h
  | .tuple xs, h => by
    simp only [fineQ] at h
    simp only [PyData.showable, PyData.leavesShort]
    exact finesQ_ok xs h
  | .dict ds, h => by
    simp only [fineQ] at h
    subst h
    simp [PyData.showable, PyData.showableKv, PyData.leavesShort, PyData.leavesShortKv]
theorem finesQ_ok : ∀ xs : List PyData, finesQ xs → PyData.showableAll xs = true ∧ PyData.leavesShortAll 200 xs = true
  | [], _ => by simp [PyData.showableAll, PyData.leavesShortAll]
  | x :: xs, h => by
    simp only [finesQ] at h
    obtain ⟨a1, a2⟩ := fineQ_ok x h.1
    obtain ⟨b1, b2⟩ := finesQ_ok xs h.2
    simp only [PyData.showableAll, PyData.leavesShortAll, a1, a2, b1, b2, Bool.and_self, and_self]
end
mutual
theorem Dq.reads {p : Addr} {pins : List (Addr × Obj)} {σ : L2.St} {H : Hp} {s : Shared} (I : Inv X pins σ H s) (hs : H sysModules = none) : ∀ (d : PyData) (v : V) (u : Value), fineQ d → Dq X.K p H v d → RelV v u → ∃ as, Reads s.heap u d as ∧ sysModules ∉ as
  | .none, _, u, _, h, r => by
    cases h
    obtain rfl : u = .none := r
    exact ⟨_, .none, by simp⟩
  | .bool b, _, u, _, h, r => by
    cases h
    obtain rfl : u = .bool b := r
    exact ⟨_, .bool b, by simp⟩
  | .int i, _, u, _, h, r => by
    cases h
    obtain ⟨t, rfl⟩ := r
    exact ⟨_, .int i t, by simp⟩
  | .str x, _, u, _, h, r => by
    cases h
    obtain ⟨t, rfl⟩ := r
    exact ⟨_, .str x t, by simp⟩
  | .list ds, _, u, f, h, r => by
    cases h with
    | lst n e ha =>
      rename_i l xs
      obtain rfl : u = .ref l := r
      obtain ⟨_, its', n', hv', ho⟩ := I.hok _ _ e
      obtain ⟨as, ra, na⟩ := DqAll.reads I hs ds xs its' (by simpa only [fineQ] using f) ha hv'
      refine ⟨_, .list ho rfl rfl (by simpa using ra), ?_⟩
      intro z
      rcases List.mem_cons.mp z with z | z
      · rw [z, e] at hs
        cases hs
      · exact na z
  | .tuple ds, _, u, f, h, r => by
    cases h with
    | tup ht ha =>
      rename_i l xs
      obtain rfl : u = .ref l := r
      obtain ⟨its', hv', o, h1, h2, n, h3⟩ := isTuple_of I ht
      obtain ⟨as, ra, na⟩ := DqAll.reads I hs ds xs its'.toList (by simpa only [fineQ] using f) ha hv'
      exact ⟨_, .tuple h1 h2 h3 ra, na⟩
  | .dict ds, _, u, f, h, r => by
    cases h with
    | dct n e z =>
      rename_i l kvs
      obtain rfl : u = .ref l := r
      simp only [fineQ] at f
      subst f
      obtain rfl := z rfl
      obtain ⟨_, _, vs, kv, o, es, ep, h1, h2, h3, _, h4, _⟩ := I.hok _ _ e
      generalize ek : ([] : List (Key × V)) = kk at kv
      cases kv with
      | cons _ _ => cases ek
      | nil =>
        generalize ee : es.toList = el at h4
        cases h4
        have e0 : es = #[] := by
          apply Array.ext'
          simpa using ee
        subst e0
        refine ⟨_, .dict (as := []) (bs := []) h1 h2.1 h3 (by simpa using .nil) (by simpa using .nil), ?_⟩
        intro y
        have y' : sysModules = l := by simpa using y
        rw [y', e] at hs
        cases hs
theorem DqAll.reads {p : Addr} {pins : List (Addr × Obj)} {σ : L2.St} {H : Hp} {s : Shared} (I : Inv X pins σ H s) (hs : H sysModules = none) : ∀ (ds : List PyData) (vs : List V) (us : List Value), finesQ ds → DqAll X.K p H vs ds → Vals vs us → ∃ as, ReadsAll s.heap us ds as ∧ sysModules ∉ as
  | [], _, us, _, h, r => by
    cases h
    generalize e : ([] : List V) = l at r
    cases r with
    | nil => exact ⟨_, .nil, by simp⟩
    | cons _ _ => cases e
  | d :: ds, _, us, f, h, r => by
    cases h with
    | cons h1 h2 =>
      rename_i v vs
      generalize e : v :: vs = l at r
      cases r with
      | nil => cases e
      | cons r1 r2 =>
        obtain ⟨rfl, rfl⟩ := List.cons.inj e
        simp only [finesQ] at f
        obtain ⟨as, ra, na⟩ := Dq.reads I hs d _ _ f.1 h1 r1
        obtain ⟨bs, rb, nb⟩ := DqAll.reads I hs ds _ _ f.2 h2 r2
        exact ⟨_, .cons ra rb, by simp [na, nb]⟩
end
/-- the written part holds the table of modules -/
def Sys (base : Heap) : Prop := ∃ o, base.get? sysModules = some o
theorem Inv.nosys {pins : List (Addr × Obj)} {σ : L2.St} {H : Hp} {s : Shared} (I : Inv X pins σ H s) (hb : Sys X.base) : H sysModules = none := by
  obtain ⟨o, hb⟩ := hb
  obtain ⟨h1, h2⟩ := I.ok.bs _ _ hb
  exact I.base.free _ _ h1 h2 (I.ok.noex _ _ hb)
def rReprQ (K : PySem.W.Frag) : List V → Hp → VK → Prop := fun xs H Q => ∃ (p : Addr) (v : V) (d : PyData), xs = [v] ∧ Dq K p H v d ∧ fineQ d ∧ d.depth ≤ 64 ∧ d.bulk ≤ 80000 ∧ Q (.str d.shown) H
theorem call_reprQ (hb : Sys X.base) (hg : X.A.guards = some []) (hu : X.A.units + 66 < cLine) : CallR X (.builtin "repr") (rReprQ X.K) := by
  intro pins s σ H xs us Q I r h
  obtain ⟨p, v, d, rfl, hd, hf, hdep, hw, q⟩ := h
  obtain ⟨hs, hl⟩ := fineQ_ok d hf
  have hz : d.shown.length ≤ sizeLine := by
    have := PyData.shown_le_bulk 200 (by decide) d hl
    rw [sizeLine_eq]
    omega
  obtain ⟨u, rfl, ru⟩ := vals1 r
  obtain ⟨as, hr, hsm⟩ := Dq.reads I (Inv.nosys I hb) d v u hf hd ru
  cases hr with
  | none => exact P.repr_of_none ⟨.str _, H, I.tok _, ⟨_, rfl⟩, q⟩
  | bool b => exact P.repr_of_bool ⟨.str _, H, I.tok _, ⟨_, rfl⟩, q⟩
  | int i t => exact P.repr_of_int (by simpa [PyData.showable] using hs) ⟨.str _, H, I.tok _, ⟨_, rfl⟩, q⟩
  | str x t => exact P.repr_of_str ⟨.str _, H, I.tok _, ⟨_, rfl⟩, q⟩ (by simpa only [PyData.shown] using hz)
  | list h1 h2 h3 h4 =>
    refine repr_of_reads' (h₀ := s.heap) (.list h1 h2 h3 h4) hs (fun _ => hsm) hg (by omega) (fun _ _ e => e) (fun h' u' tk hk => ?_) hz
    exact ⟨.str _, H, I.kept hk, ⟨_, rfl⟩, q⟩
  | tuple h1 h2 h3 h4 =>
    refine repr_of_reads' (h₀ := s.heap) (.tuple h1 h2 h3 h4) hs (fun _ => hsm) hg (by omega) (fun _ _ e => e) (fun h' u' tk hk => ?_) hz
    exact ⟨.str _, H, I.kept hk, ⟨_, rfl⟩, q⟩
  | dict h1 h2 h3 h4 h5 =>
    refine repr_of_reads' (h₀ := s.heap) (.dict h1 h2 h3 h4 h5) hs (fun _ => hsm) hg (by omega) (fun _ _ e => e) (fun h' u' tk hk => ?_) hz
    exact ⟨.str _, H, I.kept hk, ⟨_, rfl⟩, q⟩

def rInLD (K : PySem.W.Frag) : R2 := fun x y H Q => ∃ (ds : List PyData) (d : PyData), Dp K H y (.list ds) ∧ Dp K H x d ∧ PyData.canLayAll0 ds = true ∧ d.canLay0 = true ∧ d.depth ≤ 60 ∧ Q (.bl (ds.any fun e => e.eqv d)) H
theorem op_inLD (hu : X.A.units + 66 < cLine) : OpR X (compareOp .In) (rInLD X.K) := by
  rintro pins s σ H x y v u Q I rv ru ⟨ds, d, hy, hx, c1, c2, c3, q⟩
  obtain ⟨as, r1⟩ := Dp.reads I _ _ _ hy ru
  obtain ⟨bs, r2⟩ := Dp.reads I _ _ _ hx rv
  refine SeqAt.in_list_reads r1 r2 c1 c2 ?_ ⟨.bl _, H, I, rfl, q⟩
  have : min (PyData.depthAll ds) d.depth ≤ 60 := Nat.le_trans (Nat.min_le_right _ _) c3
  omega

end
end Rp

namespace Rp
open PySem L2 PyProof.Rows
theorem law_endS {l : PySem.W.OpenLaw} {n k : Nat} {q : Program} {loose : List Str} {XP : (Str → Option Value) → Heap → Prop} {YP : World → Heap → Prop} {d : DefRec} {K : Params → PySem.W.Frag} {sp : PySem.W.Frag → Sp} {x : Str}
    (hn : l.most = some n) (hn2 : n ≤ sizeLine) (hdf : d.params.defaults = []) (hr : Room k callerA) (himp : importsNone q = true)
    (hY : ∀ (w : World) (h : Heap), YP w h → (K w.params).In h)
    (F : ∀ (w : World) (mg : Str → Option Value) (fa : Addr) (h : Heap), (K w.params).In h → h.Ns mainGlobals mg → mg d.name = some (.ref fa) →
      ∃ fd : FuncData, (∀ (s : Shared) (u : Value), BindsTo s fd ⟨[u], []⟩ [(x, u)]) ∧
        ∀ base : Heap, (K w.params).In base → base.Ns mainGlobals mg → Sys base → FnG l.prog w (K w.params) mg base CX0 k fa fd [x] (sp (K w.params)))
    (hsp : ∀ (K : PySem.W.Frag) (H : Hp) (a : Addr) (ns : List Int), ns.length ≤ n → Only H → SqL K H a (ns.map V.int) → sp K [.ref a] H (fun v _ => v = .bl true) fun _ _ _ => False) :
    PySem.W.WalkO q loose XP YP l.row.toRowW d [] (fun f vs => PySem.call f vs) := by
  refine Att.attach_call hn hdf fun w s₀ s₁ mg mb fa o pm cd doc a vs ns G Y ho hd hcd hmg hobj hints hlen hgens => ?_
  have kin := hY w _ Y
  obtain ⟨fd, bd, FF⟩ := F w mg fa _ kin G.T.g hmg
  obtain ⟨H, hO, hS, hok, only, notK⟩ := script_heap (P := l.prog) (w := w) kin hobj hints (Nat.le_trans hlen hn2)
  have free : ∀ {b : Addr} {ob : Obj} {es : Array DictEntry} {ep : Nat}, s₁.heap.get? b = some ob → ob.data = .dict es ep → H b = none := by
    intro b ob es ep h1 h2
    cases c : H b with
    | none => rfl
    | some u =>
      have e : b = a := only b (by rw [c]; exact fun z => nomatch z)
      rw [e, hobj] at h1
      have h3 := congrArg Obj.data (Option.some.inj h1)
      rw [h2] at h3
      exact nomatch h3
  have ns' : ∀ {b : Addr} {m : Str → Option Value}, s₁.heap.Ns b m → (hidT s₁.heap H).Ns b m := by
    rintro b m ⟨ob, es, ep, h1, h2, h3⟩
    exact ⟨ob, es, ep, hidT_get h1 (free h1 h2), h2, h3⟩
  have kinB : (K w.params).In (hidT s₁.heap H) := fun b ob e => hidT_get (kin b ob e) (notK b ob e)
  have lim : (hidT s₁.heap H).NoLimit := by
    obtain ⟨mc, h1, h2⟩ := G.T.nolimit
    exact ⟨mc, ns' h1, h2⟩
  have sys : Sys (hidT s₁.heap H) := by
    obtain ⟨mm, hm, _⟩ := (G.T.seer himp).mods
    obtain ⟨ob, es, ep, h1, _⟩ := ns' hm
    exact ⟨ob, h1⟩
  have en : Env0 l.prog w (K w.params) mg (hidT s₁.heap H) callerA [] s₁ H :=
    ⟨rfl, ⟨kinB, ns' G.T.g, ⟨mb, ns' G.T.b, G.T.builtins⟩, lim⟩, fun b ob e => of_hidT e, Nat.le_of_eq (hidT_size _ _), trivial, (fun b z => nomatch z), hok, .of_eq hgens⟩
  refine codeAny_mono ((FF _ kinB (ns' G.T.g) sys).run callerA [] s₁ H ⟨[.ref a], []⟩ [.ref a] [.ref a] _ _ hr rfl en (bd s₁ (.ref a)) (.cons rfl .nil) (hsp _ H a ns hlen hO hS)) fun r s' z => ?_
  cases r with
  | error e => exact False.elim z
  | ok fl =>
    cases fl with
    | next => exact False.elim z
    | brk => exact False.elim z
    | cont => exact False.elim z
    | ret u =>
      obtain ⟨v, H', os, bare, un, hok', rr, e⟩ := z
      have e' : v = .bl true := e
      subst e'
      obtain rfl : u = Value.bool true := rr
      refine ⟨rfl, OldK.of_keep fun b ob hb => ?_, os, bare⟩
      cases c : H b with
      | none => exact un.keep b ob hb c (fun z => nomatch z) (fun z => nomatch z)
      | some u =>
        rcases hO b with z | ⟨ox, xs, z⟩
        · rw [c] at z
          cases z
        · obtain ⟨e1, _⟩ := hok b _ z
          obtain ⟨e2, _⟩ := hok' b _ (un.frzs b ox _ z)
          rw [hb] at e1
          cases e1
          exact e2
end Rp
/-! Jst: sets of steps that hold, with a step, all that come ahead of it; the least sum over them. No Python here. -/
namespace Lw
abbrev Row1 := List Int × Int
/-- rows of steps and what comes ahead of what -/
structure Sys where
  rows : List Row1
  ahead : List Int → List Int → Bool
def sumD (rows : List Row1) (D : List Int → Bool) : Int := (rows.map fun r => if D r.1 then r.2 else 0).sum
def Sys.net (S : Sys) : Int := (S.rows.map (·.2)).sum
def Sys.Closed (S : Sys) (D : List Int → Bool) : Prop := ∀ a ∈ S.rows, ∀ b ∈ S.rows, S.ahead a.1 b.1 = true → D b.1 = true → D a.1 = true
structure Sys.Low (S : Sys) (l : Int) : Prop where
  le : ∀ D, S.Closed D → l ≤ sumD S.rows D
  at_ : ∃ D, S.Closed D ∧ sumD S.rows D = l
theorem sumD_app (r s : List Row1) (D : List Int → Bool) : sumD (r ++ s) D = sumD r D + sumD s D := by
  unfold sumD
  rw [List.map_append, List.sum_append]
theorem sumD_all {r : List Row1} {D : List Int → Bool} (h : ∀ a ∈ r, D a.1 = true) : sumD r D = (r.map (·.2)).sum := by
  induction r with
  | nil => rfl
  | cons x r ih =>
    have h1 := h x List.mem_cons_self
    have h2 := ih fun a ha => h a (List.mem_cons_of_mem _ ha)
    unfold sumD at h2 ⊢
    simp only [List.map_cons, List.sum_cons, h1, if_true, h2]
theorem sumD_none {r : List Row1} {D : List Int → Bool} (h : ∀ a ∈ r, D a.1 = false) : sumD r D = 0 := by
  induction r with
  | nil => rfl
  | cons x r ih =>
    have h1 := h x List.mem_cons_self
    have h2 := ih fun a ha => h a (List.mem_cons_of_mem _ ha)
    unfold sumD at h2 ⊢
    simp only [List.map_cons, List.sum_cons, h1, Bool.false_eq_true, if_false, h2]
    rfl
theorem sumD_congr {r : List Row1} {D E : List Int → Bool} (h : ∀ a ∈ r, D a.1 = E a.1) : sumD r D = sumD r E := by
  induction r with
  | nil => rfl
  | cons x r ih =>
    have h1 := h x List.mem_cons_self
    have h2 := ih fun a ha => h a (List.mem_cons_of_mem _ ha)
    unfold sumD at h2 ⊢
    simp only [List.map_cons, List.sum_cons, h1, h2]
def pre (i : Int) (r : List Row1) : List Row1 := r.map fun a => (i :: a.1, a.2)
theorem sumD_pre (i : Int) (r : List Row1) (D : List Int → Bool) : sumD (pre i r) D = sumD r (fun a => D (i :: a)) := by
  unfold sumD pre
  rw [List.map_map]
  rfl
theorem net_pre (i : Int) (r : List Row1) : ((pre i r).map (·.2)).sum = (r.map (·.2)).sum := by
  unfold pre
  rw [List.map_map]
  rfl
/-- systems behind their indices -/
def cRows : List Sys → Int → List Row1
  | [], _ => []
  | S :: r, i => pre i S.rows ++ cRows r (i + 1)
def aheadAt : List Sys → Int → Int → List Int → List Int → Bool
  | [], _, _, _, _ => false
  | S :: r, i, k, a, b => if k = i then S.ahead a b else aheadAt r (i + 1) k a b
/-- in a row (sq), or side by side -/
def cAhead (sq : Bool) (Ss : List Sys) (i : Int) : List Int → List Int → Bool
  | k :: a, m :: b => if k ≠ m then sq && decide (k < m) else aheadAt Ss i k a b
  | _, _ => false
def comp (sq : Bool) (Ss : List Sys) (i : Int) : Sys := ⟨cRows Ss i, cAhead sq Ss i⟩
theorem cRows_head : ∀ {Ss : List Sys} {i : Int} {a : Row1}, a ∈ cRows Ss i → ∃ k b, a.1 = k :: b ∧ i ≤ k
  | S :: r, i, a, h => by
    simp only [cRows, List.mem_append, pre, List.mem_map] at h
    rcases h with ⟨b, _, rfl⟩ | h
    · exact ⟨i, b.1, rfl, Int.le_refl _⟩
    · obtain ⟨k, b, h1, h2⟩ := cRows_head h
      exact ⟨k, b, h1, by omega⟩
theorem net_comp (sq : Bool) : ∀ (Ss : List Sys) (i : Int), (comp sq Ss i).net = (Ss.map Sys.net).sum
  | [], i => rfl
  | S :: r, i => by
    have ih := net_comp sq r (i + 1)
    unfold Sys.net comp at ih ⊢
    simp only [cRows, List.map_append, List.sum_append, net_pre, List.map_cons, List.sum_cons, ih]
/-- the first of them alone -/
theorem closed_first {sq : Bool} {S : Sys} {r : List Sys} {i : Int} {D : List Int → Bool} (h : (comp sq (S :: r) i).Closed D) : S.Closed fun a => D (i :: a) := by
  intro a ha b hb hab hD
  refine h (i :: a.1, a.2) ?_ (i :: b.1, b.2) ?_ ?_ hD
  · simp only [comp, cRows, List.mem_append, pre, List.mem_map]
    exact .inl ⟨a, ha, rfl⟩
  · simp only [comp, cRows, List.mem_append, pre, List.mem_map]
    exact .inl ⟨b, hb, rfl⟩
  · simp only [comp, cAhead, aheadAt, ne_eq, not_true_eq_false, if_false, if_true]
    exact hab
theorem closed_rest {sq : Bool} {S : Sys} {r : List Sys} {i : Int} {D : List Int → Bool} (h : (comp sq (S :: r) i).Closed D) : (comp sq r (i + 1)).Closed D := by
  intro a ha b hb hab hD
  obtain ⟨k, a', ea, hk⟩ := cRows_head ha
  obtain ⟨m, b', eb, hm⟩ := cRows_head hb
  refine h a ?_ b ?_ ?_ hD
  · simp only [comp, cRows, List.mem_append]
    exact .inr ha
  · simp only [comp, cRows, List.mem_append]
    exact .inr hb
  · rw [ea, eb] at hab ⊢
    simp only [comp, cAhead] at hab ⊢
    by_cases e : k = m
    · subst e
      simp only [ne_eq, not_true_eq_false, if_false, aheadAt] at hab ⊢
      rw [if_neg (by omega)]
      exact hab
    · simp only [ne_eq, e, not_false_eq_true, if_true] at hab ⊢
      exact hab
/-- all of the first come ahead of what stands behind -/
theorem seq_full {S : Sys} {r : List Sys} {i : Int} {D : List Int → Bool} (h : (comp true (S :: r) i).Closed D) {b : Row1} (hb : b ∈ cRows r (i + 1)) (hD : D b.1 = true) : ∀ a ∈ S.rows, D (i :: a.1) = true := by
  intro a ha
  obtain ⟨m, b', eb, hm⟩ := cRows_head hb
  refine h (i :: a.1, a.2) ?_ b ?_ ?_ hD
  · simp only [comp, cRows, List.mem_append, pre, List.mem_map]
    exact .inl ⟨a, ha, rfl⟩
  · simp only [comp, cRows, List.mem_append]
    exact .inr hb
  · rw [eb]
    simp only [comp, cAhead, ne_eq]
    rw [if_pos (by omega)]
    simp only [Bool.true_and, decide_eq_true_eq]
    omega
abbrev Part := Sys × Int
def sysOf (Ps : List Part) : List Sys := Ps.map (·.1)
def lowSeq : List Part → Int
  | [] => 0
  | p :: r => min p.2 (p.1.net + lowSeq r)
def lowPar : List Part → Int
  | [] => 0
  | p :: r => p.2 + lowPar r
theorem seq_le : ∀ (Ps : List Part) (i : Int), (∀ p ∈ Ps, p.1.Low p.2) → ∀ D, (comp true (sysOf Ps) i).Closed D → lowSeq Ps ≤ sumD (cRows (sysOf Ps) i) D
  | [], i, h, D, hc => Int.le_refl _
  | p :: r, i, h, D, hc => by
    have c1 := (h p List.mem_cons_self).le _ (closed_first hc)
    have c2 := seq_le r (i + 1) (fun q hq => h q (List.mem_cons_of_mem _ hq)) D (closed_rest hc)
    simp only [sysOf, List.map_cons, cRows, sumD_app, sumD_pre, lowSeq] at c2 ⊢
    by_cases e : ∃ b ∈ cRows (sysOf r) (i + 1), D b.1 = true
    · obtain ⟨b, hb, hD⟩ := e
      have full := sumD_all (r := p.1.rows) (D := fun a => D (i :: a)) (seq_full hc hb hD)
      rw [full]
      have : p.1.net = (p.1.rows.map (·.2)).sum := rfl
      omega
    · have none : sumD (cRows (sysOf r) (i + 1)) D = 0 := sumD_none fun a ha => by
        cases ed : D a.1 with
        | false => rfl
        | true => exact absurd ⟨a, ha, ed⟩ e
      simp only [sysOf] at none
      rw [none]
      omega
theorem par_le : ∀ (Ps : List Part) (i : Int), (∀ p ∈ Ps, p.1.Low p.2) → ∀ D, (comp false (sysOf Ps) i).Closed D → lowPar Ps ≤ sumD (cRows (sysOf Ps) i) D
  | [], i, h, D, hc => Int.le_refl _
  | p :: r, i, h, D, hc => by
    have c1 := (h p List.mem_cons_self).le _ (closed_first hc)
    have c2 := par_le r (i + 1) (fun q hq => h q (List.mem_cons_of_mem _ hq)) D (closed_rest hc)
    simp only [sysOf, List.map_cons, cRows, sumD_app, sumD_pre, lowPar] at c2 ⊢
    omega
/-- a set of the first one and one of what stands behind -/
def join (i : Int) (D E : List Int → Bool) : List Int → Bool
  | k :: a => if k = i then D a else E (k :: a)
  | [] => false
theorem join_first {i : Int} {D E : List Int → Bool} {r : List Row1} : sumD (pre i r) (join i D E) = sumD r D := by
  rw [sumD_pre]
  exact sumD_congr fun a _ => by simp only [join, if_true]
theorem join_rest {i : Int} {D E : List Int → Bool} {Ss : List Sys} : sumD (cRows Ss (i + 1)) (join i D E) = sumD (cRows Ss (i + 1)) E := by
  refine sumD_congr fun a ha => ?_
  obtain ⟨k, b, e, hk⟩ := cRows_head ha
  rw [e]
  simp only [join]
  rw [if_neg (by omega)]
theorem join_closed {sq : Bool} {S : Sys} {r : List Sys} {i : Int} {D E : List Int → Bool} (h1 : S.Closed D) (h2 : (comp sq r (i + 1)).Closed E)
    (h3 : sq = true → (∀ b ∈ cRows r (i + 1), E b.1 = true → ∀ a ∈ S.rows, D a.1 = true)) : (comp sq (S :: r) i).Closed (join i D E) := by
  intro a ha b hb hab hD
  simp only [comp, cRows, List.mem_append, pre, List.mem_map] at ha hb
  rcases hb with ⟨b', hb', rfl⟩ | hb
  · simp only [join, if_true] at hD
    rcases ha with ⟨a', ha', rfl⟩ | ha
    · simp only [join, if_true]
      simp only [comp, cAhead, aheadAt, ne_eq, not_true_eq_false, if_false, if_true] at hab
      exact h1 a' ha' b' hb' hab hD
    · exfalso
      obtain ⟨k, a', ea, hk⟩ := cRows_head ha
      rw [ea] at hab
      simp only [comp, cAhead, ne_eq] at hab
      rw [if_pos (by omega)] at hab
      simp only [Bool.and_eq_true, decide_eq_true_eq] at hab
      omega
  · obtain ⟨m, b', eb, hm⟩ := cRows_head hb
    have hE : E b.1 = true := by
      rw [eb] at hD ⊢
      simp only [join] at hD
      rwa [if_neg (by omega)] at hD
    rcases ha with ⟨a', ha', rfl⟩ | ha
    · simp only [join, if_true]
      rw [eb] at hab
      simp only [comp, cAhead, ne_eq] at hab
      rw [if_pos (by omega)] at hab
      simp only [Bool.and_eq_true] at hab
      exact h3 hab.1 b hb hE a' ha'
    · obtain ⟨k, a', ea, hk⟩ := cRows_head ha
      have hE' : E a.1 = true := by
        refine h2 a ha b hb ?_ hE
        rw [ea, eb] at hab ⊢
        simp only [comp, cAhead] at hab ⊢
        by_cases e : k = m
        · subst e
          simp only [ne_eq, not_true_eq_false, if_false, aheadAt] at hab ⊢
          rw [if_neg (by omega)] at hab
          exact hab
        · simp only [ne_eq, e, not_false_eq_true, if_true] at hab ⊢
          exact hab
      rw [ea] at hE' ⊢
      simp only [join]
      rw [if_neg (by omega)]
      exact hE'
theorem seq_at : ∀ (Ps : List Part) (i : Int), (∀ p ∈ Ps, p.1.Low p.2) → ∃ D, (comp true (sysOf Ps) i).Closed D ∧ sumD (cRows (sysOf Ps) i) D = lowSeq Ps
  | [], i, h => ⟨fun _ => false, fun a ha => by simp [comp, sysOf, cRows] at ha, rfl⟩
  | p :: r, i, h => by
    obtain ⟨E, e1, e2⟩ := seq_at r (i + 1) (fun q hq => h q (List.mem_cons_of_mem _ hq))
    obtain ⟨D, d1, d2⟩ := (h p List.mem_cons_self).at_
    by_cases c : p.2 ≤ p.1.net + lowSeq r
    · refine ⟨join i D fun _ => false, join_closed d1 (fun a _ b _ _ hb => by cases hb) (fun _ b _ hb => by cases hb), ?_⟩
      simp only [sysOf, List.map_cons, cRows, sumD_app, lowSeq]
      rw [join_first, join_rest, d2, sumD_none fun _ _ => rfl]
      omega
    · refine ⟨join i (fun _ => true) E, join_closed (fun _ _ _ _ _ _ => rfl) e1 (fun _ _ _ _ _ _ => rfl), ?_⟩
      simp only [sysOf, List.map_cons, cRows, sumD_app, lowSeq] at e2 ⊢
      rw [join_first, join_rest, e2, sumD_all fun _ _ => rfl]
      have : p.1.net = (p.1.rows.map (·.2)).sum := rfl
      omega
theorem par_at : ∀ (Ps : List Part) (i : Int), (∀ p ∈ Ps, p.1.Low p.2) → ∃ D, (comp false (sysOf Ps) i).Closed D ∧ sumD (cRows (sysOf Ps) i) D = lowPar Ps
  | [], i, h => ⟨fun _ => false, fun a ha => by simp [comp, sysOf, cRows] at ha, rfl⟩
  | p :: r, i, h => by
    obtain ⟨E, e1, e2⟩ := par_at r (i + 1) (fun q hq => h q (List.mem_cons_of_mem _ hq))
    obtain ⟨D, d1, d2⟩ := (h p List.mem_cons_self).at_
    refine ⟨join i D E, join_closed d1 e1 (fun z => by cases z), ?_⟩
    simp only [sysOf, List.map_cons, cRows, sumD_app, lowPar] at e2 ⊢
    rw [join_first, join_rest, d2, e2]
theorem low_seq (Ps : List Part) (i : Int) (h : ∀ p ∈ Ps, p.1.Low p.2) : (comp true (sysOf Ps) i).Low (lowSeq Ps) := ⟨seq_le Ps i h, seq_at Ps i h⟩
theorem low_par (Ps : List Part) (i : Int) (h : ∀ p ∈ Ps, p.1.Low p.2) : (comp false (sysOf Ps) i).Low (lowPar Ps) := ⟨par_le Ps i h, par_at Ps i h⟩
end Lw
namespace Lw
open PySem L2 Rp
local macro_rules | `(tactic| walk_at "rd") => `(tactic| repeat (first | refine ⟨_, rfl, ?_⟩ | refine ⟨_, _, rfl, rfl, ?_⟩))
def top (i : Nat) : Stmt := PySem.Challenge.pw_roomprofile_k03_whole_lowest_usage.main.body.getD i (.Pass ⟨0, 0, 0, 0⟩)
abbrev s_is_integer : Stmt := top 4
abbrev N_is_integer : List Str := ["value"]
theorem sc_is_integer : FnScope N_is_integer ["value"] (defScope s_is_integer) := ⟨rfl, rfl, rfl, by decide +kernel, rfl, by decide +kernel, by decide +kernel⟩
abbrev s_is_within : Stmt := top 5
abbrev N_is_within : List Str := ["value", "least", "greatest"]
theorem sc_is_within : FnScope N_is_within ["value", "least", "greatest"] (defScope s_is_within) := ⟨rfl, rfl, rfl, by decide +kernel, rfl, by decide +kernel, by decide +kernel⟩
abbrev s_is_job : Stmt := top 12
abbrev N_is_job : List Str := ["value"]
theorem sc_is_job : FnScope N_is_job ["value"] (defScope s_is_job) := ⟨rfl, rfl, rfl, by decide +kernel, rfl, by decide +kernel, by decide +kernel⟩
abbrev s_net : Stmt := top 13
abbrev N_net : List Str := ["job"]
theorem sc_net : FnScope N_net ["job"] (defScope s_net) := ⟨rfl, rfl, rfl, by decide +kernel, rfl, by decide +kernel, by decide +kernel⟩
abbrev s_lowest : Stmt := top 14
abbrev N_lowest : List Str := ["job"]
theorem sc_lowest : FnScope N_lowest ["job"] (defScope s_lowest) := ⟨rfl, rfl, rfl, by decide +kernel, rfl, by decide +kernel, by decide +kernel⟩
abbrev s_checked_sizes : Stmt := top 15
abbrev N_checked_sizes : List Str := ["job", "sizes"]
theorem sc_checked_sizes : FnScope N_checked_sizes ["job"] (defScope s_checked_sizes) := ⟨rfl, rfl, rfl, by decide +kernel, rfl, by decide +kernel, by decide +kernel⟩
abbrev s_steps_of_leaf : Stmt := top 16
abbrev N_steps_of_leaf : List Str := ["value"]
theorem sc_steps_of_leaf : FnScope N_steps_of_leaf ["value"] (defScope s_steps_of_leaf) := ⟨rfl, rfl, rfl, by decide +kernel, rfl, by decide +kernel, by decide +kernel⟩
abbrev s_sizes_of : Stmt := top 17
abbrev N_sizes_of : List Str := ["value", "leaf_steps"]
theorem sc_sizes_of : FnScope N_sizes_of ["value", "leaf_steps"] (defScope s_sizes_of) := ⟨rfl, rfl, rfl, by decide +kernel, rfl, by decide +kernel, by decide +kernel⟩
abbrev s__sizes : Stmt := top 18
abbrev N__sizes : List Str := ["value", "leaf_steps", "room", "levels", "steps"]
theorem sc__sizes : FnScope N__sizes ["value", "leaf_steps", "room", "levels"] (defScope s__sizes) := ⟨rfl, rfl, rfl, by decide +kernel, rfl, by decide +kernel, by decide +kernel⟩
abbrev s__sizes_of_parts : Stmt := top 19
abbrev N__sizes_of_parts : List Str := ["parts", "leaf_steps", "room", "levels", "nodes", "steps", "part", "sizes"]
theorem sc__sizes_of_parts : FnScope N__sizes_of_parts ["parts", "leaf_steps", "room", "levels"] (defScope s__sizes_of_parts) := ⟨rfl, rfl, rfl, by decide +kernel, rfl, by decide +kernel, by decide +kernel⟩
abbrev s__sizes_of_rounds : Stmt := top 20
abbrev N__sizes_of_rounds : List Str := ["n", "inner", "leaf_steps", "room", "levels", "sizes"]
theorem sc__sizes_of_rounds : FnScope N__sizes_of_rounds ["n", "inner", "leaf_steps", "room", "levels"] (defScope s__sizes_of_rounds) := ⟨rfl, rfl, rfl, by decide +kernel, rfl, by decide +kernel, by decide +kernel⟩
abbrev s__within_count : Stmt := top 21
abbrev N__within_count : List Str := ["nodes", "steps"]
theorem sc__within_count : FnScope N__within_count ["nodes", "steps"] (defScope s__within_count) := ⟨rfl, rfl, rfl, by decide +kernel, rfl, by decide +kernel, by decide +kernel⟩
abbrev s__net_and_lowest : Stmt := top 22
abbrev N__net_and_lowest : List Str := ["job", "pairs", "n", "inner_net", "inner_low", "part", "pair"]
theorem sc__net_and_lowest : FnScope N__net_and_lowest ["job"] (defScope s__net_and_lowest) := ⟨rfl, rfl, rfl, by decide +kernel, rfl, by decide +kernel, by decide +kernel⟩
abbrev s__net_and_lowest_of_seq : Stmt := top 23
abbrev N__net_and_lowest_of_seq : List Str := ["parts", "before", "low", "part", "part_net", "part_low"]
theorem sc__net_and_lowest_of_seq : FnScope N__net_and_lowest_of_seq ["parts"] (defScope s__net_and_lowest_of_seq) := ⟨rfl, rfl, rfl, by decide +kernel, rfl, by decide +kernel, by decide +kernel⟩
abbrev s__law_pot : Stmt := top 25
abbrev N__law_pot : List Str := ["_law_script", "_law_k", "_law_cell", "_law_mixed"]
theorem sc__law_pot : FnScope N__law_pot ["_law_script", "_law_k"] (defScope s__law_pot) := ⟨rfl, rfl, rfl, by decide +kernel, rfl, by decide +kernel, by decide +kernel⟩
abbrev s__law_take : Stmt := top 26
abbrev N__law_take : List Str := ["_law_pot_here", "_law_many", "_law_found", "_law_one", "_law_other"]
theorem sc__law_take : FnScope N__law_take ["_law_pot_here", "_law_many"] (defScope s__law_take) := ⟨rfl, rfl, rfl, by decide +kernel, rfl, by decide +kernel, by decide +kernel⟩
abbrev s__law_step : Stmt := top 27
abbrev N__law_step : List Str := ["_law_pot_here", "_law_way", "_law_great"]
theorem sc__law_step : FnScope N__law_step ["_law_pot_here"] (defScope s__law_step) := ⟨rfl, rfl, rfl, by decide +kernel, rfl, by decide +kernel, by decide +kernel⟩
abbrev s__law_job : Stmt := top 28
abbrev N__law_job : List Str := ["_law_pot_here", "_law_deep", "_law_counts", "_law_way", "_law_many", "_law_turn"]
theorem sc__law_job : FnScope N__law_job ["_law_pot_here", "_law_deep", "_law_counts"] (defScope s__law_job) := ⟨rfl, rfl, rfl, by decide +kernel, rfl, by decide +kernel, by decide +kernel⟩
abbrev s__law_steps : Stmt := top 29
abbrev N__law_steps : List Str := ["_law_job_here", "_law_part"]
theorem sc__law_steps : FnScope N__law_steps ["_law_job_here"] (defScope s__law_steps) := ⟨rfl, rfl, rfl, by decide +kernel, rfl, by decide +kernel, by decide +kernel⟩
abbrev s__law_small : Stmt := top 30
abbrev N__law_small : List Str := ["_law_pot_here", "_law_deep", "_law_size", "_law_turn", "_law_job_here"]
theorem sc__law_small : FnScope N__law_small ["_law_pot_here", "_law_deep", "_law_size"] (defScope s__law_small) := ⟨rfl, rfl, rfl, by decide +kernel, rfl, by decide +kernel, by decide +kernel⟩
abbrev s__law_addresses : Stmt := top 31
abbrev N__law_addresses : List Str := ["_law_job_here", "_law_inner", "_law_found", "_law_index", "_law_part", "_law_rest"]
theorem sc__law_addresses : FnScope N__law_addresses ["_law_job_here"] (defScope s__law_addresses) := ⟨rfl, rfl, rfl, by decide +kernel, rfl, by decide +kernel, by decide +kernel⟩
abbrev s__law_at : Stmt := top 32
abbrev N__law_at : List Str := ["_law_job_here", "_law_address", "_law_index"]
theorem sc__law_at : FnScope N__law_at ["_law_job_here", "_law_address"] (defScope s__law_at) := ⟨rfl, rfl, rfl, by decide +kernel, rfl, by decide +kernel, by decide +kernel⟩
abbrev s__law_ahead : Stmt := top 33
abbrev N__law_ahead : List Str := ["_law_job_here", "_law_one", "_law_other", "_law_index", "_law_place"]
theorem sc__law_ahead : FnScope N__law_ahead ["_law_job_here", "_law_one", "_law_other"] (defScope s__law_ahead) := ⟨rfl, rfl, rfl, by decide +kernel, rfl, by decide +kernel, by decide +kernel⟩
abbrev s__law_states : Stmt := top 34
abbrev N__law_states : List Str := ["_law_job_here", "_law_every", "_law_found", "_law_one", "_law_ahead_here", "_law_more", "_law_other", "_law_state"]
theorem sc__law_states : FnScope N__law_states ["_law_job_here"] (defScope s__law_states) := ⟨rfl, rfl, rfl, by decide +kernel, rfl, by decide +kernel, by decide +kernel⟩
abbrev s__law_extent : Stmt := top 35
abbrev N__law_extent : List Str := ["_law_job_here", "_law_total", "_law_low", "_law_part", "_law_more", "_law_lower"]
theorem sc__law_extent : FnScope N__law_extent ["_law_job_here"] (defScope s__law_extent) := ⟨rfl, rfl, rfl, by decide +kernel, rfl, by decide +kernel, by decide +kernel⟩
abbrev s_law : Stmt := top 36
abbrev N_law : List Str := ["_law_script", "_law_k", "_law_pot_here", "_law_job_here", "_law_usages", "_law_great", "_law_down", "_law_low", "_law_state", "_law_one"]
theorem sc_law : FnScope N_law ["_law_script"] (defScope s_law) := ⟨rfl, rfl, rfl, by decide +kernel, rfl, by decide +kernel, by decide +kernel⟩
structure Txt (K : PySem.W.Frag) (mg : Str → Option Value) where
  f_is_integer : Addr
  d_is_integer : FuncData
  F_is_integer : Fun K "is_integer" "is_integer" s_is_integer f_is_integer d_is_integer
  b_is_integer : Binds K d_is_integer ["value"] []
  m_is_integer : mg "is_integer" = some (.ref f_is_integer)
  f_is_within : Addr
  d_is_within : FuncData
  F_is_within : Fun K "is_within" "is_within" s_is_within f_is_within d_is_within
  b_is_within : Binds K d_is_within ["value", "least", "greatest"] []
  m_is_within : mg "is_within" = some (.ref f_is_within)
  f_is_job : Addr
  d_is_job : FuncData
  F_is_job : Fun K "is_job" "is_job" s_is_job f_is_job d_is_job
  b_is_job : Binds K d_is_job ["value"] []
  m_is_job : mg "is_job" = some (.ref f_is_job)
  f_net : Addr
  d_net : FuncData
  F_net : Fun K "net" "net" s_net f_net d_net
  b_net : Binds K d_net ["job"] []
  m_net : mg "net" = some (.ref f_net)
  f_lowest : Addr
  d_lowest : FuncData
  F_lowest : Fun K "lowest" "lowest" s_lowest f_lowest d_lowest
  b_lowest : Binds K d_lowest ["job"] []
  m_lowest : mg "lowest" = some (.ref f_lowest)
  f_checked_sizes : Addr
  d_checked_sizes : FuncData
  F_checked_sizes : Fun K "checked_sizes" "checked_sizes" s_checked_sizes f_checked_sizes d_checked_sizes
  b_checked_sizes : Binds K d_checked_sizes ["job"] []
  m_checked_sizes : mg "checked_sizes" = some (.ref f_checked_sizes)
  f_steps_of_leaf : Addr
  d_steps_of_leaf : FuncData
  F_steps_of_leaf : Fun K "steps_of_leaf" "steps_of_leaf" s_steps_of_leaf f_steps_of_leaf d_steps_of_leaf
  b_steps_of_leaf : Binds K d_steps_of_leaf ["value"] []
  m_steps_of_leaf : mg "steps_of_leaf" = some (.ref f_steps_of_leaf)
  f_sizes_of : Addr
  d_sizes_of : FuncData
  F_sizes_of : Fun K "sizes_of" "sizes_of" s_sizes_of f_sizes_of d_sizes_of
  b_sizes_of : Binds K d_sizes_of ["value", "leaf_steps"] []
  m_sizes_of : mg "sizes_of" = some (.ref f_sizes_of)
  f__sizes : Addr
  d__sizes : FuncData
  F__sizes : Fun K "_sizes" "_sizes" s__sizes f__sizes d__sizes
  b__sizes : Binds K d__sizes ["value", "leaf_steps", "room", "levels"] []
  m__sizes : mg "_sizes" = some (.ref f__sizes)
  f__sizes_of_parts : Addr
  d__sizes_of_parts : FuncData
  F__sizes_of_parts : Fun K "_sizes_of_parts" "_sizes_of_parts" s__sizes_of_parts f__sizes_of_parts d__sizes_of_parts
  b__sizes_of_parts : Binds K d__sizes_of_parts ["parts", "leaf_steps", "room", "levels"] []
  m__sizes_of_parts : mg "_sizes_of_parts" = some (.ref f__sizes_of_parts)
  f__sizes_of_rounds : Addr
  d__sizes_of_rounds : FuncData
  F__sizes_of_rounds : Fun K "_sizes_of_rounds" "_sizes_of_rounds" s__sizes_of_rounds f__sizes_of_rounds d__sizes_of_rounds
  b__sizes_of_rounds : Binds K d__sizes_of_rounds ["n", "inner", "leaf_steps", "room", "levels"] []
  m__sizes_of_rounds : mg "_sizes_of_rounds" = some (.ref f__sizes_of_rounds)
  f__within_count : Addr
  d__within_count : FuncData
  F__within_count : Fun K "_within_count" "_within_count" s__within_count f__within_count d__within_count
  b__within_count : Binds K d__within_count ["nodes", "steps"] []
  m__within_count : mg "_within_count" = some (.ref f__within_count)
  f__net_and_lowest : Addr
  d__net_and_lowest : FuncData
  F__net_and_lowest : Fun K "_net_and_lowest" "_net_and_lowest" s__net_and_lowest f__net_and_lowest d__net_and_lowest
  b__net_and_lowest : Binds K d__net_and_lowest ["job"] []
  m__net_and_lowest : mg "_net_and_lowest" = some (.ref f__net_and_lowest)
  f__net_and_lowest_of_seq : Addr
  d__net_and_lowest_of_seq : FuncData
  F__net_and_lowest_of_seq : Fun K "_net_and_lowest_of_seq" "_net_and_lowest_of_seq" s__net_and_lowest_of_seq f__net_and_lowest_of_seq d__net_and_lowest_of_seq
  b__net_and_lowest_of_seq : Binds K d__net_and_lowest_of_seq ["parts"] []
  m__net_and_lowest_of_seq : mg "_net_and_lowest_of_seq" = some (.ref f__net_and_lowest_of_seq)
  f__law_pot : Addr
  d__law_pot : FuncData
  F__law_pot : Fun K "_law_pot" "_law_pot" s__law_pot f__law_pot d__law_pot
  b__law_pot : Binds K d__law_pot ["_law_script", "_law_k"] []
  m__law_pot : mg "_law_pot" = some (.ref f__law_pot)
  f__law_take : Addr
  d__law_take : FuncData
  F__law_take : Fun K "_law_take" "_law_take" s__law_take f__law_take d__law_take
  b__law_take : Binds K d__law_take ["_law_pot_here", "_law_many"] []
  m__law_take : mg "_law_take" = some (.ref f__law_take)
  f__law_step : Addr
  d__law_step : FuncData
  F__law_step : Fun K "_law_step" "_law_step" s__law_step f__law_step d__law_step
  b__law_step : Binds K d__law_step ["_law_pot_here"] []
  m__law_step : mg "_law_step" = some (.ref f__law_step)
  f__law_job : Addr
  d__law_job : FuncData
  F__law_job : Fun K "_law_job" "_law_job" s__law_job f__law_job d__law_job
  b__law_job : Binds K d__law_job ["_law_pot_here", "_law_deep", "_law_counts"] []
  m__law_job : mg "_law_job" = some (.ref f__law_job)
  f__law_steps : Addr
  d__law_steps : FuncData
  F__law_steps : Fun K "_law_steps" "_law_steps" s__law_steps f__law_steps d__law_steps
  b__law_steps : Binds K d__law_steps ["_law_job_here"] []
  m__law_steps : mg "_law_steps" = some (.ref f__law_steps)
  f__law_small : Addr
  d__law_small : FuncData
  F__law_small : Fun K "_law_small" "_law_small" s__law_small f__law_small d__law_small
  b__law_small : Binds K d__law_small ["_law_pot_here", "_law_deep", "_law_size"] []
  m__law_small : mg "_law_small" = some (.ref f__law_small)
  f__law_addresses : Addr
  d__law_addresses : FuncData
  F__law_addresses : Fun K "_law_addresses" "_law_addresses" s__law_addresses f__law_addresses d__law_addresses
  b__law_addresses : Binds K d__law_addresses ["_law_job_here"] []
  m__law_addresses : mg "_law_addresses" = some (.ref f__law_addresses)
  f__law_at : Addr
  d__law_at : FuncData
  F__law_at : Fun K "_law_at" "_law_at" s__law_at f__law_at d__law_at
  b__law_at : Binds K d__law_at ["_law_job_here", "_law_address"] []
  m__law_at : mg "_law_at" = some (.ref f__law_at)
  f__law_ahead : Addr
  d__law_ahead : FuncData
  F__law_ahead : Fun K "_law_ahead" "_law_ahead" s__law_ahead f__law_ahead d__law_ahead
  b__law_ahead : Binds K d__law_ahead ["_law_job_here", "_law_one", "_law_other"] []
  m__law_ahead : mg "_law_ahead" = some (.ref f__law_ahead)
  f__law_states : Addr
  d__law_states : FuncData
  F__law_states : Fun K "_law_states" "_law_states" s__law_states f__law_states d__law_states
  b__law_states : Binds K d__law_states ["_law_job_here"] []
  m__law_states : mg "_law_states" = some (.ref f__law_states)
  f__law_extent : Addr
  d__law_extent : FuncData
  F__law_extent : Fun K "_law_extent" "_law_extent" s__law_extent f__law_extent d__law_extent
  b__law_extent : Binds K d__law_extent ["_law_job_here"] []
  m__law_extent : mg "_law_extent" = some (.ref f__law_extent)
  t_MAX_STEP : Tok
  g_MAX_STEP : mg "MAX_STEP" = some (.int 1000000000000000000000000000000 t_MAX_STEP)
  t_MAX_COUNT : Tok
  g_MAX_COUNT : mg "MAX_COUNT" = some (.int 1000000000000000000000000000000 t_MAX_COUNT)
  t_MAX_PARTS : Tok
  g_MAX_PARTS : mg "MAX_PARTS" = some (.int 400 t_MAX_PARTS)
  t_MAX_NODES : Tok
  g_MAX_NODES : mg "MAX_NODES" = some (.int 400 t_MAX_NODES)
  t_MAX_DEPTH : Tok
  g_MAX_DEPTH : mg "MAX_DEPTH" = some (.int 13 t_MAX_DEPTH)
  n_abs : mg "abs" = none
  n_bool : mg "bool" = none
  n_enumerate : mg "enumerate" = none
  n_int : mg "int" = none
  n_isinstance : mg "isinstance" = none
  n_len : mg "len" = none
  n_list : mg "list" = none
  n_max : mg "max" = none
  n_min : mg "min" = none
  n_range : mg "range" = none
  n_repr : mg "repr" = none
  n_sum : mg "sum" = none
  n_tuple : mg "tuple" = none
  n_zip : mg "zip" = none
/-! block SizesN (of the later code): is_integer, is_within, steps_of_leaf, sizes_of, _within_count, _sizes and its two helpers, is_job, checked_sizes -/
def spIsInt (K : PySem.W.Frag) : Sp := fun vs H Q _ => ∃ (v : V) (d : PyData), vs = [v] ∧ Dp K H v d ∧ Q (.bl (isInt d && !isBoo d)) H
/-- a pair of ints, or None -/
def RepSz (H : Hp) (r : V) : Option (Int × Int) → Prop
  | none => r = .non
  | some (a, b) => ∃ t, r = .ref t ∧ H t = some (.tup [.int a, .int b])
def spWithin : Sp := fun vs H Q _ => ∃ a b : Int, vs = [.int a, .int b] ∧ ∀ (H' : Hp) (r : V), Same H H' → RepSz H' r (within a b) → Q r H'
def inW : PyData → Int → Int → Bool
  | .int i, a, b => decide (a ≤ i) && decide (i ≤ b)
  | _, _, _ => false
theorem inW_int {i a b : Int} : inW (.int i) a b = (decide (a ≤ i) && decide (i ≤ b)) := rfl
def spWi (K : PySem.W.Frag) : Sp := fun vs H Q _ => ∃ (v : V) (d : PyData) (a b : Int), vs = [v, .int a, .int b] ∧ Dp K H v d ∧ Q (.bl (inW d a b)) H
def spLeaf (K : PySem.W.Frag) : Sp := fun vs H Q _ => ∃ (v : V) (d : PyData), vs = [v] ∧ Dp K H v d ∧ Q (if inW d (-M30) M30 = true then .int 1 else .non) H
def spSz (K : PySem.W.Frag) (L : Addr) (n : Nat) : Sp := fun vs H Q _ => ∃ (v : V) (j : J) (room lv : Int), vs = [v, .ref L, .int room, .int lv] ∧ Dp K H v j.toD ∧ 0 ≤ lv ∧ lv < (n : Int) ∧
  ∀ (H' : Hp) (r : V), Same H H' → RepSz H' r (szJ j room lv) → Q r H'
def spSzs (K : PySem.W.Frag) (L : Addr) (n : Nat) : Sp := fun vs H Q _ => ∃ (v : V) (js : List J) (room lv : Int), vs = [v, .ref L, .int room, .int lv] ∧ Dp K H v (.tuple (J.toDs js)) ∧ 1 ≤ lv ∧ lv ≤ (n : Int) ∧
  ∀ (H' : Hp) (r : V), Same H H' → RepSz H' r (if (js.length : Int) > 400 then none else szJs js 1 0 room lv) → Q r H'
def spSzr (K : PySem.W.Frag) (L : Addr) (n : Nat) : Sp := fun vs H Q _ => ∃ (v : V) (c : Int) (j : J) (room lv : Int), vs = [.int c, v, .ref L, .int room, .int lv] ∧ Dp K H v j.toD ∧ 1 ≤ lv ∧ lv ≤ (n : Int) ∧
  ∀ (H' : Hp) (r : V), Same H H' → RepSz H' r (if ¬ (0 ≤ c ∧ c ≤ M30) then none else match szJ j (room - 1) (lv - 1) with | none => none | some (a, b) => within (a + 1) (b * c)) → Q r H'
section
variable {P : Program} {w : World} {K : PySem.W.Frag} {mg : Str → Option Value} {base : Heap}
theorem ok_isint (T : Txt K mg) : FnOk P w K mg base CX0 1 T.f_is_integer T.d_is_integer ["value"] (spIsInt K) := by
  refine T.F_is_integer.ok sc_is_integer (fun vs H Q E h => ?_) (fun cdv A outer s H vs Q E hr h => ?_)
  · obtain ⟨v, d, rfl, _⟩ := h
    rfl
  obtain ⟨v, d, rfl, hd, q⟩ := h
  refine ⟨_, (pss_one (ps_ret (pe_and (pe_callB (r := rIsD K) call_isD (by rfl) T.n_isinstance (by decide +kernel) (pa_cons (pv 0) (pa_cons (pe_bltn (v := .ty "int") (by rfl) T.n_int (by decide +kernel) rfl) pa_nil))) (pe_one (pe_not (pe_callB (r := rIsD K) call_isD (by rfl) T.n_isinstance (by decide +kernel) (pa_cons (pv 0) (pa_cons (pe_bltn (v := .ty "bool") (by rfl) T.n_bool (by decide +kernel) rfl) pa_nil)))))))), ?_⟩
  refine ⟨_, rfl, v, _, d, _, rfl, hd, kit_int d, _, rfl, ?_⟩
  cases e : isInt d with
  | false =>
    refine iteF ?_
    rw [e] at q
    exact q
  | true =>
    refine iteT ⟨_, rfl, v, _, d, _, rfl, hd, kit_bool d, _, rfl, ?_⟩
    rw [e] at q
    exact q
theorem ok_wi (T : Txt K mg) : FnOk P w K mg base CX0 2 T.f_is_within T.d_is_within ["value", "least", "greatest"] (spWi K) := by
  have g_is_integer : FnOk P w K mg base CX0 1 T.f_is_integer T.d_is_integer ["value"] (spIsInt K) := ok_isint T
  refine T.F_is_within.ok sc_is_within (fun vs H Q E h => ?_) (fun cdv A outer s H vs Q E hr h => ?_)
  · obtain ⟨v, d, a, b, rfl, _⟩ := h
    rfl
  obtain ⟨v, d, a, b, rfl, hd, q⟩ := h
  refine ⟨_, (pss_one (ps_ret (pe_and (pe_call g_is_integer (hr.mono (by omega)) rfl T.m_is_integer T.F_is_integer.kp T.b_is_integer .nil pass0 (pa_cons (pv 0) pa_nil)) (pe_one (pe_chain op_le op_le (pv 1) (pv 0) (pv 2)))))), ?_⟩
  refine ⟨_, rfl, v, d, rfl, hd, _, rfl, ?_⟩
  by_cases e : ∃ i, d = .int i
  · obtain ⟨i, rfl⟩ := e
    obtain rfl := dp_int_inv hd
    refine iteT ?_
    refine ⟨_, rfl, _, rfl, _, _, rfl, rfl, _, rfl, ?_⟩
    rw [inW_int] at q
    cases e1 : decide (a ≤ i) with
    | true =>
      refine iteT ?_
      rw [e1, Bool.true_and] at q
      exact ⟨_, rfl, _, _, rfl, rfl, q⟩
    | false =>
      refine iteF ?_
      rw [e1, Bool.false_and] at q
      exact q
  · have e1 : (isInt d && !isBoo d) = false ∧ inW d a b = false := by
      cases d <;> first | exact absurd ⟨_, rfl⟩ e | exact ⟨rfl, rfl⟩
    rw [e1.1]
    rw [e1.2] at q
    refine iteF ?_
    exact q
theorem ok_leaf (T : Txt K mg) : FnOk P w K mg base CX0 3 T.f_steps_of_leaf T.d_steps_of_leaf ["value"] (spLeaf K) := by
  have g_is_within := ok_wi (P := P) (w := w) (base := base) T
  refine T.F_steps_of_leaf.ok sc_steps_of_leaf (fun vs H Q E h => ?_) (fun cdv A outer s H vs Q E hr h => ?_)
  · obtain ⟨v, d, rfl, _⟩ := h
    rfl
  obtain ⟨v, d, rfl, hd, q⟩ := h
  refine ⟨_, (pss_one (ps_ret (pe_ifExp (pt_val (pe_call g_is_within (hr.mono (by omega)) rfl T.m_is_within T.F_is_within.kp T.b_is_within .nil pass0 (pa_cons (pv 0) (pa_cons (pe_un un_neg (pe_glob (v := .int 1000000000000000000000000000000) rfl T.g_MAX_STEP ⟨_, rfl⟩)) (pa_cons (pe_glob (v := .int 1000000000000000000000000000000) rfl T.g_MAX_STEP ⟨_, rfl⟩) pa_nil))))) pe_int pe_non))), ?_⟩
  refine ⟨_, rfl, _, rfl, v, d, -M30, M30, rfl, hd, _, rfl, ?_⟩
  cases e : inW d (-M30) M30 with
  | true =>
    rw [e] at q
    refine iteT ?_
    exact q
  | false =>
    rw [e] at q
    refine iteF ?_
    exact q
theorem ok_within (T : Txt K mg) : FnOk P w K mg base CX0 1 T.f__within_count T.d__within_count ["nodes", "steps"] spWithin := by
  refine T.F__within_count.ok sc__within_count (fun vs H Q E h => ?_) (fun cdv A outer s H vs Q E hr h => ?_)
  · obtain ⟨a, b, rfl, _⟩ := h
    rfl
  obtain ⟨a, b, rfl, q⟩ := h
  refine ⟨_, (pss_one (ps_ret (pe_ifExp (pt_cmpR op_le (pv 1) (pe_glob (v := .int 1000000000000000000000000000000) rfl T.g_MAX_COUNT ⟨_, rfl⟩) (nomark _)) (pe_tup (pa_cons (pv 0) (pa_cons (pv 1) pa_nil))) pe_non))), ?_⟩
  refine ⟨_, rfl, _, _, rfl, rfl, _, rfl, ?_⟩
  unfold within at q
  refine ite2 (fun g => ?_) (fun g => ?_)
  · rw [if_pos (of_decide_eq_true g)] at q
    refine ⟨_, rfl, _, rfl, (by show 2 ≤ sizeLine; decide), fun t ht => ?_⟩
    exact q _ _ (same_new ht) ⟨t, rfl, upd_same⟩
  · rw [if_neg (fun z => g (decide_eq_true z))] at q
    exact q _ _ (Same.refl _) rfl
theorem ok_szs (T : Txt K mg) {n : Nat} (g__sizes : FnOk P w K mg base CX0 (2 * n + 2) T.f__sizes T.d__sizes ["value", "leaf_steps", "room", "levels"] (spSz K T.f_steps_of_leaf n)) :
    FnOk P w K mg base CX0 (2 * n + 3) T.f__sizes_of_parts T.d__sizes_of_parts ["parts", "leaf_steps", "room", "levels"] (spSzs K T.f_steps_of_leaf n) := by
  have g__within_count : FnOk P w K mg base CX0 1 T.f__within_count T.d__within_count ["nodes", "steps"] spWithin := ok_within T
  refine T.F__sizes_of_parts.ok sc__sizes_of_parts (fun vs H Q E h => ?_) (fun cdv A outer s H vs Q E hr h => ?_)
  · obtain ⟨v, js, room, lv, rfl, _⟩ := h
    rfl
  obtain ⟨v, js, room, lv, rfl, hd, hn1, hn, q⟩ := h
  refine ⟨_, (pss_cons (ps_if (PW.pt (pw_or (pt_not (pt_val (pe_callB (r := rIsD K) call_isD (by rfl) T.n_isinstance (by decide +kernel) (pa_cons (pv 0) (pa_cons (pe_bltn (v := .ty "tuple") (by rfl) T.n_tuple (by decide +kernel) rfl) pa_nil))))) (pw_or1 (pt_cmpR op_gt (pe_callB (r := rLenS K) call_lenS (by rfl) T.n_len (by decide +kernel) (pa_cons (pv 0) pa_nil)) (pe_glob (v := .int 400) rfl T.g_MAX_PARTS ⟨_, rfl⟩) (nomark _))))) (pss_one (ps_ret pe_non)) pss_nil)
      (pss_cons (ps_set (i := 4) sc__sizes_of_parts.nd rfl (Or.inl rfl) pe_int)
      (pss_cons (ps_set (i := 5) sc__sizes_of_parts.nd rfl (Or.inl rfl) pe_int)
      (pss_cons (ps_for PassesOwn.never rfl (pi_tup (pv 0)) (pg_name (i := 6) sc__sizes_of_parts.nd rfl (Or.inl rfl))
        (pss_cons (ps_set (i := 7) sc__sizes_of_parts.nd rfl (Or.inl rfl) (pe_call g__sizes (hr.mono (by omega)) rfl T.m__sizes T.F__sizes.kp T.b__sizes .nil pass0 (pa_cons (pv 6) (pa_cons (pv 1) (pa_cons (pe_op op_sub (pv 2) (pv 4)) (pa_cons (pe_op op_sub (pv 3) pe_int) pa_nil))))))
        (pss_cons (ps_if (pt_cmpR op_isN (pv 7) pe_non (nomark _)) (pss_one (ps_ret pe_non)) pss_nil)
        (pss_cons (ps_aug (i := 4) sc__sizes_of_parts.nd rfl (Or.inl rfl) (pe_ix (r := rIxT K) ix_tup (pv 7) pe_int (fun _ _ => rfl)) ip_add)
        (pss_one (ps_aug (i := 5) sc__sizes_of_parts.nd rfl (Or.inl rfl) (pe_ix (r := rIxT K) ix_tup (pv 7) pe_int (fun _ _ => rfl)) ip_add))))))
      (pss_one (ps_ret (pe_call g__within_count (hr.mono (by omega)) rfl T.m__within_count T.F__within_count.kp T.b__within_count .nil pass0 (pa_cons (pv 4) (pa_cons (pv 5) pa_nil))))))))), ?_⟩
  obtain ⟨a, xs, rfl, hxs, hall⟩ := dp_tup_inv hd
  have hlen : xs.length = js.length := by rw [dpAll_length hall, J.toDs_eq, List.length_map]
  refine ⟨_, rfl, _, _, _, _, rfl, hd, kit_tuple _, _, rfl, ?_⟩
  refine iteF ?_
  refine ⟨_, rfl, a, xs, rfl, .inr hxs, _, _, rfl, rfl, _, rfl, ?_⟩
  refine ite2 (fun g => ?_) (fun g => ?_)
  · have g' : (400 : Int) < (xs.length : Int) := of_decide_eq_true g
    rw [if_pos (by omega)] at q
    exact q _ _ (Same.refl _) rfl
  have g' : ¬ (400 : Int) < (xs.length : Int) := fun z => g (decide_eq_true z)
  rw [if_neg (by omega)] at q
  refine ⟨_, rfl, a, rfl, ⟨xs, hxs⟩, ?_⟩
  -- the loop: what is left of the parts gives what is left of the sizes
  refine for_tup (K := K) (a := a) (xs := xs) (fun i σ H' => ∃ (nodes steps : Int) (y5 y6 : Option V), σ = [some (.ref a), some (.ref T.f_steps_of_leaf), some (.int room), some (.int lv), some (.int nodes), some (.int steps), y5, y6] ∧ Same H H' ∧
    szJs js 1 0 room lv = szJs (js.drop i) nodes steps room lv) ⟨1, 0, none, none, rfl, Same.refl _, rfl⟩ (fun i σ H' _ ⟨_, _, _, _, _, s1, _⟩ => same_sqT s1 hxs) ?_ ?_
  · rintro i x σ H' hi ⟨nodes, steps, y5, y6, rfl, s1, es⟩
    obtain ⟨d, ed, hd'⟩ := dpAll_get hall hi
    have hij : i < js.length := by
      rw [← hlen]
      exact (List.getElem?_eq_some_iff.mp hi).1
    have ej : d = (js[i]).toD := by
      rw [J.toDs_eq, List.getElem?_map, List.getElem?_eq_getElem hij] at ed
      exact (Option.some.inj ed).symm
    subst ej
    have hdrop : js.drop i = js[i] :: js.drop (i + 1) := List.drop_eq_getElem_cons hij
    rw [hdrop] at es
    refine ⟨_, rfl, _, rfl, _, rfl, _, rfl, _, _, rfl, rfl, _, rfl, _, _, rfl, rfl, x, js[i], room - nodes, lv - 1, rfl, dp_same s1 hd', by omega, by omega, fun H2 r2 s2 h2 => ?_⟩
    simp only [szJs] at es
    cases ez : szJ js[i] (room - nodes) (lv - 1) with
    | none =>
      rw [ez] at h2 es
      obtain rfl : r2 = .non := h2
      refine ⟨_, rfl, rfl, _, rfl, ?_⟩
      refine iteT ?_
      rw [es] at q
      exact q _ _ (s1.trans s2) rfl
    | some ab =>
      obtain ⟨a1, b1⟩ := ab
      rw [ez] at h2 es
      obtain ⟨t, rfl, ht⟩ := h2
      refine ⟨_, rfl, rfl, _, rfl, ?_⟩
      refine iteF ?_
      refine ⟨_, rfl, _, rfl, _, _, _, _, rfl, rfl, SqT.of ht, rfl, _, _, rfl, rfl, ?_⟩
      refine ⟨_, rfl, _, rfl, _, _, _, _, rfl, rfl, SqT.of ht, rfl, _, _, rfl, rfl, ?_⟩
      exact ⟨_, _, _, _, rfl, s1.trans s2, es⟩
  · rintro σ H' ⟨nodes, steps, y5, y6, rfl, s1, es⟩
    rw [hlen, List.drop_length] at es
    simp only [szJs] at es
    refine ⟨_, rfl, _, rfl, nodes, steps, rfl, fun H2 r2 s2 h2 => ?_⟩
    rw [es] at q
    exact q _ _ (s1.trans s2) h2
theorem ok_szr (T : Txt K mg) {n : Nat} (g__sizes : FnOk P w K mg base CX0 (2 * n + 2) T.f__sizes T.d__sizes ["value", "leaf_steps", "room", "levels"] (spSz K T.f_steps_of_leaf n)) :
    FnOk P w K mg base CX0 (2 * n + 3) T.f__sizes_of_rounds T.d__sizes_of_rounds ["n", "inner", "leaf_steps", "room", "levels"] (spSzr K T.f_steps_of_leaf n) := by
  have g__within_count : FnOk P w K mg base CX0 1 T.f__within_count T.d__within_count ["nodes", "steps"] spWithin := ok_within T
  have g_is_within := ok_wi (P := P) (w := w) (base := base) T
  refine T.F__sizes_of_rounds.ok sc__sizes_of_rounds (fun vs H Q E h => ?_) (fun cdv A outer s H vs Q E hr h => ?_)
  · obtain ⟨v, c, j, room, lv, rfl, _⟩ := h
    rfl
  obtain ⟨v, c, j, room, lv, rfl, hd, hn1, hn, q⟩ := h
  refine ⟨_, (pss_cons (ps_if (pt_not (pt_val (pe_call g_is_within (hr.mono (by omega)) rfl T.m_is_within T.F_is_within.kp T.b_is_within .nil pass0 (pa_cons (pv 0) (pa_cons pe_int (pa_cons (pe_glob (v := .int 1000000000000000000000000000000) rfl T.g_MAX_COUNT ⟨_, rfl⟩) pa_nil)))))) (pss_one (ps_ret pe_non)) pss_nil)
      (pss_cons (ps_set (i := 5) sc__sizes_of_rounds.nd rfl (Or.inl rfl) (pe_call g__sizes (hr.mono (by omega)) rfl T.m__sizes T.F__sizes.kp T.b__sizes .nil pass0 (pa_cons (pv 1) (pa_cons (pv 2) (pa_cons (pe_op op_sub (pv 3) pe_int) (pa_cons (pe_op op_sub (pv 4) pe_int) pa_nil))))))
      (pss_cons (ps_if (pt_cmpR op_isN (pv 5) pe_non (nomark _)) (pss_one (ps_ret pe_non)) pss_nil)
      (pss_one (ps_ret (pe_call g__within_count (hr.mono (by omega)) rfl T.m__within_count T.F__within_count.kp T.b__within_count .nil pass0 (pa_cons (pe_op op_add (pe_ix (r := rIxT K) ix_tup (pv 5) pe_int (fun _ _ => rfl)) pe_int) (pa_cons (pe_op op_mulW (pe_ix (r := rIxT K) ix_tup (pv 5) pe_int (fun _ _ => rfl)) (pv 0)) pa_nil)))))))), ?_⟩
  refine ⟨_, rfl, .int c, .int c, 0, M30, rfl, .int c, _, rfl, ?_⟩
  show if (!(decide (0 ≤ c) && decide (c ≤ M30))) = true then _ else _
  refine ite2 (fun g => ?_) (fun g => ?_)
  · rw [if_pos (fun z => by rw [decide_eq_true z.1, decide_eq_true z.2] at g; cases g)] at q
    exact q _ _ (Same.refl _) rfl
  obtain ⟨g0, g1⟩ : 0 ≤ c ∧ c ≤ M30 := by
    by_cases z : 0 ≤ c ∧ c ≤ M30
    · exact z
    · exfalso
      apply g
      rw [Bool.not_eq_true', Bool.and_eq_false_iff]
      by_cases z0 : 0 ≤ c
      · exact .inr (decide_eq_false fun y => z ⟨z0, y⟩)
      · exact .inl (decide_eq_false z0)
  rw [if_neg (fun z => z ⟨g0, g1⟩)] at q
  refine ⟨_, rfl, _, rfl, _, rfl, _, _, rfl, rfl, _, rfl, _, _, rfl, rfl, v, j, room - 1, lv - 1, rfl, hd, by omega, by omega, fun H2 r2 s2 h2 => ?_⟩
  cases ez : szJ j (room - 1) (lv - 1) with
  | none =>
    rw [ez] at h2 q
    obtain rfl : r2 = .non := h2
    refine ⟨_, rfl, rfl, _, rfl, ?_⟩
    refine iteT ?_
    exact q _ _ s2 rfl
  | some ab =>
    obtain ⟨a1, b1⟩ := ab
    rw [ez] at h2 q
    obtain ⟨t, rfl, ht⟩ := h2
    refine ⟨_, rfl, rfl, _, rfl, ?_⟩
    refine iteF ?_
    obtain ⟨jo, _, _, ea, eb⟩ := szJ_inv j _ _ _ _ ez
    have hb0 := J.steps_nn j jo
    have hb1 := J.steps_le j jo
    rw [← eb] at hb0 hb1
    refine ⟨_, rfl, _, _, _, _, rfl, rfl, SqT.of ht, rfl, _, _, rfl, rfl, _, rfl, _, _, _, _, rfl, rfl, SqT.of ht, rfl, _, rfl, _, _, rfl, rfl, ?_, ?_⟩
    · have e1 : b1.natAbs < 2 ^ 128 := Nat.lt_of_le_of_lt (show b1.natAbs ≤ 1000000000000000000000000000000 by simp only [M30] at hb1; omega) (by decide)
      have e2 : c.natAbs < 2 ^ 128 := Nat.lt_of_le_of_lt (show c.natAbs ≤ 1000000000000000000000000000000 by simp only [M30] at g1; omega) (by decide)
      exact wide_mul (a := 128) (b := 128) e1 e2 (by decide) (by decide) (by decide)
    refine ⟨_, _, rfl, fun H3 r3 s3 h3 => ?_⟩
    exact q _ _ (s2.trans s3) h3
theorem in_parts (k : Bool) : inV (.str (kwP k)) [.str "seq", .str "par"] = true := by cases k <;> decide +kernel
theorem in_parts_no (k : Bool) : inV (.str (kwR k)) [.str "seq", .str "par"] = false := by cases k <;> decide +kernel
theorem in_rounds (k : Bool) : inV (.str (kwR k)) [.str "repeat", .str "copies"] = true := by cases k <;> decide +kernel
theorem ok_sz (T : Txt K mg) {n : Nat} (g__sizes_of_parts : FnOk P w K mg base CX0 (2 * n + 3) T.f__sizes_of_parts T.d__sizes_of_parts ["parts", "leaf_steps", "room", "levels"] (spSzs K T.f_steps_of_leaf n))
    (g__sizes_of_rounds : FnOk P w K mg base CX0 (2 * n + 3) T.f__sizes_of_rounds T.d__sizes_of_rounds ["n", "inner", "leaf_steps", "room", "levels"] (spSzr K T.f_steps_of_leaf n)) :
    FnOk P w K mg base CX0 (2 * (n + 1) + 2) T.f__sizes T.d__sizes ["value", "leaf_steps", "room", "levels"] (spSz K T.f_steps_of_leaf (n + 1)) := by
  have g_steps_of_leaf := ok_leaf (P := P) (w := w) (base := base) T
  refine T.F__sizes.ok sc__sizes (fun vs H Q E h => ?_) (fun cdv A outer s H vs Q E hr h => ?_)
  · obtain ⟨v, j, room, lv, rfl, _⟩ := h
    rfl
  obtain ⟨v, j, room, lv, rfl, hd, hn1, hn, q⟩ := h
  refine ⟨_, (pss_cons (ps_if (PW.pt (pw_or (pt_cmpR op_lt (pv 2) pe_int (nomark _)) (pw_or1 (pt_cmpR op_lt (pv 3) pe_int (nomark _))))) (pss_one (ps_ret pe_non)) pss_nil)
      (pss_cons (ps_set (i := 4) sc__sizes.nd rfl (Or.inl rfl) (pe_callL (i := 1) g_steps_of_leaf (hr.mono (by omega)) rfl (.inl rfl) T.F_steps_of_leaf.kp T.b_steps_of_leaf .nil pass0 (pa_cons (pv 0) pa_nil)))
      (pss_cons (ps_if (pt_cmpR op_notN (pv 4) pe_non (nomark _)) (pss_one (ps_ret (pe_tup (pa_cons pe_int (pa_cons (pv 4) pa_nil))))) pss_nil)
      (pss_cons (ps_if (pt_not (pt_val (pe_callB (r := rIsD K) call_isD (by rfl) T.n_isinstance (by decide +kernel) (pa_cons (pv 0) (pa_cons (pe_bltn (v := .ty "tuple") (by rfl) T.n_tuple (by decide +kernel) rfl) pa_nil))))) (pss_one (ps_ret pe_non)) pss_nil)
      (pss_cons (ps_if (PW.pt (pw_and (pt_cmpR op_eq (pe_callB (r := rLenS K) call_lenS (by rfl) T.n_len (by decide +kernel) (pa_cons (pv 0) pa_nil)) pe_int (nomark _)) (pw_and1 (pt_cmpR (r := rIn K false) op_in_seq (pe_ix (r := rIxT K) ix_tup (pv 0) pe_int (fun _ _ => rfl)) (pe_tup (pa_cons pe_str (pa_cons pe_str pa_nil))) (by rfl))))) (pss_one (ps_ret (pe_call g__sizes_of_parts (hr.mono (by omega)) rfl T.m__sizes_of_parts T.F__sizes_of_parts.kp T.b__sizes_of_parts .nil pass0 (pa_cons (pe_ix (r := rIxT K) ix_tup (pv 0) pe_int (fun _ _ => rfl)) (pa_cons (pv 1) (pa_cons (pv 2) (pa_cons (pv 3) pa_nil))))))) pss_nil)
      (pss_cons (ps_if (PW.pt (pw_and (pt_cmpR op_eq (pe_callB (r := rLenS K) call_lenS (by rfl) T.n_len (by decide +kernel) (pa_cons (pv 0) pa_nil)) pe_int (nomark _)) (pw_and1 (pt_cmpR (r := rIn K false) op_in_seq (pe_ix (r := rIxT K) ix_tup (pv 0) pe_int (fun _ _ => rfl)) (pe_tup (pa_cons pe_str (pa_cons pe_str pa_nil))) (by rfl))))) (pss_one (ps_ret (pe_call g__sizes_of_rounds (hr.mono (by omega)) rfl T.m__sizes_of_rounds T.F__sizes_of_rounds.kp T.b__sizes_of_rounds .nil pass0 (pa_cons (pe_ix (r := rIxT K) ix_tup (pv 0) pe_int (fun _ _ => rfl)) (pa_cons (pe_ix (r := rIxT K) ix_tup (pv 0) pe_int (fun _ _ => rfl)) (pa_cons (pv 1) (pa_cons (pv 2) (pa_cons (pv 3) pa_nil)))))))) pss_nil)
      (pss_one (ps_ret pe_non)))))))), ?_⟩
  -- room < 1 or levels < 1
  have no : ∀ R : V → Hp → Prop, R = Q → (room < 1 ∨ lv < 1) → R .non H := by
    rintro R rfl z
    have e : szJ j room lv = none := by cases j <;> simp only [szJ] <;> rw [if_pos z]
    rw [e] at q
    exact q _ _ (Same.refl _) rfl
  refine ⟨_, rfl, _, _, rfl, rfl, _, rfl, ?_⟩
  refine ite2 (fun g => ?_) (fun g => ?_)
  · refine iteT ?_
    exact no _ rfl (.inl (of_decide_eq_true g))
  refine ⟨_, rfl, _, _, rfl, rfl, _, rfl, ?_⟩
  refine ite2 (fun g2 => ?_) (fun g2 => ?_)
  · exact no _ rfl (.inr (of_decide_eq_true g2))
  have g' : ¬ (room < 1 ∨ lv < 1) := fun z => z.elim (fun y => g (decide_eq_true y)) (fun y => g2 (decide_eq_true y))
  clear no
  cases j with
  | st i =>
    obtain rfl := dp_int_inv hd
    simp only [szJ] at q
    rw [if_neg g'] at q
    refine ⟨rfl, _, rfl, .int i, .int i, rfl, .int i, ?_⟩
    by_cases z : -M30 ≤ i ∧ i ≤ M30
    · rw [if_pos z] at q
      have e : inW (.int i) (-M30) M30 = true := by
        rw [inW_int, decide_eq_true z.1, decide_eq_true z.2] <;> rfl
      rw [if_pos e]
      refine ⟨_, rfl, rfl, _, rfl, ?_⟩
      refine iteT ?_
      refine ⟨_, rfl, (by show 2 ≤ sizeLine; decide), fun t ht => ?_⟩
      exact q _ _ (same_new ht) ⟨t, rfl, upd_same⟩
    · rw [if_neg z] at q
      have e : ¬ inW (.int i) (-M30) M30 = true := by
        rw [inW_int, Bool.and_eq_true, decide_eq_true_eq, decide_eq_true_eq]
        exact z
      rw [if_neg e]
      refine ⟨_, rfl, rfl, _, rfl, ?_⟩
      refine iteF ?_
      refine ⟨_, rfl, _, _, _, _, rfl, .int i, kit_tuple _, _, rfl, ?_⟩
      refine iteT ?_
      exact q _ _ (Same.refl _) rfl
  | ps k xs =>
    simp only [szJ] at q
    rw [if_neg g'] at q
    have hd0 := hd
    rw [J.toD] at hd
    obtain ⟨a, ys, rfl, hys, hall⟩ := dp_tup_inv hd
    cases hall with
    | cons e1 hall =>
      obtain rfl := dp_str_inv e1
      cases hall with
      | cons e2 hall =>
        cases hall
        rename_i vp
        refine ⟨rfl, _, rfl, .ref a, _, rfl, hd, ?_⟩
        refine ⟨_, rfl, rfl, _, rfl, ?_⟩
        refine iteF ?_
        refine ⟨_, rfl, _, _, _, _, rfl, hd, kit_tuple _, _, rfl, ?_⟩
        refine iteF ?_
        refine ⟨_, rfl, a, _, rfl, .inr hys, rfl, _, rfl, ?_⟩
        refine iteT ?_
        refine ⟨_, rfl, _, _, _, _, rfl, rfl, hys, rfl, (by show 2 ≤ sizeLine; decide), fun t ht => ?_⟩
        refine ⟨t, _, rfl, .inr (SqT.of upd_same), rfl, rfl, _, rfl, ?_⟩
        have s1 : Same H (upd H t (.tup [.str "seq", .str "par"])) := same_new ht
        show if inV (.str (kwP k)) [.str "seq", .str "par"] = true then _ else _
        rw [in_parts]
        refine iteT ?_
        refine ⟨_, rfl, _, _, _, _, rfl, rfl, same_sqT s1 hys, rfl, _, rfl, _, rfl, _, rfl, vp, xs, room, lv, rfl, dp_same s1 e2, by omega, by omega, fun H2 r2 s2 h2 => ?_⟩
        exact q _ _ (s1.trans s2) h2
  | rn k c x =>
    simp only [szJ] at q
    rw [if_neg g'] at q
    rw [J.toD] at hd
    obtain ⟨a, ys, rfl, hys, hall⟩ := dp_tup_inv hd
    cases hall with
    | cons e1 hall =>
      obtain rfl := dp_str_inv e1
      cases hall with
      | cons e2 hall =>
        obtain rfl := dp_int_inv e2
        cases hall with
        | cons e3 hall =>
          cases hall
          rename_i vx
          refine ⟨rfl, _, rfl, .ref a, _, rfl, hd, ?_⟩
          refine ⟨_, rfl, rfl, _, rfl, ?_⟩
          refine iteF ?_
          refine ⟨_, rfl, _, _, _, _, rfl, hd, kit_tuple _, _, rfl, ?_⟩
          refine iteF ?_
          refine ⟨_, rfl, a, _, rfl, .inr hys, rfl, _, rfl, ?_⟩
          refine iteF ?_
          refine ⟨_, rfl, a, _, rfl, .inr hys, rfl, _, rfl, ?_⟩
          refine iteT ?_
          refine ⟨_, rfl, _, _, _, _, rfl, rfl, hys, rfl, (by show 2 ≤ sizeLine; decide), fun t ht => ?_⟩
          refine ⟨t, _, rfl, .inr (SqT.of upd_same), rfl, rfl, _, rfl, ?_⟩
          have s1 : Same H (upd H t (.tup [.str "repeat", .str "copies"])) := same_new ht
          show if inV (.str (kwR k)) [.str "repeat", .str "copies"] = true then _ else _
          rw [in_rounds]
          refine iteT ?_
          refine ⟨_, rfl, _, _, _, _, rfl, rfl, same_sqT s1 hys, rfl, _, rfl, _, _, _, _, rfl, rfl, same_sqT s1 hys, rfl, _, rfl, _, rfl, _, rfl, vx, c, x, room, lv, rfl, dp_same s1 e3, by omega, by omega, fun H2 r2 s2 h2 => ?_⟩
          exact q _ _ (s1.trans s2) h2
theorem ok_sizes (T : Txt K mg) : ∀ n : Nat, FnOk P w K mg base CX0 (2 * n + 2) T.f__sizes T.d__sizes ["value", "leaf_steps", "room", "levels"] (spSz K T.f_steps_of_leaf n)
  | 0 => by
    have no : ∀ vs H Q E, ¬ spSz K T.f_steps_of_leaf 0 vs H Q E := by
      rintro vs H Q E ⟨v, j, room, lv, _, _, h1, h2, _⟩
      omega
    exact ⟨fun vs H Q E h => absurd h (no vs H Q E), fun A outer s H args us vs Q E _ _ _ _ h => absurd h (no vs H Q E)⟩
  | n + 1 => ok_sz T (ok_szs T (ok_sizes T n)) (ok_szr T (ok_sizes T n))
/-- jobs of at most thirteen levels -/
def spIsJob (K : PySem.W.Frag) : Sp := fun vs H Q _ => ∃ (v : V) (j : J), vs = [v] ∧ Dp K H v j.toD ∧ j.deep ≤ 20 ∧ ∀ H', Same H H' → Q (.bl (szJ j 400 13).isSome) H'
def spChecked (K : PySem.W.Frag) : Sp := fun vs H Q _ => ∃ (v : V) (j : J) (a b : Int), vs = [v] ∧ Dp K H v j.toD ∧ j.deep ≤ 20 ∧ szJ j 400 13 = some (a, b) ∧
  ∀ (H' : Hp) (t : Addr), Same H H' → H' t = some (.tup [.int a, .int b]) → Q (.ref t) H'
def spSzOf (K : PySem.W.Frag) (L : Addr) : Sp := fun vs H Q _ => ∃ (v : V) (j : J), vs = [v, .ref L] ∧ Dp K H v j.toD ∧ ∀ (H' : Hp) (r : V), Same H H' → RepSz H' r (szJ j 400 13) → Q r H'
theorem ok_szof (T : Txt K mg) : FnOk P w K mg base CX0 31 T.f_sizes_of T.d_sizes_of ["value", "leaf_steps"] (spSzOf K T.f_steps_of_leaf) := by
  have g__sizes := ok_sizes (P := P) (w := w) (base := base) T 14
  refine T.F_sizes_of.ok sc_sizes_of (fun vs H Q E h => ?_) (fun cdv A outer s H vs Q E hr h => ?_)
  · obtain ⟨v, j, rfl, _⟩ := h
    rfl
  obtain ⟨v, j, rfl, hd, q⟩ := h
  refine ⟨_, (pss_one (ps_ret (pe_call g__sizes (hr.mono (by omega)) rfl T.m__sizes T.F__sizes.kp T.b__sizes .nil pass0 (pa_cons (pv 0) (pa_cons (pv 1) (pa_cons (pe_glob (v := .int 400) rfl T.g_MAX_NODES ⟨_, rfl⟩) (pa_cons (pe_glob (v := .int 13) rfl T.g_MAX_DEPTH ⟨_, rfl⟩) pa_nil))))))), ?_⟩
  exact ⟨_, rfl, _, rfl, v, j, 400, 13, rfl, hd, by decide, by decide, q⟩
theorem ok_isjob (T : Txt K mg) : FnOk P w K mg base CX0 43 T.f_is_job T.d_is_job ["value"] (spIsJob K) := by
  have g_sizes_of := ok_szof (P := P) (w := w) (base := base) T
  refine T.F_is_job.ok sc_is_job (fun vs H Q E h => ?_) (fun cdv A outer s H vs Q E hr h => ?_)
  · obtain ⟨v, j, rfl, _⟩ := h
    rfl
  obtain ⟨v, j, rfl, hd, hn, q⟩ := h
  refine ⟨_, (pss_one (ps_ret (pe_cmpR op_notN (pe_call g_sizes_of (hr.mono (by omega)) rfl T.m_sizes_of T.F_sizes_of.kp T.b_sizes_of .nil pass0 (pa_cons (pv 0) (pa_cons (pe_glob (v := .ref T.f_steps_of_leaf) rfl T.m_steps_of_leaf rfl) pa_nil))) pe_non (nomark _)))), ?_⟩
  refine ⟨_, rfl, v, j, rfl, hd, fun H2 r2 s2 h2 => ?_⟩
  cases ez : szJ j 400 13 with
  | none =>
    rw [ez] at h2 q
    obtain rfl : r2 = .non := h2
    exact ⟨rfl, q _ s2⟩
  | some ab =>
    obtain ⟨a, b⟩ := ab
    rw [ez] at h2 q
    obtain ⟨t, rfl, ht⟩ := h2
    exact ⟨rfl, q _ s2⟩
theorem ok_checked (T : Txt K mg) : FnOk P w K mg base CX0 43 T.f_checked_sizes T.d_checked_sizes ["job"] (spChecked K) := by
  have g_sizes_of := ok_szof (P := P) (w := w) (base := base) T
  refine T.F_checked_sizes.ok sc_checked_sizes (fun vs H Q E h => ?_) (fun cdv A outer s H vs Q E hr h => ?_)
  · obtain ⟨v, j, a, b, rfl, _⟩ := h
    rfl
  obtain ⟨v, j, a, b, rfl, hd, hn, ez, q⟩ := h
  refine ⟨_, (pss_cons (ps_set (i := 1) sc_checked_sizes.nd rfl (Or.inl rfl) (pe_call g_sizes_of (hr.mono (by omega)) rfl T.m_sizes_of T.F_sizes_of.kp T.b_sizes_of .nil pass0 (pa_cons (pv 0) (pa_cons (pe_glob (v := .ref T.f_steps_of_leaf) rfl T.m_steps_of_leaf rfl) pa_nil))))
      (pss_cons (ps_if (pt_cmpR op_isN (pv 1) pe_non (nomark _)) (pss_one ps_never) pss_nil)
      (pss_one (ps_ret (pv 1))))), ?_⟩
  refine ⟨_, rfl, v, j, rfl, hd, fun H2 r2 s2 h2 => ?_⟩
  rw [ez] at h2
  obtain ⟨t, rfl, ht⟩ := h2
  refine ⟨_, rfl, rfl, _, rfl, ?_⟩
  refine iteF ?_
  exact ⟨_, rfl, q _ t s2 ht⟩
end
/-! block Pot: _law_pot, _law_take, _law_step -/
/-- a pot at p: what is left of the cell, the mixed number, how many were taken (at most n) -/
def Pot (H : Hp) (p : Addr) (n : Nat) : Prop := ∃ a b c : Int, H p = some (.lst [.int a, .int b, .int c]) ∧ (0 ≤ a ∧ a.natAbs < 2 ^ 3000) ∧ (0 ≤ b ∧ b < 2305843009213693951) ∧ (0 ≤ c ∧ c ≤ (n : Int))
theorem Pot.lst {H : Hp} {p : Addr} {n : Nat} (h : Pot H p n) : ∃ l, H p = some (.lst l) := by
  obtain ⟨a, b, c, h, _⟩ := h
  exact ⟨_, h⟩
theorem Pot.mono {H : Hp} {p : Addr} {n m : Nat} (h : Pot H p n) (e : n ≤ m) : Pot H p m := by
  obtain ⟨a, b, c, h1, h2, h3, h4⟩ := h
  exact ⟨a, b, c, h1, h2, h3, h4.1, by omega⟩
theorem Pot.same {H H' : Hp} {p : Addr} {n : Nat} (h : Pot H p n) (s : Same H H') : Pot H' p n := by
  obtain ⟨a, b, c, h1, h2⟩ := h
  exact ⟨a, b, c, s _ _ h1, h2⟩
def spPot (K : PySem.W.Frag) : Sp := fun vs H Q _ => ∃ (a : Addr) (ns : List Int) (k : Int), vs = [.ref a, .int k] ∧ SqL K H a (ns.map V.int) ∧ ns.length ≤ 1000 ∧ 0 ≤ k ∧ k ≤ 1000 ∧
  ∀ (H' : Hp) (p : Addr), Same H H' → H p = none → Pot H' p 0 → Q (.ref p) H'
def spTake : Sp := fun vs H Q _ => ∃ (p : Addr) (n : Nat) (m : Int), vs = [.ref p, .int m] ∧ Pot H p n ∧ n ≤ 1099511627776 ∧ 0 < m ∧ m.natAbs < 2 ^ 200 ∧
  ∀ (H' : Hp) (r : Int), Sx p H H' → Pot H' p (n + 1) → 0 ≤ r → r < m → Q (.int r) H'
def spStep : Sp := fun vs H Q _ => ∃ (p : Addr) (n : Nat), vs = [.ref p] ∧ Pot H p n ∧ n + 4 ≤ 1099511627776 ∧
  ∀ (H' : Hp) (r : Int), Sx p H H' → Pot H' p (n + 4) → -M30 ≤ r → r ≤ M30 → Q (.int r) H'
theorem natAbs_lt {i : Int} {B : Nat} (h0 : 0 ≤ i) (h : i < (B : Int)) : i.natAbs < B := by omega
theorem big14 : ((((10 : Int) ^ (60 : Int).toNat) ^ (14 : Int).toNat)).natAbs < 2 ^ 3000 := by decide +kernel
theorem pos14 : 0 < ((10 : Int) ^ (60 : Int).toNat) ^ (14 : Int).toNat := by decide +kernel
theorem mod_big {z m : Int} {B : Nat} (hm : 0 < m) (hB : m.natAbs < B) : 0 ≤ z % m ∧ (z % m).natAbs < B := by
  have h1 := Int.emod_nonneg z (Int.ne_of_gt hm)
  have h2 := Int.emod_lt_of_pos z hm
  exact ⟨h1, by omega⟩
section
variable {P : Program} {w : World} {K : PySem.W.Frag} {mg : Str → Option Value} {base : Heap}
theorem ok_pot (T : Txt K mg) : FnOk P w K mg base CX0 1 T.f__law_pot T.d__law_pot ["_law_script", "_law_k"] (spPot K) := by
  refine T.F__law_pot.ok sc__law_pot (fun vs H Q E h => ?_) (fun cdv A outer s H vs Q E hr h => ?_)
  · obtain ⟨a, ns, k, rfl, _⟩ := h
    rfl
  obtain ⟨a, ns, k, rfl, hS, hlen, hk0, hk1, q⟩ := h
  refine ⟨_, (pss_cons (ps_set (i := 2) sc__law_pot.nd rfl (Or.inl rfl) pe_int)
      (C8.pss_cut (ps_if (pt_cmpR op_lt (pv 1) (pe_callB (r := rLenS K) call_lenS (by rfl) T.n_len (by decide +kernel) (pa_cons (pv 0) pa_nil)) (nomark _)) (pss_one (ps_set (i := 2) sc__law_pot.nd rfl (Or.inl rfl) (pe_op op_mod (pe_callB call_abs (by rfl) T.n_abs (by decide +kernel) (pa_cons (pe_ix (r := rIxL K) ix_list (pv 0) (pv 1) (fun _ _ => rfl)) pa_nil)) (pe_op op_powW (pe_op op_powW pe_int pe_int) pe_int)))) pss_nil)
      (pss_cons (ps_set (i := 3) sc__law_pot.nd rfl (Or.inl rfl) (pe_op op_mod (pe_op op_powW (pe_op op_add (pe_op op_add (pe_op op_mod (pv 2) pe_int) (pe_op op_mulW pe_int (pv 1))) pe_int) pe_int) pe_int))
      (pss_one (ps_ret (pe_lst (pa_cons (pe_op op_mulW (pv 2) (pe_callTy call_int1 (by rfl) T.n_int (by decide +kernel) (pa_cons (pe_cmpR op_ge (pv 2) (pe_op op_powW pe_int pe_int) (nomark _)) pa_nil))) (pa_cons (pv 3) (pa_cons pe_int pa_nil))))))))), ?_⟩
  refine ⟨fun σ' H' => ∃ cell : Int, σ' = [some (.ref a), some (.int k), some (.int cell), none] ∧ H' = H ∧ 0 ≤ cell ∧ cell.natAbs < 2 ^ 3000, ?_, ?_⟩
  · refine ⟨_, rfl, _, rfl, a, _, rfl, .inl hS, _, _, rfl, rfl, _, rfl, ?_⟩
    refine ite2 (fun c => ?_) (fun c => ?_)
    · have c' := of_decide_eq_true c
      rw [List.length_map] at c'
      obtain ⟨z, _, hz⟩ := atI_int (ns := ns) hk0 c'
      refine ⟨_, rfl, _, rfl, _, _, _, _, rfl, rfl, hS, hz, _, rfl, _, _, rfl, rfl, powW_of 4 (by decide) (by decide) (by decide), _, _, rfl, rfl, powW_of 200 (by decide) (by decide +kernel) (by decide), _, _, rfl, rfl, pos14, ?_⟩
      have hb := mod_big (z := if z < 0 then -z else z) pos14 big14
      exact ⟨_, rfl, rfl, hb⟩
    · exact ⟨0, rfl, rfl, by decide, by decide⟩
  · rintro σ' H' ⟨cell, rfl, rfl, hc0, hc1⟩
    walk_at "rd"
    refine ⟨(by show (0 : Int) < 2147483587; decide), ?_⟩
    walk_at "rd"
    refine ⟨wide_mul (a := 64) (b := 64) (by decide) (by omega) (by decide) (by decide) (by decide), ?_⟩
    walk_at "rd"
    refine ⟨powW_of 64 (by decide) (by omega) (by decide), ?_⟩
    walk_at "rd"
    refine ⟨(by show (0 : Int) < 2305843009213693951; decide), ?_⟩
    dsimp only
    generalize (cell % 2147483587 + 6151 * k + 3) ^ (5 : Int).toNat = pw
    have hm0 : 0 ≤ pw % 2305843009213693951 := by omega
    have hm1 : pw % 2305843009213693951 < 2305843009213693951 := by omega
    generalize pw % 2305843009213693951 = mixed at hm0 hm1 ⊢
    walk_at "rd"
    refine ⟨powW_of 4 (by decide) (by decide) (by decide), ?_⟩
    walk_at "rd"
    refine .inr ⟨_, rfl, ?_⟩
    walk_at "rd"
    refine ⟨wide_mul (a := 3000) (b := 1) hc1 (by split <;> decide) (by decide) (by decide) (by decide), ?_⟩
    dsimp only
    have hk : 0 ≤ cell * (if decide ((10 : Int) ^ (18 : Int).toNat ≤ cell) = true then 1 else 0) ∧ (cell * (if decide ((10 : Int) ^ (18 : Int).toNat ≤ cell) = true then 1 else 0)).natAbs < 2 ^ 3000 := by
      split
      · rw [Int.mul_one]
        exact ⟨hc0, hc1⟩
      · rw [Int.mul_zero]
        exact ⟨Int.le_refl _, by decide⟩
    generalize cell * (if decide ((10 : Int) ^ (18 : Int).toNat ≤ cell) = true then 1 else 0) = c2 at hk ⊢
    walk_at "rd"
    refine ⟨(by show 3 ≤ sizeLine; decide), fun p hp => ?_⟩
    exact q _ p (same_new hp) hp ⟨_, _, _, upd_same, hk, ⟨hm0, hm1⟩, by decide, by decide⟩
theorem ok_take (T : Txt K mg) : FnOk P w K mg base CX0 1 T.f__law_take T.d__law_take ["_law_pot_here", "_law_many"] spTake := by
  refine T.F__law_take.ok sc__law_take (fun vs H Q E h => ?_) (fun cdv A outer s H vs Q E hr h => ?_)
  · obtain ⟨p, n, m, rfl, _⟩ := h
    rfl
  obtain ⟨p, n, m, rfl, ⟨a, b, c, hp, ⟨a0, a1⟩, ⟨b0, b1⟩, c0, c1⟩, hn, hm, hm2, q⟩ := h
  refine ⟨_, (pss_cons (ps_if (pt_cmpR op_gt (pe_ix (r := rIxL K) ix_list (pv 0) pe_int (fun _ _ => rfl)) pe_int (nomark _)) (pss_cons (ps_set (i := 2) sc__law_take.nd rfl (Or.inl rfl) (pe_op op_mod (pe_ix (r := rIxL K) ix_list (pv 0) pe_int (fun _ _ => rfl)) (pv 1)))
        (pss_cons (ps_asg (pe_op op_fdivW (pe_ix (r := rIxL K) ix_list (pv 0) pe_int (fun _ _ => rfl)) (pv 1)) (pg_sub (pv 0) pe_int set_list))
        (pss_one (ps_ret (pv 2))))) pss_nil)
      (pss_cons (ps_asg (pe_op op_add (pe_ix (r := rIxL K) ix_list (pv 0) pe_int (fun _ _ => rfl)) pe_int) (pg_sub (pv 0) pe_int set_list))
      (pss_cons (ps_set (i := 3) sc__law_take.nd rfl (Or.inl rfl) (pe_op op_mod (pe_op op_powW (pe_op op_add (pe_ix (r := rIxL K) ix_list (pv 0) pe_int (fun _ _ => rfl)) (pe_op op_mulW pe_int (pe_ix (r := rIxL K) ix_list (pv 0) pe_int (fun _ _ => rfl)))) pe_int) pe_int))
      (pss_cons (ps_set (i := 4) sc__law_take.nd rfl (Or.inl rfl) (pe_op op_mod (pe_op op_powW (pe_op op_add (pe_op op_add (pv 3) (pe_op op_mod (pe_ix (r := rIxL K) ix_list (pv 0) pe_int (fun _ _ => rfl)) pe_int)) (pe_op op_mulW pe_int (pe_ix (r := rIxL K) ix_list (pv 0) pe_int (fun _ _ => rfl)))) pe_int) pe_int))
      (pss_one (ps_ret (pe_op op_mod (pe_op op_fdivW (pv 4) pe_int) (pv 1)))))))), ?_⟩
  refine ⟨_, rfl, _, _, _, _, rfl, rfl, SqL.of hp, rfl, _, _, rfl, rfl, _, rfl, ?_⟩
  refine ite2 (fun g => ?_) (fun g => ?_)
  · refine ⟨_, rfl, _, _, _, _, rfl, rfl, SqL.of hp, rfl, _, rfl, _, _, rfl, rfl, hm, ?_⟩
    refine ⟨_, rfl, _, _, _, _, rfl, rfl, SqL.of hp, rfl, _, rfl, _, _, rfl, rfl, wide_div hm hm2 (by decide) (by decide), ?_⟩
    refine ⟨_, rfl, _, _, _, _, rfl, rfl, hp, rfl, ?_⟩
    refine ⟨_, rfl, ?_⟩
    have d0 : 0 ≤ a / m := Int.ediv_nonneg a0 (by omega)
    have d1 : a / m ≤ a := Int.ediv_le_self m a0
    exact q _ _ sx_upd ⟨_, _, _, upd_same, ⟨d0, Nat.lt_of_le_of_lt (by omega) a1⟩, ⟨b0, b1⟩, c0, by omega⟩ (Int.emod_nonneg _ (by omega)) (Int.emod_lt_of_pos _ hm)
  · refine ⟨_, rfl, _, _, _, _, rfl, rfl, SqL.of hp, rfl, _, _, rfl, rfl, ?_⟩
    refine ⟨_, rfl, _, _, _, _, rfl, rfl, hp, rfl, ?_⟩
    dsimp only
    have hq : (upd H p (.lst [.int a, .int b, .int (c + 1)])) p = some (.lst [.int a, .int b, .int (c + 1)]) := upd_same
    refine ⟨_, rfl, _, _, _, _, rfl, rfl, SqL.of hq, rfl, _, rfl, _, _, _, _, rfl, rfl, SqL.of hq, rfl, _, _, rfl, rfl, wide_mul (a := 64) (b := 64) (by decide) (by omega) (by decide) (by decide) (by decide), ?_⟩
    walk_at "rd"
    refine ⟨powW_of 64 (by decide) (by omega) (by decide), ?_⟩
    walk_at "rd"
    refine ⟨(by show (0 : Int) < 2305843009213693921; decide), ?_⟩
    dsimp only
    generalize (b + 98317 * (c + 1)) ^ (3 : Int).toNat = pw
    have o0 : 0 ≤ pw % 2305843009213693921 := by omega
    have o1 : pw % 2305843009213693921 < 2305843009213693921 := by omega
    generalize pw % 2305843009213693921 = one at o0 o1 ⊢
    refine ⟨_, rfl, _, rfl, _, _, _, _, rfl, rfl, SqL.of hq, rfl, _, _, rfl, rfl, (by show (0 : Int) < 65521; decide), _, _, rfl, rfl, _, rfl, _, _, _, _, rfl, rfl, SqL.of hq, rfl, _, _, rfl, rfl, wide_mul (a := 64) (b := 64) (by decide) (by omega) (by decide) (by decide) (by decide), ?_⟩
    walk_at "rd"
    refine ⟨powW_of 64 (by decide) (by omega) (by decide), ?_⟩
    walk_at "rd"
    refine ⟨(by show (0 : Int) < 2305843009213693907; decide), ?_⟩
    dsimp only
    generalize (one + b % 65521 + 37 * (c + 1)) ^ (5 : Int).toNat % 2305843009213693907 = two
    walk_at "rd"
    refine ⟨wide_div (b := 12) (by decide) (by decide) (by decide) (by decide), ?_⟩
    walk_at "rd"
    refine ⟨hm, ?_⟩
    exact q _ _ sx_upd ⟨_, _, _, upd_same, ⟨a0, a1⟩, ⟨b0, b1⟩, by omega, by omega⟩ (Int.emod_nonneg _ (by omega)) (Int.emod_lt_of_pos _ hm)
theorem ok_step (T : Txt K mg) : FnOk P w K mg base CX0 2 T.f__law_step T.d__law_step ["_law_pot_here"] spStep := by
  have g__law_take : FnOk P w K mg base CX0 1 T.f__law_take T.d__law_take ["_law_pot_here", "_law_many"] spTake := ok_take T
  refine T.F__law_step.ok sc__law_step (fun vs H Q E h => ?_) (fun cdv A outer s H vs Q E hr h => ?_)
  · obtain ⟨p, n, rfl, _⟩ := h
    rfl
  obtain ⟨p, n, rfl, hp, hn, q⟩ := h
  refine ⟨_, (pss_cons (ps_set (i := 1) sc__law_step.nd rfl (Or.inl rfl) (pe_call g__law_take (hr.mono (by omega)) rfl T.m__law_take T.F__law_take.kp T.b__law_take .nil pass0 (pa_cons (pv 0) (pa_cons pe_int pa_nil))))
      (pss_cons (ps_if (pt_cmpR op_eq (pv 1) pe_int (nomark _)) (pss_one (ps_ret pe_int)) pss_nil)
      (pss_cons (ps_if (pt_cmpR op_eq (pv 1) pe_int (nomark _)) (pss_cons (ps_set (i := 2) sc__law_step.nd rfl (Or.inl rfl) (pe_op op_add (pe_op op_mulW (pe_call g__law_take (hr.mono (by omega)) rfl T.m__law_take T.F__law_take.kp T.b__law_take .nil pass0 (pa_cons (pv 0) (pa_cons (pe_op op_powW pe_int pe_int) pa_nil))) (pe_op op_powW pe_int pe_int)) (pe_call g__law_take (hr.mono (by omega)) rfl T.m__law_take T.F__law_take.kp T.b__law_take .nil pass0 (pa_cons (pv 0) (pa_cons (pe_op op_powW pe_int pe_int) pa_nil)))))
        (pss_one (ps_ret (pe_ix (r := rIxL K) ix_list (pe_lst (pa_cons (pv 2) (pa_cons (pe_op op_sub pe_int (pv 2)) (pa_cons (pe_op op_powW pe_int pe_int) (pa_cons (pe_op op_sub pe_int (pe_op op_powW pe_int pe_int)) pa_nil))))) (pe_call g__law_take (hr.mono (by omega)) rfl T.m__law_take T.F__law_take.kp T.b__law_take .nil pass0 (pa_cons (pv 0) (pa_cons pe_int pa_nil))) (fun _ _ => rfl))))) pss_nil)
      (pss_one (ps_ret (pe_op op_sub (pe_call g__law_take (hr.mono (by omega)) rfl T.m__law_take T.F__law_take.kp T.b__law_take .nil pass0 (pa_cons (pv 0) (pa_cons pe_int pa_nil))) pe_int)))))), ?_⟩
  refine ⟨_, rfl, p, n, 14, rfl, hp, by omega, by decide, by decide, fun H1 r1 s1 hp1 h0 h1 => ?_⟩
  refine ⟨_, rfl, rfl, _, rfl, ?_⟩
  refine ite2 (fun g => ?_) (fun g => ?_)
  · exact q _ _ s1 (hp1.mono (by omega)) (by decide) (by decide)
  refine ⟨_, rfl, rfl, _, rfl, ?_⟩
  refine ite2 (fun g => ?_) (fun g => ?_)
  · refine ⟨_, rfl, _, _, rfl, rfl, powW_of 4 (by decide) (by decide) (by decide), p, n + 1, _, rfl, hp1, by omega, by decide, by decide, fun H2 r2 s2 hp2 k0 k1 => ?_⟩
    walk_at "rd"
    refine ⟨powW_of 4 (by decide) (by decide) (by decide), ?_⟩
    have k1' : r2 < 1000000000000000 := k1
    refine ⟨_, _, rfl, rfl, wide_mul (a := 64) (b := 64) (by omega) (by decide) (by decide) (by decide) (by decide), ?_⟩
    refine ⟨_, rfl, _, _, rfl, rfl, powW_of 4 (by decide) (by decide) (by decide), p, n + 2, _, rfl, hp2, by omega, by decide, by decide, fun H3 r3 s3 hp3 j0 j1 => ?_⟩
    have j1' : r3 < 1000000000000000 := j1
    walk_at "rd"
    dsimp only
    have e15 : (10 : Int) ^ (15 : Int).toNat = 1000000000000000 := by decide
    rw [e15]
    have b0 : 0 ≤ r2 * 1000000000000000 + r3 := by omega
    have b1 : r2 * 1000000000000000 + r3 < M30 := by
      show _ < (1000000000000000000000000000000 : Int)
      omega
    generalize r2 * 1000000000000000 + r3 = great at b0 b1 ⊢
    walk_at "rd"
    refine ⟨powW_of 4 (by decide) (by decide) (by decide), ?_⟩
    walk_at "rd"
    refine ⟨powW_of 4 (by decide) (by decide) (by decide), ?_⟩
    walk_at "rd"
    have e30 : (10 : Int) ^ (30 : Int).toNat = M30 := by decide
    dsimp only
    rw [e30]
    refine ⟨(by show 4 ≤ sizeLine; decide), fun l hl => ?_⟩
    have hp4 := hp3.same (same_new (o := .lst [.int great, .int (0 - great), .int M30, .int (0 - M30)]) hl)
    refine ⟨_, rfl, p, n + 3, _, rfl, hp4, by omega, by decide, by decide, fun H4 r4 s4 hp5 i0 i1 => ?_⟩
    obtain ⟨z, hz, ez⟩ := atI_int (ns := [great, 0 - great, M30, 0 - M30]) i0 i1
    obtain ⟨lp, hlp⟩ := hp3.lst
    have nlp : l ≠ p := fun e => by rw [e, hlp] at hl; cases hl
    refine ⟨_, _, _, _, rfl, rfl, SqL.of (s4 l _ nlp upd_same), ez, ?_⟩
    refine q _ _ (s1.trans (s2.trans (s3.trans ((sx_new hl).trans s4)))) hp5 ?_ ?_
    · simp only [List.mem_cons, List.not_mem_nil, or_false] at hz
      rcases hz with rfl | rfl | rfl | rfl <;> (try simp only [M30] at *) <;> omega
    · simp only [List.mem_cons, List.not_mem_nil, or_false] at hz
      rcases hz with rfl | rfl | rfl | rfl <;> (try simp only [M30] at *) <;> omega
  · refine ⟨_, rfl, p, n + 1, _, rfl, hp1, by omega, by decide, by decide, fun H2 r2 s2 hp2 k0 k1 => ?_⟩
    walk_at "rd"
    refine q _ _ (s1.trans s2) (hp2.mono (by omega)) ?_ ?_
    · show -(1000000000000000000000000000000 : Int) ≤ _
      omega
    · show _ ≤ (1000000000000000000000000000000 : Int)
      omega
end
/-! block Job: _law_job, the drawn jobs -/
def TB : Nat → Nat
  | 0 => 20
  | n + 1 => 20 + 3 * TB n
def NB : Nat → Int
  | 0 => 1
  | 1 => 1
  | 2 => 5
  | n + 3 => 1 + 3 * NB (n + 2)
mutual
/-- all numbers in bounds, few parts -/
def J.small : J → Prop
  | .st i => -M30 ≤ i ∧ i ≤ M30
  | .ps _ xs => xs.length ≤ 4 ∧ J.smallL xs
  | .rn _ n x => (0 ≤ n ∧ n ≤ M30) ∧ x.small
def J.smallL : List J → Prop
  | [] => True
  | x :: xs => x.small ∧ J.smallL xs
end
mutual
/-- all numbers of rounds and copies are among these -/
def J.cin (cs : List Int) : J → Prop
  | .st _ => True
  | .ps _ xs => J.cinL cs xs
  | .rn _ n x => n ∈ cs ∧ J.cin cs x
def J.cinL (cs : List Int) : List J → Prop
  | [] => True
  | x :: xs => J.cin cs x ∧ J.cinL cs xs
end
theorem J.cinL_app (cs : List Int) : ∀ xs ys : List J, J.cinL cs (xs ++ ys) ↔ J.cinL cs xs ∧ J.cinL cs ys
  | [], ys => by simp [J.cinL]
  | x :: xs, ys => by simp only [List.cons_append, J.cinL, J.cinL_app cs xs ys, and_assoc]
structure GenOk (cs : List Int) (n : Nat) (j : J) : Prop where
  cin : j.cin cs
  deep : j.deep ≤ max n 1
  nodes : j.nodes ≤ NB n
  small : j.small
structure GensOk (cs : List Int) (n : Nat) (js : List J) : Prop where
  cin : J.cinL cs js
  deep : J.deepL js ≤ max n 1
  nodes : J.nodesL js ≤ js.length * NB n
  small : J.smallL js
theorem NB_pos : ∀ n, 1 ≤ NB n
  | 0 => by decide
  | 1 => by decide
  | 2 => by decide
  | n + 3 => by
    have := NB_pos (n + 2)
    simp only [NB]
    omega
theorem J.deepL_app : ∀ xs ys : List J, J.deepL (xs ++ ys) = max (J.deepL xs) (J.deepL ys)
  | [], ys => by simp [J.deepL]
  | x :: xs, ys => by simp only [List.cons_append, J.deepL, J.deepL_app xs ys]; omega
theorem J.nodesL_app : ∀ xs ys : List J, J.nodesL (xs ++ ys) = J.nodesL xs + J.nodesL ys
  | [], ys => by simp [J.nodesL]
  | x :: xs, ys => by simp only [List.cons_append, J.nodesL, J.nodesL_app xs ys]; omega
theorem J.smallL_app : ∀ xs ys : List J, J.smallL (xs ++ ys) ↔ J.smallL xs ∧ J.smallL ys
  | [], ys => by simp [J.smallL]
  | x :: xs, ys => by simp only [List.cons_append, J.smallL, J.smallL_app xs ys, and_assoc]
theorem J.toDs_app : ∀ xs ys : List J, J.toDs (xs ++ ys) = J.toDs xs ++ J.toDs ys
  | [], ys => by simp [J.toDs]
  | x :: xs, ys => by simp only [List.cons_append, J.toDs, J.toDs_app xs ys]
theorem GensOk.nil {cs : List Int} {n : Nat} : GensOk cs n [] := ⟨trivial, by simp [J.deepL], by simp [J.nodesL], trivial⟩
theorem GensOk.snoc {cs : List Int} {n : Nat} {js : List J} {j : J} (h : GensOk cs n js) (g : GenOk cs n j) : GensOk cs n (js ++ [j]) := by
  refine ⟨(J.cinL_app _ _ _).mpr ⟨h.cin, g.cin, trivial⟩, ?_, ?_, ?_⟩
  · rw [J.deepL_app]
    have := h.deep
    have := g.deep
    simp only [J.deepL]
    omega
  · rw [J.nodesL_app, List.length_append, List.length_singleton]
    have h1 := h.nodes
    have h2 := g.nodes
    simp only [J.nodesL]
    have e : (((js.length + 1 : Nat) : Int)) * NB n = js.length * NB n + NB n := by
      rw [Int.natCast_add, Int.add_mul]
      simp
    rw [e]
    omega
  · rw [J.smallL_app]
    exact ⟨h.small, g.small, trivial⟩
theorem GenOk.step {cs : List Int} {n : Nat} {i : Int} (h1 : -M30 ≤ i) (h2 : i ≤ M30) : GenOk cs n (.st i) := by
  refine ⟨trivial, ?_, ?_, ?_⟩
  · simp only [J.deep]
    omega
  · simp only [J.nodes]
    exact NB_pos n
  · simp only [J.small]
    exact ⟨h1, h2⟩
/-- up to four steps in a row -/
theorem GenOk.row {cs : List Int} {n : Nat} {js : List J} (h : GensOk cs 1 js) (hl : js.length ≤ 4) : GenOk cs (n + 2) (.ps false js) := by
  have h1 := h.deep
  have h2 := h.nodes
  refine ⟨h.cin, ?_, ?_, ?_⟩
  · simp only [J.deep]
    omega
  · simp only [J.nodes]
    have e : NB 1 = 1 := rfl
    rw [e] at h2
    have : 5 ≤ NB (n + 2) := by
      cases n with
      | zero => decide
      | succ n =>
        have : ∀ n, 5 ≤ NB (n + 2) := by
          intro n
          induction n with
          | zero => decide
          | succ n ih => simp only [NB] at *; omega
        exact this _
    omega
  · simp only [J.small]
    exact ⟨hl, h.small⟩
theorem GenOk.parts {cs : List Int} {n : Nat} {k : Bool} {js : List J} (h : GensOk cs (n + 1) js) (hl : js.length ≤ 3) : GenOk cs (n + 2) (.ps k js) := by
  have h1 := h.deep
  have h2 := h.nodes
  refine ⟨h.cin, ?_, ?_, ?_⟩
  · simp only [J.deep]
    omega
  · simp only [J.nodes]
    have p := NB_pos (n + 1)
    have b : (js.length : Int) * NB (n + 1) ≤ 3 * NB (n + 1) := Int.mul_le_mul_of_nonneg_right (by omega) (by omega)
    cases n with
    | zero => simp only [NB] at *; omega
    | succ n =>
      have e : NB (n + 1 + 1) = NB (n + 2) := rfl
      rw [e] at *
      simp only [NB]
      omega
  · simp only [J.small]
    exact ⟨by omega, h.small⟩
theorem GenOk.rounds {cs : List Int} {n : Nat} {k : Bool} {c : Int} {x : J} (h : GenOk cs (n + 1) x) (h0 : 0 ≤ c) (h1 : c ≤ M30) (hc : c ∈ cs) : GenOk cs (n + 2) (.rn k c x) := by
  have h2 := h.deep
  have h3 := h.nodes
  refine ⟨⟨hc, h.cin⟩, ?_, ?_, ?_⟩
  · simp only [J.deep]
    omega
  · simp only [J.nodes]
    have p := NB_pos (n + 1)
    cases n with
    | zero => simp only [NB] at *; omega
    | succ n =>
      have e : NB (n + 1 + 1) = NB (n + 2) := rfl
      rw [e] at *
      simp only [NB]
      omega
  · simp only [J.small]
    exact ⟨⟨h0, h1⟩, h.small⟩
theorem pick2 {r : Int} (f : Bool → Str) (h0 : 0 ≤ r) (h1 : r < 2) : ∃ b : Bool, atI [V.str (f false), V.str (f true)] r = some (.str (f b)) := by
  have : r = 0 ∨ r = 1 := by omega
  rcases this with rfl | rfl
  · exact ⟨false, rfl⟩
  · exact ⟨true, rfl⟩
theorem dp_ps {K : PySem.W.Frag} {H : Hp} {t : Addr} {k : Bool} {v : V} {js : List J} (h : H t = some (.tup [.str (kwP k), v])) (d : Dp K H v (.tuple (J.toDs js))) : Dp K H (.ref t) (J.ps k js).toD := by
  rw [J.toD]
  exact .tup (.inl (.inl h)) (.cons (.str _) (.cons d .nil))
theorem dp_rn {K : PySem.W.Frag} {H : Hp} {t : Addr} {k : Bool} {n : Int} {v : V} {j : J} (h : H t = some (.tup [.str (kwR k), .int n, v])) (d : Dp K H v j.toD) : Dp K H (.ref t) (J.rn k n j).toD := by
  rw [J.toD]
  exact .tup (.inl (.inl h)) (.cons (.str _) (.cons (.int _) (.cons d .nil)))
def spJob (K : PySem.W.Frag) (n : Nat) : Sp := fun vs H Q _ => ∃ (p a : Addr) (m : Nat) (cs : List Int), vs = [.ref p, .int (n : Int), .ref a] ∧ Pot H p m ∧ m + TB n ≤ 1099511627776 ∧ H a = some (.lst (cs.map V.int)) ∧ a ≠ p ∧
  0 < cs.length ∧ cs.length ≤ 100 ∧ (∀ c ∈ cs, 0 ≤ c ∧ c ≤ M30) ∧
  ∀ (H' : Hp) (r : V) (j : J), Sx p H H' → Pot H' p (m + TB n) → Dp K H' r j.toD → GenOk cs n j → Q r H'
section
variable {P : Program} {w : World} {K : PySem.W.Frag} {mg : Str → Option Value} {base : Heap}
/-- the list that a comprehension fills beside a pot: what its turns keep -/
structure Row (K : PySem.W.Frag) (cs : List Int) (H0 : Hp) (p D : Addr) (n m : Nat) (js : List J) (H : Hp) : Prop where
  sx : Sx p H0 H
  pot : Pot H p m
  gen : GensOk cs n js
  lst : ∃ vs, H D = some (.lst vs) ∧ DpAll K H vs (J.toDs js)
theorem Row.snoc {cs : List Int} {H0 H H' : Hp} {p D : Addr} {n m m' : Nat} {js : List J} {r : V} {j : J} (R : Row K cs H0 p D n m js H) (d0 : H0 D = none) (nDp : D ≠ p) (s : Sx p H H') (hp : Pot H' p m') (hd : Dp K H' r j.toD) (g : GenOk cs n j) :
    ∃ acc, H' D = some (.lst acc) ∧ acc.length = js.length ∧ Row K cs H0 p D n m' (js ++ [j]) (upd H' D (.lst (acc ++ [r]))) := by
  obtain ⟨vs, h1, h2⟩ := R.lst
  obtain ⟨l, hl⟩ := R.pot.lst
  have h3 : H' D = some (.lst vs) := s D _ nDp h1
  refine ⟨vs, h3, ?_, ?_, ?_, R.gen.snoc g, _, upd_same, ?_⟩
  · rw [dpAll_length h2, J.toDs_eq, List.length_map]
  · intro b o nb hb
    have nbD : b ≠ D := fun e => by rw [e, d0] at hb; cases hb
    rw [upd_ne nbD]
    exact s b o nb (R.sx b o nb hb)
  · obtain ⟨a, b, c, z1, z2⟩ := hp
    exact ⟨a, b, c, by rw [upd_ne nDp.symm]; exact z1, z2⟩
  · have k1 : ∀ a xs, SqT K H a xs → SqT K H' a xs := fun a xs z => s.sqT hl z
    have k2 : ∀ a xs, SqT K H' a xs → SqT K (upd H' D (.lst (vs ++ [r]))) a xs := fun a xs z => (sx_upd (p := D)).sqT h3 z
    rw [J.toDs_app]
    exact dpAll_append (dpAll_keep k2 (J.noLs _) (dpAll_keep k1 (J.noLs _) h2)) (dpAll_one (dp_keep k2 j.noL hd))
/-- the jobs drawn with a smaller depth than n -/
def spJobs (K : PySem.W.Frag) (n : Nat) : Sp := fun vs H Q E => ∃ d, d < n ∧ spJob K d vs H Q E
theorem ok_job_next (T : Txt K mg) {n : Nat} (g__law_job : FnOk P w K mg base CX0 (n + 2) T.f__law_job T.d__law_job ["_law_pot_here", "_law_deep", "_law_counts"] (spJobs K n)) :
    FnOk P w K mg base CX0 (n + 3) T.f__law_job T.d__law_job ["_law_pot_here", "_law_deep", "_law_counts"] (spJobs K (n + 1)) := by
  have g__law_take : FnOk P w K mg base CX0 1 T.f__law_take T.d__law_take ["_law_pot_here", "_law_many"] spTake := ok_take T
  have g__law_step : FnOk P w K mg base CX0 2 T.f__law_step T.d__law_step ["_law_pot_here"] spStep := ok_step T
  refine T.F__law_job.ok sc__law_job (fun vs H Q E h => ?_) (fun cdv A outer s H vs Q E hr h => ?_)
  · obtain ⟨d, _, p, a, m, cs, rfl, _⟩ := h
    rfl
  obtain ⟨d, hd, p, a, m, cs, rfl, hp, hm, ha, nap, c0, c1, hcs, q⟩ := h
  refine ⟨_, (pss_cons (ps_set (i := 3) sc__law_job.nd rfl (Or.inl rfl) (pe_call g__law_take (hr.mono (by omega)) rfl T.m__law_take T.F__law_take.kp T.b__law_take .nil pass0 (pa_cons (pv 0) (pa_cons pe_int pa_nil))))
      (pss_cons (ps_if (PW.pt (pw_or (pt_cmpR op_lt (pv 1) pe_int (nomark _)) (pw_or1 (pt_cmpR op_eq (pv 3) pe_int (nomark _))))) (pss_one (ps_ret (pe_call g__law_step (hr.mono (by omega)) rfl T.m__law_step T.F__law_step.kp T.b__law_step .nil pass0 (pa_cons (pv 0) pa_nil)))) pss_nil)
      (pss_cons (ps_if (pt_cmpR op_lt (pv 3) pe_int (nomark _)) (pss_cons (ps_set (i := 4) sc__law_job.nd rfl (Or.inl rfl) (pe_ix (r := rIxL K) ix_list (pe_lst (pa_cons pe_int (pa_cons pe_int (pa_cons pe_int (pa_cons pe_int pa_nil))))) (pe_call g__law_take (hr.mono (by omega)) rfl T.m__law_take T.F__law_take.kp T.b__law_take .nil pass0 (pa_cons (pv 0) (pa_cons pe_int pa_nil))) (fun _ _ => rfl)))
        (pss_one (ps_ret (pe_tup (pa_cons pe_str (pa_cons (pe_callTy (r := rTupS K) call_tupS (by rfl) T.n_tuple (by decide +kernel) (pa_cons (pe_lc (own := [("_law_turn", 5)]) (g := (gName 5)) (by rfl) sc__law_job.nd (pi_range1 rfl T.n_range (pa_cons (pv 4) pa_nil)) (blkOk_by (N := N__law_job) (sc := (defScope s__law_job)) (by decide +kernel)) (fun _ _ _ _ _ => (pg_name (i := 5) sc__law_job.nd rfl (Or.inl rfl))) (fun _ _ _ _ _ => pts_nil) (fun _ _ _ _ _ => (pe_call g__law_step (hr.mono (by omega)) rfl T.m__law_step T.F__law_step.kp T.b__law_step .nil pass0 (pa_cons (pv 0) pa_nil)))) pa_nil)) pa_nil)))))) pss_nil)
      (pss_cons (ps_if (pt_cmpR op_lt (pv 3) pe_int (nomark _)) (pss_cons (ps_set (i := 4) sc__law_job.nd rfl (Or.inl rfl) (pe_ix (r := rIxL K) ix_list (pe_lst (pa_cons pe_int (pa_cons pe_int (pa_cons pe_int (pa_cons pe_int (pa_cons pe_int (pa_cons pe_int pa_nil))))))) (pe_call g__law_take (hr.mono (by omega)) rfl T.m__law_take T.F__law_take.kp T.b__law_take .nil pass0 (pa_cons (pv 0) (pa_cons pe_int pa_nil))) (fun _ _ => rfl)))
        (pss_one (ps_ret (pe_tup (pa_cons (pe_ix (r := rIxL K) ix_list (pe_lst (pa_cons pe_str (pa_cons pe_str pa_nil))) (pe_op op_mod (pv 3) pe_int) (fun _ _ => rfl)) (pa_cons (pe_callTy (r := rTupS K) call_tupS (by rfl) T.n_tuple (by decide +kernel) (pa_cons (pe_lc (own := [("_law_turn", 5)]) (g := (gName 5)) (by rfl) sc__law_job.nd (pi_range1 rfl T.n_range (pa_cons (pv 4) pa_nil)) (blkOk_by (N := N__law_job) (sc := (defScope s__law_job)) (by decide +kernel)) (fun _ _ _ _ _ => (pg_name (i := 5) sc__law_job.nd rfl (Or.inl rfl))) (fun _ _ _ _ _ => pts_nil) (fun _ _ _ _ _ => (pe_call g__law_job (hr.mono (by omega)) rfl T.m__law_job T.F__law_job.kp T.b__law_job .nil pass0 (pa_cons (pv 0) (pa_cons (pe_op op_sub (pv 1) pe_int) (pa_cons (pv 2) pa_nil)))))) pa_nil)) pa_nil)))))) pss_nil)
      (pss_one (ps_ret (pe_tup (pa_cons (pe_ix (r := rIxL K) ix_list (pe_lst (pa_cons pe_str (pa_cons pe_str pa_nil))) (pe_op op_mod (pv 3) pe_int) (fun _ _ => rfl)) (pa_cons (pe_ix (r := rIxL K) ix_list (pv 2) (pe_call g__law_take (hr.mono (by omega)) rfl T.m__law_take T.F__law_take.kp T.b__law_take .nil pass0 (pa_cons (pv 0) (pa_cons (pe_callB (r := rLenS K) call_lenS (by rfl) T.n_len (by decide +kernel) (pa_cons (pv 2) pa_nil)) pa_nil))) (fun _ _ => rfl)) (pa_cons (pe_call g__law_job (hr.mono (by omega)) rfl T.m__law_job T.F__law_job.kp T.b__law_job .nil pass0 (pa_cons (pv 0) (pa_cons (pe_op op_sub (pv 1) pe_int) (pa_cons (pv 2) pa_nil)))) pa_nil)))))))))), ?_⟩
  have tb : 20 ≤ TB d := by cases d <;> simp only [TB] <;> omega
  refine ⟨_, rfl, p, m, 9, rfl, hp, by omega, by decide, by decide, fun H1 r1 s1 hp1 h0 h1 => ?_⟩
  have ha1 := s1 a _ nap ha
  refine ⟨_, rfl, _, _, rfl, rfl, _, rfl, ?_⟩
  -- one step
  have one : ∀ (R : V → Hp → Prop), R = Q → spStep [.ref p] H1 R E0 := by
    rintro R rfl
    exact ⟨p, m + 1, rfl, hp1, by omega, fun H2 r2 s2 hp2 k0 k1 => q _ _ (.st r2) (s1.trans s2) (hp2.mono (by omega)) (.int _) (.step k0 k1)⟩
  refine ite2 (fun g => ?_) (fun g => ?_)
  · refine iteT ⟨_, rfl, ?_⟩
    exact one _ rfl
  have d2 : 2 ≤ d := by
    have g' : ¬ ((d : Int) < 2) := fun z => g (decide_eq_true z)
    omega
  obtain ⟨e, rfl⟩ : ∃ e, d = e + 2 := ⟨d - 2, by omega⟩
  refine ⟨_, rfl, rfl, _, rfl, ?_⟩
  refine ite2 (fun g => ?_) (fun g => ?_)
  · refine ⟨_, rfl, ?_⟩
    exact one _ rfl
  refine ⟨_, rfl, _, _, rfl, rfl, _, rfl, ?_⟩
  have etb : TB (e + 2) = 20 + 3 * TB (e + 1) := rfl
  have tb1 : 20 ≤ TB (e + 1) := by simp only [TB]; omega
  refine ite2 (fun g => ?_) (fun g => ?_)
  · -- a row of steps
    refine ⟨(by show 4 ≤ sizeLine; decide), fun l hl => ?_⟩
    obtain ⟨lp, hlp⟩ := hp1.lst
    have nlp : l ≠ p := fun z => by rw [z, hlp] at hl; cases hl
    refine ⟨_, rfl, p, m + 1, _, rfl, hp1.same (same_new hl), by omega, by decide, by decide, fun H2 r2 s2 hp2 k0 k1 => ?_⟩
    obtain ⟨z, hz, ez⟩ := atI_int (ns := [3, 2, 4, 0]) k0 k1
    have hz4 : 0 ≤ z ∧ z ≤ 4 := by
      simp only [List.mem_cons, List.not_mem_nil, or_false] at hz
      omega
    refine ⟨_, _, _, _, rfl, rfl, SqL.of (s2 l _ nlp upd_same), ez, ?_⟩
    have s02 : Sx p H H2 := s1.trans ((sx_new hl).trans s2)
    have h2n : m + 1 + 1 + 4 * z.toNat ≤ m + TB (e + 2) := by omega
    refine ⟨_, rfl, z, rfl, by omega, by omega, fun D hD => ?_⟩
    have nDp : D ≠ p := fun y => by
      obtain ⟨_, y2⟩ := hp2.lst
      rw [y, y2] at hD
      cases hD
    refine lc_range (lo := 0) (n := z.toNat) (fun i H' => ∃ js, js.length = i ∧ Row K cs H2 p D 1 (m + 1 + 1 + 4 * i) js H') ?_ ?_ ?_
    · exact ⟨[], rfl, fun b o nb hb => by rw [upd_ne (ne_of_none hb hD)]; exact hb, (hp2.same (same_new hD)), .nil, [], upd_same, .nil⟩
    · rintro i H' hi ⟨js, ejs, R⟩
      refine ⟨rfl, ?_⟩
      unfold tYes
      refine iteT ?_
      refine ⟨_, rfl, p, m + 1 + 1 + 4 * i, rfl, R.pot, by omega, fun H4 r4 s4 hp4 j0 j1 => ?_⟩
      obtain ⟨acc, x1, x2, x3⟩ := R.snoc hD nDp s4 hp4 (.int _) (GenOk.step (cs := cs) (n := 1) j0 j1)
      exact ⟨acc, x1, small1000 (by omega), _, by rw [List.length_append, List.length_singleton, ejs], x3⟩
    · rintro H' ⟨js, ejs, R⟩
      obtain ⟨vs, y1, y2⟩ := R.lst
      refine ⟨D, vs, rfl, .inl ⟨SqL.of y1, fun t ht => ?_⟩⟩
      refine ⟨(by show 2 ≤ sizeLine; decide), fun u hu => ?_⟩
      have st : Same H' (upd (upd H' t (.tup vs)) u (.tup [.str "seq", .ref t])) := (same_new ht).trans (same_new hu)
      refine q _ _ (.ps false js) (s02.trans (R.sx.trans (Same.sx st))) ((R.pot.same st).mono (by omega)) ?_ (GenOk.row R.gen (by omega))
      refine dp_ps (k := false) (v := .ref t) upd_same (.tup (.inl (.inl ?_)) (dpAll_same st y2))
      exact same_new hu _ _ upd_same
  refine ⟨_, rfl, _, _, rfl, rfl, _, rfl, ?_⟩
  refine ite2 (fun g => ?_) (fun g => ?_)
  · -- parts
    refine ⟨(by show 6 ≤ sizeLine; decide), fun l hl => ?_⟩
    obtain ⟨lp, hlp⟩ := hp1.lst
    have nlp : l ≠ p := fun z => by rw [z, hlp] at hl; cases hl
    refine ⟨_, rfl, p, m + 1, _, rfl, hp1.same (same_new hl), by omega, by decide, by decide, fun H2 r2 s2 hp2 k0 k1 => ?_⟩
    obtain ⟨z, hz, ez⟩ := atI_int (ns := [2, 3, 2, 1, 3, 0]) k0 k1
    have hz4 : 0 ≤ z ∧ z ≤ 3 := by
      simp only [List.mem_cons, List.not_mem_nil, or_false] at hz
      omega
    refine ⟨_, _, _, _, rfl, rfl, SqL.of (s2 l _ nlp upd_same), ez, ?_⟩
    have s02 : Sx p H H2 := s1.trans ((sx_new hl).trans s2)
    -- the kind
    refine ⟨(by show 2 ≤ sizeLine; decide), fun l2 hl2 => ?_⟩
    obtain ⟨lp2, hlp2⟩ := hp2.lst
    refine ⟨_, rfl, _, _, rfl, rfl, (by show (0 : Int) < 2; decide), ?_⟩
    obtain ⟨kb, ekb⟩ := pick2 kwP (r := r1 % 2) (by omega) (by omega)
    refine ⟨_, _, _, _, rfl, rfl, SqL.of upd_same, ekb, ?_⟩
    have s03 : Sx p H (upd H2 l2 (.lst [.str "seq", .str "par"])) := s02.trans (sx_new hl2)
    have hp3 := hp2.same (same_new (o := .lst [.str "seq", .str "par"]) hl2)
    generalize (upd H2 l2 (.lst [.str "seq", .str "par"])) = H3 at s03 hp3 ⊢
    refine ⟨_, rfl, z, rfl, by omega, by omega, fun D hD => ?_⟩
    have nDp : D ≠ p := fun y => by
      obtain ⟨_, y2⟩ := hp3.lst
      rw [y, y2] at hD
      cases hD
    refine lc_range (lo := 0) (n := z.toNat) (fun i H' => ∃ js, js.length = i ∧ Row K cs H3 p D (e + 1) (m + 1 + 1 + TB (e + 1) * i) js H') ?_ ?_ ?_
    · exact ⟨[], rfl, fun b o nb hb => by rw [upd_ne (ne_of_none hb hD)]; exact hb, (hp3.same (same_new hD)), .nil, [], upd_same, .nil⟩
    · rintro i H' hi ⟨js, ejs, R⟩
      have hi3 : i ≤ 2 := by omega
      have hmul : TB (e + 1) * i ≤ TB (e + 1) * 2 := Nat.mul_le_mul_left _ hi3
      have hmul2 : TB (e + 1) * (i + 1) = TB (e + 1) * i + TB (e + 1) := Nat.mul_succ _ _
      refine ⟨rfl, ?_⟩
      unfold tYes
      refine iteT ?_
      refine ⟨_, rfl, _, rfl, _, _, rfl, rfl, _, rfl, e + 1, by omega, p, a, m + 1 + 1 + TB (e + 1) * i, cs, ?_, R.pot, by omega, R.sx a _ nap (s03 a _ nap ha), nap, c0, c1, hcs, fun H4 r4 j4 s4 hp4 d4 g4 => ?_⟩
      · have ee : ((e + 2 : Nat) : Int) - 1 = ((e + 1 : Nat) : Int) := by omega
        rw [← ee]
        rfl
      obtain ⟨acc, x1, x2, x3⟩ := R.snoc hD nDp s4 hp4 d4 g4
      rw [Nat.add_assoc _ (TB (e + 1) * i), ← hmul2] at x3
      exact ⟨acc, x1, small1000 (by omega), _, by rw [List.length_append, List.length_singleton, ejs], x3⟩
    · rintro H' ⟨js, ejs, R⟩
      obtain ⟨vs, y1, y2⟩ := R.lst
      refine ⟨D, vs, rfl, .inl ⟨SqL.of y1, fun t ht => ?_⟩⟩
      refine ⟨(by show 2 ≤ sizeLine; decide), fun u hu => ?_⟩
      have st : Same H' (upd (upd H' t (.tup vs)) u (.tup [.str (kwP kb), .ref t])) := (same_new ht).trans (same_new hu)
      have hz3 : z.toNat ≤ 3 := by omega
      have hmul : TB (e + 1) * z.toNat ≤ TB (e + 1) * 3 := Nat.mul_le_mul_left _ hz3
      refine q _ _ (.ps kb js) (s03.trans (R.sx.trans (Same.sx st))) ((R.pot.same st).mono (by omega)) ?_ (GenOk.parts R.gen (by omega))
      refine dp_ps (k := kb) (v := .ref t) upd_same (.tup (.inl (.inl ?_)) (dpAll_same st y2))
      exact same_new hu _ _ upd_same
  -- rounds, copies
  refine ⟨(by show 2 ≤ sizeLine; decide), fun l hl => ?_⟩
  refine ⟨_, rfl, _, _, rfl, rfl, (by show (0 : Int) < 2; decide), ?_⟩
  obtain ⟨kb, ekb⟩ := pick2 kwR (r := r1 % 2) (by omega) (by omega)
  refine ⟨_, _, _, _, rfl, rfl, SqL.of upd_same, ekb, ?_⟩
  have s02 : Sx p H (upd H1 l (.lst [.str "repeat", .str "copies"])) := s1.trans (sx_new hl)
  have hp2 := hp1.same (same_new (o := .lst [.str "repeat", .str "copies"]) hl)
  generalize (upd H1 l (.lst [.str "repeat", .str "copies"])) = H2 at s02 hp2 ⊢
  have ha2 := s02 a _ nap ha
  refine ⟨_, rfl, _, rfl, _, rfl, a, _, rfl, .inl (SqL.of ha2), p, m + 1, _, rfl, hp2, by omega, ?_, ?_, fun H3 r3 s3 hp3 k0 k1 => ?_⟩
  · show (0 : Int) < ((cs.map V.int).length : Int)
    rw [List.length_map]
    omega
  · show (((cs.map V.int).length : Int)).natAbs < 2 ^ 200
    rw [List.length_map]
    exact Nat.lt_of_le_of_lt (show ((cs.length : Int)).natAbs ≤ 100 by omega) (by decide)
  rw [List.length_map] at k1
  obtain ⟨z, hz, ez⟩ := atI_int (ns := cs) k0 k1
  have ha3 := s3 a _ nap ha2
  refine ⟨_, _, _, _, rfl, rfl, SqL.of ha3, ez, ?_⟩
  refine ⟨_, rfl, _, rfl, _, _, rfl, rfl, _, rfl, e + 1, by omega, p, a, m + 1 + 1, cs, ?_, hp3, by omega, ha3, nap, c0, c1, hcs, fun H4 r4 j4 s4 hp4 d4 g4 => ?_⟩
  · have ee : ((e + 2 : Nat) : Int) - 1 = ((e + 1 : Nat) : Int) := by omega
    rw [← ee]
    rfl
  refine ⟨(by show 3 ≤ sizeLine; decide), fun u hu => ?_⟩
  have st : Same H4 (upd H4 u (.tup [.str (kwR kb), .int z, r4])) := same_new hu
  have hcz := hcs z hz
  exact q _ _ (.rn kb z j4) (s02.trans (s3.trans (s4.trans (Same.sx st)))) ((hp4.same st).mono (by omega)) (dp_rn upd_same (dp_same st d4)) (GenOk.rounds g4 hcz.1 hcz.2 hz)
theorem ok_jobs (T : Txt K mg) : ∀ n : Nat, FnOk P w K mg base CX0 (n + 2) T.f__law_job T.d__law_job ["_law_pot_here", "_law_deep", "_law_counts"] (spJobs K n)
  | 0 => ⟨fun vs H Q E h => (nomatch h.choose_spec.1), fun A outer s H args us vs Q E _ _ _ _ h => (nomatch h.choose_spec.1)⟩
  | n + 1 => ok_job_next T (ok_jobs T n)
theorem ok_job (T : Txt K mg) (n : Nat) : FnOk P w K mg base CX0 (n + 3) T.f__law_job T.d__law_job ["_law_pot_here", "_law_deep", "_law_counts"] (spJob K n) :=
  (ok_jobs T (n + 1)).imp fun vs H Q E h => ⟨n, Nat.lt_succ_self n, h⟩
end
/-! block Net: _net_and_lowest, _net_and_lowest_of_seq, net, lowest -/
def spNl (K : PySem.W.Frag) (n : Nat) : Sp := fun vs H Q _ => ∃ (v : V) (j : J), vs = [v] ∧ Dp K H v j.toD ∧ j.deep ≤ n ∧ j.ok ∧ ∀ (H' : Hp) (t : Addr), Same H H' → H' t = some (.tup [.int j.net, .int j.low]) → Q (.ref t) H'
def spNls (K : PySem.W.Frag) (n : Nat) : Sp := fun vs H Q _ => ∃ (b : Addr) (vs' : List V) (xs : List J), vs = [.ref b] ∧ SqT K H b vs' ∧ DpAll K H vs' (J.toDs xs) ∧ J.deepL xs ≤ n ∧ J.okL xs ∧
  ∀ (H' : Hp) (t : Addr), Same H H' → H' t = some (.tup [.int (J.netL xs), .int (J.lowS xs)]) → Q (.ref t) H'
/-- low as the loop finds it -/
def lowFrom : Int → Int → List J → Int
  | _, low, [] => low
  | before, low, x :: xs => lowFrom (before + x.net) (min low (before + x.low)) xs
theorem lowFrom_eq : ∀ (xs : List J) (before low : Int), J.okL xs → low ≤ before → lowFrom before low xs = min low (before + J.lowS xs)
  | [], before, low, _, h => by simp only [lowFrom, J.lowS]; omega
  | x :: xs, before, low, o, h => by
    simp only [J.okL] at o
    have h1 := J.low_le x o.1
    have h2 := J.lowS_le xs o.2
    simp only [lowFrom, J.lowS]
    rw [lowFrom_eq xs _ _ o.2 (by omega)]
    omega
theorem J.netL_sum : ∀ xs : List J, (xs.map J.net).sum = J.netL xs
  | [] => by simp [J.netL]
  | x :: xs => by simp only [List.map_cons, List.sum_cons, J.netL, J.netL_sum xs]
theorem J.lowL_sum : ∀ xs : List J, (xs.map J.low).sum = J.lowL xs
  | [] => by simp [J.lowL]
  | x :: xs => by simp only [List.map_cons, List.sum_cons, J.lowL, J.lowL_sum xs]
theorem min_ite (a b : Int) : (if b < a then b else a) = min a b := by
  split <;> omega
section
variable {P : Program} {w : World} {K : PySem.W.Frag} {mg : Str → Option Value} {base : Heap}
theorem ok_nls (T : Txt K mg) {n k : Nat} (g__net_and_lowest : FnOk P w K mg base CX0 k T.f__net_and_lowest T.d__net_and_lowest ["job"] (spNl K n)) :
    FnOk P w K mg base CX0 (k + 1) T.f__net_and_lowest_of_seq T.d__net_and_lowest_of_seq ["parts"] (spNls K n) := by
  refine T.F__net_and_lowest_of_seq.ok sc__net_and_lowest_of_seq (fun vs H Q E h => ?_) (fun cdv A outer s H vs Q E hr h => ?_)
  · obtain ⟨b, vs', xs, rfl, _⟩ := h
    rfl
  obtain ⟨b, vs', xs, rfl, hb, hall, hn, hok, q⟩ := h
  refine ⟨_, (pss_cons (ps_set (i := 1) sc__net_and_lowest_of_seq.nd rfl (Or.inl rfl) pe_int)
      (pss_cons (ps_set (i := 2) sc__net_and_lowest_of_seq.nd rfl (Or.inl rfl) pe_int)
      (pss_cons (ps_for PassesOwn.never rfl (pi_tup (pv 0)) (pg_name (i := 3) sc__net_and_lowest_of_seq.nd rfl (Or.inl rfl))
        (pss_cons (ps_asg (pe_call g__net_and_lowest (hr.mono (by omega)) rfl T.m__net_and_lowest T.F__net_and_lowest.kp T.b__net_and_lowest .nil pass0 (pa_cons (pv 3) pa_nil)) (pg_tup (by rfl) (pgs_cons (pg_name (i := 4) sc__net_and_lowest_of_seq.nd rfl (Or.inl rfl)) (pgs_cons (pg_name (i := 5) sc__net_and_lowest_of_seq.nd rfl (Or.inl rfl)) pgs_nil))))
        (pss_cons (ps_set (i := 2) sc__net_and_lowest_of_seq.nd rfl (Or.inl rfl) (pe_callB (call_min2 rfl) (by rfl) T.n_min (by decide +kernel) (pa_cons (pv 2) (pa_cons (pe_op op_add (pv 1) (pv 5)) pa_nil))))
        (pss_one (ps_aug (i := 1) sc__net_and_lowest_of_seq.nd rfl (Or.inl rfl) (pv 4) ip_add)))))
      (pss_one (ps_ret (pe_tup (pa_cons (pv 1) (pa_cons (pv 2) pa_nil)))))))), ?_⟩
  refine ⟨_, rfl, b, rfl, ⟨vs', hb⟩, ?_⟩
  refine for_tup (K := K) (a := b) (xs := vs') (fun i σ H' => ∃ (before low : Int) (y3 y4 y5 : Option V), σ = [some (.ref b), some (.int before), some (.int low), y3, y4, y5] ∧ Same H H' ∧
    before + J.netL (xs.drop i) = J.netL xs ∧ lowFrom before low (xs.drop i) = lowFrom 0 0 xs) ⟨0, 0, none, none, none, rfl, Same.refl _, by rw [List.drop_zero]; omega, rfl⟩ (fun i σ H' _ ⟨_, _, _, _, _, _, s1, _⟩ => same_sqT s1 hb) ?_ ?_
  · rintro i x σ H' hi ⟨before, low, y3, y4, y5, rfl, s1, e1, e2⟩
    obtain ⟨j, ej, mj, dj⟩ := parts_at hall hi
    obtain ⟨hij, ej'⟩ := List.getElem?_eq_some_iff.mp ej
    have hdrop : xs.drop i = j :: xs.drop (i + 1) := by rw [← ej']; exact List.drop_eq_getElem_cons hij
    rw [hdrop] at e1 e2
    simp only [J.netL, lowFrom] at e1 e2
    refine ⟨_, rfl, x, j, rfl, dp_same s1 dj, by have := deep_mem mj; omega, ok_mem hok mj, fun H2 t s2 ht => ?_⟩
    refine ⟨t, _, rfl, SqT.of ht, rfl, _, _, rfl, _, _, rfl, rfl, ?_⟩
    refine ⟨_, rfl, _, rfl, _, rfl, _, _, rfl, rfl, _, _, rfl, ?_⟩
    refine ⟨_, rfl, _, rfl, _, _, rfl, rfl, ?_⟩
    refine ⟨_, _, _, _, _, rfl, s1.trans s2, by show before + j.net + J.netL (xs.drop (i + 1)) = J.netL xs; omega, ?_⟩
    rw [min_ite]
    exact e2
  · rintro σ H' ⟨before, low, y3, y4, y5, rfl, s1, e1, e2⟩
    have el : vs'.length = xs.length := parts_len hall
    rw [el, List.drop_length] at e1 e2
    simp only [J.netL, lowFrom] at e1 e2
    refine ⟨_, rfl, _, rfl, (by show 2 ≤ sizeLine; decide), fun t ht => ?_⟩
    have l1 := lowFrom_eq xs 0 0 hok (by omega)
    have l2 := J.lowS_le xs hok
    refine q _ t (s1.trans (same_new ht)) ?_
    rw [upd_same, e2, l1]
    have x1 : before = J.netL xs := by omega
    have x2 : min 0 (0 + J.lowS xs) = J.lowS xs := by omega
    rw [x1, x2]
theorem ok_nl_next (T : Txt K mg) {n : Nat} (g__net_and_lowest : FnOk P w K mg base CX0 (2 * n + 1) T.f__net_and_lowest T.d__net_and_lowest ["job"] (spNl K n)) :
    FnOk P w K mg base CX0 (2 * (n + 1) + 1) T.f__net_and_lowest T.d__net_and_lowest ["job"] (spNl K (n + 1)) := by
  have g_is_integer : FnOk P w K mg base CX0 1 T.f_is_integer T.d_is_integer ["value"] (spIsInt K) := ok_isint T
  have g__net_and_lowest_of_seq := ok_nls T g__net_and_lowest
  refine T.F__net_and_lowest.ok sc__net_and_lowest (fun vs H Q E h => ?_) (fun cdv A outer s H vs Q E hr h => ?_)
  · obtain ⟨v, j, rfl, _⟩ := h
    rfl
  obtain ⟨v, j, rfl, hd, hn, hok, q⟩ := h
  refine ⟨_, (pss_cons (ps_if (pt_val (pe_call g_is_integer (hr.mono (by omega)) rfl T.m_is_integer T.F_is_integer.kp T.b_is_integer .nil pass0 (pa_cons (pv 0) pa_nil))) (pss_one (ps_ret (pe_tup (pa_cons (pv 0) (pa_cons (pe_callB (call_min2 rfl) (by rfl) T.n_min (by decide +kernel) (pa_cons pe_int (pa_cons (pv 0) pa_nil))) pa_nil))))) pss_nil)
      (pss_cons (ps_if (pt_cmpR op_eq (pe_ix (r := rIxT K) ix_tup (pv 0) pe_int (fun _ _ => rfl)) pe_str (nomark _)) (pss_one (ps_ret (pe_call g__net_and_lowest_of_seq (hr.mono (by omega)) rfl T.m__net_and_lowest_of_seq T.F__net_and_lowest_of_seq.kp T.b__net_and_lowest_of_seq .nil pass0 (pa_cons (pe_ix (r := rIxT K) ix_tup (pv 0) pe_int (fun _ _ => rfl)) pa_nil)))) pss_nil)
      (pss_cons (ps_if (pt_cmpR op_eq (pe_ix (r := rIxT K) ix_tup (pv 0) pe_int (fun _ _ => rfl)) pe_str (nomark _)) (pss_cons (ps_setLc (i := 1) (own := [("part", 5)]) (g := (gName 5)) (by rfl) sc__net_and_lowest.nd rfl rfl (sw_true rfl rfl rfl (by decide +kernel)) (pi_tup (pe_ix (r := rIxT K) ix_tup (pv 0) pe_int (fun _ _ => rfl))) (blkOk_by (N := N__net_and_lowest) (sc := (defScope s__net_and_lowest)) (by decide +kernel)) (fun _ _ _ _ _ => (pg_name (i := 5) sc__net_and_lowest.nd rfl (Or.inl rfl))) (fun _ _ _ _ _ => pts_nil) (fun _ _ _ _ _ => (pe_call g__net_and_lowest (hr.mono (by omega)) rfl T.m__net_and_lowest T.F__net_and_lowest.kp T.b__net_and_lowest .nil pass0 (pa_cons (pv 5) pa_nil))))
        (pss_one (ps_ret (pe_tup (pa_cons (pe_callB (r := rSum K) (cr_sum rfl) (by rfl) T.n_sum (by decide +kernel) (pa_cons (pe_lc (own := [("pair", 6)]) (g := (gName 6)) (by rfl) sc__net_and_lowest.nd (pi_list (pv 1)) (blkOk_by (N := N__net_and_lowest) (sc := (defScope s__net_and_lowest)) (by decide +kernel)) (fun _ _ _ _ _ => (pg_name (i := 6) sc__net_and_lowest.nd rfl (Or.inl rfl))) (fun _ _ _ _ _ => pts_nil) (fun _ _ _ _ _ => (pe_ix (r := rIxT K) ix_tup (pv 6) pe_int (fun _ _ => rfl)))) pa_nil)) (pa_cons (pe_callB (r := rSum K) (cr_sum rfl) (by rfl) T.n_sum (by decide +kernel) (pa_cons (pe_lc (own := [("pair", 6)]) (g := (gName 6)) (by rfl) sc__net_and_lowest.nd (pi_list (pv 1)) (blkOk_by (N := N__net_and_lowest) (sc := (defScope s__net_and_lowest)) (by decide +kernel)) (fun _ _ _ _ _ => (pg_name (i := 6) sc__net_and_lowest.nd rfl (Or.inl rfl))) (fun _ _ _ _ _ => pts_nil) (fun _ _ _ _ _ => (pe_ix (r := rIxT K) ix_tup (pv 6) pe_int (fun _ _ => rfl)))) pa_nil)) pa_nil)))))) pss_nil)
      (pss_cons (ps_set (i := 2) sc__net_and_lowest.nd rfl (Or.inl rfl) (pe_ix (r := rIxT K) ix_tup (pv 0) pe_int (fun _ _ => rfl)))
      (pss_cons (ps_asg (pe_call g__net_and_lowest (hr.mono (by omega)) rfl T.m__net_and_lowest T.F__net_and_lowest.kp T.b__net_and_lowest .nil pass0 (pa_cons (pe_ix (r := rIxT K) ix_tup (pv 0) pe_int (fun _ _ => rfl)) pa_nil)) (pg_tup (by rfl) (pgs_cons (pg_name (i := 3) sc__net_and_lowest.nd rfl (Or.inl rfl)) (pgs_cons (pg_name (i := 4) sc__net_and_lowest.nd rfl (Or.inl rfl)) pgs_nil))))
      (pss_cons (ps_if (pt_cmpR op_eq (pv 2) pe_int (nomark _)) (pss_one (ps_ret (pe_tup (pa_cons pe_int (pa_cons pe_int pa_nil))))) pss_nil)
      (pss_cons (ps_if (pt_cmpR op_eq (pe_ix (r := rIxT K) ix_tup (pv 0) pe_int (fun _ _ => rfl)) pe_str (nomark _)) (pss_one (ps_ret (pe_tup (pa_cons (pe_op op_mulW (pv 2) (pv 3)) (pa_cons (pe_op op_mulW (pv 2) (pv 4)) pa_nil))))) pss_nil)
      (pss_one (ps_ret (pe_tup (pa_cons (pe_op op_mulW (pv 2) (pv 3)) (pa_cons (pe_op op_add (pv 4) (pe_op op_mulW (pe_op op_sub (pv 2) pe_int) (pe_callB (call_min2 rfl) (by rfl) T.n_min (by decide +kernel) (pa_cons pe_int (pa_cons (pv 3) pa_nil))))) pa_nil)))))))))))), ?_⟩
  cases j with
  | st i =>
    obtain rfl := dp_int_inv hd
    simp only [J.net, J.low] at q
    refine ⟨_, rfl, _, .int i, rfl, .int i, _, rfl, ?_⟩
    refine iteT ?_
    refine ⟨_, rfl, _, rfl, _, _, rfl, (by show 2 ≤ sizeLine; decide), fun t ht => ?_⟩
    refine q _ t (same_new ht) ?_
    rw [upd_same, min_ite]
  | ps k xs =>
    simp only [J.deep] at hn
    simp only [J.ok] at hok
    have hd0 := hd
    obtain ⟨a, b, vs, rfl, hys, hvs, hall⟩ := ps_inv hd
    refine ⟨_, rfl, _, _, rfl, hd0, _, rfl, ?_⟩
    rw [J.toD]
    refine iteF ?_
    refine ⟨_, rfl, _, _, _, _, rfl, rfl, hys, rfl, rfl, _, rfl, ?_⟩
    rw [w_seq]
    cases k with
    | false =>
      refine iteT ?_
      simp only [J.net, J.low] at q
      refine ⟨_, rfl, _, _, _, _, rfl, rfl, hys, rfl, b, vs, xs, rfl, hvs, hall, by omega, hok.2.1, fun H2 t s2 ht => ?_⟩
      exact q _ t s2 ht
    | true =>
      refine iteF ?_
      refine ⟨_, rfl, _, _, _, _, rfl, rfl, hys, rfl, rfl, _, rfl, ?_⟩
      rw [w_par]
      refine iteT ?_
      simp only [J.net, J.low] at q
      refine ⟨_, rfl, _, _, _, _, rfl, rfl, hys, rfl, b, rfl, ⟨vs, hvs⟩, fun D hD => ?_⟩
      have el : vs.length = xs.length := parts_len hall
      refine lc_tup (K := K) (a := b) (xs := vs) (fun i H' => Same H H' ∧ ∃ ts : List Addr, ts.length = i ∧ H' D = some (.lst (ts.map V.ref)) ∧ ∀ (m : Nat) (t : Addr) (j : J), ts[m]? = some t → xs[m]? = some j → H' t = some (.tup [.int j.net, .int j.low])) ?_ ?_ ?_ ?_
      · exact ⟨same_new hD, [], rfl, upd_same, fun m t j z => by simp at z⟩
      · rintro i H' _ ⟨s2, _⟩
        exact same_sqT s2 hvs
      · rintro i x H' hi ⟨s2, ts, lt, eD, hts⟩
        obtain ⟨j, ej, mj, dj⟩ := parts_at hall hi
        refine ⟨rfl, ?_⟩
        unfold tYes
        refine iteT ?_
        refine ⟨_, rfl, x, j, rfl, dp_same s2 dj, by have := deep_mem mj; omega, ok_mem hok.2.1 mj, fun H3 t s3 ht => ?_⟩
        have il : i < vs.length := (List.getElem?_eq_some_iff.mp hi).1
        have eD3 := s3 _ _ eD
        refine ⟨_, eD3, ?_, ?_, ts ++ [t], ?_, ?_, ?_⟩
        · rw [List.length_map]
          exact small1000 (by omega)
        · intro c o hc
          rw [upd_ne (ne_of_none hc hD)]
          exact s3 _ _ (s2 _ _ hc)
        · rw [List.length_append, List.length_singleton, lt]
        · rw [upd_same, List.map_append]
          rfl
        · intro m t2 j2 z1 z2
          have ntD : t2 ≠ D → (upd H3 D (.lst (ts.map V.ref ++ [V.ref t]))) t2 = H3 t2 := fun z => upd_ne z
          by_cases hm : m < ts.length
          · rw [List.getElem?_append_left hm] at z1
            have g := s3 _ _ (hts m t2 j2 z1 z2)
            rw [ntD (ne_of g eD3 (by intro z; cases z))]
            exact g
          · have hm2 : m = ts.length := by
              have := (List.getElem?_eq_some_iff.mp z1).1
              rw [List.length_append, List.length_singleton] at this
              omega
            subst hm2
            rw [List.getElem?_append_right (Nat.le_refl _), Nat.sub_self] at z1
            have e1 : t = t2 := Option.some.inj z1
            subst e1
            rw [lt] at z2
            rw [ej] at z2
            have e2 : j = j2 := Option.some.inj z2
            subst e2
            rw [ntD (ne_of ht eD3 (by intro z; cases z))]
            exact ht
      · rintro H' ⟨s2, ts, lt, eD, hts⟩
        -- the two sums
        have lts : ts.length = xs.length := by rw [lt, el]
        have half : ∀ (H4 : Hp) (g : J → Int) (s4 : Same H' H4) (Z : Addr) (hZ : H4 Z = none) (H5 : Hp), Same H4 H5 → True := fun _ _ _ _ _ _ _ => trivial
        refine ⟨_, rfl, D, rfl, ⟨_, SqL.of eD⟩, fun Z hZ => ?_⟩
        refine lc_list (K := K) (a := D) (xs := ts.map V.ref) (fun i H4 => Same H' H4 ∧ H4 Z = some (.lst (((xs.take i).map J.net).map V.int))) ⟨same_new hZ, upd_same⟩ (fun i H4 _ ⟨s4, _⟩ => SqL.of (s4 _ _ eD)) ?_ ?_
        · rintro i x H4 hi ⟨s4, eZ⟩
          rw [List.getElem?_map] at hi
          obtain ⟨t, et, rfl⟩ := Option.map_eq_some_iff.mp hi
          have il : i < ts.length := (List.getElem?_eq_some_iff.mp et).1
          have ij : i < xs.length := by omega
          have ht := s4 _ _ (hts i t _ et (List.getElem?_eq_getElem ij))
          refine ⟨rfl, ?_⟩
          unfold tYes
          refine iteT ?_
          refine ⟨_, rfl, _, _, _, _, rfl, rfl, SqT.of ht, rfl, _, eZ, ?_, ?_, ?_⟩
          · rw [List.length_map, List.length_map, List.length_take]
            exact small1000 (by omega)
          · intro c o hc
            rw [upd_ne (ne_of_none hc hZ)]
            exact s4 _ _ hc
          · rw [upd_same, take_step J.net (List.getElem?_eq_getElem ij), List.map_append]
            rfl
        · rintro H4 ⟨s4, eZ⟩
          rw [List.length_map, lts, List.take_length] at eZ
          refine ⟨Z, xs.map J.net, rfl, SqL.of eZ, ?_⟩
          refine ⟨_, rfl, D, rfl, ⟨_, SqL.of (s4 _ _ eD)⟩, fun Y hY => ?_⟩
          refine lc_list (K := K) (a := D) (xs := ts.map V.ref) (fun i H5 => Same H4 H5 ∧ H5 Y = some (.lst (((xs.take i).map J.low).map V.int))) ⟨same_new hY, upd_same⟩ (fun i H5 _ ⟨s5, _⟩ => SqL.of (s5 _ _ (s4 _ _ eD))) ?_ ?_
          · rintro i x H5 hi ⟨s5, eY⟩
            rw [List.getElem?_map] at hi
            obtain ⟨t, et, rfl⟩ := Option.map_eq_some_iff.mp hi
            have il : i < ts.length := (List.getElem?_eq_some_iff.mp et).1
            have ij : i < xs.length := by omega
            have ht := s5 _ _ (s4 _ _ (hts i t _ et (List.getElem?_eq_getElem ij)))
            refine ⟨rfl, ?_⟩
            unfold tYes
            refine iteT ?_
            refine ⟨_, rfl, _, _, _, _, rfl, rfl, SqT.of ht, rfl, _, eY, ?_, ?_, ?_⟩
            · rw [List.length_map, List.length_map, List.length_take]
              exact small1000 (by omega)
            · intro c o hc
              rw [upd_ne (ne_of_none hc hY)]
              exact s5 _ _ hc
            · rw [upd_same, take_step J.low (List.getElem?_eq_getElem ij), List.map_append]
              rfl
          · rintro H5 ⟨s5, eY⟩
            rw [List.length_map, lts, List.take_length] at eY
            refine ⟨Y, xs.map J.low, rfl, SqL.of eY, ?_⟩
            refine ⟨(by show 2 ≤ sizeLine; decide), fun u hu => ?_⟩
            refine q _ u (s2.trans (s4.trans (s5.trans (same_new hu)))) ?_
            rw [upd_same, J.netL_sum, J.lowL_sum]
  | rn k c x =>
    simp only [J.deep] at hn
    simp only [J.ok] at hok
    have hd0 := hd
    obtain ⟨a, v, rfl, hys, hx⟩ := rn_inv hd
    refine ⟨_, rfl, _, _, rfl, hd0, _, rfl, ?_⟩
    rw [J.toD]
    refine iteF ?_
    refine ⟨_, rfl, _, _, _, _, rfl, rfl, hys, rfl, rfl, _, rfl, ?_⟩
    rw [w_seq_no]
    refine iteF ?_
    refine ⟨_, rfl, _, _, _, _, rfl, rfl, hys, rfl, rfl, _, rfl, ?_⟩
    rw [w_par_no]
    refine iteF ?_
    refine ⟨_, rfl, _, _, _, _, rfl, rfl, hys, rfl, ?_⟩
    refine ⟨_, rfl, _, _, _, _, rfl, rfl, hys, rfl, v, x, rfl, hx, by omega, hok.2.1, fun H2 t s2 ht => ?_⟩
    refine ⟨t, _, rfl, SqT.of ht, rfl, _, _, rfl, _, _, rfl, rfl, ?_⟩
    have n60 := J.net_60 x hok.2.1
    have l60 := J.low_60 x hok.2.1
    have c30 := hok.1
    simp only [M60, M30] at n60 l60 c30
    have b1 : c.natAbs < 2 ^ 128 := Nat.lt_of_le_of_lt (show c.natAbs ≤ 1000000000000000000000000000000 by omega) (by decide)
    have b2 : (c - 1).natAbs < 2 ^ 128 := Nat.lt_of_le_of_lt (show (c - 1).natAbs ≤ 1000000000000000000000000000000 by omega) (by decide)
    have b3 : x.net.natAbs < 2 ^ 256 := Nat.lt_of_le_of_lt (show x.net.natAbs ≤ 1000000000000000000000000000000000000000000000000000000000000 by omega) (by decide)
    have b4 : x.low.natAbs < 2 ^ 256 := Nat.lt_of_le_of_lt (show x.low.natAbs ≤ 1000000000000000000000000000000000000000000000000000000000000 by omega) (by decide)
    refine ⟨_, rfl, rfl, _, rfl, ?_⟩
    rw [w_dec_int]
    refine ite2 (fun g => ?_) (fun g => ?_)
    · have g' : c = 0 := of_decide_eq_true g
      subst g'
      refine ⟨(by show 2 ≤ sizeLine; decide), fun u hu => ?_⟩
      refine q _ u (s2.trans (same_new hu)) ?_
      rw [upd_same]
      cases k <;> simp only [J.net, J.low, Int.zero_mul, if_true]
    · have g' : c ≠ 0 := fun z => g (decide_eq_true z)
      refine ⟨_, rfl, _, _, _, _, rfl, rfl, same_sqT s2 hys, rfl, rfl, _, rfl, ?_⟩
      rw [w_copies]
      cases k with
      | true =>
        refine iteT ?_
        refine ⟨_, rfl, _, rfl, _, _, rfl, rfl, wide_mul (a := 128) (b := 256) b1 b3 (by decide) (by decide) (by decide), _, rfl, _, rfl, _, _, rfl, rfl, wide_mul (a := 128) (b := 256) b1 b4 (by decide) (by decide) (by decide), (by show 2 ≤ sizeLine; decide), fun u hu => ?_⟩
        refine q _ u (s2.trans (same_new hu)) ?_
        rw [upd_same]
        simp only [J.net, J.low]
      | false =>
        refine iteF ?_
        refine ⟨_, rfl, _, rfl, _, _, rfl, rfl, wide_mul (a := 128) (b := 256) b1 b3 (by decide) (by decide) (by decide), _, rfl, _, rfl, _, _, rfl, rfl, _, rfl, _, _, rfl, ?_⟩
        refine ⟨_, _, rfl, rfl, wide_mul (a := 128) (b := 256) b2 (by split <;> first | exact b3 | decide) (by decide) (by decide) (by decide), ?_⟩
        refine ⟨_, _, rfl, rfl, (by show 2 ≤ sizeLine; decide), fun u hu => ?_⟩
        refine q _ u (s2.trans (same_new hu)) ?_
        rw [upd_same, min_ite]
        simp only [J.net, J.low]
        rw [if_neg g']
theorem ok_nl (T : Txt K mg) : ∀ n : Nat, FnOk P w K mg base CX0 (2 * n + 1) T.f__net_and_lowest T.d__net_and_lowest ["job"] (spNl K n)
  | 0 => by
    have no : ∀ vs H Q E, ¬ spNl K 0 vs H Q E := by
      rintro vs H Q E ⟨v, j, _, _, h, _⟩
      have := J.deep_pos j
      omega
    exact ⟨fun vs H Q E h => absurd h (no vs H Q E), fun A outer s H args us vs Q E _ _ _ _ h => absurd h (no vs H Q E)⟩
  | n + 1 => ok_nl_next T (ok_nl T n)
def spNet (K : PySem.W.Frag) : Sp := fun vs H Q _ => ∃ (v : V) (j : J), vs = [v] ∧ Dp K H v j.toD ∧ j.deep ≤ 20 ∧ (szJ j 400 13).isSome = true ∧ ∀ H', Same H H' → Q (.int j.net) H'
def spLow (K : PySem.W.Frag) : Sp := fun vs H Q _ => ∃ (v : V) (j : J), vs = [v] ∧ Dp K H v j.toD ∧ j.deep ≤ 20 ∧ (szJ j 400 13).isSome = true ∧ ∀ H', Same H H' → Q (.int j.low) H'
theorem ok_net (T : Txt K mg) : FnOk P w K mg base CX0 44 T.f_net T.d_net ["job"] (spNet K) := by
  have g_checked_sizes := ok_checked (P := P) (w := w) (base := base) T
  have g__net_and_lowest := ok_nl (P := P) (w := w) (base := base) T 20
  refine T.F_net.ok sc_net (fun vs H Q E h => ?_) (fun cdv A outer s H vs Q E hr h => ?_)
  · obtain ⟨v, j, rfl, _⟩ := h
    rfl
  obtain ⟨v, j, rfl, hd, hn, hz, q⟩ := h
  refine ⟨_, (pss_cons (ps_expr (pe_call g_checked_sizes (hr.mono (by omega)) rfl T.m_checked_sizes T.F_checked_sizes.kp T.b_checked_sizes .nil pass0 (pa_cons (pv 0) pa_nil)))
      (pss_one (ps_ret (pe_ix (r := rIxT K) ix_tup (pe_call g__net_and_lowest (hr.mono (by omega)) rfl T.m__net_and_lowest T.F__net_and_lowest.kp T.b__net_and_lowest .nil pass0 (pa_cons (pv 0) pa_nil)) pe_int (fun _ _ => rfl))))), ?_⟩
  obtain ⟨⟨a, b⟩, e⟩ := Option.isSome_iff_exists.mp hz
  refine ⟨_, rfl, v, j, a, b, rfl, hd, hn, e, fun H1 t s1 _ => ?_⟩
  refine ⟨_, rfl, v, j, rfl, dp_same s1 hd, hn, (szJ_inv j _ _ _ _ e).1, fun H2 t2 s2 ht2 => ?_⟩
  exact ⟨_, _, _, _, rfl, rfl, SqT.of ht2, rfl, q _ (s1.trans s2)⟩
theorem ok_lowest (T : Txt K mg) : FnOk P w K mg base CX0 44 T.f_lowest T.d_lowest ["job"] (spLow K) := by
  have g_checked_sizes := ok_checked (P := P) (w := w) (base := base) T
  have g__net_and_lowest := ok_nl (P := P) (w := w) (base := base) T 20
  refine T.F_lowest.ok sc_lowest (fun vs H Q E h => ?_) (fun cdv A outer s H vs Q E hr h => ?_)
  · obtain ⟨v, j, rfl, _⟩ := h
    rfl
  obtain ⟨v, j, rfl, hd, hn, hz, q⟩ := h
  refine ⟨_, (pss_cons (ps_expr (pe_call g_checked_sizes (hr.mono (by omega)) rfl T.m_checked_sizes T.F_checked_sizes.kp T.b_checked_sizes .nil pass0 (pa_cons (pv 0) pa_nil)))
      (pss_one (ps_ret (pe_ix (r := rIxT K) ix_tup (pe_call g__net_and_lowest (hr.mono (by omega)) rfl T.m__net_and_lowest T.F__net_and_lowest.kp T.b__net_and_lowest .nil pass0 (pa_cons (pv 0) pa_nil)) pe_int (fun _ _ => rfl))))), ?_⟩
  obtain ⟨⟨a, b⟩, e⟩ := Option.isSome_iff_exists.mp hz
  refine ⟨_, rfl, v, j, a, b, rfl, hd, hn, e, fun H1 t s1 _ => ?_⟩
  refine ⟨_, rfl, v, j, rfl, dp_same s1 hd, hn, (szJ_inv j _ _ _ _ e).1, fun H2 t2 s2 ht2 => ?_⟩
  exact ⟨_, _, _, _, rfl, rfl, SqT.of ht2, rfl, q _ (s1.trans s2)⟩
end
/-! block Ext: _law_extent, net and lowest usage by parts (behind bNet) -/
theorem mul_min {m b : Int} (h : 0 ≤ m) : m * min 0 b = min 0 (m * b) := by
  by_cases c : 0 ≤ b
  · have h1 : min 0 b = 0 := by omega
    have h2 : 0 ≤ m * b := Int.mul_nonneg h c
    rw [h1]
    omega
  · have h1 : min 0 b = b := by omega
    have h2 : m * b ≤ 0 := Int.mul_nonpos_of_nonneg_of_nonpos h (by omega)
    rw [h1]
    omega
def lowBy (k : Bool) (total low : Int) (r : List J) : Int := if k then low + J.lowL r else lowFrom total low r
def spExt (K : PySem.W.Frag) (n : Nat) : Sp := fun vs H Q _ => ∃ (v : V) (j : J), vs = [v] ∧ Dp K H v j.toD ∧ j.deep ≤ n ∧ j.ok ∧ ∀ (H' : Hp) (l : Addr), Same H H' → H' l = some (.lst [.int j.net, .int j.low]) → Q (.ref l) H'
section
variable {P : Program} {w : World} {K : PySem.W.Frag} {mg : Str → Option Value} {base : Heap}
theorem ok_ext_next (T : Txt K mg) {n : Nat} (g__law_extent : FnOk P w K mg base CX0 n T.f__law_extent T.d__law_extent ["_law_job_here"] (spExt K n)) :
    FnOk P w K mg base CX0 (n + 1) T.f__law_extent T.d__law_extent ["_law_job_here"] (spExt K (n + 1)) := by
  refine T.F__law_extent.ok sc__law_extent (fun vs H Q E h => ?_) (fun cdv A outer s H vs Q E hr h => ?_)
  · obtain ⟨v, j, rfl, _⟩ := h
    rfl
  obtain ⟨v, j, rfl, hd, hn, hok, q⟩ := h
  refine ⟨_, (pss_cons (ps_if (pt_not (pt_val (pe_callB (r := rIsD K) call_isD (by rfl) T.n_isinstance (by decide +kernel) (pa_cons (pv 0) (pa_cons (pe_bltn (v := .ty "tuple") (by rfl) T.n_tuple (by decide +kernel) rfl) pa_nil))))) (pss_one (ps_ret (pe_lst (pa_cons (pv 0) (pa_cons (pe_callB (call_min2 rfl) (by rfl) T.n_min (by decide +kernel) (pa_cons pe_int (pa_cons (pv 0) pa_nil))) pa_nil))))) pss_nil)
      (pss_cons (ps_if (pt_cmpR (r := rIn K false) op_in_seq (pe_ix (r := rIxT K) ix_tup (pv 0) pe_int (fun _ _ => rfl)) (pe_tup (pa_cons pe_str (pa_cons pe_str pa_nil))) (by rfl)) (pss_cons (ps_asg (pe_call g__law_extent (hr.mono (by omega)) rfl T.m__law_extent T.F__law_extent.kp T.b__law_extent .nil pass0 (pa_cons (pe_ix (r := rIxT K) ix_tup (pv 0) pe_int (fun _ _ => rfl)) pa_nil)) (pg_lst (by rfl) (pgs_cons (pg_name (i := 1) sc__law_extent.nd rfl (Or.inl rfl)) (pgs_cons (pg_name (i := 2) sc__law_extent.nd rfl (Or.inl rfl)) pgs_nil))))
        (pss_cons (ps_if (pt_cmpR (r := rEqD K) (op_eqD hr.units) (pe_ix (r := rIxT K) ix_tup (pv 0) pe_int (fun _ _ => rfl)) pe_int (nomark _)) (pss_one (ps_ret (pe_lst (pa_cons pe_int (pa_cons pe_int pa_nil))))) pss_nil)
        (pss_cons (ps_if (pt_cmpR op_eq (pe_ix (r := rIxT K) ix_tup (pv 0) pe_int (fun _ _ => rfl)) pe_str (nomark _)) (pss_one (ps_ret (pe_lst (pa_cons (pe_op op_mulW (pe_ix (r := rIxT K) ix_tup (pv 0) pe_int (fun _ _ => rfl)) (pv 1)) (pa_cons (pe_op op_mulW (pe_ix (r := rIxT K) ix_tup (pv 0) pe_int (fun _ _ => rfl)) (pv 2)) pa_nil))))) pss_nil)
        (pss_one (ps_ret (pe_lst (pa_cons (pe_op op_mulW (pe_ix (r := rIxT K) ix_tup (pv 0) pe_int (fun _ _ => rfl)) (pv 1)) (pa_cons (pe_callB (call_min2 rfl) (by rfl) T.n_min (by decide +kernel) (pa_cons (pv 2) (pa_cons (pe_op op_add (pe_op op_mulW (pe_op op_sub (pe_ix (r := rIxT K) ix_tup (pv 0) pe_int (fun _ _ => rfl)) pe_int) (pv 1)) (pv 2)) pa_nil))) pa_nil)))))))) pss_nil)
      (pss_cons (ps_asg (pe_tup (pa_cons pe_int (pa_cons pe_int pa_nil))) (pg_tup (by rfl) (pgs_cons (pg_name (i := 1) sc__law_extent.nd rfl (Or.inl rfl)) (pgs_cons (pg_name (i := 2) sc__law_extent.nd rfl (Or.inl rfl)) pgs_nil))))
      (pss_cons (ps_for PassesOwn.never rfl (pi_tup (pe_ix (r := rIxT K) ix_tup (pv 0) pe_int (fun _ _ => rfl))) (pg_name (i := 3) sc__law_extent.nd rfl (Or.inl rfl))
        (pss_cons (ps_asg (pe_call g__law_extent (hr.mono (by omega)) rfl T.m__law_extent T.F__law_extent.kp T.b__law_extent .nil pass0 (pa_cons (pv 3) pa_nil)) (pg_lst (by rfl) (pgs_cons (pg_name (i := 4) sc__law_extent.nd rfl (Or.inl rfl)) (pgs_cons (pg_name (i := 5) sc__law_extent.nd rfl (Or.inl rfl)) pgs_nil))))
        (pss_cons (ps_set (i := 2) sc__law_extent.nd rfl (Or.inl rfl) (pe_ifExp (pt_cmpR op_eq (pe_ix (r := rIxT K) ix_tup (pv 0) pe_int (fun _ _ => rfl)) pe_str (nomark _)) (pe_op op_add (pv 2) (pv 5)) (pe_callB (call_min2 rfl) (by rfl) T.n_min (by decide +kernel) (pa_cons (pv 2) (pa_cons (pe_op op_add (pv 1) (pv 5)) pa_nil)))))
        (pss_one (ps_set (i := 1) sc__law_extent.nd rfl (Or.inl rfl) (pe_op op_add (pv 1) (pv 4)))))))
      (pss_one (ps_ret (pe_lst (pa_cons (pv 1) (pa_cons (pv 2) pa_nil))))))))), ?_⟩
  cases j with
  | st i =>
    simp only [J.net, J.low] at q
    refine ⟨_, rfl, _, _, _, _, rfl, hd, kit_tuple _, _, rfl, ?_⟩
    obtain rfl := dp_int_inv hd
    refine iteT ?_
    refine ⟨_, rfl, _, rfl, _, _, rfl, (by show 2 ≤ sizeLine; decide), fun l hl => ?_⟩
    refine q _ l (same_new hl) ?_
    rw [upd_same, min_ite]
  | ps k xs =>
    simp only [J.deep] at hn
    simp only [J.ok] at hok
    have hd0 := hd
    obtain ⟨a, b, vs, rfl, hys, hvs, hall⟩ := ps_inv hd
    refine ⟨_, rfl, _, _, _, _, rfl, hd0, kit_tuple _, _, rfl, ?_⟩
    rw [J.toD]
    refine iteF ?_
    refine ⟨_, rfl, _, _, _, _, rfl, rfl, hys, rfl, (by show 2 ≤ sizeLine; decide), fun t ht => ?_⟩
    refine ⟨t, _, rfl, .inr (SqT.of upd_same), rfl, rfl, _, rfl, ?_⟩
    have s1 : Same H (upd H t (.tup [.str "repeat", .str "copies"])) := same_new ht
    show if inV (.str (kwP k)) [.str "repeat", .str "copies"] = true then _ else _
    rw [w_in_rounds_no]
    refine iteF ?_
    generalize (upd H t (.tup [.str "repeat", .str "copies"])) = H1 at s1 ⊢
    refine ⟨(by show 2 ≤ sizeLine; decide), fun t2 ht2 => ?_⟩
    have s2 : Same H (upd H1 t2 (.tup [.int 0, .int 0])) := s1.trans (same_new ht2)
    have q2 : SqT K (upd H1 t2 (.tup [.int 0, .int 0])) t2 [.int 0, .int 0] := SqT.of upd_same
    generalize (upd H1 t2 (.tup [.int 0, .int 0])) = H2 at s2 q2 ⊢
    refine ⟨t2, _, rfl, q2, rfl, _, _, rfl, _, _, rfl, rfl, ?_⟩
    refine ⟨_, rfl, _, _, _, _, rfl, rfl, same_sqT s2 hys, rfl, b, rfl, ⟨vs, same_sqT s2 hvs⟩, ?_⟩
    refine for_tup (K := K) (a := b) (xs := vs) (fun i σ H' => ∃ (total low : Int) (y3 y4 y5 : Option V), σ = [some (.ref a), some (.int total), some (.int low), y3, y4, y5] ∧ Same H H' ∧
      total + J.netL (xs.drop i) = J.netL xs ∧ lowBy k total low (xs.drop i) = lowBy k 0 0 xs) ⟨0, 0, none, none, none, rfl, s2, by rw [List.drop_zero]; omega, rfl⟩ (fun i σ H' _ ⟨_, _, _, _, _, _, s3, _⟩ => same_sqT s3 hvs) ?_ ?_
    · rintro i x σ H' hi ⟨total, low, y3, y4, y5, rfl, s3, e1, e2⟩
      obtain ⟨j, ej, mj, dj⟩ := parts_at hall hi
      obtain ⟨hij, ej'⟩ := List.getElem?_eq_some_iff.mp ej
      have hdrop : xs.drop i = j :: xs.drop (i + 1) := by rw [← ej']; exact List.drop_eq_getElem_cons hij
      rw [hdrop] at e1 e2
      simp only [J.netL] at e1
      refine ⟨_, rfl, x, j, rfl, dp_same s3 dj, by have := deep_mem mj; omega, ok_mem hok.2.1 mj, fun H3 l s4 hl => ?_⟩
      refine ⟨l, _, rfl, SqL.of hl, rfl, _, _, rfl, _, _, rfl, rfl, ?_⟩
      have s34 := s3.trans s4
      refine ⟨_, rfl, _, _, _, _, rfl, rfl, same_sqT s34 hys, rfl, rfl, _, rfl, ?_⟩
      rw [w_par]
      cases k with
      | true =>
        refine iteT ?_
        refine ⟨_, rfl, _, rfl, _, _, rfl, rfl, ?_⟩
        refine ⟨_, rfl, _, rfl, _, _, rfl, rfl, ?_⟩
        refine ⟨_, _, _, _, _, rfl, s34, by show total + j.net + J.netL (xs.drop (i + 1)) = J.netL xs; omega, ?_⟩
        simp only [lowBy, if_true, J.lowL] at e2 ⊢
        omega
      | false =>
        refine iteF ?_
        refine ⟨_, rfl, _, rfl, _, rfl, _, _, rfl, rfl, _, _, rfl, ?_⟩
        refine ⟨_, rfl, _, rfl, _, _, rfl, rfl, ?_⟩
        refine ⟨_, _, _, _, _, rfl, s34, by show total + j.net + J.netL (xs.drop (i + 1)) = J.netL xs; omega, ?_⟩
        rw [min_ite]
        exact e2
    · rintro σ H' ⟨total, low, y3, y4, y5, rfl, s3, e1, e2⟩
      have el : vs.length = xs.length := parts_len hall
      rw [el, List.drop_length] at e1 e2
      simp only [J.netL] at e1
      refine ⟨_, rfl, _, rfl, (by show 2 ≤ sizeLine; decide), fun l hl => ?_⟩
      refine q _ l (s3.trans (same_new hl)) ?_
      rw [upd_same]
      have x1 : total = J.netL xs := by omega
      cases k with
      | true =>
        simp only [lowBy, if_true, J.lowL] at e2
        have x2 : low = J.lowL xs := by omega
        simp only [J.net, J.low, x1, x2]
      | false =>
        have l1 := lowFrom_eq xs 0 0 hok.2.1 (by omega)
        have l2 := J.lowS_le xs hok.2.1
        have e3 : low = lowFrom 0 0 xs := e2
        have x2 : low = J.lowS xs := by omega
        simp only [J.net, J.low, x1, x2]
  | rn k c x =>
    simp only [J.deep] at hn
    simp only [J.ok] at hok
    have hd0 := hd
    obtain ⟨a, v, rfl, hys, hx⟩ := rn_inv hd
    refine ⟨_, rfl, _, _, _, _, rfl, hd0, kit_tuple _, _, rfl, ?_⟩
    rw [J.toD]
    refine iteF ?_
    refine ⟨_, rfl, _, _, _, _, rfl, rfl, hys, rfl, (by show 2 ≤ sizeLine; decide), fun t ht => ?_⟩
    refine ⟨t, _, rfl, .inr (SqT.of upd_same), rfl, rfl, _, rfl, ?_⟩
    have s1 : Same H (upd H t (.tup [.str "repeat", .str "copies"])) := same_new ht
    show if inV (.str (kwR k)) [.str "repeat", .str "copies"] = true then _ else _
    rw [w_in_rounds]
    refine iteT ?_
    generalize (upd H t (.tup [.str "repeat", .str "copies"])) = H1 at s1 ⊢
    refine ⟨_, rfl, _, _, _, _, rfl, rfl, same_sqT s1 hys, rfl, v, x, rfl, dp_same s1 hx, by omega, hok.2.1, fun H2 l s2 hl => ?_⟩
    refine ⟨l, _, rfl, SqL.of hl, rfl, _, _, rfl, _, _, rfl, rfl, ?_⟩
    have s12 := s1.trans s2
    have n60 := J.net_60 x hok.2.1
    have l60 := J.low_60 x hok.2.1
    have c30 := hok.1
    simp only [M60, M30] at n60 l60 c30
    have b1 : c.natAbs < 2 ^ 128 := Nat.lt_of_le_of_lt (show c.natAbs ≤ 1000000000000000000000000000000 by omega) (by decide)
    have b2 : (c - 1).natAbs < 2 ^ 128 := Nat.lt_of_le_of_lt (show (c - 1).natAbs ≤ 1000000000000000000000000000000 by omega) (by decide)
    have b3 : x.net.natAbs < 2 ^ 256 := Nat.lt_of_le_of_lt (show x.net.natAbs ≤ 1000000000000000000000000000000000000000000000000000000000000 by omega) (by decide)
    have b4 : x.low.natAbs < 2 ^ 256 := Nat.lt_of_le_of_lt (show x.low.natAbs ≤ 1000000000000000000000000000000000000000000000000000000000000 by omega) (by decide)
    refine ⟨_, rfl, _, _, _, _, rfl, rfl, same_sqT s12 hys, rfl, .int c, .int 0, .int _, .int _, by simp [SeqAt.shaped, PyData.canLay0, PyData.depth], by decide, _, rfl, ?_⟩
    have ez : (PyData.int c).eqv (.int 0) = decide (c = 0) := by
      by_cases h : c = 0 <;> simp [PyData.eqv, h]
    rw [ez]
    refine ite2 (fun g => ?_) (fun g => ?_)
    · have g' : c = 0 := of_decide_eq_true g
      subst g'
      refine ⟨(by show 2 ≤ sizeLine; decide), fun u hu => ?_⟩
      refine q _ u (s12.trans (same_new hu)) ?_
      rw [upd_same]
      cases k <;> simp only [J.net, J.low, Int.zero_mul, if_true]
    · have g' : c ≠ 0 := fun z => g (decide_eq_true z)
      refine ⟨_, rfl, _, _, _, _, rfl, rfl, same_sqT s12 hys, rfl, rfl, _, rfl, ?_⟩
      rw [w_copies]
      cases k with
      | true =>
        refine iteT ?_
        refine ⟨_, rfl, _, _, _, _, rfl, rfl, same_sqT s12 hys, rfl, _, rfl, _, _, rfl, rfl, wide_mul (a := 128) (b := 256) b1 b3 (by decide) (by decide) (by decide), _, rfl, _, _, _, _, rfl, rfl, same_sqT s12 hys, rfl, _, rfl, _, _, rfl, rfl, wide_mul (a := 128) (b := 256) b1 b4 (by decide) (by decide) (by decide), (by show 2 ≤ sizeLine; decide), fun u hu => ?_⟩
        refine q _ u (s12.trans (same_new hu)) ?_
        rw [upd_same]
        simp only [J.net, J.low]
      | false =>
        refine iteF ?_
        refine ⟨_, rfl, _, _, _, _, rfl, rfl, same_sqT s12 hys, rfl, _, rfl, _, _, rfl, rfl, wide_mul (a := 128) (b := 256) b1 b3 (by decide) (by decide) (by decide), _, rfl, _, rfl, _, _, _, _, rfl, rfl, same_sqT s12 hys, rfl, _, _, rfl, rfl, _, rfl, _, _, rfl, rfl, wide_mul (a := 128) (b := 256) b2 b3 (by decide) (by decide) (by decide), _, rfl, _, _, rfl, rfl, _, _, rfl, (by show 2 ≤ sizeLine; decide), fun u hu => ?_⟩
        refine q _ u (s12.trans (same_new hu)) ?_
        rw [upd_same, min_ite]
        simp only [J.net, J.low]
        rw [if_neg g', mul_min (show 0 ≤ c - 1 by omega)]
        have e : min x.low ((c - 1) * x.net + x.low) = x.low + min 0 ((c - 1) * x.net) := by omega
        rw [e]
theorem ok_ext (T : Txt K mg) : ∀ n : Nat, FnOk P w K mg base CX0 n T.f__law_extent T.d__law_extent ["_law_job_here"] (spExt K n)
  | 0 => by
    have no : ∀ vs H Q E, ¬ spExt K 0 vs H Q E := by
      rintro vs H Q E ⟨v, j, _, _, h, _⟩
      have := J.deep_pos j
      omega
    exact ⟨fun vs H Q E h => absurd h (no vs H Q E), fun A outer s H args us vs Q E _ _ _ _ h => absurd h (no vs H Q E)⟩
  | n + 1 => ok_ext_next T (ok_ext T n)
end
/-! block Steps2: _law_steps of jobs that are perhaps none -/
theorem J.stepsL_sum : ∀ xs : List J, (xs.map J.steps).sum = J.stepsL xs
  | [] => by simp [J.stepsL]
  | x :: xs => by simp only [List.map_cons, List.sum_cons, J.stepsL, J.stepsL_sum xs]
theorem J.deepL_mem : ∀ {l : List J} {y : J}, y ∈ l → y.deep ≤ J.deepL l
  | z :: r, y, h => by
    simp only [J.deepL]
    rcases List.mem_cons.mp h with rfl | h
    · omega
    · have := J.deepL_mem h
      omega
mutual
/-- no number of steps beyond 10 ** 30 within it -/
def J.stb : J → Prop
  | .st _ => True
  | .ps _ xs => xs.length ≤ 400 ∧ J.stbL xs
  | .rn _ n x => (0 ≤ n ∧ n ≤ M30) ∧ x.stb ∧ (0 ≤ x.steps ∧ x.steps ≤ M30)
def J.stbL : List J → Prop
  | [] => True
  | x :: xs => x.stb ∧ J.stbL xs
end
theorem J.stbL_mem : ∀ {l : List J} {y : J}, J.stbL l → y ∈ l → y.stb
  | z :: r, y, o, h => by
    simp only [J.stbL] at o
    rcases List.mem_cons.mp h with rfl | h
    · exact o.1
    · exact J.stbL_mem o.2 h
mutual
theorem J.stb_ok : ∀ j : J, j.ok → j.stb
  | .st _, _ => trivial
  | .ps _ xs, h => by
    simp only [J.ok] at h
    exact ⟨by omega, J.stbL_ok xs h.2.1⟩
  | .rn _ n x, h => by
    simp only [J.ok] at h
    exact ⟨h.1, J.stb_ok x h.2.1, J.steps_nn x h.2.1, J.steps_le x h.2.1⟩
theorem J.stbL_ok : ∀ xs : List J, J.okL xs → J.stbL xs
  | [], _ => trivial
  | x :: xs, h => by
    simp only [J.okL] at h
    exact ⟨J.stb_ok x h.1, J.stbL_ok xs h.2⟩
end
/-- the i-th part's data -/
theorem part_at {K : PySem.W.Frag} {H : Hp} {xs : List J} {vs : List V} {i : Nat} {x : V} (hall : DpAll K H vs (J.toDs xs)) (hi : vs[i]? = some x) : ∃ j, xs[i]? = some j ∧ j ∈ xs ∧ Dp K H x j.toD := by
  obtain ⟨d, ed, hd⟩ := dpAll_get hall hi
  rw [J.toDs_eq, List.getElem?_map] at ed
  cases e : xs[i]? with
  | none =>
    rw [e] at ed
    cases ed
  | some j =>
    rw [e] at ed
    obtain rfl := (Option.some.inj ed).symm
    exact ⟨j, rfl, List.mem_of_getElem? e, hd⟩
theorem take_map {α β : Type} {xs : List α} {i : Nat} {j : α} (f : α → β) (e : xs[i]? = some j) : (xs.take (i + 1)).map f = (xs.take i).map f ++ [f j] := by
  rw [List.take_add_one, e, List.map_append]
  rfl
theorem kwP_in (k : Bool) : inV (.str (kwP k)) [.str "seq", .str "par"] = true := by cases k <;> decide +kernel
theorem kwR_in (k : Bool) : inV (.str (kwR k)) [.str "seq", .str "par"] = false := by cases k <;> decide +kernel
theorem pow4_mono {a b : Nat} (h : a ≤ b) : (4 : Int) ^ a ≤ 4 ^ b := by
  induction h with
  | refl => exact Int.le_refl _
  | @step m _ ih =>
    refine Int.le_trans ih ?_
    rw [Int.pow_succ]
    have : (0 : Int) ≤ 4 ^ m := Int.le_of_lt (Int.pow_pos (by decide))
    omega
mutual
/-- a drawn job with few rounds has few steps -/
theorem J.few : ∀ (j : J) (cs : List Int), j.small → j.cin cs → (∀ c ∈ cs, 0 ≤ c ∧ c ≤ 4) → j.deep ≤ 40 → j.stb ∧ 0 ≤ j.steps ∧ j.steps ≤ 4 ^ j.deep
  | .st _, _, _, _, _, _ => by
    simp only [J.stb, J.steps, J.deep]
    exact ⟨trivial, by decide, by decide⟩
  | .ps k xs, cs, h, hc, hb, hd => by
    simp only [J.small] at h
    simp only [J.cin] at hc
    simp only [J.deep] at hd
    obtain ⟨h1, h2, h3⟩ := J.fewL xs cs h.2 hc hb (by omega)
    simp only [J.stb, J.steps, J.deep]
    refine ⟨⟨by omega, h1⟩, h2, Int.le_trans h3 ?_⟩
    rw [Int.pow_succ]
    have p : (0 : Int) ≤ 4 ^ J.deepL xs := Int.le_of_lt (Int.pow_pos (by decide))
    exact Int.mul_le_mul_of_nonneg_left (by omega) p
  | .rn k n x, cs, h, hc, hb, hd => by
    simp only [J.small] at h
    simp only [J.cin] at hc
    simp only [J.deep] at hd
    obtain ⟨h1, h2, h3⟩ := J.few x cs h.2 hc.2 hb (by omega)
    have hn := hb n hc.1
    have p40 : (4 : Int) ^ x.deep ≤ 4 ^ 40 := pow4_mono (by omega)
    have e40 : (4 : Int) ^ 40 ≤ M30 := by decide
    simp only [J.stb, J.steps, J.deep]
    refine ⟨⟨by simp only [M30]; omega, h1, h2, by omega⟩, Int.mul_nonneg h2 hn.1, ?_⟩
    rw [Int.pow_succ]
    exact Int.mul_le_mul h3 hn.2 hn.1 (Int.le_of_lt (Int.pow_pos (by decide)))
theorem J.fewL : ∀ (xs : List J) (cs : List Int), J.smallL xs → J.cinL cs xs → (∀ c ∈ cs, 0 ≤ c ∧ c ≤ 4) → J.deepL xs ≤ 40 → J.stbL xs ∧ 0 ≤ J.stepsL xs ∧ J.stepsL xs ≤ 4 ^ J.deepL xs * xs.length
  | [], _, _, _, _, _ => by simp [J.stbL, J.stepsL]
  | x :: xs, cs, h, hc, hb, hd => by
    simp only [J.smallL] at h
    simp only [J.cinL] at hc
    simp only [J.deepL] at hd ⊢
    obtain ⟨h1, h2, h3⟩ := J.few x cs h.1 hc.1 hb (by omega)
    obtain ⟨g1, g2, g3⟩ := J.fewL xs cs h.2 hc.2 hb (by omega)
    have p1 : (4 : Int) ^ x.deep ≤ 4 ^ (max x.deep (J.deepL xs)) := pow4_mono (by omega)
    have p2 : (4 : Int) ^ J.deepL xs ≤ 4 ^ (max x.deep (J.deepL xs)) := pow4_mono (by omega)
    have p3 := Int.mul_le_mul_of_nonneg_right p2 (show (0 : Int) ≤ xs.length by omega)
    simp only [J.stbL, J.stepsL, List.length_cons]
    refine ⟨⟨h1, g1⟩, by omega, ?_⟩
    rw [Int.natCast_add, Int.mul_add]
    simp only [Int.natCast_one, Int.mul_one]
    omega
end
theorem ls_ok {j : J} (h : j.ok) : j.stb := J.stb_ok j h
def spLS (K : PySem.W.Frag) (n : Nat) : Sp := fun vs H Q _ => ∃ (v : V) (j : J), vs = [v] ∧ Dp K H v j.toD ∧ j.deep ≤ n ∧ j.stb ∧ ∀ H', Same H H' → Q (.int j.steps) H'
section
variable {P : Program} {w : World} {K : PySem.W.Frag} {mg : Str → Option Value} {base : Heap}
theorem ok_ls_next (T : Txt K mg) {n : Nat} (g__law_steps : FnOk P w K mg base CX0 n T.f__law_steps T.d__law_steps ["_law_job_here"] (spLS K n)) :
    FnOk P w K mg base CX0 (n + 1) T.f__law_steps T.d__law_steps ["_law_job_here"] (spLS K (n + 1)) := by
  refine T.F__law_steps.ok sc__law_steps (fun vs H Q E h => ?_) (fun cdv A outer s H vs Q E hr h => ?_)
  · obtain ⟨v, j, rfl, _⟩ := h
    rfl
  obtain ⟨v, j, rfl, hd, hn, hok, q⟩ := h
  refine ⟨_, (pss_cons (ps_if (pt_not (pt_val (pe_callB (r := rIsD K) call_isD (by rfl) T.n_isinstance (by decide +kernel) (pa_cons (pv 0) (pa_cons (pe_bltn (v := .ty "tuple") (by rfl) T.n_tuple (by decide +kernel) rfl) pa_nil))))) (pss_one (ps_ret pe_int)) pss_nil)
      (pss_cons (ps_if (pt_cmpR (r := rIn K false) op_in_seq (pe_ix (r := rIxT K) ix_tup (pv 0) pe_int (fun _ _ => rfl)) (pe_tup (pa_cons pe_str (pa_cons pe_str pa_nil))) (by rfl)) (pss_one (ps_ret (pe_callB (r := rSum K) (cr_sum rfl) (by rfl) T.n_sum (by decide +kernel) (pa_cons (pe_lc (own := [("_law_part", 1)]) (g := (gName 1)) (by rfl) sc__law_steps.nd (pi_tup (pe_ix (r := rIxT K) ix_tup (pv 0) pe_int (fun _ _ => rfl))) (blkOk_by (N := N__law_steps) (sc := (defScope s__law_steps)) (by decide +kernel)) (fun _ _ _ _ _ => (pg_name (i := 1) sc__law_steps.nd rfl (Or.inl rfl))) (fun _ _ _ _ _ => pts_nil) (fun _ _ _ _ _ => (pe_call g__law_steps (hr.mono (by omega)) rfl T.m__law_steps T.F__law_steps.kp T.b__law_steps .nil pass0 (pa_cons (pv 1) pa_nil)))) pa_nil)))) pss_nil)
      (pss_one (ps_ret (pe_op op_mulW (pe_ix (r := rIxT K) ix_tup (pv 0) pe_int (fun _ _ => rfl)) (pe_call g__law_steps (hr.mono (by omega)) rfl T.m__law_steps T.F__law_steps.kp T.b__law_steps .nil pass0 (pa_cons (pe_ix (r := rIxT K) ix_tup (pv 0) pe_int (fun _ _ => rfl)) pa_nil))))))), ?_⟩
  cases j with
  | st i =>
    refine ⟨_, rfl, _, _, _, _, rfl, hd, kit_tuple _, _, rfl, ?_⟩
    refine iteT ?_
    simp only [J.steps] at q
    exact q _ (Same.refl _)
  | ps k xs =>
    simp only [J.deep] at hn
    simp only [J.stb] at hok
    simp only [J.steps] at q
    rw [J.toD] at hd
    obtain ⟨a, ys, rfl, hys, hall⟩ := dp_tup_inv hd
    refine ⟨_, rfl, _, _, _, _, rfl, hd, kit_tuple _, _, rfl, ?_⟩
    refine iteF ?_
    cases hall with
    | cons e1 hall =>
      obtain rfl := dp_str_inv e1
      cases hall with
      | cons e2 hall =>
        cases hall
        obtain ⟨b, vs, rfl, hvs, hall2⟩ := dp_tup_inv e2
        refine ⟨_, rfl, _, _, _, _, rfl, rfl, hys, rfl, (by show 2 ≤ sizeLine; decide), fun t ht => ?_⟩
        refine ⟨t, _, rfl, .inr (SqT.of upd_same), rfl, rfl, _, rfl, ?_⟩
        have s1 : Same H (upd H t (.tup [.str "seq", .str "par"])) := same_new ht
        show if inV (.str (kwP k)) [.str "seq", .str "par"] = true then _ else _
        rw [kwP_in]
        refine iteT ?_
        generalize (upd H t (.tup [.str "seq", .str "par"])) = H1 at s1 ⊢
        refine ⟨_, rfl, _, _, _, _, rfl, rfl, same_sqT s1 hys, rfl, b, rfl, ⟨vs, same_sqT s1 hvs⟩, fun D hD => ?_⟩
        refine lc_tup (K := K) (a := b) (xs := vs) (fun i H' => Same H1 H' ∧ H' D = some (.lst (((xs.take i).map J.steps).map V.int))) ?_ ?_ ?_ ?_
        · exact ⟨same_new hD, upd_same⟩
        · rintro i H' _ ⟨s2, _⟩
          exact same_sqT s2 (same_sqT s1 hvs)
        · rintro i x H' hi ⟨s2, eD⟩
          obtain ⟨j, ej, mj, dj⟩ := part_at hall2 hi
          refine ⟨rfl, ?_⟩
          unfold tYes
          refine iteT ?_
          refine ⟨_, rfl, x, j, rfl, dp_same (s1.trans s2) dj, by have := J.deepL_mem mj; omega, J.stbL_mem hok.2 mj, fun H3 s3 => ?_⟩
          refine ⟨_, s3 _ _ eD, ?_, ?_, ?_⟩
          · rw [List.length_map, List.length_map, List.length_take]
            have : i < vs.length := (List.getElem?_eq_some_iff.mp hi).1
            exact small1000 (by omega)
          · intro c o hc
            rw [upd_ne (ne_of_none hc hD)]
            exact s3 _ _ (s2 _ _ hc)
          · rw [upd_same, take_map J.steps ej, List.map_append]
            rfl
        · rintro H' ⟨s2, eD⟩
          have el : vs.length = xs.length := by rw [dpAll_length hall2, J.toDs_eq, List.length_map]
          rw [el, List.take_length] at eD
          refine ⟨D, xs.map J.steps, rfl, SqL.of eD, ?_⟩
          rw [J.stepsL_sum]
          exact q _ (s1.trans s2)
  | rn k c x =>
    simp only [J.deep] at hn
    simp only [J.stb] at hok
    simp only [J.steps] at q
    rw [J.toD] at hd
    obtain ⟨a, ys, rfl, hys, hall⟩ := dp_tup_inv hd
    refine ⟨_, rfl, _, _, _, _, rfl, hd, kit_tuple _, _, rfl, ?_⟩
    refine iteF ?_
    cases hall with
    | cons e1 hall =>
      obtain rfl := dp_str_inv e1
      cases hall with
      | cons e2 hall =>
        obtain rfl := dp_int_inv e2
        cases hall with
        | cons e3 hall =>
          cases hall
          refine ⟨_, rfl, _, _, _, _, rfl, rfl, hys, rfl, (by show 2 ≤ sizeLine; decide), fun t ht => ?_⟩
          refine ⟨t, _, rfl, .inr (SqT.of upd_same), rfl, rfl, _, rfl, ?_⟩
          have s1 : Same H (upd H t (.tup [.str "seq", .str "par"])) := same_new ht
          show if inV (.str (kwR k)) [.str "seq", .str "par"] = true then _ else _
          rw [kwR_in]
          refine iteF ?_
          refine ⟨_, rfl, _, _, _, _, rfl, rfl, same_sqT s1 hys, rfl, _, rfl, _, _, _, _, rfl, rfl, same_sqT s1 hys, rfl, _, x, rfl, dp_same s1 e3, by omega, hok.2.1, fun H2 s2 => ?_⟩
          have hb0 := hok.2.2.1
          have hb1 := hok.2.2.2
          have h1 := hok.1
          simp only [M30] at hb1 h1
          have e1 : x.steps.natAbs < 2 ^ 128 := Nat.lt_of_le_of_lt (show x.steps.natAbs ≤ 1000000000000000000000000000000 by omega) (by decide)
          have e2 : c.natAbs < 2 ^ 128 := Nat.lt_of_le_of_lt (show c.natAbs ≤ 1000000000000000000000000000000 by omega) (by decide)
          refine ⟨_, _, rfl, rfl, wide_mul (a := 128) (b := 128) e2 e1 (by decide) (by decide) (by decide), ?_⟩
          show Q (.int (c * x.steps)) _
          rw [Int.mul_comm]
          exact q _ (s1.trans s2)
theorem ok_ls (T : Txt K mg) : ∀ n : Nat, FnOk P w K mg base CX0 n T.f__law_steps T.d__law_steps ["_law_job_here"] (spLS K n)
  | 0 => by
    have no : ∀ vs H Q E, ¬ spLS K 0 vs H Q E := by
      rintro vs H Q E ⟨v, j, _, _, h, _⟩
      have := J.deep_pos j
      omega
    exact ⟨fun vs H Q E h => absurd h (no vs H Q E), fun A outer s H args us vs Q E _ _ _ _ h => absurd h (no vs H Q E)⟩
  | n + 1 => ok_ls_next T (ok_ls T n)
end
/-! block Small: _law_small, a drawn job of two to so many steps -/
abbrev csS : List Int := [1, 2, 3, 0, 2]
abbrev jS : J := .ps true [.ps false [.st 5, .st (-3)], .rn true 2 (.st (-1))]
structure SmallOk (size : Int) (j : J) : Prop where
  two : 1 < j.steps
  most : j.steps ≤ size
  deep : j.deep ≤ 6
  small : j.small
  cin : j.cin csS
  stb : j.stb
  nodes : j.nodes ≤ 400
theorem NB_5 {m : Nat} (h : m ≤ 5) : NB m ≤ 400 := by
  have : ∀ m, m < 6 → NB m ≤ 400 := by decide
  exact this m (by omega)
theorem TB_mono (n : Nat) : TB n ≤ TB (n + 1) := by
  simp only [TB]
  omega
def spSmall (K : PySem.W.Frag) : Sp := fun vs H Q _ => ∃ (p : Addr) (m n : Nat) (size : Int), vs = [.ref p, .int (n : Int), .int size] ∧ Pot H p m ∧ 2 ≤ n ∧ n ≤ 5 ∧ 4 ≤ size ∧ m + 4 * TB n ≤ 1099511627776 ∧
  ∀ (H' : Hp) (r : V) (j : J), Sx p H H' → Pot H' p (m + 4 * TB n) → Dp K H' r j.toD → SmallOk size j → Q r H'
section
variable {P : Program} {w : World} {K : PySem.W.Frag} {mg : Str → Option Value} {base : Heap}
theorem ok_small (T : Txt K mg) : FnOk P w K mg base CX0 10 T.f__law_small T.d__law_small ["_law_pot_here", "_law_deep", "_law_size"] (spSmall K) := by
  have g__law_job : FnOk P w K mg base CX0 9 T.f__law_job T.d__law_job ["_law_pot_here", "_law_deep", "_law_counts"] (spJobs K 7) := ok_jobs T 7
  have g__law_steps : FnOk P w K mg base CX0 8 T.f__law_steps T.d__law_steps ["_law_job_here"] (spLS K 8) := ok_ls T 8
  refine T.F__law_small.ok sc__law_small (fun vs H Q E h => ?_) (fun cdv A outer s H vs Q E hr h => ?_)
  · obtain ⟨p, m, n, size, rfl, _⟩ := h
    rfl
  obtain ⟨p, m, n, size, rfl, hp, n2, n6, hs, hm, q⟩ := h
  refine ⟨_, (pss_cons (ps_for PassesOwn.never rfl (pi_range1 rfl T.n_range (pa_cons pe_int pa_nil)) (pg_name (i := 3) sc__law_small.nd rfl (Or.inl rfl))
        (pss_cons (ps_set (i := 4) sc__law_small.nd rfl (Or.inl rfl) (pe_call g__law_job (hr.mono (by omega)) rfl T.m__law_job T.F__law_job.kp T.b__law_job .nil pass0 (pa_cons (pv 0) (pa_cons (pe_op op_sub (pv 1) (pe_op op_mod (pv 3) pe_int)) (pa_cons (pe_lst (pa_cons pe_int (pa_cons pe_int (pa_cons pe_int (pa_cons pe_int (pa_cons pe_int pa_nil)))))) pa_nil)))))
        (pss_one (ps_if (pt_chain op_lt op_le pe_int (pe_call g__law_steps (hr.mono (by omega)) rfl T.m__law_steps T.F__law_steps.kp T.b__law_steps .nil pass0 (pa_cons (pv 4) pa_nil)) (pv 2)) (pss_one (ps_ret (pv 4))) pss_nil))))
      (pss_one (ps_ret (pe_tup (pa_cons pe_str (pa_cons (pe_tup (pa_cons (pe_tup (pa_cons pe_str (pa_cons (pe_tup (pa_cons pe_int (pa_cons (pe_un un_neg pe_int) pa_nil))) pa_nil))) (pa_cons (pe_tup (pa_cons pe_str (pa_cons pe_int (pa_cons (pe_un un_neg pe_int) pa_nil)))) pa_nil))) pa_nil)))))), ?_⟩
  have tb2 : ∀ i : Nat, TB (n - i % 2) ≤ TB n := by
    intro i
    rcases Nat.mod_two_eq_zero_or_one i with e | e
    · rw [e]
      exact Nat.le_refl _
    · rw [e]
      have := TB_mono (n - 1)
      rw [show n - 1 + 1 = n by omega] at this
      exact this
  refine ⟨_, rfl, by decide, by decide, ?_⟩
  refine for_range (lo := 0) (n := (4 : Int).toNat) (fun i σ H' => ∃ y3 y4 : Option V, σ = [some (.ref p), some (.int (n : Int)), some (.int size), y3, y4] ∧ Sx p H H' ∧ Pot H' p (m + i * TB n)) ⟨none, none, rfl, Sx.refl, by simpa using hp⟩ ?_ ?_
  · rintro i σ H' hi ⟨y3, y4, rfl, s1, hp1⟩
    have hi4 : i < 4 := hi
    obtain ⟨lp, hlp⟩ := hp1.lst
    have hmul : (i + 1) * TB n = i * TB n + TB n := Nat.succ_mul i (TB n)
    have hmul4 : (i + 1) * TB n ≤ 4 * TB n := Nat.mul_le_mul_right _ (by omega)
    have htb := tb2 i
    refine ⟨_, rfl, _, rfl, _, rfl, _, _, rfl, rfl, (by show (0 : Int) < 2; decide), _, _, rfl, rfl, (by show 5 ≤ sizeLine; decide), fun l hl => ?_⟩
    have nlp : l ≠ p := fun z => by rw [z, hlp] at hl; cases hl
    have sl : Sx p H' (upd H' l (.lst (csS.map V.int))) := sx_new hl
    refine ⟨n - i % 2, by omega, p, l, m + i * TB n, csS, ?_, hp1.same (same_new hl), by omega, upd_same, nlp, by decide, by decide, by decide, fun H2 r j s2 hp2 dj gj => ?_⟩
    · have e : ((n : Int) - (0 + (i : Int)) % 2) = ((n - i % 2 : Nat) : Int) := by omega
      rw [← e]
      rfl
    have gd := gj.deep
    have hdeep : j.deep ≤ 6 := by omega
    obtain ⟨hst, h0, _⟩ := J.few j csS gj.small gj.cin (by decide) (by omega)
    refine ⟨_, rfl, r, j, rfl, dj, by omega, hst, fun H3 s3 => ?_⟩
    refine ⟨_, _, rfl, rfl, _, rfl, ?_⟩
    have X3 : Sx p H H3 := s1.trans (sl.trans (s2.trans (Same.sx s3)))
    have hp3 : Pot H3 p (m + (i + 1) * TB n) := (hp2.same s3).mono (by omega)
    refine ite2 (fun g1 => ?_) (fun g1 => ?_)
    · refine ⟨_, rfl, _, _, rfl, rfl, _, rfl, ?_⟩
      refine ite2 (fun g2 => ?_) (fun g2 => ?_)
      · refine ⟨_, rfl, ?_⟩
        exact q _ r j X3 (hp3.mono (by omega)) (dp_same s3 dj) ⟨of_decide_eq_true g1, of_decide_eq_true g2, hdeep, gj.small, gj.cin, hst, Int.le_trans gj.nodes (NB_5 (by omega))⟩
      · exact ⟨_, _, rfl, X3, hp3⟩
    · refine ⟨_, rfl, ?_⟩
      refine iteF ?_
      exact ⟨_, _, rfl, X3, hp3⟩
  · rintro σ H' ⟨y3, y4, rfl, s1, hp1⟩
    have hp4 : Pot H' p (m + 4 * TB n) := hp1
    refine ⟨_, rfl, (by show 2 ≤ sizeLine; decide), fun t1 h1 => ?_⟩
    obtain ⟨u1, d1⟩ := tup_fresh (K := K) (ds := [.int 5, .int (-3)]) h1 (.cons (.int _) (.cons (.int _) .nil))
    generalize (upd H' t1 _) = H1 at u1 d1 ⊢
    refine ⟨(by show 2 ≤ sizeLine; decide), fun t2 h2 => ?_⟩
    obtain ⟨u2, d2⟩ := tup_fresh (K := K) (ds := [.str "seq", .tuple [.int 5, .int (-3)]]) h2 (.cons (.str _) (.cons d1 .nil))
    generalize (upd H1 t2 _) = H2 at u2 d2 ⊢
    refine ⟨_, rfl, (by show 3 ≤ sizeLine; decide), fun t3 h3 => ?_⟩
    obtain ⟨u3, d3⟩ := tup_fresh (K := K) (ds := [.str "copies", .int 2, .int (-1)]) h3 (.cons (.str _) (.cons (.int _) (.cons (.int _) .nil)))
    generalize (upd H2 t3 _) = H3 at u3 d3 ⊢
    refine ⟨(by show 2 ≤ sizeLine; decide), fun t4 h4 => ?_⟩
    obtain ⟨u4, d4⟩ := tup_fresh (K := K) (ds := [.tuple [.str "seq", .tuple [.int 5, .int (-3)]], .tuple [.str "copies", .int 2, .int (-1)]]) h4 (.cons (dp_same u3 d2) (.cons d3 .nil))
    generalize (upd H3 t4 _) = H4 at u4 d4 ⊢
    refine ⟨(by show 2 ≤ sizeLine; decide), fun t5 h5 => ?_⟩
    obtain ⟨u5, d5⟩ := tup_fresh (K := K) (ds := [.str "par", .tuple [.tuple [.str "seq", .tuple [.int 5, .int (-3)]], .tuple [.str "copies", .int 2, .int (-1)]]]) h5 (.cons (.str _) (.cons d4 .nil))
    have uall := u1.trans (u2.trans (u3.trans (u4.trans u5)))
    have d5' : Dp K _ (.ref t5) jS.toD := d5
    have js4 : jS.steps = 4 := by
      simp only [J.steps, J.stepsL]
      decide
    refine q _ _ jS (s1.trans (Same.sx uall)) (hp4.same uall) d5' ⟨by rw [js4]; decide, by rw [js4]; omega, ?_, ?_, ?_, ?_, ?_⟩
    · simp only [J.deep, J.deepL]
      decide
    · simp only [J.small, J.smallL, M30, List.length_cons, List.length_nil, and_true]
      refine ⟨by decide, ?_⟩
      decide
    · simp only [J.cin, J.cinL, and_true, true_and]
      decide
    · simp only [J.stb, J.stbL, J.steps, M30, and_true, true_and, List.length_cons, List.length_nil]
      decide
    · simp only [J.nodes, J.nodesL]
      decide
end
/-! block Addr: _law_addresses, the addresses of a small job -/
theorem for_enum {K : PySem.W.Frag} {a : Addr} {xs : List V} {g : TG} {tb : TS} {D : Ends} {σ : L2.St} {H : Hp} (Pv : Nat → L2.St → Hp → Prop) (h0 : Pv 0 σ H)
    (hs : ∀ (i : Nat) (σ : L2.St) (H : Hp), i ≤ xs.length → Pv i σ H → SqL K H a xs)
    (step : ∀ (i : Nat) (x : V) (σ : L2.St) (H : Hp) (T : Addr), xs[i]? = some x → Pv i σ H → H T = none →
      g (.ref T) σ (upd H T (.tup [.int i, x])) fun σ2 H2 => tb { nx := Pv (i + 1), rt := D.rt, bk := D.nx, ct := Pv (i + 1) } σ2 H2)
    (fin : ∀ (σ : L2.St) (H : Hp), Pv xs.length σ H → D.nx σ H) :
    ∃ W : Nat → Nat → L2.St → Hp → Prop, (∃ m, W 0 m σ H) ∧ ∀ (i m : Nat) (σ : L2.St) (H : Hp), W i m σ H →
      (Ite K a).stop i H ∧ D.nx σ H ∨ (Ite K a).go i H ∧ ∃ N : L2.St → Hp → Prop, (∀ (σ' : L2.St) (H' : Hp), N σ' H' → ∃ m', m' < m ∧ W (i + 1) m' σ' H') ∧
        ∀ (x : V) (H' : Hp), (Ite K a).yld i H x H' → g x σ H' fun σ2 H2 => tb { nx := N, rt := D.rt, bk := D.nx, ct := N } σ2 H2 := by
  refine ⟨fun i m σ H => i ≤ xs.length ∧ m = xs.length - i ∧ Pv i σ H, ⟨_, Nat.zero_le _, rfl, h0⟩, ?_⟩
  rintro i m σ H ⟨hi, rfl, hp⟩
  have hq := hs i σ H hi hp
  by_cases e : i = xs.length
  · subst e
    exact .inl ⟨⟨xs, hq, Nat.le_refl _⟩, fin σ H hp⟩
  · have hlt : i < xs.length := by omega
    refine .inr ⟨⟨xs, xs[i], hq, List.getElem?_eq_getElem hlt⟩, Pv (i + 1), fun σ' H' z => ⟨_, ?_, by omega, rfl, z⟩, ?_⟩
    · omega
    · rintro x H' ⟨T, x', rfl, hT, rfl, hx⟩
      exact step i x' σ H T (hx xs hq) hp hT
theorem rCatA_d {K : PySem.W.Frag} {H : Hp} {Q : VK} {a b : Addr} {xs ys : List V} (h1 : SqT K H a xs) (h2 : SqT K H b ys) (hl : xs.length + ys.length ≤ sizeLine)
    (h : ∀ (H' : Hp) (t : Addr), Same H H' → SqT K H' t (xs ++ ys) → Q (.ref t) H') : rCatA K (.ref a) (.ref b) H Q := by
  refine ⟨a, b, xs, ys, rfl, rfl, h1, h2, hl, fun z => ?_, fun _ z => ?_, fun _ _ p hp => ?_⟩
  · subst z
    exact h H b (Same.refl _) h2
  · subst z
    exact h H a (Same.refl _) (by simpa using h1)
  · exact h _ p (same_new hp) (SqT.of upd_same)
/-- rows of addresses, each behind its index -/
def idx : List (List (List Int)) → Int → List (List Int)
  | [], _ => []
  | as :: r, i => as.map (i :: ·) ++ idx r (i + 1)
mutual
def J.adr : J → List (List Int)
  | .st _ => [[]]
  | .ps _ xs => idx (J.adrs xs) 0
  | .rn _ n x => idx (List.replicate (if 0 < x.steps then n.toNat else 0) x.adr) 0
def J.adrs : List J → List (List (List Int))
  | [] => []
  | x :: xs => x.adr :: J.adrs xs
end
theorem J.adrs_eq : ∀ xs : List J, J.adrs xs = xs.map J.adr
  | [] => rfl
  | x :: xs => by rw [J.adrs, J.adrs_eq xs]; rfl
theorem idx_app : ∀ (as bs : List (List (List Int))) (i : Int), idx (as ++ bs) i = idx as i ++ idx bs (i + as.length)
  | [], bs, i => by simp [idx]
  | a :: as, bs, i => by
    simp only [List.cons_append, idx, idx_app as bs, List.append_assoc, List.length_cons]
    congr 3
    omega
theorem idx_len : ∀ (as : List (List (List Int))) (i : Int), (idx as i).length = (as.map List.length).sum
  | [], _ => rfl
  | a :: as, i => by simp only [idx, List.length_append, List.length_map, idx_len as, List.map_cons, List.sum_cons]
theorem sum_rep (m : Nat) : ∀ k : Nat, (List.replicate k m).sum = k * m
  | 0 => by simp
  | k + 1 => by
    rw [List.replicate_succ, List.sum_cons, sum_rep m k, Nat.succ_mul]
    omega
mutual
theorem J.adr_len : ∀ j : J, j.stb → (j.adr.length : Int) = j.steps
  | .st _, _ => by simp [J.adr, J.steps]
  | .ps _ xs, h => by
    simp only [J.stb] at h
    simp only [J.adr, J.steps, idx_len]
    exact J.adrs_len xs h.2
  | .rn _ n x, h => by
    simp only [J.stb] at h
    have ih := J.adr_len x h.2.1
    simp only [J.adr, J.steps, idx_len, List.map_replicate, sum_rep]
    by_cases e : 0 < x.steps
    · rw [if_pos e]
      have hn : ((n.toNat : Nat) : Int) = n := by omega
      rw [Int.natCast_mul, hn, ih, Int.mul_comm]
    · rw [if_neg e]
      have : x.steps = 0 := by omega
      rw [this]
      simp
theorem J.adrs_len : ∀ xs : List J, J.stbL xs → ((((J.adrs xs).map List.length).sum : Nat) : Int) = J.stepsL xs
  | [], _ => by simp [J.adrs, J.stepsL]
  | x :: xs, h => by
    simp only [J.stbL] at h
    have h1 := J.adr_len x h.1
    have h2 := J.adrs_len xs h.2
    simp only [J.adrs, J.stepsL, List.map_cons, List.sum_cons, Int.natCast_add]
    omega
end
theorem idx_mem : ∀ {as : List (List (List Int))} {i : Int} {a : List Int}, a ∈ idx as i → ∃ r ∈ as, ∃ b ∈ r, a.length = b.length + 1
  | r :: as, i, a, h => by
    simp only [idx, List.mem_append, List.mem_map] at h
    rcases h with ⟨b, hb, rfl⟩ | h
    · exact ⟨r, List.mem_cons_self, b, hb, rfl⟩
    · obtain ⟨r', h1, b, h2, h3⟩ := idx_mem h
      exact ⟨r', List.mem_cons_of_mem _ h1, b, h2, h3⟩
mutual
theorem J.adr_deep : ∀ (j : J) (a : List Int), a ∈ j.adr → a.length ≤ j.deep
  | .st _, a, h => by
    simp only [J.adr, List.mem_singleton] at h
    subst h
    simp
  | .ps _ xs, a, h => by
    simp only [J.adr] at h
    obtain ⟨r, h1, b, h2, h3⟩ := idx_mem h
    have := J.adrs_deep xs r h1 b h2
    simp only [J.deep]
    omega
  | .rn _ n x, a, h => by
    simp only [J.adr] at h
    obtain ⟨r, h1, b, h2, h3⟩ := idx_mem h
    obtain ⟨_, rfl⟩ := List.mem_replicate.mp h1
    have := J.adr_deep x b h2
    simp only [J.deep]
    omega
theorem J.adrs_deep : ∀ (xs : List J) (r : List (List Int)), r ∈ J.adrs xs → ∀ b ∈ r, b.length ≤ J.deepL xs
  | [], r, h, _, _ => by simp [J.adrs] at h
  | x :: xs, r, h, b, hb => by
    simp only [J.adrs] at h
    simp only [J.deepL]
    rcases List.mem_cons.mp h with rfl | h
    · have := J.adr_deep x b hb
      omega
    · have := J.adrs_deep xs r h b hb
      omega
end
mutual
/-- few rounds and copies, also of what has no step -/
def J.rounded : J → Prop
  | .st _ => True
  | .ps _ xs => J.roundedL xs
  | .rn _ n x => n ≤ 1000 ∧ x.rounded
def J.roundedL : List J → Prop
  | [] => True
  | x :: xs => x.rounded ∧ J.roundedL xs
end
/-- an address as data -/
def adD (a : List Int) : PyData := .tuple (a.map .int)
def adDs (as : List (List Int)) : List PyData := as.map adD
theorem noLs_ad : ∀ as : List (List Int), noLs (adDs as) = true
  | [] => rfl
  | a :: as => by
    have ih := noLs_ad as
    have h : ∀ l : List Int, noLs (l.map PyData.int) = true := by
      intro l
      induction l with
      | nil => rfl
      | cons x r ih => simpa [noLs, noL] using ih
    simp only [adDs, List.map_cons, noLs, adD, noL, h, Bool.true_and] at ih ⊢
    exact ih
theorem noL_ad (a : List Int) : noL (adD a) = true := by
  have := noLs_ad [a]
  simpa [adDs, noLs] using this
def spAdr (K : PySem.W.Frag) (n : Nat) : Sp := fun vs H Q _ => ∃ (v : V) (j : J), vs = [v] ∧ Dp K H v j.toD ∧ j.deep ≤ n ∧ j.stb ∧ j.steps ≤ 1000 ∧ j.rounded ∧
  ∀ (H' : Hp) (l : Addr) (as : List V), Same H H' → H l = none → H' l = some (.lst as) → DpAll K H' as (adDs j.adr) → Q (.ref l) H'
theorem Same.free' {H H' : Hp} {l : Addr} (s : Same H H') (h : H' l = none) : H l = none := by
  cases e : H l with
  | none => rfl
  | some o =>
    rw [s _ _ e] at h
    cases h
theorem dpAll_rep' {K : PySem.W.Frag} {H : Hp} {v : V} {x : J} (h : Dp K H v x.toD) : ∀ k : Nat, DpAll K H (List.replicate k [v]).flatten (J.toDs (List.replicate k x))
  | 0 => .nil
  | k + 1 => by
    simp only [List.replicate_succ, List.flatten_cons, J.toDs]
    exact .cons h (dpAll_rep' h k)
theorem J.roundedL_mem : ∀ {l : List J} {y : J}, J.roundedL l → y ∈ l → y.rounded
  | z :: r, y, o, h => by
    simp only [J.roundedL] at o
    rcases List.mem_cons.mp h with rfl | h
    · exact o.1
    · exact J.roundedL_mem o.2 h
theorem J.steps_nn' (j : J) (h : j.stb) : 0 ≤ j.steps := by
  have := J.adr_len j h
  omega
theorem J.steps_mem : ∀ {l : List J} {y : J}, J.stbL l → J.stepsL l ≤ 1000 → y ∈ l → y.steps ≤ 1000
  | z :: r, y, o, hl, h => by
    simp only [J.stbL] at o
    simp only [J.stepsL] at hl
    have h1 := J.steps_nn' z o.1
    have h2 := J.adrs_len r o.2
    rcases List.mem_cons.mp h with rfl | h
    · omega
    · exact J.steps_mem o.2 (by omega) h
section
variable {P : Program} {w : World} {K : PySem.W.Frag} {mg : Str → Option Value} {base : Heap}
theorem ok_adr_next (T : Txt K mg) {n : Nat} (g__law_addresses : FnOk P w K mg base CX0 (n + 10) T.f__law_addresses T.d__law_addresses ["_law_job_here"] (spAdr K n)) (hn : n < 8) :
    FnOk P w K mg base CX0 (n + 11) T.f__law_addresses T.d__law_addresses ["_law_job_here"] (spAdr K (n + 1)) := by
  have g__law_steps : FnOk P w K mg base CX0 8 T.f__law_steps T.d__law_steps ["_law_job_here"] (spLS K 8) := ok_ls T 8
  refine T.F__law_addresses.ok sc__law_addresses (fun vs H Q E h => ?_) (fun cdv A outer s H vs Q E hr h => ?_)
  · obtain ⟨v, j, rfl, _⟩ := h
    rfl
  obtain ⟨v, j, rfl, hd, hdeep, hstb, hst, hrd, q⟩ := h
  refine ⟨_, (pss_cons (ps_if (pt_not (pt_val (pe_callB (r := rIsD K) call_isD (by rfl) T.n_isinstance (by decide +kernel) (pa_cons (pv 0) (pa_cons (pe_bltn (v := .ty "tuple") (by rfl) T.n_tuple (by decide +kernel) rfl) pa_nil))))) (pss_one (ps_ret (pe_lst (pa_cons (pe_tup pa_nil) pa_nil)))) pss_nil)
      (C8.pss_cut (ps_if (pt_cmpR (r := rIn K false) op_in_seq (pe_ix (r := rIxT K) ix_tup (pv 0) pe_int (fun _ _ => rfl)) (pe_tup (pa_cons pe_str (pa_cons pe_str pa_nil))) (by rfl)) (pss_one (ps_set (i := 1) sc__law_addresses.nd rfl (Or.inl rfl) (pe_callTy (r := rListS K) call_listS (by rfl) T.n_list (by decide +kernel) (pa_cons (pe_ix (r := rIxT K) ix_tup (pv 0) pe_int (fun _ _ => rfl)) pa_nil)))) (pss_one (ps_set (i := 1) sc__law_addresses.nd rfl (Or.inl rfl) (pe_op op_rep (pe_lst (pa_cons (pe_ix (r := rIxT K) ix_tup (pv 0) pe_int (fun _ _ => rfl)) pa_nil)) (pe_op op_mulW (pe_ix (r := rIxT K) ix_tup (pv 0) pe_int (fun _ _ => rfl)) (pe_callTy call_int1 (by rfl) T.n_int (by decide +kernel) (pa_cons (pe_cmpR op_gt (pe_call g__law_steps (hr.mono (by omega)) rfl T.m__law_steps T.F__law_steps.kp T.b__law_steps .nil pass0 (pa_cons (pe_ix (r := rIxT K) ix_tup (pv 0) pe_int (fun _ _ => rfl)) pa_nil)) pe_int (nomark _)) pa_nil)))))))
      (pss_cons (ps_set (i := 2) sc__law_addresses.nd rfl (Or.inl rfl) (pe_lst pa_nil))
      (pss_cons (ps_for PassesOwn.never rfl (pi_enum (by rfl) T.n_enumerate (pa_cons (pv 1) pa_nil)) (pg_tup (by rfl) (pgs_cons (pg_name (i := 3) sc__law_addresses.nd rfl (Or.inr rfl)) (pgs_cons (pg_name (i := 4) sc__law_addresses.nd rfl (Or.inl rfl)) pgs_nil)))
        (pss_one (ps_expr (pe_bm PySem.F.plainAttrs_list PySem.F.slot_list_extend PySem.F.type_list_extend mt_extend (pv 2) (pa_cons (pe_lc (own := [("_law_rest", 5)]) (g := (gName 5)) (by rfl) sc__law_addresses.nd (pi_list (pe_call g__law_addresses (hr.mono (by omega)) rfl T.m__law_addresses T.F__law_addresses.kp T.b__law_addresses .nil pass0 (pa_cons (pv 4) pa_nil))) (blkOk_by (N := N__law_addresses) (sc := (defScope s__law_addresses)) (by decide +kernel)) (fun _ _ _ _ _ => (pg_name (i := 5) sc__law_addresses.nd rfl (Or.inl rfl))) (fun _ _ _ _ _ => pts_nil) (fun _ _ _ _ _ => (pe_op (r := rCatA K) op_catA (pe_tup (pa_cons (pv 3) pa_nil)) (pv 5)))) pa_nil)))))
      (pss_one (ps_ret (pv 2))))))), ?_⟩
  refine ⟨_, rfl, _, _, _, _, rfl, hd, kit_tuple _, _, rfl, ?_⟩
  cases ej : isTup j.toD with
  | false =>
    refine iteT ?_
    refine ⟨(by show 0 ≤ sizeLine; decide), fun t ht => ?_⟩
    obtain ⟨s1, d1⟩ := tup_fresh (K := K) (ds := []) ht .nil
    generalize (upd H t _) = H1 at s1 d1 ⊢
    refine ⟨(by show 1 ≤ sizeLine; decide), fun l hl => ?_⟩
    have s2 : Same H1 (upd H1 l (.lst [.ref t])) := same_new hl
    cases j with
    | ps k xs => cases ej
    | rn k c x => cases ej
    | st i => exact q _ l [.ref t] (s1.trans s2) (Same.free' s1 hl) upd_same (.cons (dp_same s2 d1) .nil)
  | true =>
  refine iteF ?_
  refine ⟨fun σ' H' => ∃ (li : Addr) (ys : List V) (js : List J), σ' = [some v, some (.ref li), none, none, none, none] ∧ Same H H' ∧ H' li = some (.lst ys) ∧ DpAll K H' ys (J.toDs js) ∧
    (∀ y ∈ js, y.deep ≤ n ∧ y.stb ∧ y.steps ≤ 1000 ∧ y.rounded) ∧ j.adr = idx (J.adrs js) 0 ∧ js.length ≤ 1000, ?_, ?_⟩
  · cases j with
    | st i => cases ej
    | ps k xs =>
      simp only [J.deep] at hdeep
      simp only [J.stb] at hstb
      simp only [J.rounded] at hrd
      simp only [J.steps] at hst
      rw [J.toD] at hd
      obtain ⟨a, zs, rfl, hzs, hall⟩ := dp_tup_inv hd
      cases hall with
      | cons e1 hall =>
      obtain rfl := dp_str_inv e1
      cases hall with
      | cons e2 hall =>
      cases hall
      obtain ⟨b, us, rfl, hus, hall2⟩ := dp_tup_inv e2
      refine ⟨_, rfl, _, _, _, _, rfl, rfl, hzs, rfl, (by show 2 ≤ sizeLine; decide), fun t ht => ?_⟩
      refine ⟨t, _, rfl, .inr (SqT.of upd_same), rfl, rfl, _, rfl, ?_⟩
      have s1 : Same H (upd H t (.tup [.str "seq", .str "par"])) := same_new ht
      show if inV (.str (kwP k)) [.str "seq", .str "par"] = true then _ else _
      rw [kwP_in]
      refine iteT ?_
      generalize (upd H t (.tup [.str "seq", .str "par"])) = H1 at s1 ⊢
      refine ⟨_, rfl, _, _, _, _, rfl, rfl, same_sqT s1 hzs, rfl, b, us, rfl, .inr (same_sqT s1 hus), fun l hl => ?_⟩
      have s2 : Same H1 (upd H1 l (.lst us)) := same_new hl
      refine ⟨l, us, xs, rfl, s1.trans s2, upd_same, dpAll_same (s1.trans s2) hall2, fun y hy => ?_, rfl, by omega⟩
      have h1 := J.deepL_mem hy
      exact ⟨by omega, J.stbL_mem hstb.2 hy, J.steps_mem hstb.2 hst hy, J.roundedL_mem hrd hy⟩
    | rn k c x =>
      simp only [J.deep] at hdeep
      simp only [J.stb] at hstb
      simp only [J.rounded] at hrd
      simp only [J.steps] at hst
      rw [J.toD] at hd
      obtain ⟨a, zs, rfl, hzs, hall⟩ := dp_tup_inv hd
      cases hall with
      | cons e1 hall =>
      obtain rfl := dp_str_inv e1
      cases hall with
      | cons e2 hall =>
      obtain rfl := dp_int_inv e2
      cases hall with
      | cons e3 hall =>
      cases hall
      rename_i vx
      refine ⟨_, rfl, _, _, _, _, rfl, rfl, hzs, rfl, (by show 2 ≤ sizeLine; decide), fun t ht => ?_⟩
      refine ⟨t, _, rfl, .inr (SqT.of upd_same), rfl, rfl, _, rfl, ?_⟩
      have s1 : Same H (upd H t (.tup [.str "seq", .str "par"])) := same_new ht
      show if inV (.str (kwR k)) [.str "seq", .str "par"] = true then _ else _
      rw [kwR_in]
      refine iteF ?_
      generalize (upd H t (.tup [.str "seq", .str "par"])) = H1 at s1 ⊢
      refine ⟨_, rfl, _, _, _, _, rfl, rfl, same_sqT s1 hzs, rfl, (by show 1 ≤ sizeLine; decide), fun l hl => ?_⟩
      have s2 : Same H1 (upd H1 l (.lst [vx])) := same_new hl
      have el : upd H1 l (.lst [vx]) l = some (.lst [vx]) := upd_same
      generalize (upd H1 l (.lst [vx])) = H2 at s2 el ⊢
      have s12 := s1.trans s2
      refine ⟨_, rfl, _, _, _, _, rfl, rfl, same_sqT s12 hzs, rfl, _, rfl, _, _, _, _, rfl, rfl, same_sqT s12 hzs, rfl, vx, x, rfl, dp_same s12 e3, by omega, hstb.2.1, fun H3 s3 => ?_⟩
      refine ⟨_, _, rfl, rfl, .inr ⟨_, rfl, ?_⟩⟩
      have hcnt : (c * (if decide (0 < x.steps) = true then (1 : Int) else 0)).toNat = if 0 < x.steps then c.toNat else 0 := by
        by_cases e : 0 < x.steps
        · rw [if_pos e, if_pos (decide_eq_true e), Int.mul_one]
        · rw [if_neg e, if_neg (fun z => e (of_decide_eq_true z)), Int.mul_zero]
          rfl
      have hle : (if 0 < x.steps then c.toNat else 0) ≤ 1000 := by
        split <;> omega
      refine ⟨_, _, rfl, rfl, ?_, ?_⟩
      · have e1 : c.natAbs < 2 ^ 128 := Nat.lt_of_le_of_lt (show c.natAbs ≤ 1000 by omega) (by decide)
        have e2 : (if decide (0 < x.steps) = true then (1 : Int) else 0).natAbs < 2 ^ 128 := by
          split <;> decide
        exact wide_mul (a := 128) (b := 128) e1 e2 (by decide) (by decide) (by decide)
      refine ⟨l, _, _, rfl, rfl, s3 _ _ el, ?_, ?_, ?_, fun l2 hl2 => ?_⟩
      · have : (0 : Int) ≤ c * (if decide (0 < x.steps) = true then (1 : Int) else 0) := Int.mul_nonneg hstb.1.1 (by split <;> decide)
        omega
      · have : c * (if decide (0 < x.steps) = true then (1 : Int) else 0) ≤ 1000 := by
          split <;> omega
        omega
      · rw [hcnt]
        exact small (by simpa using hle)
      · rw [hcnt]
        have s4 : Same H3 (upd H3 l2 (.lst (List.replicate (if 0 < x.steps then c.toNat else 0) [vx]).flatten)) := same_new hl2
        have sall := s12.trans (s3.trans s4)
        refine ⟨l2, _, List.replicate (if 0 < x.steps then c.toNat else 0) x, rfl, sall, upd_same, ?_, fun y hy => ?_, ?_, by simpa using hle⟩
        · exact dpAll_rep' (dp_same sall e3) _
        · obtain ⟨hne, rfl⟩ := List.mem_replicate.mp hy
          have hpos : 0 < y.steps ∧ 1 ≤ c := by
            split at hne
            · rename_i hp
              exact ⟨hp, by omega⟩
            · exact absurd rfl hne
          refine ⟨by omega, hstb.2.1, ?_, hrd.2⟩
          have h1 : y.steps * 1 ≤ y.steps * c := Int.mul_le_mul_of_nonneg_left hpos.2 (by omega)
          omega
        · rw [J.adrs_eq, List.map_replicate]
          rfl
  · rintro σ' H' ⟨li, ys, js, rfl, s1, eli, hys, hjs, ead, hjl⟩
    have ylen : ys.length = js.length := by rw [dpAll_length hys, J.toDs_eq, List.length_map]
    have hlen : j.adr.length ≤ 1000 := by
      have := J.adr_len j hstb
      omega
    refine ⟨(by show 0 ≤ sizeLine; decide), fun f hf => ?_⟩
    have s2 : Same H' (upd H' f (.lst [])) := same_new hf
    have ef : upd H' f (.lst []) f = some (.lst []) := upd_same
    refine ⟨_, rfl, li, ys, rfl, SqL.of (s2 _ _ eli), ?_⟩
    refine for_enum (xs := ys) (fun i σ G => ∃ (y3 y4 y5 : Option V) (fs : List V), σ = [some v, some (.ref li), some (.ref f), y3, y4, y5] ∧ Same H' G ∧ G f = some (.lst fs) ∧ DpAll K G fs (adDs (idx (J.adrs (js.take i)) 0)))
      ⟨none, none, none, [], rfl, s2, ef, .nil⟩ (fun i σ G _ ⟨_, _, _, _, _, s3, _⟩ => SqL.of (s3 _ _ eli)) ?_ ?_
    · rintro i x σ G t hi ⟨y3, y4, y5, fs, rfl, s3, efs, hfs⟩ ht
      have s4 : Same G (upd G t (.tup [.int i, x])) := same_new ht
      have q4 : SqT K (upd G t (.tup [.int i, x])) t [.int i, x] := SqT.of upd_same
      generalize (upd G t (.tup [.int i, x])) = G1 at s4 q4 ⊢
      refine ⟨t, _, rfl, q4, rfl, _, _, rfl, _, _, rfl, rfl, ?_⟩
      obtain ⟨y, ey, my, dy⟩ := part_at hys hi
      obtain ⟨ydeep, ystb, yst, yrd⟩ := hjs y my
      have efs1 := s4 _ _ efs
      refine ⟨_, rfl, .inl ⟨rfl, fs, SqL.of efs1⟩, ?_⟩
      refine ⟨_, rfl, x, y, rfl, dp_same (s3.trans s4) dy, ydeep, ystb, yst, yrd, fun G2 l4 as4 s5 n5 e5 d5 => ?_⟩
      have as4len : as4.length = y.adr.length := by rw [dpAll_length d5, adDs, List.length_map]
      have yl : y.adr.length ≤ 1000 := by
        have := J.adr_len y ystb
        omega
      refine ⟨l4, rfl, ⟨as4, SqL.of e5⟩, fun D hD => ?_⟩
      refine lc_list (K := K) (a := l4) (xs := as4) (fun k G3 => Same G2 G3 ∧ ∃ ws, G3 D = some (.lst ws) ∧ DpAll K G3 ws (adDs ((y.adr.take k).map ((i : Int) :: ·)))) ?_ ?_ ?_ ?_
      · exact ⟨same_new hD, [], upd_same, .nil⟩
      · rintro k G3 _ ⟨s6, _⟩
        exact SqL.of (s6 _ _ e5)
      · rintro k r G3 hk ⟨s6, ws, eD, hws⟩
        obtain ⟨d, ed, hdr⟩ := dpAll_get d5 hk
        rw [adDs, List.getElem?_map] at ed
        cases er : y.adr[k]? with
        | none =>
          rw [er] at ed
          cases ed
        | some ad =>
        rw [er] at ed
        obtain rfl := (Option.some.inj ed).symm
        obtain ⟨ra, rs, rfl, hrs, hra⟩ := dp_tup_inv hdr
        have wl : ws.length ≤ 1000 := by
          rw [dpAll_length hws, adDs, List.length_map, List.length_map, List.length_take]
          omega
        have kl : k < y.adr.length := (List.getElem?_eq_some_iff.mp er).1
        have wl' : ws.length = k := by
          rw [dpAll_length hws, adDs, List.length_map, List.length_map, List.length_take]
          omega
        refine ⟨rfl, ?_⟩
        unfold tYes
        refine iteT ?_
        refine ⟨_, rfl, (by show 1 ≤ sizeLine; decide), fun t1 h1 => ?_⟩
        have s7 : Same G3 (upd G3 t1 (.tup [.int i])) := same_new h1
        have q7 : SqT K (upd G3 t1 (.tup [.int i])) t1 [.int i] := SqT.of upd_same
        generalize (upd G3 t1 (.tup [.int i])) = G4 at s7 q7 ⊢
        refine ⟨_, rfl, ?_⟩
        refine rCatA_d (xs := [.int i]) (ys := rs) q7 (same_sqT (s6.trans s7) hrs) ?_ (fun G5 t2 s8 q8 => ?_)
        · have h1 := dpAll_length hra
          rw [List.length_map] at h1
          have h2 := J.adr_deep y ad (List.mem_of_getElem? er)
          exact small (by simp only [List.length_singleton]; omega)
        refine ⟨ws, (s7.trans s8) _ _ eD, small1000 (by omega), ?_, ws ++ [.ref t2], upd_same, ?_⟩
        · intro c o hc
          rw [upd_ne (ne_of_none hc hD)]
          exact (s6.trans (s7.trans s8)) _ _ hc
        · rw [adDs, take_map (fun a => (i : Int) :: a) er, List.map_append]
          have hold : DpAll K G5 ws (adDs ((y.adr.take k).map ((i : Int) :: ·))) := dpAll_same (s7.trans s8) hws
          have hnew : Dp K G5 (.ref t2) (adD ((i : Int) :: ad)) := .tup q8 (.cons (.int _) (dpAll_same (s6.trans (s7.trans s8)) hra))
          have kk : ∀ a xs, SqT K G5 a xs → SqT K (upd G5 D (.lst (ws ++ [.ref t2]))) a xs := fun a xs z => (sx_upd (p := D)).sqT ((s7.trans s8) _ _ eD) z
          exact dpAll_append (dpAll_keep kk (noLs_ad _) hold) (.cons (dp_keep kk (noL_ad _) hnew) .nil)
      · rintro G3 ⟨s6, ws, eD, hws⟩
        rw [as4len, List.take_length] at hws
        have efs3 := (s5.trans s6) _ _ efs1
        have etake : adDs (idx (J.adrs (js.take (i + 1))) 0) = adDs (idx (J.adrs (js.take i)) 0) ++ adDs (y.adr.map ((i : Int) :: ·)) := by
          have hi' : i < js.length := (List.getElem?_eq_some_iff.mp ey).1
          rw [J.adrs_eq, J.adrs_eq, take_map J.adr ey, idx_app]
          simp only [idx, List.append_nil, adDs, List.map_append, List.length_map, List.length_take]
          rw [show (0 : Int) + ((min i js.length : Nat) : Int) = (i : Int) by omega]
        have tot : fs.length + ws.length ≤ 1000 := by
          have h1 : fs.length + ws.length = (adDs (idx (J.adrs (js.take (i + 1))) 0)).length := by
            rw [etake, List.length_append, dpAll_length hfs, dpAll_length hws]
          have h2 : (adDs (idx (J.adrs (js.take (i + 1))) 0)).length ≤ (idx (J.adrs js) 0).length := by
            rw [adDs, List.length_map]
            have e3 : js = js.take (i + 1) ++ js.drop (i + 1) := (List.take_append_drop _ _).symm
            conv =>
              rhs
              rw [e3, J.adrs_eq, List.map_append, idx_app, List.length_append]
            rw [J.adrs_eq]
            omega
          rw [← ead] at h2
          omega
        refine ⟨f, D, fs, ws, rfl, rfl, efs3, eD, small tot, ?_⟩
        have kk : ∀ a xs, SqT K G3 a xs → SqT K (upd G3 f (.lst (fs ++ ws))) a xs := fun a xs z => (sx_upd (p := f)).sqT efs3 z
        refine ⟨_, _, _, fs ++ ws, rfl, ?_, upd_same, ?_⟩
        · intro c o hc
          rw [upd_ne (ne_of_none hc hf)]
          exact (s3.trans (s4.trans (s5.trans s6))) _ _ hc
        · rw [etake]
          exact dpAll_append (dpAll_keep kk (noLs_ad _) (dpAll_same (s4.trans (s5.trans s6)) hfs)) (dpAll_keep kk (noLs_ad _) hws)
    · rintro σ G ⟨y3, y4, y5, fs, rfl, s3, efs, hfs⟩
      rw [ylen, List.take_length, ← ead] at hfs
      refine ⟨_, rfl, ?_⟩
      exact q G f fs (s1.trans s3) (Same.free' s1 hf) efs hfs
theorem ok_adr (T : Txt K mg) : ∀ n : Nat, n ≤ 8 → FnOk P w K mg base CX0 (n + 10) T.f__law_addresses T.d__law_addresses ["_law_job_here"] (spAdr K n)
  | 0, _ => by
    have no : ∀ vs H Q E, ¬ spAdr K 0 vs H Q E := by
      rintro vs H Q E ⟨v, j, _, _, h, _⟩
      have := J.deep_pos j
      omega
    exact ⟨fun vs H Q E h => absurd h (no vs H Q E), fun A outer s H args us vs Q E _ _ _ _ h => absurd h (no vs H Q E)⟩
  | n + 1, h => ok_adr_next T (ok_adr T n (by omega)) (by omega)
end
/-! block Sys: a job as a system of steps; its low is the least sum (with Jst; behind bAddr) -/
mutual
def J.sys : J → Sys
  | .st i => ⟨[([], i)], fun _ _ => false⟩
  | .ps k xs => comp (!k) (J.syss xs) 0
  | .rn k n x => comp (!k) (List.replicate (if 0 < x.steps then n.toNat else 0) x.sys) 0
def J.syss : List J → List Sys
  | [] => []
  | x :: xs => x.sys :: J.syss xs
end
theorem Sys.Low.net {S : Sys} {l : Int} (h : S.Low l) : l ≤ S.net := by
  have h1 := h.le (fun _ => true) (fun _ _ _ _ _ _ => rfl)
  rw [sumD_all fun _ _ => rfl] at h1
  exact h1
theorem cRows_idx : ∀ (Ss : List Sys) (i : Int), (cRows Ss i).map (·.1) = idx (Ss.map fun S => S.rows.map (·.1)) i
  | [], _ => rfl
  | S :: r, i => by
    simp only [cRows, List.map_append, List.map_cons, idx, cRows_idx r, pre, List.map_map]
    rfl
mutual
theorem J.sys_adr : ∀ j : J, j.sys.rows.map (·.1) = j.adr
  | .st _ => rfl
  | .ps k xs => by
    simp only [J.sys, comp, cRows_idx, J.adr]
    rw [J.syss_adr xs]
  | .rn k n x => by
    have ih := J.sys_adr x
    simp only [J.sys, comp, cRows_idx, J.adr, List.map_replicate, ih]
theorem J.syss_adr : ∀ xs : List J, (J.syss xs).map (fun S => S.rows.map (·.1)) = J.adrs xs
  | [] => rfl
  | x :: xs => by
    have h1 := J.sys_adr x
    have h2 := J.syss_adr xs
    simp only [J.syss, J.adrs, List.map_cons, h1, h2]
end
theorem lowPar_rep (p : Part) : ∀ m : Nat, lowPar (List.replicate m p) = m * p.2
  | 0 => by simp [lowPar]
  | m + 1 => by
    simp only [List.replicate_succ, lowPar, lowPar_rep p m]
    rw [Int.natCast_add, Int.add_mul]
    simp only [Int.natCast_one, Int.one_mul]
    omega
theorem lowSeq_rep (p : Part) (h : p.2 ≤ p.1.net) : ∀ m : Nat, lowSeq (List.replicate (m + 1) p) = p.2 + m * min 0 p.1.net
  | 0 => by
    simp only [List.replicate_succ, List.replicate_zero, lowSeq]
    simp
    omega
  | m + 1 => by
    rw [List.replicate_succ, lowSeq, lowSeq_rep p h m]
    have e : ((m + 1 : Nat) : Int) * min 0 p.1.net = m * min 0 p.1.net + min 0 p.1.net := by
      rw [Int.natCast_add, Int.add_mul]
      simp
    rw [e]
    by_cases c : 0 ≤ p.1.net
    · have z : min 0 p.1.net = 0 := by omega
      rw [z]
      simp only [Int.mul_zero]
      omega
    · have z : min 0 p.1.net = p.1.net := by omega
      rw [z]
      have : (m : Int) * p.1.net ≤ 0 := Int.mul_nonpos_of_nonneg_of_nonpos (by omega) (by omega)
      omega
theorem sysOf_rep (m : Nat) (p : Part) : sysOf (List.replicate m p) = List.replicate m p.1 := by
  simp [sysOf]
theorem sum_repI (m : Int) : ∀ k : Nat, (List.replicate k m).sum = k * m
  | 0 => by simp
  | k + 1 => by
    rw [List.replicate_succ, List.sum_cons, sum_repI m k, Int.natCast_add, Int.add_mul]
    simp only [Int.natCast_one, Int.one_mul]
    omega
theorem J.rows_none {x : J} (h : x.stb) (e : ¬ 0 < x.steps) : x.sys.rows = [] := by
  have h1 := J.adr_len x h
  have h2 := congrArg List.length (J.sys_adr x)
  rw [List.length_map] at h2
  exact List.eq_nil_of_length_eq_zero (by omega)
mutual
theorem J.low_sys : ∀ j : J, j.stb → j.sys.Low j.low ∧ j.sys.net = j.net
  | .st i, _ => by
    refine ⟨⟨fun D _ => ?_, ⟨fun _ => decide (i < 0), (fun _ _ _ _ z => (by cases z)), ?_⟩⟩, ?_⟩
    · simp only [J.sys, J.low, sumD, List.map_cons, List.map_nil, List.sum_cons, List.sum_nil]
      split <;> omega
    · simp only [J.sys, J.low, sumD, List.map_cons, List.map_nil, List.sum_cons, List.sum_nil, decide_eq_true_eq]
      split <;> omega
    · simp [J.sys, J.net, Sys.net]
  | .ps k xs, h => by
    simp only [J.stb] at h
    obtain ⟨Ps, e1, e2, e3, e4, e5⟩ := J.lows_sys xs h.2
    refine ⟨?_, ?_⟩
    · cases k with
      | false =>
        simp only [J.sys, J.low, Bool.not_false]
        rw [← e1, ← e3]
        exact low_seq Ps 0 e2
      | true =>
        simp only [J.sys, J.low, Bool.not_true]
        rw [← e1, ← e4]
        exact low_par Ps 0 e2
    · simp only [J.sys, J.net, net_comp]
      exact e5
  | .rn k n x, h => by
    simp only [J.stb] at h
    obtain ⟨hx, hn⟩ := J.low_sys x h.2.1
    by_cases e : 0 < x.steps
    · have ec : ((n.toNat : Nat) : Int) = n := by omega
      refine ⟨?_, ?_⟩
      · have all : ∀ p ∈ List.replicate n.toNat ((x.sys, x.low) : Part), p.1.Low p.2 := by
          intro p hp
          obtain ⟨_, rfl⟩ := List.mem_replicate.mp hp
          exact hx
        cases k with
        | false =>
          have l := low_seq _ 0 all
          rw [sysOf_rep] at l
          simp only [J.sys, J.low, Bool.not_false, if_pos e]
          by_cases z : n = 0
          · rw [if_pos z]
            subst z
            exact l
          · rw [if_neg z]
            obtain ⟨m, em⟩ : ∃ m, n.toNat = m + 1 := ⟨n.toNat - 1, by omega⟩
            have em' : n - 1 = (m : Int) := by omega
            rw [em, lowSeq_rep _ hx.net, hn] at l
            rw [em, em']
            exact l
        | true =>
          have l := low_par _ 0 all
          rw [sysOf_rep, lowPar_rep, ec] at l
          simp only [J.sys, J.low, Bool.not_true, if_pos e]
          exact l
      · simp only [J.sys, J.net, net_comp, if_pos e, List.map_replicate, sum_repI, hn, ec]
    · have rn := J.rows_none h.2.1 e
      have l0 : x.low = 0 := by
        obtain ⟨D, _, hD⟩ := hx.at_
        rw [rn] at hD
        exact hD.symm
      have n0 : x.net = 0 := by
        rw [← hn]
        unfold Sys.net
        rw [rn]
        rfl
      have z : (J.rn k n x).sys = comp (!k) [] 0 := by simp only [J.sys, if_neg e, List.replicate_zero]
      rw [z]
      refine ⟨?_, ?_⟩
      · have lw : (J.rn k n x).low = 0 := by
          cases k with
          | false =>
            simp only [J.low, l0, n0]
            split <;> simp
          | true => simp only [J.low, l0, Int.mul_zero]
        rw [lw]
        exact ⟨fun D _ => Int.le_refl _, fun _ => false, fun a ha => by simp [comp, cRows] at ha, rfl⟩
      · simp only [J.net, n0, Int.mul_zero]
        rfl
theorem J.lows_sys : ∀ xs : List J, J.stbL xs → ∃ Ps : List Part, sysOf Ps = J.syss xs ∧ (∀ p ∈ Ps, p.1.Low p.2) ∧ lowSeq Ps = J.lowS xs ∧ lowPar Ps = J.lowL xs ∧ ((J.syss xs).map Sys.net).sum = J.netL xs
  | [], _ => ⟨[], rfl, (fun p hp => (by cases hp)), rfl, rfl, rfl⟩
  | x :: xs, h => by
    simp only [J.stbL] at h
    obtain ⟨h1, h2⟩ := J.low_sys x h.1
    obtain ⟨Ps, e1, e2, e3, e4, e5⟩ := J.lows_sys xs h.2
    refine ⟨(x.sys, x.low) :: Ps, ?_, ?_, ?_, ?_, ?_⟩
    · simp only [sysOf, List.map_cons, J.syss] at e1 ⊢
      rw [e1]
    · intro p hp
      rcases List.mem_cons.mp hp with rfl | hp
      · exact h1
      · exact e2 p hp
    · simp only [lowSeq, J.lowS, e3, h2]
    · simp only [lowPar, J.lowL, e4]
    · simp only [J.syss, List.map_cons, List.sum_cons, e5, J.netL, h2]
end
/-! block AtM: the rows of parts and rounds (behind bSys) -/
theorem cRows_at : ∀ {Ss : List Sys} {i k : Int} {r : List Int} {v : Int}, (k :: r, v) ∈ cRows Ss i → i ≤ k ∧ ∃ S, Ss[(k - i).toNat]? = some S ∧ (r, v) ∈ S.rows
  | S :: Ss, i, k, r, v, h => by
    simp only [cRows, List.mem_append, pre, List.mem_map, Prod.mk.injEq, List.cons.injEq] at h
    rcases h with ⟨b, hb, ⟨e1, e2⟩, e3⟩ | h
    · subst e1
      refine ⟨Int.le_refl _, S, ?_, ?_⟩
      · rw [Int.sub_self]
        rfl
      · obtain ⟨b1, b2⟩ := b
        cases e2
        cases e3
        exact hb
    · obtain ⟨h1, S', h2, h3⟩ := cRows_at h
      refine ⟨by omega, S', ?_, h3⟩
      have e : (k - i).toNat = (k - (i + 1)).toNat + 1 := by omega
      rw [e]
      exact h2
theorem J.syss_eq : ∀ xs : List J, J.syss xs = xs.map J.sys
  | [] => rfl
  | x :: xs => by rw [J.syss, J.syss_eq xs]; rfl
theorem rows_ps {b : Bool} {xs : List J} {k : Int} {r : List Int} {v : Int} (h : (k :: r, v) ∈ (J.ps b xs).sys.rows) : 0 ≤ k ∧ ∃ y, xs[k.toNat]? = some y ∧ (r, v) ∈ y.sys.rows := by
  simp only [J.sys, comp] at h
  obtain ⟨h1, S, h2, h3⟩ := cRows_at h
  rw [J.syss_eq, Int.sub_zero, List.getElem?_map] at h2
  cases e : xs[k.toNat]? with
  | none =>
    rw [e] at h2
    cases h2
  | some y =>
    rw [e] at h2
    obtain rfl := (Option.some.inj h2).symm
    exact ⟨h1, y, rfl, h3⟩
theorem rows_rn {b : Bool} {n : Int} {x : J} {k : Int} {r : List Int} {v : Int} (h : (k :: r, v) ∈ (J.rn b n x).sys.rows) : (r, v) ∈ x.sys.rows := by
  simp only [J.sys, comp] at h
  obtain ⟨h1, S, h2, h3⟩ := cRows_at h
  obtain ⟨_, rfl⟩ := List.mem_replicate.mp (List.mem_of_getElem? h2)
  exact h3
theorem rows_nil {j : J} {v : Int} (h : ([], v) ∈ j.sys.rows) : j = .st v := by
  cases j with
  | st i =>
    simp only [J.sys, List.mem_singleton, Prod.mk.injEq, true_and] at h
    rw [h]
  | ps b xs =>
    simp only [J.sys, comp] at h
    obtain ⟨k, r, e, _⟩ := cRows_head h
    cases e
  | rn b n x =>
    simp only [J.sys, comp] at h
    obtain ⟨k, r, e, _⟩ := cRows_head h
    cases e
theorem atI_ex {vs : List V} {r : Int} (h0 : 0 ≤ r) (h1 : r < (vs.length : Int)) : ∃ v, vs[r.toNat]? = some v ∧ atI vs r = some v := by
  have hk : r.toNat < vs.length := by omega
  exact ⟨vs[r.toNat], List.getElem?_eq_getElem hk, atI_at (j := r.toNat) (by omega) (List.getElem?_eq_getElem hk)⟩
/-! block At: _law_at, the step at an address (behind bAtM) -/
def spAt (K : PySem.W.Frag) : Sp := fun vs H Q _ => ∃ (v : V) (j : J) (ta : Addr) (a : List Int) (val : Int), vs = [v, .ref ta] ∧ Dp K H v j.toD ∧ SqT K H ta (a.map V.int) ∧ (a, val) ∈ j.sys.rows ∧ ∀ H', Same H H' → Q (.int val) H'
section
variable {P : Program} {w : World} {K : PySem.W.Frag} {mg : Str → Option Value} {base : Heap}
theorem ok_at (T : Txt K mg) : FnOk P w K mg base CX0 1 T.f__law_at T.d__law_at ["_law_job_here", "_law_address"] (spAt K) := by
  refine T.F__law_at.ok sc__law_at (fun vs H Q E h => ?_) (fun cdv A outer s H vs Q E hr h => ?_)
  · obtain ⟨v, j, ta, a, val, rfl, _⟩ := h
    rfl
  obtain ⟨v, j, ta, a, val, rfl, hd, hta, hin, q⟩ := h
  refine ⟨_, (pss_cons (ps_for PassesOwn.never rfl (pi_tup (pv 1)) (pg_name (i := 2) sc__law_at.nd rfl (Or.inl rfl))
        (pss_one (ps_set (i := 0) sc__law_at.nd rfl (Or.inl rfl) (pe_ifExp (pt_cmpR (r := rIn K false) op_in_seq (pe_ix (r := rIxT K) ix_tup (pv 0) pe_int (fun _ _ => rfl)) (pe_tup (pa_cons pe_str (pa_cons pe_str pa_nil))) (by rfl)) (pe_ix (r := rIxT K) ix_tup (pe_ix (r := rIxT K) ix_tup (pv 0) pe_int (fun _ _ => rfl)) (pv 2) (fun _ _ => rfl)) (pe_ix (r := rIxT K) ix_tup (pv 0) pe_int (fun _ _ => rfl))))))
      (pss_one (ps_ret (pv 0)))), ?_⟩
  refine ⟨_, rfl, ta, rfl, ⟨_, hta⟩, ?_⟩
  refine for_tup (K := K) (a := ta) (xs := a.map V.int) (fun i σ H' => ∃ (u : V) (y : J) (y2 : Option V), σ = [some u, some (.ref ta), y2] ∧ Same H H' ∧ Dp K H' u y.toD ∧ (a.drop i, val) ∈ y.sys.rows)
    ⟨v, j, none, rfl, Same.refl _, hd, by simpa using hin⟩ (fun i σ H' _ ⟨_, _, _, _, s1, _⟩ => same_sqT s1 hta) ?_ ?_
  · rintro i x σ H' hi ⟨u, y, y2, rfl, s1, hu, hy⟩
    rw [List.getElem?_map] at hi
    obtain ⟨k, ek, rfl⟩ := Option.map_eq_some_iff.mp hi
    obtain ⟨hlt, ek'⟩ := List.getElem?_eq_some_iff.mp ek
    have hdrop : a.drop i = k :: a.drop (i + 1) := by rw [← ek']; exact List.drop_eq_getElem_cons hlt
    rw [hdrop] at hy
    cases y with
    | st z =>
      simp only [J.sys, List.mem_singleton, Prod.mk.injEq] at hy
      cases hy.1
    | ps b xs =>
      obtain ⟨k0, y', ey, hy'⟩ := rows_ps hy
      obtain ⟨c, d, vs, rfl, hys, hvs, hall⟩ := ps_inv hu
      have len : vs.length = xs.length := parts_len hall
      have hlt : k.toNat < xs.length := (List.getElem?_eq_some_iff.mp ey).1
      obtain ⟨z, ez, eat⟩ := atI_ex (vs := vs) k0 (by omega)
      obtain ⟨j', ej', _, dj'⟩ := parts_at hall ez
      rw [ey] at ej'
      obtain rfl := Option.some.inj ej'
      refine ⟨_, rfl, _, _, _, _, rfl, rfl, hys, rfl, (by show 2 ≤ sizeLine; decide), fun t ht => ?_⟩
      refine ⟨t, _, rfl, .inr (SqT.of upd_same), rfl, rfl, _, rfl, ?_⟩
      have s2 : Same H' (upd H' t (.tup [.str "seq", .str "par"])) := same_new ht
      show if inV (.str (kwP b)) [.str "seq", .str "par"] = true then _ else _
      rw [w_in_parts]
      refine iteT ?_
      generalize (upd H' t (.tup [.str "seq", .str "par"])) = H2 at s2 ⊢
      refine ⟨_, rfl, _, _, _, _, rfl, rfl, same_sqT s2 hys, rfl, _, rfl, _, _, _, _, rfl, rfl, same_sqT s2 hvs, eat, ?_⟩
      exact ⟨_, _, _, rfl, s1.trans s2, dp_same s2 dj', hy'⟩
    | rn b n x =>
      have hy' := rows_rn hy
      obtain ⟨c, z, rfl, hys, hx⟩ := rn_inv hu
      refine ⟨_, rfl, _, _, _, _, rfl, rfl, hys, rfl, (by show 2 ≤ sizeLine; decide), fun t ht => ?_⟩
      refine ⟨t, _, rfl, .inr (SqT.of upd_same), rfl, rfl, _, rfl, ?_⟩
      have s2 : Same H' (upd H' t (.tup [.str "seq", .str "par"])) := same_new ht
      show if inV (.str (kwR b)) [.str "seq", .str "par"] = true then _ else _
      rw [w_in_parts_no]
      refine iteF ?_
      generalize (upd H' t (.tup [.str "seq", .str "par"])) = H2 at s2 ⊢
      refine ⟨_, rfl, _, _, _, _, rfl, rfl, same_sqT s2 hys, rfl, ?_⟩
      exact ⟨_, _, _, rfl, s1.trans s2, dp_same s2 hx, hy'⟩
  · rintro σ H' ⟨u, y, y2, rfl, s1, hu, hy⟩
    rw [List.length_map, List.drop_length] at hy
    obtain rfl := rows_nil hy
    obtain rfl := dp_int_inv hu
    exact ⟨_, rfl, q _ s1⟩
end
/-! block States: _law_states, all sets of steps that hold what comes ahead (behind bAt; _law_ahead's promise is taken as given here) -/
theorem keepT {K : PySem.W.Frag} {D : Addr} {H H' : Hp} {l : List V} (h : H D = some (.lst l)) (s : Sx D H H') : Kp K D H H' := s.kp h
def rNotLD (K : PySem.W.Frag) : R2 := fun x y H Q => ∃ (ds : List PyData) (d : PyData), Dp K H y (.list ds) ∧ Dp K H x d ∧ PyData.canLayAll0 ds = true ∧ d.canLay0 = true ∧ d.depth ≤ 60 ∧ Q (.bl (!(ds.any fun e => e.eqv d))) H
theorem op_notInLD {X : Cx} (hu : X.A.units + 66 < cLine) : OpR X (compareOp .NotIn) (rNotLD X.K) := by
  rintro pins s σ H x y v u Q I rv ru ⟨ds, d, hy, hx, c1, c2, c3, q⟩
  obtain ⟨as, r1⟩ := Dp.reads I _ _ _ hy ru
  obtain ⟨bs, r2⟩ := Dp.reads I _ _ _ hx rv
  refine SeqAt.notIn_list_reads r1 r2 c1 c2 ?_ ⟨.bl _, H, I, rfl, q⟩
  have : min (PyData.depthAll ds) d.depth ≤ 60 := Nat.le_trans (Nat.min_le_right _ _) c3
  omega
/-- the sets that are found, one step more each time -/
def stNext (ah : List Int → List Int → Bool) (every : List (List Int)) (one : List Int) (fs : List (List (List Int))) : List (List (List Int)) :=
  fs ++ (fs.filter fun S => every.all fun o => !(ah o one) || S.contains o).map (· ++ [one])
def stAll (ah : List Int → List Int → Bool) (every : List (List Int)) : List (List Int) → List (List (List Int)) → List (List (List Int))
  | [], fs => fs
  | one :: r, fs => stAll ah every r (stNext ah every one fs)
def stD (S : List (List Int)) : PyData := .list (adDs S)
def spAhead (K : PySem.W.Frag) : Sp := fun vs H Q _ => ∃ (v : V) (j : J) (t1 t2 : Addr) (a b : List Int), vs = [v, .ref t1, .ref t2] ∧ Dp K H v j.toD ∧ SqT K H t1 (a.map V.int) ∧ SqT K H t2 (b.map V.int) ∧ a ∈ j.adr ∧ b ∈ j.adr ∧
  j.deep ≤ 8 ∧ ∀ H', Same H H' → Q (.bl (j.sys.ahead a b)) H'
theorem ad_lay (a : List Int) : (adD a).canLay0 = true := by
  have h : ∀ l : List Int, PyData.canLayAll0 (l.map PyData.int) = true := by
    intro l
    induction l with
    | nil => simp [PyData.canLayAll0]
    | cons x r ih => simp [PyData.canLayAll0, PyData.canLay0, ih]
  simp [adD, PyData.canLay0, h]
theorem ads_lay : ∀ as : List (List Int), PyData.canLayAll0 (adDs as) = true
  | [] => by simp [adDs, PyData.canLayAll0]
  | a :: as => by
    have ih := ads_lay as
    simp only [adDs, List.map_cons, PyData.canLayAll0, ad_lay, Bool.true_and] at ih ⊢
    exact ih
theorem ad_depth (a : List Int) : (adD a).depth ≤ 2 := by
  have h : ∀ l : List Int, PyData.depthAll (l.map PyData.int) ≤ 0 := by
    intro l
    induction l with
    | nil => simp [PyData.depthAll]
    | cons x r ih => simp only [List.map_cons, PyData.depthAll, PyData.depth]; omega
  have := h a
  simp only [adD, PyData.depth]
  omega
theorem ints_eqv : ∀ a b : List Int, PyData.eqvAll (a.map .int) (b.map .int) = decide (a = b)
  | [], [] => by simp [PyData.eqvAll]
  | [], b :: bs => by simp [PyData.eqvAll]
  | a :: as, [] => by simp [PyData.eqvAll]
  | a :: as, b :: bs => by
    have ih := ints_eqv as bs
    by_cases h : a = b <;> simp [PyData.eqvAll, PyData.eqv, ih, h]
theorem ad_eqv (a b : List Int) : (adD a).eqv (adD b) = decide (a = b) := by
  simp only [adD, PyData.eqv]
  exact ints_eqv a b
theorem any_ad (S : List (List Int)) (b : List Int) : ((adDs S).any fun e => e.eqv (adD b)) = S.contains b := by
  induction S with
  | nil => rfl
  | cons a S ih =>
    have e : (adDs (a :: S)).any (fun e => e.eqv (adD b)) = ((adD a).eqv (adD b) || (adDs S).any fun e => e.eqv (adD b)) := rfl
    rw [e, ih, ad_eqv]
    simp only [List.contains_cons]
    congr 1
    by_cases h : a = b
    · subst h
      simp
    · have h' : ¬ b = a := fun z => h z.symm
      simp [h, h']
/-- what comes ahead stands before -/
def Before (ah : List Int → List Int → Bool) (A : List (List Int)) : Prop := ∀ pre b rest, A = pre ++ b :: rest → ∀ a ∈ A, ah a b = true → a ∈ pre
def ClosedA (ah : List Int → List Int → Bool) (A : List (List Int)) (D : List Int → Bool) : Prop := ∀ a ∈ A, ∀ b ∈ A, ah a b = true → D b = true → D a = true
theorem st_cond {ah : List Int → List Int → Bool} {A S : List (List Int)} {one : List Int} : (A.all fun o => !(ah o one) || S.contains o) = true ↔ ∀ o ∈ A, ah o one = true → o ∈ S := by
  rw [List.all_eq_true]
  constructor
  · intro h o ho ha
    have := h o ho
    rw [ha] at this
    simpa using this
  · intro h o ho
    cases e : ah o one with
    | false => rfl
    | true =>
      have := h o ho e
      simpa using this
theorem st_mem {ah : List Int → List Int → Bool} {A : List (List Int)} {one : List Int} {fs : List (List (List Int))} {S : List (List Int)} :
    S ∈ stNext ah A one fs ↔ S ∈ fs ∨ ∃ R ∈ fs, (∀ o ∈ A, ah o one = true → o ∈ R) ∧ S = R ++ [one] := by
  unfold stNext
  rw [List.mem_append, List.mem_map]
  constructor
  · rintro (h | ⟨R, h1, rfl⟩)
    · exact .inl h
    · obtain ⟨h2, h3⟩ := List.mem_filter.mp h1
      exact .inr ⟨R, h2, st_cond.mp h3, rfl⟩
  · rintro (h | ⟨R, h1, h2, rfl⟩)
    · exact .inl h
    · exact .inr ⟨R, List.mem_filter.mpr ⟨h1, st_cond.mpr h2⟩, rfl⟩
theorem st_sound {ah : List Int → List Int → Bool} {A : List (List Int)} (hb : Before ah A) (nd : A.Nodup) : ∀ (rest pre : List (List Int)) (fs : List (List (List Int))), A = pre ++ rest →
    (∀ S ∈ fs, ∃ D, ClosedA ah A D ∧ S = pre.filter D) → ∀ S ∈ stAll ah A rest fs, ∃ D, ClosedA ah A D ∧ S = A.filter D
  | [], pre, fs, e, h, S, hS => by
    obtain ⟨D, h1, h2⟩ := h S hS
    rw [List.append_nil] at e
    exact ⟨D, h1, e ▸ h2⟩
  | one :: rest, pre, fs, e, h, S, hS => by
    refine st_sound hb nd rest (pre ++ [one]) _ (by rw [e, List.append_assoc]; rfl) ?_ S hS
    intro S hS
    have npre : one ∉ pre := by
      rw [e] at nd
      have := (List.nodup_append.mp nd).2.2
      intro z
      exact this one z one List.mem_cons_self rfl
    have inA : ∀ x ∈ pre, x ∈ A := fun x hx => by rw [e]; exact List.mem_append_left _ hx
    have before : ∀ a ∈ A, ∀ b ∈ pre, ah a b = true → a ∈ pre := by
      intro a ha b hbp hab
      obtain ⟨p1, p2, ep⟩ := List.append_of_mem hbp
      have := hb p1 b (p2 ++ one :: rest) (by rw [e, ep]; simp) a ha hab
      rw [ep]
      exact List.mem_append_left _ this
    rcases st_mem.mp hS with h1 | ⟨R, h1, h2, rfl⟩
    · obtain ⟨D, c, eS⟩ := h S h1
      refine ⟨fun x => D x && pre.contains x, ?_, ?_⟩
      · intro a ha b hbA hab hD
        simp only [Bool.and_eq_true, List.contains_iff_mem] at hD ⊢
        exact ⟨c a ha b hbA hab hD.1, before a ha b hD.2 hab⟩
      · rw [List.filter_append, eS]
        have e1 : pre.filter (fun x => D x && pre.contains x) = pre.filter D := List.filter_congr fun x hx => by simp [hx]
        have e2 : [one].filter (fun x => D x && pre.contains x) = [] := by simp [npre]
        rw [e1, e2, List.append_nil]
    · obtain ⟨D, c, eS⟩ := h R h1
      refine ⟨fun x => (D x && pre.contains x) || x == one, ?_, ?_⟩
      · intro a ha b hbA hab hD
        simp only [Bool.or_eq_true, Bool.and_eq_true, List.contains_iff_mem, beq_iff_eq] at hD ⊢
        rcases hD with hD | rfl
        · exact .inl ⟨c a ha b hbA hab hD.1, before a ha b hD.2 hab⟩
        · have := h2 a ha hab
          rw [eS] at this
          obtain ⟨m1, m2⟩ := List.mem_filter.mp this
          exact .inl ⟨m2, m1⟩
      · rw [List.filter_append, eS]
        have e1 : pre.filter (fun x => (D x && pre.contains x) || x == one) = pre.filter D := List.filter_congr fun x hx => by
          have : (x == one) = false := by
            simp only [beq_eq_false_iff_ne, ne_eq]
            rintro rfl
            exact npre hx
          simp [hx, this]
        rw [e1]
        simp
theorem st_full {ah : List Int → List Int → Bool} {A : List (List Int)} (hb : Before ah A) {D : List Int → Bool} (c : ClosedA ah A D) : ∀ (rest pre : List (List Int)) (fs : List (List (List Int))), A = pre ++ rest →
    pre.filter D ∈ fs → A.filter D ∈ stAll ah A rest fs
  | [], pre, fs, e, h => by
    rw [List.append_nil] at e
    subst e
    exact h
  | one :: rest, pre, fs, e, h => by
    refine st_full hb c rest (pre ++ [one]) _ (by rw [e, List.append_assoc]; rfl) ?_
    rw [List.filter_append]
    cases hD : D one with
    | false =>
      simp only [List.filter_cons, hD, List.filter_nil, List.append_nil, Bool.false_eq_true, if_false]
      exact st_mem.mpr (.inl h)
    | true =>
      simp only [List.filter_cons, hD, List.filter_nil, if_true]
      refine st_mem.mpr (.inr ⟨_, h, fun o ho hoa => ?_, rfl⟩)
      have o1 : one ∈ A := by
        rw [e]
        simp
      exact List.mem_filter.mpr ⟨hb pre one rest e o ho hoa, c o ho one o1 hoa hD⟩
/-- what is found are just the closed sets -/
theorem st_all {ah : List Int → List Int → Bool} {A : List (List Int)} (hb : Before ah A) (nd : A.Nodup) (S : List (List Int)) : S ∈ stAll ah A A [[]] ↔ ∃ D, ClosedA ah A D ∧ S = A.filter D := by
  constructor
  · refine st_sound hb nd A [] [[]] rfl (fun S hS => ⟨fun _ => false, (fun _ _ _ _ _ z => (by cases z)), ?_⟩) S
    simpa using hS
  · rintro ⟨D, c, rfl⟩
    exact st_full hb c A [] [[]] rfl (by simp)
theorem ahead_rest {sq : Bool} {S : Sys} {r : List Sys} {i k m : Int} {c d : List Int} (hk : i + 1 ≤ k) (h : cAhead sq (S :: r) i (k :: c) (m :: d) = true) : cAhead sq r (i + 1) (k :: c) (m :: d) = true := by
  simp only [cAhead] at h ⊢
  by_cases z : k = m
  · subst z
    simp only [ne_eq, not_true_eq_false, if_false, aheadAt] at h ⊢
    rw [if_neg (by omega)] at h
    exact h
  · simp only [ne_eq, z, not_false_eq_true, if_true] at h ⊢
    exact h
theorem cRows_before {sq : Bool} : ∀ {Ss : List Sys} {i : Int}, (∀ S ∈ Ss, Before S.ahead (S.rows.map (·.1))) → Before (cAhead sq Ss i) ((cRows Ss i).map (·.1))
  | [], i, h, q, b, rest, e, a, ha, hab => by simp [cRows] at ha
  | S :: r, i, h, q, b, rest, e, a, ha, hab => by
    have heads : ∀ x ∈ (cRows r (i + 1)).map (·.1), ∃ k c, x = k :: c ∧ i + 1 ≤ k := by
      intro x hx
      obtain ⟨y, hy, rfl⟩ := List.mem_map.mp hx
      exact cRows_head hy
    have ih := cRows_before (sq := sq) (Ss := r) (i := i + 1) (fun S hS => h S (List.mem_cons_of_mem _ hS))
    have e1 : (cRows (S :: r) i).map (·.1) = (S.rows.map (·.1)).map (i :: ·) ++ (cRows r (i + 1)).map (·.1) := by
      simp only [cRows, List.map_append]
      congr 1
      unfold pre
      rw [List.map_map, List.map_map]
      rfl
    rw [e1] at e ha
    have later : ∀ mid, q = (S.rows.map (·.1)).map (i :: ·) ++ mid → (cRows r (i + 1)).map (·.1) = mid ++ b :: rest → a ∈ q := by
      intro mid h1 h2
      rw [h1]
      rcases List.mem_append.mp ha with ha | ha
      · exact List.mem_append_left _ ha
      · refine List.mem_append_right _ (ih mid b rest h2 a ha ?_)
        obtain ⟨k, c, ea, hk⟩ := heads a ha
        obtain ⟨m, d, eb, hm⟩ := heads b (by rw [h2]; simp)
        rw [ea, eb] at hab ⊢
        exact ahead_rest hk hab
    rcases List.append_eq_append_iff.mp e with ⟨mid, h1, h2⟩ | ⟨mid, h1, h2⟩
    · exact later mid h1 h2
    · cases mid with
      | nil =>
        rw [List.append_nil] at h1
        exact later [] (by rw [List.append_nil]; exact h1.symm) h2.symm
      | cons m0 mid =>
        obtain ⟨rfl, h3⟩ := List.cons.inj h2
        -- b stands in the first
        obtain ⟨p1, p2, e3, e4, e5⟩ := List.map_eq_append_iff.mp h1
        obtain ⟨b', p3, rfl, e6, e7⟩ := List.map_eq_cons_iff.mp e5
        rcases List.mem_append.mp ha with ha | ha
        · obtain ⟨a', ha', rfl⟩ := List.mem_map.mp ha
          simp only [cAhead, aheadAt, ne_eq, ← e6, not_true_eq_false, if_false, if_true] at hab
          have := h S List.mem_cons_self p1 b' p3 e3 a' ha' hab
          rw [← e4]
          exact List.mem_map.mpr ⟨a', this, rfl⟩
        · exfalso
          obtain ⟨k, c, ea, hk⟩ := heads a ha
          rw [ea, ← e6] at hab
          simp only [cAhead, ne_eq] at hab
          rw [if_pos (by omega)] at hab
          simp only [Bool.and_eq_true, decide_eq_true_eq] at hab
          omega
mutual
theorem J.sys_before : ∀ j : J, Before j.sys.ahead (j.sys.rows.map (·.1))
  | .st i => by
    intro q b rest e a ha hab
    cases hab
  | .ps k xs => by
    simp only [J.sys, comp]
    exact cRows_before (J.syss_before xs)
  | .rn k n x => by
    simp only [J.sys, comp]
    refine cRows_before fun S hS => ?_
    obtain ⟨_, rfl⟩ := List.mem_replicate.mp hS
    exact J.sys_before x
theorem J.syss_before : ∀ xs : List J, ∀ S ∈ J.syss xs, Before S.ahead (S.rows.map (·.1))
  | [], S, h => by cases h
  | x :: xs, S, h => by
    simp only [J.syss] at h
    rcases List.mem_cons.mp h with rfl | h
    · exact J.sys_before x
    · exact J.syss_before xs S h
end
theorem cRows_nodup : ∀ {Ss : List Sys} {i : Int}, (∀ S ∈ Ss, (S.rows.map (·.1)).Nodup) → ((cRows Ss i).map (·.1)).Nodup
  | [], i, h => by simp [cRows]
  | S :: r, i, h => by
    have ih := cRows_nodup (Ss := r) (i := i + 1) (fun S hS => h S (List.mem_cons_of_mem _ hS))
    have e1 : (cRows (S :: r) i).map (·.1) = (S.rows.map (·.1)).map (i :: ·) ++ (cRows r (i + 1)).map (·.1) := by
      simp only [cRows, List.map_append]
      congr 1
      unfold pre
      rw [List.map_map, List.map_map]
      rfl
    rw [e1, List.nodup_append]
    refine ⟨?_, ih, ?_⟩
    · refine List.Pairwise.map _ (fun a b hab z => hab (List.cons.inj z).2) (h S List.mem_cons_self)
    · intro a ha b hb
      obtain ⟨a', _, rfl⟩ := List.mem_map.mp ha
      obtain ⟨y, hy, rfl⟩ := List.mem_map.mp hb
      obtain ⟨k, c, e, hk⟩ := cRows_head hy
      rw [e]
      intro z
      have := (List.cons.inj z).1
      omega
mutual
theorem J.sys_nodup : ∀ j : J, (j.sys.rows.map (·.1)).Nodup
  | .st i => by simp [J.sys]
  | .ps k xs => by
    simp only [J.sys, comp]
    exact cRows_nodup (J.syss_nodup xs)
  | .rn k n x => by
    simp only [J.sys, comp]
    refine cRows_nodup fun S hS => ?_
    obtain ⟨_, rfl⟩ := List.mem_replicate.mp hS
    exact J.sys_nodup x
theorem J.syss_nodup : ∀ xs : List J, ∀ S ∈ J.syss xs, (S.rows.map (·.1)).Nodup
  | [], S, h => by cases h
  | x :: xs, S, h => by
    simp only [J.syss] at h
    rcases List.mem_cons.mp h with rfl | h
    · exact J.sys_nodup x
    · exact J.syss_nodup xs S h
end
/-- the step at an address -/
def valOf (rows : List Row1) (a : List Int) : Int := ((rows.find? fun r => r.1 == a).map (·.2)).getD 0
theorem valOf_mem : ∀ {rows : List Row1} {r : Row1}, (rows.map (·.1)).Nodup → r ∈ rows → valOf rows r.1 = r.2
  | x :: rows, r, nd, h => by
    rw [List.map_cons, List.nodup_cons] at nd
    rcases List.mem_cons.mp h with rfl | h
    · simp [valOf]
    · have ne : ¬ x.1 = r.1 := fun z => nd.1 (z ▸ List.mem_map.mpr ⟨r, h, rfl⟩)
      have ih := valOf_mem nd.2 h
      unfold valOf at ih ⊢
      have e : (x.1 == r.1) = false := by simpa using ne
      rw [List.find?_cons, e]
      exact ih
def useOf (rows : List Row1) (S : List (List Int)) : Int := (S.map (valOf rows)).sum
theorem use_sumD {rows : List Row1} (nd : (rows.map (·.1)).Nodup) (D : List Int → Bool) : useOf rows ((rows.map (·.1)).filter D) = sumD rows D := by
  have key : ∀ rs : List Row1, (∀ r ∈ rs, valOf rows r.1 = r.2) → (((rs.map (·.1)).filter D).map (valOf rows)).sum = sumD rs D := by
    intro rs
    induction rs with
    | nil => intro _; rfl
    | cons x rs ih =>
      intro h
      have h1 := h x List.mem_cons_self
      have h2 := ih fun r hr => h r (List.mem_cons_of_mem _ hr)
      unfold sumD at h2 ⊢
      simp only [List.map_cons, List.sum_cons, List.filter_cons]
      cases e : D x.1 with
      | true =>
        simp only [if_true, List.map_cons, List.sum_cons, h1, h2]
      | false =>
        simp only [Bool.false_eq_true, if_false, h2]
        omega
  exact key rows fun r hr => valOf_mem nd hr
theorem st_last {ah : List Int → List Int → Bool} {A : List (List Int)} (hb : Before ah A) : ∀ (rest pre : List (List Int)) (fs : List (List (List Int))), A = pre ++ rest → fs.getLast? = some pre → (stAll ah A rest fs).getLast? = some A
  | [], pre, fs, e, h => by
    rw [List.append_nil] at e
    subst e
    exact h
  | one :: rest, pre, fs, e, h => by
    refine st_last hb rest (pre ++ [one]) _ (by rw [e, List.append_assoc]; rfl) ?_
    obtain ⟨front, rfl⟩ : ∃ front, fs = front ++ [pre] := by
      obtain ⟨l, hl⟩ := List.getLast?_eq_some_iff.mp h
      exact ⟨l, hl⟩
    have hc : (A.all fun o => !(ah o one) || pre.contains o) = true := st_cond.mpr fun o ho hoa => hb pre one rest e o ho hoa
    unfold stNext
    rw [List.filter_append]
    simp only [List.filter_cons, hc, if_true, List.filter_nil, List.map_append, List.map_cons, List.map_nil]
    rw [← List.append_assoc, List.getLast?_concat]
/-- the sets that are found for a job: their sums, the least of them, the last of them -/
def J.states (j : J) : List (List (List Int)) := stAll j.sys.ahead j.adr j.adr [[]]
theorem J.states_low (j : J) (h : j.stb) : (∀ S ∈ j.states, j.low ≤ useOf j.sys.rows S) ∧ (∃ S ∈ j.states, useOf j.sys.rows S = j.low) := by
  have hA := J.sys_adr j
  have nd := J.sys_nodup j
  have hb := J.sys_before j
  obtain ⟨hl, _⟩ := J.low_sys j h
  have cl : ∀ D, ClosedA j.sys.ahead (j.sys.rows.map (·.1)) D → j.sys.Closed D := fun D c a ha b hbb hab hD => c a.1 (List.mem_map.mpr ⟨a, ha, rfl⟩) b.1 (List.mem_map.mpr ⟨b, hbb, rfl⟩) hab hD
  have cl' : ∀ D, j.sys.Closed D → ClosedA j.sys.ahead (j.sys.rows.map (·.1)) D := by
    intro D c a ha b hbb hab hD
    obtain ⟨a', ha', rfl⟩ := List.mem_map.mp ha
    obtain ⟨b', hb', rfl⟩ := List.mem_map.mp hbb
    exact c a' ha' b' hb' hab hD
  unfold J.states
  rw [← hA]
  constructor
  · intro S hS
    obtain ⟨D, c, rfl⟩ := (st_all hb nd S).mp hS
    rw [use_sumD nd]
    exact hl.le D (cl D c)
  · obtain ⟨D, c, e⟩ := hl.at_
    exact ⟨_, (st_all hb nd _).mpr ⟨D, cl' D c, rfl⟩, by rw [use_sumD nd, e]⟩
theorem J.states_last (j : J) (h : j.stb) : j.states.getLast? = some j.adr ∧ useOf j.sys.rows j.adr = j.net := by
  have hA := J.sys_adr j
  have nd := J.sys_nodup j
  have hb := J.sys_before j
  obtain ⟨_, hn⟩ := J.low_sys j h
  refine ⟨?_, ?_⟩
  · unfold J.states
    rw [← hA]
    exact st_last hb _ [] [[]] rfl rfl
  · have e := use_sumD nd fun _ => true
    rw [sumD_all fun _ _ => rfl, List.filter_eq_self.mpr (fun _ _ => rfl), hA] at e
    rw [e]
    exact hn
/-! block StatesW: for the walk of _law_states (behind bStates): its promise, and small facts -/
theorem ints_vals {K : PySem.W.Frag} {H : Hp} : ∀ {xs : List V} {a : List Int}, DpAll K H xs (a.map PyData.int) → xs = a.map V.int
  | [], [], _ => rfl
  | [], _ :: _, h => by cases h
  | _ :: _, [], h => by cases h
  | x :: xs, i :: a, h => by
    cases h with
    | cons h1 h2 =>
      obtain rfl := dp_int_inv h1
      rw [List.map_cons, ints_vals h2]
def stCond (ah : List Int → List Int → Bool) (A : List (List Int)) (one : List Int) (S : List (List Int)) : Bool := A.all fun o => !(ah o one) || S.contains o
theorem st_empty {ah : List Int → List Int → Bool} {A S : List (List Int)} {one : List Int} : (((A.filter fun o => ah o one).filter fun o => !S.contains o).isEmpty) = stCond ah A one S := by
  unfold stCond
  rw [List.filter_filter]
  cases e : A.all fun o => !(ah o one) || S.contains o with
  | true =>
    rw [List.isEmpty_iff, List.filter_eq_nil_iff]
    intro o ho
    have := List.all_eq_true.mp e o ho
    simp only [Bool.or_eq_true, Bool.not_eq_true'] at this
    rcases this with h | h
    · simp [h]
    · have m : o ∈ S := by simpa using h
      simp [m]
  | false =>
    rw [List.all_eq_false] at e
    obtain ⟨o, ho, h⟩ := e
    simp only [Bool.or_eq_true, Bool.not_eq_true', not_or, Bool.not_eq_false, Bool.not_eq_true] at h
    rw [List.isEmpty_eq_false_iff, ne_eq, List.filter_eq_nil_iff]
    intro z
    exact absurd (by simp [h.1, h.2]; simpa using h.2) (z o ho)
def spStates (K : PySem.W.Frag) : Sp := fun vs H Q _ => ∃ (v : V) (j : J), vs = [v] ∧ Dp K H v j.toD ∧ j.deep ≤ 8 ∧ j.stb ∧ j.steps ≤ 12 ∧ j.rounded ∧
  ∀ (H' : Hp) (l : Addr) (ss : List V), Same H H' → H' l = some (.lst ss) → DpAll K H' ss (j.states.map stD) → Q (.ref l) H'
theorem stNext_len (ah : List Int → List Int → Bool) (A : List (List Int)) (one : List Int) (fs : List (List (List Int))) : (stNext ah A one fs).length ≤ 2 * fs.length := by
  unfold stNext
  have := List.length_filter_le (fun S => A.all fun o => !(ah o one) || S.contains o) fs
  rw [List.length_append, List.length_map]
  omega
theorem stAll_snoc (ah : List Int → List Int → Bool) (A : List (List Int)) (one : List Int) : ∀ (pre : List (List Int)) (fs : List (List (List Int))), stAll ah A (pre ++ [one]) fs = stNext ah A one (stAll ah A pre fs)
  | [], fs => rfl
  | p :: pre, fs => stAll_snoc ah A one pre (stNext ah A p fs)
/-! block Ahead: _law_ahead, which step comes ahead of which (behind bStatesW; with HandS.Zip) -/
/-- what a for walks, within a comprehension's own block: its written part is the def's -/
theorem pi_listK {X : Cx} {tg l : Expr} {tl : TE} (K : PySem.W.Frag) (hk : X.K = K) (hl : PE X l tl) : PI X tg l (iList K tl) := by
  subst hk
  exact pi_list hl
theorem pi_tupK {X : Cx} {tg l : Expr} {tl : TE} (K : PySem.W.Frag) (hk : X.K = K) (hl : PE X l tl) : PI X tg l (iTup K tl) := by
  subst hk
  exact pi_tup hl
/-- a loop over zip of two tuples, to the end of the shorter one -/
theorem for_zipT2 {K : PySem.W.Frag} {a b : Addr} {xs ys : List V} {g : TG} {tb : TS} {D : Ends} {σ : L2.St} {H : Hp} (Pv : Nat → L2.St → Hp → Prop) (h0 : Pv 0 σ H) (hq : ∀ i σ H, Pv i σ H → SqT K H a xs ∧ SqT K H b ys)
    (hs : ∀ (i : Nat) (x y : V) (T : Addr) (σ : L2.St) (H : Hp), xs[i]? = some x → ys[i]? = some y → Pv i σ H → H T = none → g (.ref T) σ (upd H T (.tup [x, y])) fun σ2 H2 => tb { D with nx := Pv (i + 1), ct := Pv (i + 1), bk := D.nx } σ2 H2)
    (hd : ∀ i σ H, i ≤ xs.length → i ≤ ys.length → (i = xs.length ∨ i = ys.length) → Pv i σ H → D.nx σ H) :
    ∃ W : Nat → Nat → L2.St → Hp → Prop, (∃ m, W 0 m σ H) ∧ ∀ i m σ H, W i m σ H →
      ((RZ.ItzT K a b).stop i H ∧ D.nx σ H) ∨ ((RZ.ItzT K a b).go i H ∧ ∃ N : L2.St → Hp → Prop, (∀ σ' H', N σ' H' → ∃ m', m' < m ∧ W (i + 1) m' σ' H') ∧ ∀ v H', (RZ.ItzT K a b).yld i H v H' → g v σ H' fun σ2 H2 => tb { D with nx := N, ct := N, bk := D.nx } σ2 H2) := by
  refine ⟨fun i m σ H => m = xs.length - i ∧ i ≤ xs.length ∧ i ≤ ys.length ∧ Pv i σ H, ⟨xs.length, rfl, Nat.zero_le _, Nat.zero_le _, h0⟩, ?_⟩
  rintro i m σ H ⟨rfl, hi, hi2, p⟩
  obtain ⟨qx, qy⟩ := hq i σ H p
  by_cases hlt : i < xs.length ∧ i < ys.length
  · have hx : xs[i]? = some xs[i] := List.getElem?_eq_getElem hlt.1
    have hy : ys[i]? = some ys[i] := List.getElem?_eq_getElem hlt.2
    refine .inr ⟨⟨xs, ys, _, _, qx, qy, hx, hy⟩, Pv (i + 1), fun σ' H' p' => ⟨xs.length - (i + 1), by omega, rfl, hlt.1, hlt.2, p'⟩, fun v H' y => ?_⟩
    obtain ⟨T, x', y', rfl, hT, rfl, f1, f2⟩ := y
    exact hs i x' y' T σ H (f1 xs qx) (f2 ys qy) p hT
  · have e : i = xs.length ∨ i = ys.length := by omega
    refine .inl ⟨⟨xs, ys, qx, qy, ?_⟩, hd i σ H hi hi2 e p⟩
    omega
theorem aheadAt_at {S : Sys} {c d : List Int} : ∀ {Ss : List Sys} {i k : Int}, i ≤ k → Ss[(k - i).toNat]? = some S → aheadAt Ss i k c d = S.ahead c d
  | [], i, k, _, h => by simp at h
  | R :: Ss, i, k, hk, h => by
    unfold aheadAt
    by_cases e : k = i
    · subst e
      rw [if_pos rfl]
      rw [Int.sub_self] at h
      have h' : R = S := by simpa using h
      rw [h']
    · rw [if_neg e]
      refine aheadAt_at (by omega) ?_
      have e2 : (k - i).toNat = (k - (i + 1)).toNat + 1 := by omega
      rw [e2] at h
      simpa using h
/-- an address has a step -/
theorem adr_row {j : J} {a : List Int} (h : a ∈ j.adr) : ∃ v, (a, v) ∈ j.sys.rows := by
  rw [← J.sys_adr j] at h
  obtain ⟨r, hr, rfl⟩ := List.mem_map.mp h
  exact ⟨r.2, hr⟩
theorem row_adr {j : J} {a : List Int} {v : Int} (h : (a, v) ∈ j.sys.rows) : a ∈ j.adr := by
  rw [← J.sys_adr j]
  exact List.mem_map.mpr ⟨_, h, rfl⟩
theorem adr_st {i : Int} {a : List Int} (h : a ∈ (J.st i).adr) : a = [] := by
  simpa [J.adr] using h
theorem adr_ps {b : Bool} {xs : List J} {k : Int} {r : List Int} (h : (k :: r) ∈ (J.ps b xs).adr) : 0 ≤ k ∧ ∃ y, xs[k.toNat]? = some y ∧ r ∈ y.adr := by
  obtain ⟨v, hv⟩ := adr_row h
  obtain ⟨h1, y, h2, h3⟩ := rows_ps hv
  exact ⟨h1, y, h2, row_adr h3⟩
theorem adr_rn {b : Bool} {n : Int} {x : J} {k : Int} {r : List Int} (h : (k :: r) ∈ (J.rn b n x).adr) : 0 ≤ k ∧ r ∈ x.adr ∧ (List.replicate (if 0 < x.steps then n.toNat else 0) x.sys)[k.toNat]? = some x.sys := by
  obtain ⟨v, hv⟩ := adr_row h
  simp only [J.sys, comp] at hv
  obtain ⟨h1, S, h2, h3⟩ := cRows_at hv
  rw [Int.sub_zero] at h2
  obtain ⟨_, rfl⟩ := List.mem_replicate.mp (List.mem_of_getElem? h2)
  exact ⟨h1, row_adr h3, h2⟩
theorem ahead_ps {b : Bool} {xs : List J} {k m : Int} {c d : List Int} {y : J} (h0 : 0 ≤ k) (hy : xs[k.toNat]? = some y) : (J.ps b xs).sys.ahead (k :: c) (m :: d) = if k ≠ m then !b && decide (k < m) else y.sys.ahead c d := by
  simp only [J.sys, comp, cAhead]
  congr 1
  refine aheadAt_at h0 ?_
  rw [Int.sub_zero, J.syss_eq, List.getElem?_map, hy]
  rfl
theorem ahead_rn {b : Bool} {n : Int} {x : J} {k m : Int} {c d : List Int} (h0 : 0 ≤ k) (hy : (List.replicate (if 0 < x.steps then n.toNat else 0) x.sys)[k.toNat]? = some x.sys) : (J.rn b n x).sys.ahead (k :: c) (m :: d) = if k ≠ m then !b && decide (k < m) else x.sys.ahead c d := by
  simp only [J.sys, comp, cAhead]
  congr 1
  refine aheadAt_at h0 ?_
  rw [Int.sub_zero, hy]
theorem ahead_nil {j : J} {a b : List Int} (ha : a ∈ j.adr) (hb : b ∈ j.adr) (h : a = [] ∨ b = []) : j.sys.ahead a b = false := by
  cases j with
  | st i => rfl
  | ps k xs =>
    simp only [J.sys, comp]
    rcases h with rfl | rfl
    · rfl
    · cases a <;> rfl
  | rn k n x =>
    simp only [J.sys, comp]
    rcases h with rfl | rfl
    · rfl
    · cases a <;> rfl
theorem w_in_sr (k : Bool) : inV (.str (kwP k)) [.str "seq", .str "repeat"] = !k := by cases k <;> decide +kernel
theorem w_in_sr2 (k : Bool) : inV (.str (kwR k)) [.str "seq", .str "repeat"] = !k := by cases k <;> decide +kernel
section
variable {P : Program} {w : World} {K : PySem.W.Frag} {mg : Str → Option Value} {base : Heap}
theorem ok_ahead (T : Txt K mg) : FnOk P w K mg base CX0 1 T.f__law_ahead T.d__law_ahead ["_law_job_here", "_law_one", "_law_other"] (spAhead K) := by
  refine T.F__law_ahead.ok sc__law_ahead (fun vs H Q E h => ?_) (fun cdv A outer s H vs Q E hr h => ?_)
  · obtain ⟨v, j, t1, t2, a, b, rfl, _⟩ := h
    rfl
  obtain ⟨v, j, t1, t2, a, b, rfl, hd, h1, h2, ha, hb, hdeep, q⟩ := h
  refine ⟨_, (pss_cons (ps_for PassesOwn.never rfl (RZ.pi_zipA (by rfl) T.n_zip (pa_cons (pv 1) (pa_cons (pv 2) pa_nil))) (pg_tup (by rfl) (pgs_cons (pg_name (i := 3) sc__law_ahead.nd rfl (Or.inl rfl)) (pgs_cons (pg_name (i := 4) sc__law_ahead.nd rfl (Or.inl rfl)) pgs_nil)))
        (pss_cons (ps_if (pt_cmpR op_ne (pv 3) (pv 4) (nomark _)) (pss_one (ps_ret (pe_and (pe_cmpR (r := rIn K false) op_in_seq (pe_ix (r := rIxT K) ix_tup (pv 0) pe_int (fun _ _ => rfl)) (pe_tup (pa_cons pe_str (pa_cons pe_str pa_nil))) (by rfl)) (pe_one (pe_cmpR op_lt (pv 3) (pv 4) (nomark _)))))) pss_nil)
        (pss_one (ps_set (i := 0) sc__law_ahead.nd rfl (Or.inl rfl) (pe_ifExp (pt_cmpR (r := rIn K false) op_in_seq (pe_ix (r := rIxT K) ix_tup (pv 0) pe_int (fun _ _ => rfl)) (pe_tup (pa_cons pe_str (pa_cons pe_str pa_nil))) (by rfl)) (pe_ix (r := rIxT K) ix_tup (pe_ix (r := rIxT K) ix_tup (pv 0) pe_int (fun _ _ => rfl)) (pv 3) (fun _ _ => rfl)) (pe_ix (r := rIxT K) ix_tup (pv 0) pe_int (fun _ _ => rfl)))))))
      (pss_one (ps_ret pe_bl))), ?_⟩
  refine ⟨_, rfl, _, rfl, t1, t2, _, _, rfl, .inr ⟨h1, h2, ?_⟩⟩
  refine for_zipT2 (K := K) (xs := a.map V.int) (ys := b.map V.int) (fun i σ H' => ∃ (u : V) (y : J) (y3 y4 : Option V), σ = [some u, some (.ref t1), some (.ref t2), y3, y4] ∧ Same H H' ∧ Dp K H' u y.toD ∧
      a.drop i ∈ y.adr ∧ b.drop i ∈ y.adr ∧ j.sys.ahead a b = y.sys.ahead (a.drop i) (b.drop i))
    ⟨v, j, none, none, rfl, Same.refl _, hd, by simpa using ha, by simpa using hb, by simp⟩ (fun i σ H' ⟨_, _, _, _, _, s1, _⟩ => ⟨same_sqT s1 h1, same_sqT s1 h2⟩) ?_ ?_
  · rintro i x x2 t σ H' hi hi2 ⟨u, y, y3, y4, rfl, s1, hu, hya, hyb, hah⟩ ht
    rw [List.getElem?_map] at hi hi2
    obtain ⟨k, ek, rfl⟩ := Option.map_eq_some_iff.mp hi
    obtain ⟨m, em, rfl⟩ := Option.map_eq_some_iff.mp hi2
    obtain ⟨hlt, ek'⟩ := List.getElem?_eq_some_iff.mp ek
    obtain ⟨hlt2, em'⟩ := List.getElem?_eq_some_iff.mp em
    have da : a.drop i = k :: a.drop (i + 1) := by rw [← ek']; exact List.drop_eq_getElem_cons hlt
    have db : b.drop i = m :: b.drop (i + 1) := by rw [← em']; exact List.drop_eq_getElem_cons hlt2
    rw [da] at hya
    rw [db] at hyb
    rw [da, db] at hah
    have s2 : Same H' (upd H' t (.tup [.int k, .int m])) := same_new ht
    have qt : SqT K (upd H' t (.tup [.int k, .int m])) t [.int k, .int m] := SqT.of upd_same
    generalize (upd H' t (.tup [.int k, .int m])) = H2 at s2 qt ⊢
    refine ⟨t, _, rfl, qt, rfl, _, _, rfl, _, _, rfl, rfl, ?_⟩
    refine ⟨_, rfl, _, rfl, rfl, _, rfl, ?_⟩
    rw [w_dec_int]
    cases y with
    | st z => exact absurd (adr_st hya) (by simp)
    | ps kb xs =>
      obtain ⟨k0, y', ey, hya'⟩ := adr_ps hya
      obtain ⟨m0, y'', ey2, hyb'⟩ := adr_ps hyb
      rw [ahead_ps k0 ey] at hah
      obtain ⟨c, d, vs, rfl, hys, hvs, hall⟩ := ps_inv hu
      by_cases km : k = m
      · subst km
        rw [ey] at ey2
        obtain rfl := Option.some.inj ey2
        simp only [ne_eq, not_true_eq_false, if_false] at hah
        rw [decide_eq_true rfl]
        refine iteF ?_
        have len : vs.length = xs.length := parts_len hall
        have hlt3 : k.toNat < xs.length := (List.getElem?_eq_some_iff.mp ey).1
        obtain ⟨z, ez, eat⟩ := atI_ex (vs := vs) k0 (by omega)
        obtain ⟨j', ej', _, dj'⟩ := parts_at hall ez
        rw [ey] at ej'
        obtain rfl := Option.some.inj ej'
        refine ⟨_, rfl, _, _, _, _, rfl, rfl, same_sqT s2 hys, rfl, (by show 2 ≤ sizeLine; decide), fun t3 ht3 => ?_⟩
        refine ⟨t3, _, rfl, .inr (SqT.of upd_same), rfl, rfl, _, rfl, ?_⟩
        have s3 : Same H2 (upd H2 t3 (.tup [.str "seq", .str "par"])) := same_new ht3
        show if inV (.str (kwP kb)) [.str "seq", .str "par"] = true then _ else _
        rw [w_in_parts]
        refine iteT ?_
        generalize (upd H2 t3 (.tup [.str "seq", .str "par"])) = H3 at s3 ⊢
        have s23 := s2.trans s3
        refine ⟨_, rfl, _, _, _, _, rfl, rfl, same_sqT s23 hys, rfl, _, rfl, _, _, _, _, rfl, rfl, same_sqT s23 hvs, eat, ?_⟩
        exact ⟨_, _, _, _, rfl, s1.trans s23, dp_same s23 dj', hya', hyb', hah⟩
      · simp only [ne_eq, km, not_false_eq_true, if_true] at hah
        rw [decide_eq_false km]
        refine iteT ?_
        refine ⟨_, rfl, _, _, _, _, rfl, rfl, same_sqT s2 hys, rfl, (by show 2 ≤ sizeLine; decide), fun t3 ht3 => ?_⟩
        refine ⟨t3, _, rfl, .inr (SqT.of upd_same), rfl, rfl, ?_⟩
        refine ⟨_, rfl, ?_⟩
        rw [w_in_sr]
        cases kb with
        | true =>
          refine iteF ?_
          have hq := q _ (s1.trans (s2.trans (same_new (o := .tup [.str "seq", .str "repeat"]) ht3)))
          rw [hah] at hq
          exact hq
        | false =>
          refine iteT ?_
          refine ⟨_, rfl, _, rfl, _, _, rfl, rfl, ?_⟩
          have hq := q _ (s1.trans (s2.trans (same_new (o := .tup [.str "seq", .str "repeat"]) ht3)))
          rw [hah] at hq
          exact hq
    | rn kb n x =>
      obtain ⟨k0, hya', ey⟩ := adr_rn hya
      obtain ⟨m0, hyb', ey2⟩ := adr_rn hyb
      rw [ahead_rn k0 ey] at hah
      obtain ⟨c, z, rfl, hys, hx⟩ := rn_inv hu
      by_cases km : k = m
      · subst km
        simp only [ne_eq, not_true_eq_false, if_false] at hah
        rw [decide_eq_true rfl]
        refine iteF ?_
        refine ⟨_, rfl, _, _, _, _, rfl, rfl, same_sqT s2 hys, rfl, (by show 2 ≤ sizeLine; decide), fun t3 ht3 => ?_⟩
        refine ⟨t3, _, rfl, .inr (SqT.of upd_same), rfl, rfl, _, rfl, ?_⟩
        have s3 : Same H2 (upd H2 t3 (.tup [.str "seq", .str "par"])) := same_new ht3
        show if inV (.str (kwR kb)) [.str "seq", .str "par"] = true then _ else _
        rw [w_in_parts_no]
        refine iteF ?_
        generalize (upd H2 t3 (.tup [.str "seq", .str "par"])) = H3 at s3 ⊢
        have s23 := s2.trans s3
        refine ⟨_, rfl, _, _, _, _, rfl, rfl, same_sqT s23 hys, rfl, ?_⟩
        exact ⟨_, _, _, _, rfl, s1.trans s23, dp_same s23 hx, hya', hyb', hah⟩
      · simp only [ne_eq, km, not_false_eq_true, if_true] at hah
        rw [decide_eq_false km]
        refine iteT ?_
        refine ⟨_, rfl, _, _, _, _, rfl, rfl, same_sqT s2 hys, rfl, (by show 2 ≤ sizeLine; decide), fun t3 ht3 => ?_⟩
        refine ⟨t3, _, rfl, .inr (SqT.of upd_same), rfl, rfl, ?_⟩
        refine ⟨_, rfl, ?_⟩
        rw [w_in_sr2]
        cases kb with
        | true =>
          refine iteF ?_
          have hq := q _ (s1.trans (s2.trans (same_new (o := .tup [.str "seq", .str "repeat"]) ht3)))
          rw [hah] at hq
          exact hq
        | false =>
          refine iteT ?_
          refine ⟨_, rfl, _, rfl, _, _, rfl, rfl, ?_⟩
          have hq := q _ (s1.trans (s2.trans (same_new (o := .tup [.str "seq", .str "repeat"]) ht3)))
          rw [hah] at hq
          exact hq
  · rintro i σ H' hi hi2 e ⟨u, y, y3, y4, rfl, s1, hu, hya, hyb, hah⟩
    rw [List.length_map] at hi hi2 e
    rw [List.length_map] at e
    have hq := q _ s1
    rw [hah, ahead_nil hya hyb (by rcases e with e | e <;> (subst e; simp))] at hq
    exact hq
end
/-! block States2: _law_states, the walk (behind bAhead) -/
theorem noDs_ints : ∀ l : List Int, noDs (l.map PyData.int) = true
  | [] => rfl
  | x :: r => by simpa [noDs, noD] using noDs_ints r
theorem noDs_ad : ∀ as : List (List Int), noDs (adDs as) = true
  | [] => rfl
  | a :: as => by
    have ih := noDs_ad as
    simp only [adDs, List.map_cons, noDs, adD, noD, noDs_ints, Bool.true_and] at ih ⊢
    exact ih
theorem noDs_st : ∀ ss : List (List (List Int)), noDs (ss.map stD) = true
  | [] => rfl
  | S :: ss => by
    have ih := noDs_st ss
    simp only [List.map_cons, noDs, stD, noD, noDs_ad, Bool.true_and] at ih ⊢
    exact ih
/-- sets of steps as lists in memory, at addresses of which so much is told -/
inductive StX (K : PySem.W.Frag) (ne : Addr → Prop) (H : Hp) : List V → List (List (List Int)) → Prop
  | nil : StX K ne H [] []
  | cons {a : Addr} {xs : List V} {S : List (List Int)} {vs : List V} {Ss : List (List (List Int))} : ne a → H a = some (.lst xs) → DpAll K H xs (adDs S) → StX K ne H vs Ss → StX K ne H (.ref a :: vs) (S :: Ss)
theorem StX.same {K : PySem.W.Frag} {ne : Addr → Prop} {H H' : Hp} (s : Same H H') : ∀ {vs : List V} {Ss : List (List (List Int))}, StX K ne H vs Ss → StX K ne H' vs Ss
  | _, _, .nil => .nil
  | _, _, .cons n e h t => .cons n (s _ _ e) (dpAll_same s h) (t.same s)
theorem StX.keep {K : PySem.W.Frag} {p : Addr} {H H' : Hp} (k : Kp K p H H') : ∀ {vs : List V} {Ss : List (List (List Int))}, StX K (· ≠ p) H vs Ss → StX K (· ≠ p) H' vs Ss
  | _, _, .nil => .nil
  | _, _, .cons n e h t => .cons n (k.sx _ _ n e) (dpAll_keep k.tp (noLs_ad _) h) (t.keep k)
theorem StX.any {K : PySem.W.Frag} {ne : Addr → Prop} {H : Hp} : ∀ {vs : List V} {Ss : List (List (List Int))}, StX K ne H vs Ss → StX K (fun _ => True) H vs Ss
  | _, _, .nil => .nil
  | _, _, .cons n e h t => .cons trivial e h t.any
theorem StX.append {K : PySem.W.Frag} {ne : Addr → Prop} {H : Hp} : ∀ {vs ws : List V} {Ss Rs : List (List (List Int))}, StX K ne H vs Ss → StX K ne H ws Rs → StX K ne H (vs ++ ws) (Ss ++ Rs)
  | _, _, _, _, .nil, h => h
  | _, _, _, _, .cons n e h t, h' => .cons n e h (t.append h')
theorem StX.length {K : PySem.W.Frag} {ne : Addr → Prop} {H : Hp} : ∀ {vs : List V} {Ss : List (List (List Int))}, StX K ne H vs Ss → vs.length = Ss.length
  | _, _, .nil => rfl
  | _, _, .cons _ _ _ t => congrArg (· + 1) t.length
theorem StX.get {K : PySem.W.Frag} {ne : Addr → Prop} {H : Hp} : ∀ {vs : List V} {Ss : List (List (List Int))} {i : Nat} {v : V}, StX K ne H vs Ss → vs[i]? = some v → ∃ S a xs, Ss[i]? = some S ∧ v = .ref a ∧ H a = some (.lst xs) ∧ DpAll K H xs (adDs S)
  | _, _, _, _, .nil, e => by simp at e
  | _, _, 0, _, .cons n h d _, e => by
    simp at e
    subst e
    exact ⟨_, _, _, rfl, rfl, h, d⟩
  | _, _, i + 1, _, .cons _ _ _ t, e => by
    obtain ⟨S, a, xs, h1, h2⟩ := t.get (i := i) (by simpa using e)
    exact ⟨S, a, xs, by simpa using h1, h2⟩
theorem StX.dp {K : PySem.W.Frag} {ne : Addr → Prop} {H : Hp} : ∀ {vs : List V} {Ss : List (List (List Int))}, StX K ne H vs Ss → DpAll K H vs (Ss.map stD)
  | _, _, .nil => .nil
  | _, _, .cons _ e h t => .cons (.lst (SqL.of e) h) t.dp
theorem filter_take {α : Type} (p : α → Bool) {xs : List α} {k : Nat} {o : α} (e : xs[k]? = some o) : (xs.take (k + 1)).filter p = (xs.take k).filter p ++ (if p o = true then [o] else []) := by
  rw [List.take_add_one, e, List.filter_append]
  cases z : p o <;> simp [z]
theorem shaped_st (S : List (List Int)) : SeqAt.shaped (stD S) = true := by
  have h1 := ads_lay S
  have h2 : PyData.depthAll (adDs S) ≤ 2 := by
    induction S with
    | nil => simp [adDs, PyData.depthAll]
    | cons a S ih =>
      have := ad_depth a
      have ih' := ih (ads_lay S)
      simp only [adDs, List.map_cons, PyData.depthAll] at ih' ⊢
      omega
  unfold SeqAt.shaped
  simp only [stD, PyData.canLay0, PyData.depth, h1, Bool.true_and, decide_eq_true_eq]
  omega
theorem stAll_len (ah : List Int → List Int → Bool) (A : List (List Int)) : ∀ (pre : List (List Int)) (fs : List (List (List Int))), (stAll ah A pre fs).length ≤ 2 ^ pre.length * fs.length
  | [], fs => by simp [stAll]
  | one :: pre, fs => by
    have h1 := stAll_len ah A pre (stNext ah A one fs)
    have h2 := stNext_len ah A one fs
    have h3 : 2 ^ pre.length * (stNext ah A one fs).length ≤ 2 ^ pre.length * (2 * fs.length) := Nat.mul_le_mul_left _ h2
    simp only [stAll, List.length_cons]
    rw [Nat.pow_succ, Nat.mul_assoc]
    omega
theorem stAll_small (ah : List Int → List Int → Bool) (A : List (List Int)) (n : Nat) : ∀ (pre : List (List Int)) (fs : List (List (List Int))), (∀ S ∈ fs, S.length ≤ n) → ∀ S ∈ stAll ah A pre fs, S.length ≤ n + pre.length
  | [], fs, h, S, hS => by simpa using h S hS
  | one :: pre, fs, h, S, hS => by
    have key := stAll_small ah A (n + 1) pre (stNext ah A one fs) (fun R hR => by
      rcases st_mem.mp hR with h1 | ⟨R', h1, _, rfl⟩
      · have := h R h1
        omega
      · have := h R' h1
        simp only [List.length_append, List.length_singleton]
        omega) S hS
    simp only [List.length_cons]
    omega
section
variable {P : Program} {w : World} {K : PySem.W.Frag} {mg : Str → Option Value} {base : Heap}
theorem ok_states (T : Txt K mg) : FnOk P w K mg base CX0 20 T.f__law_states T.d__law_states ["_law_job_here"] (spStates K) := by
  have g__law_ahead : FnOk P w K mg base CX0 1 T.f__law_ahead T.d__law_ahead ["_law_job_here", "_law_one", "_law_other"] (spAhead K) := ok_ahead T
  have g__law_addresses : FnOk P w K mg base CX0 18 T.f__law_addresses T.d__law_addresses ["_law_job_here"] (spAdr K 8) := ok_adr T 8 (by decide)
  refine T.F__law_states.ok sc__law_states (fun vs H Q E h => ?_) (fun cdv A outer s H vs Q E hr h => ?_)
  · obtain ⟨v, j, rfl, _⟩ := h
    rfl
  obtain ⟨v, j, rfl, hd, hdeep, hstb, hst, hrd, q⟩ := h
  refine ⟨_, (pss_cons (ps_set (i := 1) sc__law_states.nd rfl (Or.inl rfl) (pe_call g__law_addresses (hr.mono (by omega)) rfl T.m__law_addresses T.F__law_addresses.kp T.b__law_addresses .nil pass0 (pa_cons (pv 0) pa_nil)))
      (pss_cons (ps_set (i := 2) sc__law_states.nd rfl (Or.inl rfl) (pe_lst (pa_cons (pe_lst pa_nil) pa_nil)))
      (pss_cons (ps_for PassesOwn.never rfl (pi_list (pv 1)) (pg_name (i := 3) sc__law_states.nd rfl (Or.inr rfl))
        (pss_cons (ps_set (i := 4) sc__law_states.nd rfl (Or.inr rfl) (pe_lc (own := [("_law_other", 6)]) (g := (gName 6)) (by rfl) sc__law_states.nd (pi_list (pv 1)) (blkOk_by (N := N__law_states) (sc := (defScope s__law_states)) (by decide +kernel)) (fun _ _ _ _ _ => (pg_name (i := 6) sc__law_states.nd rfl (Or.inl rfl))) (fun _ _ _ _ _ => (pts_one (pt_val (pe_call g__law_ahead (hr.mono (by omega)) rfl T.m__law_ahead T.F__law_ahead.kp T.b__law_ahead .nil pass0 (pa_cons (pv 0) (pa_cons (pv 6) (pa_cons (pv 3) pa_nil))))))) (fun _ _ _ _ _ => (pv 6))))
        (pss_cons (ps_setLc (i := 5) (own := [("_law_state", 7)]) (g := (gName 7)) (by rfl) sc__law_states.nd rfl rfl (sw_true rfl rfl rfl (by decide +kernel)) (pi_list (pv 2)) (blkOk_by (N := N__law_states) (sc := (defScope s__law_states)) (by decide +kernel)) (fun _ _ _ _ _ => (pg_name (i := 7) sc__law_states.nd rfl (Or.inr rfl))) (fun _ _ _ _ _ => (pts_one (pt_cmpR (r := rEqD K) (op_eqD hr.units) (pe_lc (own := [("_law_other", 6)]) (g := (gName 6)) (by rfl) sc__law_states.nd (pi_listK K rfl (pv 4)) (blkOk_by (N := N__law_states) (sc := (relS _ (defScope s__law_states))) (by decide +kernel)) (fun _ _ _ _ _ => (pg_name (i := 6) sc__law_states.nd rfl (Or.inl rfl))) (fun _ _ _ _ _ => (pts_one (pt_cmpR (r := rNotLD K) (op_notInLD (room66 hr)) (pv 6) (pv 7) (by rfl)))) (fun _ _ _ _ _ => (pv 6))) (pe_lst pa_nil) (nomark _)))) (fun _ _ _ _ _ => (pe_op op_cat (pv 7) (pe_lst (pa_cons (pv 3) pa_nil)))))
        (pss_one (ps_set (i := 2) sc__law_states.nd rfl (Or.inl rfl) (pe_op op_cat (pv 2) (pv 5)))))))
      (pss_one (ps_ret (pv 2)))))), ?_⟩
  have alen : j.adr.length ≤ 12 := by
    have := J.adr_len j hstb
    omega
  have adeep : ∀ a ∈ j.adr, a.length ≤ 8 := fun a ha => Nat.le_trans (J.adr_deep j a ha) hdeep
  refine ⟨_, rfl, v, j, rfl, hd, hdeep, hstb, by omega, hrd, fun H1 l0 as0 s1 n0 e0 d0 => ?_⟩
  have hd1 := dp_same s1 hd
  refine ⟨(by show 0 ≤ sizeLine; decide), fun e he => ?_⟩
  have s2 : Same H1 (upd H1 e (.lst [])) := same_new he
  have ee : upd H1 e (.lst []) e = some (.lst []) := upd_same
  generalize (upd H1 e (.lst [])) = H2 at s2 ee ⊢
  refine ⟨(by show 1 ≤ sizeLine; decide), fun f hf => ?_⟩
  have s3 : Same H2 (upd H2 f (.lst [.ref e])) := same_new hf
  have ef : upd H2 f (.lst [.ref e]) f = some (.lst [.ref e]) := upd_same
  generalize (upd H2 f (.lst [.ref e])) = H3 at s3 ef ⊢
  refine ⟨_, rfl, l0, rfl, ⟨_, SqL.of (s3 _ _ (s2 _ _ e0))⟩, ?_⟩
  refine for_list (xs := as0) (fun i σ G => ∃ (g : Addr) (y3 y4 y5 : Option V) (ss : List V), σ = [some v, some (.ref l0), some (.ref g), y3, y4, y5, none, none] ∧ Same H1 G ∧ G g = some (.lst ss) ∧
      StX K (fun _ => True) G ss (stAll j.sys.ahead j.adr (j.adr.take i) [[]]))
    ⟨f, none, none, none, [.ref e], rfl, s2.trans s3, ef, .cons trivial (s3 _ _ ee) .nil .nil⟩ (fun i σ G _ ⟨_, _, _, _, _, _, s4, _⟩ => SqL.of (s4 _ _ e0)) ?_ ?_
  · rintro i x σ G hi ⟨g, y3, y4, y5, ss, rfl, s4, eg, hss⟩
    obtain ⟨da, eda, hx⟩ := dpAll_get d0 hi
    rw [adDs, List.getElem?_map] at eda
    obtain ⟨a, ea, rfl⟩ := Option.map_eq_some_iff.mp eda
    have ha : a ∈ j.adr := List.mem_of_getElem? ea
    have il : i < j.adr.length := (List.getElem?_eq_some_iff.mp ea).1
    obtain ⟨ta, xa, rfl, hta, hxa⟩ := dp_tup_inv hx
    obtain rfl := ints_vals hxa
    generalize efs : stAll j.sys.ahead j.adr (j.adr.take i) [[]] = fs at hss
    have flen : fs.length ≤ 4096 := by
      have h1 := stAll_len j.sys.ahead j.adr (j.adr.take i) [[]]
      rw [efs, List.length_take, Nat.min_eq_left (Nat.le_of_lt il), List.length_singleton, Nat.mul_one] at h1
      have h2 : 2 ^ i ≤ 2 ^ 12 := Nat.pow_le_pow_right (by decide) (by omega)
      omega
    have fsmall : ∀ S ∈ fs, S.length ≤ 12 := by
      intro S hS
      rw [← efs] at hS
      have := stAll_small j.sys.ahead j.adr 0 (j.adr.take i) [[]] (fun S hS => by simp only [List.mem_singleton] at hS; subst hS; simp) S hS
      rw [List.length_take] at this
      omega
    -- what comes ahead of it
    refine ⟨_, rfl, l0, rfl, ⟨_, SqL.of (s4 _ _ e0)⟩, fun D hD => ?_⟩
    refine lc_list (K := K) (a := l0) (xs := as0) (fun k G2 => Same G G2 ∧ ∃ ws, G2 D = some (.lst ws) ∧ DpAll K G2 ws (adDs ((j.adr.take k).filter fun o => j.sys.ahead o a))) ?_ ?_ ?_ ?_
    · exact ⟨same_new hD, [], upd_same, by simpa [adDs] using .nil⟩
    · rintro k G2 _ ⟨s5, _⟩
      exact SqL.of (s5 _ _ (s4 _ _ e0))
    · rintro k y G2 hk ⟨s5, ws, eD, hws⟩
      obtain ⟨db, edb, hy⟩ := dpAll_get d0 hk
      rw [adDs, List.getElem?_map] at edb
      obtain ⟨o, eo, rfl⟩ := Option.map_eq_some_iff.mp edb
      have ho : o ∈ j.adr := List.mem_of_getElem? eo
      have kl : k < j.adr.length := (List.getElem?_eq_some_iff.mp eo).1
      obtain ⟨tb, xb, rfl, htb, hxb⟩ := dp_tup_inv hy
      obtain rfl := ints_vals hxb
      have s15 := s4.trans s5
      refine ⟨rfl, ?_⟩
      refine ⟨_, rfl, _, rfl, _, rfl, v, j, tb, ta, o, a, rfl, dp_same s15 hd1, same_sqT s15 htb, same_sqT s15 hta, ho, ha, hdeep, fun G3 s6 => ?_⟩
      refine ⟨_, rfl, ?_⟩
      have etake := filter_take (fun o => j.sys.ahead o a) eo
      cases z : j.sys.ahead o a with
      | true =>
        refine iteT ?_
        refine ⟨_, rfl, ws, s6 _ _ eD, ?_, ?_, ws ++ [.ref tb], upd_same, ?_⟩
        · have := dpAll_length hws
          rw [adDs, List.length_map] at this
          have h2 := List.length_filter_le (fun o => j.sys.ahead o a) (j.adr.take k)
          rw [List.length_take] at h2
          exact small1000 (by omega)
        · intro c o hc
          rw [upd_ne (ne_of_none hc hD)]
          exact s6 _ _ (s5 _ _ hc)
        · rw [etake, z, if_pos rfl, adDs, List.map_append]
          have kk : ∀ b xs, SqT K G3 b xs → SqT K (upd G3 D (.lst (ws ++ [.ref tb]))) b xs := fun b xs h => (sx_upd (p := D)).sqT (s6 _ _ eD) h
          exact dpAll_append (dpAll_keep kk (noLs_ad _) (dpAll_same s6 hws)) (.cons (dp_keep kk (noL_ad _) (dp_same (s15.trans s6) hy)) .nil)
      | false =>
        refine iteF ?_
        refine ⟨s5.trans s6, ws, s6 _ _ eD, ?_⟩
        rw [etake, z, if_neg (by simp), List.append_nil]
        exact dpAll_same s6 hws
    · rintro Ga ⟨s5, wsA, eA, hwsA⟩
      have lenA : as0.length = j.adr.length := by rw [dpAll_length d0, adDs, List.length_map]
      rw [lenA, List.take_length] at hwsA
      have s15 := s4.trans s5
      have egA := s5 _ _ eg
      have hssA := hss.same s5
      -- the sets with it
      refine ⟨_, rfl, g, rfl, ⟨_, SqL.of egA⟩, fun D2 hD2 => ?_⟩
      refine lc_list (K := K) (a := g) (xs := ss) (fun k G2 => Same Ga G2 ∧ ∃ ws, G2 D2 = some (.lst ws) ∧ StX K (· ≠ D2) G2 ws (((fs.take k).filter (stCond j.sys.ahead j.adr a)).map (· ++ [a]))) ?_ ?_ ?_ ?_
      · exact ⟨same_new hD2, [], upd_same, by simpa using .nil⟩
      · rintro k G2 _ ⟨s6, _⟩
        exact SqL.of (s6 _ _ egA)
      · rintro k y G2 hk ⟨s6, ws, eD2, hws⟩
        obtain ⟨S, r, xs, eS, rfl, eq, hxsP⟩ := hssA.get hk
        have hS := List.mem_of_getElem? eS
        have Sl := fsmall S hS
        have kl : k < fs.length := (List.getElem?_eq_some_iff.mp eS).1
        have wl : ws.length ≤ 4096 := by
          have h1 := hws.length
          rw [List.length_map] at h1
          have h2 := List.length_filter_le (stCond j.sys.ahead j.adr a) (fs.take k)
          rw [List.length_take] at h2
          omega
        have xl : xs.length ≤ 12 := by
          rw [dpAll_length hxsP, adDs, List.length_map]
          exact Sl
        have hyP : Dp K Ga (.ref r) (stD S) := .lst (SqL.of eq) hxsP
        refine ⟨rfl, ?_⟩
        -- whether all that comes ahead is there
        refine ⟨_, rfl, D, rfl, ⟨_, SqL.of (s6 _ _ eA)⟩, fun D3 hD3 => ?_⟩
        refine lc_list (K := K) (a := D) (xs := wsA) (fun m G3 => Same G2 G3 ∧ ∃ us, G3 D3 = some (.lst us) ∧ DpAll K G3 us (adDs (((j.adr.filter fun o => j.sys.ahead o a).take m).filter fun o => !S.contains o))) ?_ ?_ ?_ ?_
        · exact ⟨same_new hD3, [], upd_same, by simpa [adDs] using .nil⟩
        · rintro m G3 _ ⟨s7, _⟩
          exact SqL.of (s7 _ _ (s6 _ _ eA))
        · rintro m z G3 hm ⟨s7, us, eD3, hus⟩
          obtain ⟨db, edb, hz⟩ := dpAll_get hwsA hm
          rw [adDs, List.getElem?_map] at edb
          obtain ⟨o, eo, rfl⟩ := Option.map_eq_some_iff.mp edb
          have s67 := s6.trans s7
          refine ⟨rfl, ?_⟩
          refine ⟨_, rfl, _, rfl, adDs S, adD o, dp_same s67 hyP, dp_same s67 hz, ads_lay S, ad_lay o, by have := ad_depth o; omega, _, rfl, ?_⟩
          rw [any_ad]
          have etake := filter_take (fun o => !S.contains o) eo
          have ul : us.length ≤ 12 := by
            have h1 := dpAll_length hus
            rw [adDs, List.length_map] at h1
            have h2 := List.length_filter_le (fun o => !S.contains o) ((j.adr.filter fun o => j.sys.ahead o a).take m)
            have h3 := List.length_filter_le (fun o => j.sys.ahead o a) j.adr
            rw [List.length_take] at h2
            omega
          cases zc : (!S.contains o) with
          | true =>
            refine iteT ?_
            refine ⟨_, rfl, us, eD3, small1000 (by omega), ?_, us ++ [z], upd_same, ?_⟩
            · intro c u hc
              rw [upd_ne (ne_of_none hc hD3)]
              exact s7 _ _ hc
            · rw [etake, zc, if_pos rfl, adDs, List.map_append]
              have kk : ∀ b xs, SqT K G3 b xs → SqT K (upd G3 D3 (.lst (us ++ [z]))) b xs := fun b xs h => (sx_upd (p := D3)).sqT eD3 h
              exact dpAll_append (dpAll_keep kk (noLs_ad _) hus) (.cons (dp_keep kk (noL_ad _) (dp_same s67 hz)) .nil)
          | false =>
            refine iteF ?_
            refine ⟨s7, us, eD3, ?_⟩
            rw [etake, zc, if_neg (by simp), List.append_nil]
            exact hus
        · rintro G3 ⟨s7, us, eD3, hus⟩
          have lenW : wsA.length = (j.adr.filter fun o => j.sys.ahead o a).length := by rw [dpAll_length hwsA, adDs, List.length_map]
          rw [lenW, List.take_length] at hus
          have s67 := s6.trans s7
          refine ⟨(by show 0 ≤ sizeLine; decide), fun z hz => ?_⟩
          have s8 : Same G3 (upd G3 z (.lst [])) := same_new hz
          have ez : upd G3 z (.lst []) z = some (.lst []) := upd_same
          have eD3' := s8 _ _ eD3
          have hus' := dpAll_same s8 hus
          generalize (upd G3 z (.lst [])) = G4 at s8 ez eD3' hus' ⊢
          refine ⟨_, _, .lst (SqL.of eD3') hus', .lst (SqL.of ez) .nil, shaped_st _, shaped_st [], _, rfl, ?_⟩
          have s68 := s67.trans s8
          have econd : PyData.eqv (.list (adDs ((j.adr.filter fun o => j.sys.ahead o a).filter fun o => !S.contains o))) (.list []) = stCond j.sys.ahead j.adr a S := by
            rw [← st_empty]
            cases ((j.adr.filter fun o => j.sys.ahead o a).filter fun o => !S.contains o) <;> simp [adDs, PyData.eqv, PyData.eqvAll]
          have etake := filter_take (stCond j.sys.ahead j.adr a) eS
          have eD24 := (s7.trans s8) _ _ eD2
          have hws4 := hws.same (s7.trans s8)
          rw [econd]
          cases zc : stCond j.sys.ahead j.adr a S with
          | false =>
            refine iteF ?_
            refine ⟨s68, ws, eD24, ?_⟩
            rw [etake, zc, if_neg (by simp), List.append_nil]
            exact hws4
          | true =>
            refine iteT ?_
            refine ⟨_, rfl, _, rfl, (by show 1 ≤ sizeLine; decide), fun u hu => ?_⟩
            have s9 : Same G4 (upd G4 u (.lst [.ref ta])) := same_new hu
            have eu : upd G4 u (.lst [.ref ta]) u = some (.lst [.ref ta]) := upd_same
            generalize (upd G4 u (.lst [.ref ta])) = G5 at s9 eu ⊢
            have s69 := s68.trans s9
            refine ⟨r, u, xs, [.ref ta], rfl, rfl, s69 _ _ eq, eu, small (by simp only [List.length_singleton]; omega), fun n hn => ?_⟩
            have s10 : Same G5 (upd G5 n (.lst (xs ++ [.ref ta]))) := same_new hn
            have en : upd G5 n (.lst (xs ++ [.ref ta])) n = some (.lst (xs ++ [.ref ta])) := upd_same
            have eD25 := s9 _ _ eD24
            have nD2 : n ≠ D2 := fun z => by rw [z, eD25] at hn; cases hn
            have hws5 := hws4.same (s9.trans s10)
            have eD26 := s10 _ _ eD25
            generalize (upd G5 n (.lst (xs ++ [.ref ta]))) = G6 at s10 en hws5 eD26 ⊢
            have s610 := s69.trans s10
            refine ⟨ws, eD26, ?_, ?_, ws ++ [.ref n], upd_same, ?_⟩
            · rw [sizeLine_eq]
              omega
            · intro c o hc
              rw [upd_ne (ne_of_none hc hD2)]
              exact s610 _ _ hc
            · rw [etake, zc, if_pos rfl, List.map_append]
              have k2 : Kp K D2 G6 (upd G6 D2 (.lst (ws ++ [.ref n]))) := Sx.kp sx_upd eD26
              have items : DpAll K G6 (xs ++ [.ref ta]) (adDs (S ++ [a])) := by
                rw [adDs, List.map_append]
                exact dpAll_append (dpAll_same s610 hxsP) (.cons (dp_same (s15.trans s610) hx) .nil)
              have hall : StX K (· ≠ D2) G6 (ws ++ [.ref n]) (((fs.take k).filter (stCond j.sys.ahead j.adr a)).map (· ++ [a]) ++ [S].map (· ++ [a])) := hws5.append (.cons nD2 en items .nil)
              exact hall.keep k2
      · rintro Gb ⟨s6, ws, eD2, hws⟩
        have lenS : ss.length = fs.length := hss.length
        rw [lenS, List.take_length] at hws
        have wl : ws.length ≤ 4096 := by
          have h1 := hws.length
          rw [List.length_map] at h1
          have h2 := List.length_filter_le (stCond j.sys.ahead j.adr a) fs
          omega
        refine ⟨_, rfl, _, rfl, g, D2, ss, ws, rfl, rfl, s6 _ _ egA, eD2, by rw [sizeLine_eq]; omega, fun n hn => ?_⟩
        have s11 : Same Gb (upd Gb n (.lst (ss ++ ws))) := same_new hn
        refine ⟨n, _, _, _, ss ++ ws, rfl, (s15.trans s6).trans s11, upd_same, ?_⟩
        have e1 : j.adr.take (i + 1) = j.adr.take i ++ [a] := by
          rw [List.take_add_one, ea]
          rfl
        rw [e1, stAll_snoc, efs]
        exact ((hssA.same s6).append hws.any).same s11
  · rintro σ G ⟨g, y3, y4, y5, ss, rfl, s4, eg, hss⟩
    have lenA : as0.length = j.adr.length := by rw [dpAll_length d0, adDs, List.length_map]
    rw [lenA, List.take_length] at hss
    exact ⟨_, rfl, q _ g ss (s1.trans s4) eg hss.dp⟩
end
/-! block Law03 (behind bStates2, bExt, bNet) -/
def Good (j : J) : Prop := j.ok ∧ j.nodes ≤ 400 ∧ j.deep ≤ 13
theorem Good.sz {j : J} (g : Good j) : szJ j 400 13 = some (j.nodes, j.steps) := szJ_some j 400 13 g.1 g.2.1 (by have := g.2.2; omega)
theorem Good.isSome {j : J} (g : Good j) : (szJ j 400 13).isSome = true := by rw [g.sz]; rfl
theorem good_of {j : J} (h : (szJ j 400 13).isSome = true) : Good j := by
  obtain ⟨⟨a, b⟩, e⟩ := Option.isSome_iff_exists.mp h
  obtain ⟨q1, q2, q3, _⟩ := szJ_inv j 400 13 a b e
  exact ⟨q1, q2, by omega⟩
theorem fine_two {a b : Int} (h1 : -M60 ≤ a) (h2 : a ≤ M60) (h3 : -M60 ≤ b) (h4 : b ≤ M60) : fine (.list [.int a, .int b]) := by
  simp only [fine, fines]
  exact ⟨lt180 h1 h2, lt180 h3 h4, trivial⟩
theorem pow4_30 {n : Nat} (h : n ≤ 40) : (4 : Int) ^ n ≤ M30 := Int.le_trans (pow4_mono h) (by decide)
mutual
theorem J.few_ok : ∀ (j : J) (cs : List Int), j.small → j.cin cs → (∀ c ∈ cs, 0 ≤ c ∧ c ≤ 4) → j.deep ≤ 40 → j.ok
  | .st _, _, h, _, _, _ => by
    simp only [J.small] at h
    simpa only [J.ok] using h
  | .ps k xs, cs, h, hc, hb, hd => by
    have hf := J.few (.ps k xs) cs h hc hb hd
    have h40 := pow4_30 hd
    simp only [J.small] at h
    simp only [J.cin] at hc
    simp only [J.deep] at hd
    have h1 := J.few_okL xs cs h.2 hc hb (by omega)
    have h2 := hf.2.2
    simp only [J.ok]
    refine ⟨by omega, h1, ?_⟩
    have e : (J.ps k xs).steps = J.stepsL xs := by simp only [J.steps]
    rw [e] at h2
    omega
  | .rn k n x, cs, h, hc, hb, hd => by
    have hf := J.few (.rn k n x) cs h hc hb hd
    have h40 := pow4_30 hd
    simp only [J.small] at h
    simp only [J.cin] at hc
    simp only [J.deep] at hd
    have h1 := J.few_ok x cs h.2 hc.2 hb (by omega)
    have h2 := hf.2.2
    simp only [J.ok]
    have e : (J.rn k n x).steps = x.steps * n := by simp only [J.steps]
    rw [e] at h2
    refine ⟨h.1, h1, ?_⟩
    omega
theorem J.few_okL : ∀ (xs : List J) (cs : List Int), J.smallL xs → J.cinL cs xs → (∀ c ∈ cs, 0 ≤ c ∧ c ≤ 4) → J.deepL xs ≤ 40 → J.okL xs
  | [], _, _, _, _, _ => trivial
  | x :: xs, cs, h, hc, hb, hd => by
    simp only [J.smallL] at h
    simp only [J.cinL] at hc
    simp only [J.deepL] at hd
    exact ⟨J.few_ok x cs h.1 hc.1 hb (by omega), J.few_okL xs cs h.2 hc.2 hb (by omega)⟩
end
mutual
theorem J.few_rounded : ∀ (j : J) (cs : List Int), j.cin cs → (∀ c ∈ cs, c ≤ 1000) → j.rounded
  | .st _, _, _, _ => trivial
  | .ps k xs, cs, hc, hb => by
    simp only [J.cin] at hc
    simp only [J.rounded]
    exact J.few_roundedL xs cs hc hb
  | .rn k n x, cs, hc, hb => by
    simp only [J.cin] at hc
    simp only [J.rounded]
    exact ⟨hb n hc.1, J.few_rounded x cs hc.2 hb⟩
theorem J.few_roundedL : ∀ (xs : List J) (cs : List Int), J.cinL cs xs → (∀ c ∈ cs, c ≤ 1000) → J.roundedL xs
  | [], _, _, _ => trivial
  | x :: xs, cs, hc, hb => by
    simp only [J.cinL] at hc
    exact ⟨J.few_rounded x cs hc.1 hb, J.few_roundedL xs cs hc.2 hb⟩
end
theorem SmallOk.good {size : Int} {j : J} (h : SmallOk size j) : Good j :=
  ⟨J.few_ok j csS h.small h.cin (by decide) (by have := h.deep; omega), h.nodes, by have := h.deep; omega⟩
theorem SmallOk.rounded {size : Int} {j : J} (h : SmallOk size j) : j.rounded := J.few_rounded j csS h.cin (by decide)
/-- sums of the sets -/
def J.uses (j : J) : List Int := j.states.map (useOf j.sys.rows)
theorem J.uses_last (j : J) (h : j.stb) : j.uses.getLast? = some j.net := by
  obtain ⟨h1, h2⟩ := J.states_last j h
  unfold J.uses
  rw [List.getLast?_map, h1, Option.map_some, h2]
theorem J.uses_low (j : J) (h : j.stb) {m : Int} (hm : m ∈ j.uses) (hl : ∀ y, y ∈ j.uses → m ≤ y) : m = j.low := by
  obtain ⟨h1, S, hS, e⟩ := J.states_low j h
  obtain ⟨R, hR, rfl⟩ := List.mem_map.mp hm
  have a := h1 R hR
  have b := hl (useOf j.sys.rows S) (List.mem_map.mpr ⟨S, hS, rfl⟩)
  omega
theorem atI_lastI {ns : List Int} {z : Int} (h : ns.getLast? = some z) : atI (ns.map V.int) (-1) = some (.int z) := by
  obtain ⟨l, rfl⟩ := List.getLast?_eq_some_iff.mp h
  rw [List.map_append]
  exact L2.atI_last _ _
abbrev cs3 : List Int := [0, 1, 2, 1000000000000, 3, 1000000]
abbrev jD3 : J := .rn false 1000000000000 (.ps false [.st 2, .st (-3)])
abbrev jC3 : J := .rn true 4 jD3
abbrev jA3 : J := .ps false [.st 3, .st (-4), .st 2]
abbrev jE3 : J := .ps false []
abbrev jF3 : J := .rn false 0 (.st (-5))
/-- a comprehension without a condition -/
theorem yesT {σ : L2.St} {H : Hp} {Q : Bool → Hp → Prop} (h : Q true H) : tYes σ H Q := h
theorem good_D3 : Good jD3 := by
  refine ⟨?_, ?_, ?_⟩
  · simp only [J.ok, J.okL, J.steps, J.stepsL, M30, List.length_cons, List.length_nil]
    decide
  · simp only [J.nodes, J.nodesL]
    decide
  · simp only [J.deep, J.deepL]
    decide
theorem good_C3 : Good jC3 := by
  refine ⟨?_, ?_, ?_⟩
  · simp only [J.ok, J.okL, J.steps, J.stepsL, M30, List.length_cons, List.length_nil]
    decide
  · simp only [J.nodes, J.nodesL]
    decide
  · simp only [J.deep, J.deepL]
    decide
theorem good_A3 : Good jA3 := by
  refine ⟨?_, ?_, ?_⟩
  · simp only [J.ok, J.okL, J.steps, J.stepsL, M30, List.length_cons, List.length_nil]
    decide
  · simp only [J.nodes, J.nodesL]
    decide
  · simp only [J.deep, J.deepL]
    decide
theorem good_E3 : Good jE3 := by
  refine ⟨?_, ?_, ?_⟩
  · simp only [J.ok, J.okL, J.steps, J.stepsL, M30, List.length_cons, List.length_nil]
    decide
  · simp only [J.nodes, J.nodesL]
    decide
  · simp only [J.deep, J.deepL]
    decide
theorem good_F3 : Good jF3 := by
  refine ⟨?_, ?_, ?_⟩
  · simp only [J.ok, J.okL, J.steps, J.stepsL, M30, List.length_cons, List.length_nil]
    decide
  · simp only [J.nodes, J.nodesL]
    decide
  · simp only [J.deep, J.deepL]
    decide
theorem good_43 : Good (.st 4) := by
  refine ⟨?_, ?_, ?_⟩
  · simp only [J.ok, M30]
    decide
  · simp only [J.nodes]
    decide
  · simp only [J.deep]
    decide
theorem vals_3 : jD3.net = -1000000000000 ∧ jD3.low = -1000000000000 ∧ jC3.low = -4000000000000 ∧ jA3.low = -1 ∧ jE3.low = 0 ∧ jF3.low = 0 ∧ (J.st 4).low = 0 := by
  simp only [J.net, J.netL, J.low, J.lowS, J.lowL]
  decide
def spLaw (K : PySem.W.Frag) : Sp := fun vs H Q _ => ∃ (a : Addr) (ns : List Int), vs = [.ref a] ∧ Only H ∧ SqL K H a (ns.map V.int) ∧ ns.length ≤ 63 ∧ ∀ H', Q (.bl true) H'
section
variable {P : Program} {w : World} {K : PySem.W.Frag} {mg : Str → Option Value} {base : Heap}
theorem ok_law {f : Addr} {fd : FuncData} (F : Fun K "law" "law" s_law f fd) (T : Txt K mg) : FnG P w K mg base CX0 60 f fd ["_law_script"] (spLaw K) := by
  have g__law_pot := ok_pot (P := P) (w := w) (base := base) T
  have g__law_job := ok_job (P := P) (w := w) (base := base) T 6
  have g__law_small := ok_small (P := P) (w := w) (base := base) T
  have g_is_job := ok_isjob (P := P) (w := w) (base := base) T
  have g_net := ok_net (P := P) (w := w) (base := base) T
  have g_lowest := ok_lowest (P := P) (w := w) (base := base) T
  have g__law_at := ok_at (P := P) (w := w) (base := base) T
  have g__law_states := ok_states (P := P) (w := w) (base := base) T
  have g__law_addresses : FnOk P w K mg base CX0 18 T.f__law_addresses T.d__law_addresses ["_law_job_here"] (spAdr K 8) := ok_adr T 8 (by decide)
  have g__law_extent := ok_ext (P := P) (w := w) (base := base) T 13
  refine okG F sc_law (fun vs H Q E h => ?_) (fun cdv A outer s H vs Q E hr gd h => ?_)
  · obtain ⟨a, ns, rfl, _⟩ := h
    rfl
  obtain ⟨a, ns, rfl, hO, hS, hlen, q⟩ := h
  have hsc := Scr.of hO hS
  refine ⟨_, (pss_cons (ps_for PassesOwn.never rfl (pi_range1 rfl T.n_range (pa_cons (pe_callB (call_max2 rfl) (by rfl) T.n_max (by decide +kernel) (pa_cons pe_int (pa_cons (pe_callB (call_min2 rfl) (by rfl) T.n_min (by decide +kernel) (pa_cons pe_int (pa_cons (pe_callB (r := rLenS K) call_lenS (by rfl) T.n_len (by decide +kernel) (pa_cons (pv 0) pa_nil)) pa_nil))) pa_nil))) pa_nil)) (pg_name (i := 1) sc_law.nd rfl (Or.inl rfl))
        (pss_cons (ps_set (i := 2) sc_law.nd rfl (Or.inl rfl) (pe_call g__law_pot (hr.mono (by omega)) rfl T.m__law_pot T.F__law_pot.kp T.b__law_pot .nil pass0 (pa_cons (pv 0) (pa_cons (pv 1) pa_nil))))
        (pss_cons (ps_set (i := 3) sc_law.nd rfl (Or.inr rfl) (pe_call g__law_small (hr.mono (by omega)) rfl T.m__law_small T.F__law_small.kp T.b__law_small .nil pass0 (pa_cons (pv 2) (pa_cons pe_int (pa_cons pe_int pa_nil)))))
        (pss_cons (ps_setLc (i := 4) (own := [("_law_state", 8)]) (g := (gName 8)) (by rfl) sc_law.nd rfl rfl (sw_true rfl rfl rfl (by decide +kernel)) (pi_list (pe_call g__law_states (hr.mono (by omega)) rfl T.m__law_states T.F__law_states.kp T.b__law_states .nil pass0 (pa_cons (pv 3) pa_nil))) (blkOk_by (N := N_law) (sc := (defScope s_law)) (by decide +kernel)) (fun _ _ _ _ _ => (pg_name (i := 8) sc_law.nd rfl (Or.inl rfl))) (fun _ _ _ _ _ => pts_nil) (fun _ _ _ _ _ => (pe_callB (r := rSum K) (cr_sum rfl) (by rfl) T.n_sum (by decide +kernel) (pa_cons (pe_lc (own := [("_law_one", 9)]) (g := (gName 9)) (by rfl) sc_law.nd (pi_listK K rfl (pv 8)) (blkOk_by (N := N_law) (sc := (relS _ (defScope s_law))) (by decide +kernel)) (fun _ _ _ _ _ => (pg_name (i := 9) sc_law.nd rfl (Or.inl rfl))) (fun _ _ _ _ _ => pts_nil) (fun _ _ _ _ _ => (pe_call g__law_at (hr.mono (by omega)) rfl T.m__law_at T.F__law_at.kp T.b__law_at .nil pass0 (pa_cons (pv 3) (pa_cons (pv 9) pa_nil))))) pa_nil))))
        (pss_cons (ps_if (pt_cmpR op_ne (pe_callB (r := rRepr K) (call_reprD gd (room66 hr)) (by rfl) T.n_repr (by decide +kernel) (pa_cons (pe_lst (pa_cons (pe_call g_net (hr.mono (by omega)) rfl T.m_net T.F_net.kp T.b_net .nil pass0 (pa_cons (pv 3) pa_nil)) (pa_cons (pe_call g_lowest (hr.mono (by omega)) rfl T.m_lowest T.F_lowest.kp T.b_lowest .nil pass0 (pa_cons (pv 3) pa_nil)) pa_nil))) pa_nil)) (pe_callB (r := rRepr K) (call_reprD gd (room66 hr)) (by rfl) T.n_repr (by decide +kernel) (pa_cons (pe_lst (pa_cons (pe_ix (r := rIxL K) ix_list (pv 4) (pe_un un_neg pe_int) (fun _ _ => rfl)) (pa_cons (pe_callB (r := rMin K) (cr_min rfl) (by rfl) T.n_min (by decide +kernel) (pa_cons (pv 4) pa_nil)) pa_nil))) pa_nil)) (nomark _)) (pss_one (ps_ret pe_bl)) pss_nil)
        (pss_cons (ps_if (pt_cmpR op_ne (pe_call g_net (hr.mono (by omega)) rfl T.m_net T.F_net.kp T.b_net .nil pass0 (pa_cons (pv 3) pa_nil)) (pe_callB (r := rSum K) (cr_sum rfl) (by rfl) T.n_sum (by decide +kernel) (pa_cons (pe_lc (own := [("_law_one", 9)]) (g := (gName 9)) (by rfl) sc_law.nd (pi_list (pe_call g__law_addresses (hr.mono (by omega)) rfl T.m__law_addresses T.F__law_addresses.kp T.b__law_addresses .nil pass0 (pa_cons (pv 3) pa_nil))) (blkOk_by (N := N_law) (sc := (defScope s_law)) (by decide +kernel)) (fun _ _ _ _ _ => (pg_name (i := 9) sc_law.nd rfl (Or.inl rfl))) (fun _ _ _ _ _ => pts_nil) (fun _ _ _ _ _ => (pe_call g__law_at (hr.mono (by omega)) rfl T.m__law_at T.F__law_at.kp T.b__law_at .nil pass0 (pa_cons (pv 3) (pa_cons (pv 9) pa_nil))))) pa_nil)) (nomark _)) (pss_one (ps_ret pe_bl)) pss_nil)
        (pss_cons (ps_set (i := 5) sc_law.nd rfl (Or.inl rfl) (pe_call g__law_job (hr.mono (by omega)) rfl T.m__law_job T.F__law_job.kp T.b__law_job .nil pass0 (pa_cons (pv 2) (pa_cons pe_int (pa_cons (pe_lst (pa_cons pe_int (pa_cons pe_int (pa_cons pe_int (pa_cons (pe_op op_powW pe_int pe_int) (pa_cons pe_int (pa_cons (pe_op op_powW pe_int pe_int) pa_nil))))))) pa_nil)))))
        (pss_one (ps_if (PW.pt (pw_and (pt_val (pe_call g_is_job (hr.mono (by omega)) rfl T.m_is_job T.F_is_job.kp T.b_is_job .nil pass0 (pa_cons (pv 5) pa_nil))) (pw_and1 (pt_cmpR op_ne (pe_callB (r := rRepr K) (call_reprD gd (room66 hr)) (by rfl) T.n_repr (by decide +kernel) (pa_cons (pe_lst (pa_cons (pe_call g_net (hr.mono (by omega)) rfl T.m_net T.F_net.kp T.b_net .nil pass0 (pa_cons (pv 5) pa_nil)) (pa_cons (pe_call g_lowest (hr.mono (by omega)) rfl T.m_lowest T.F_lowest.kp T.b_lowest .nil pass0 (pa_cons (pv 5) pa_nil)) pa_nil))) pa_nil)) (pe_callB (r := rRepr K) (call_reprD gd (room66 hr)) (by rfl) T.n_repr (by decide +kernel) (pa_cons (pe_call g__law_extent (hr.mono (by omega)) rfl T.m__law_extent T.F__law_extent.kp T.b__law_extent .nil pass0 (pa_cons (pv 5) pa_nil)) pa_nil)) (nomark _))))) (pss_one (ps_ret pe_bl)) pss_nil)))))))))
      (pss_cons (ps_set (i := 6) sc_law.nd rfl (Or.inl rfl) (pe_tup (pa_cons pe_str (pa_cons (pe_op op_powW pe_int pe_int) (pa_cons (pe_tup (pa_cons pe_str (pa_cons (pe_tup (pa_cons pe_int (pa_cons (pe_un un_neg pe_int) pa_nil))) pa_nil))) pa_nil)))))
      (pss_cons (ps_set (i := 7) sc_law.nd rfl (Or.inl rfl) (pe_op op_sub pe_int (pe_op op_powW pe_int pe_int)))
      (pss_cons (ps_if (pt_cmpR op_ne (pe_callB (r := rRepr K) (call_reprD gd (room66 hr)) (by rfl) T.n_repr (by decide +kernel) (pa_cons (pe_lst (pa_cons (pe_call g_net (hr.mono (by omega)) rfl T.m_net T.F_net.kp T.b_net .nil pass0 (pa_cons (pv 6) pa_nil)) (pa_cons (pe_call g_lowest (hr.mono (by omega)) rfl T.m_lowest T.F_lowest.kp T.b_lowest .nil pass0 (pa_cons (pv 6) pa_nil)) (pa_cons (pe_call g_lowest (hr.mono (by omega)) rfl T.m_lowest T.F_lowest.kp T.b_lowest .nil pass0 (pa_cons (pe_tup (pa_cons pe_str (pa_cons pe_int (pa_cons (pv 6) pa_nil)))) pa_nil)) pa_nil)))) pa_nil)) (pe_callB (r := rRepr K) (call_reprD gd (room66 hr)) (by rfl) T.n_repr (by decide +kernel) (pa_cons (pe_lst (pa_cons (pv 7) (pa_cons (pv 7) (pa_cons (pe_op op_mulW pe_int (pv 7)) pa_nil)))) pa_nil)) (nomark _)) (pss_one (ps_ret pe_bl)) pss_nil)
      (pss_one (ps_ret (pe_cmpR (r := rEqD K) (op_eqD hr.units) (pe_lst (pa_cons (pe_call g_lowest (hr.mono (by omega)) rfl T.m_lowest T.F_lowest.kp T.b_lowest .nil pass0 (pa_cons (pe_tup (pa_cons pe_str (pa_cons (pe_tup (pa_cons pe_int (pa_cons (pe_un un_neg pe_int) (pa_cons pe_int pa_nil)))) pa_nil))) pa_nil)) (pa_cons (pe_call g_lowest (hr.mono (by omega)) rfl T.m_lowest T.F_lowest.kp T.b_lowest .nil pass0 (pa_cons (pe_tup (pa_cons pe_str (pa_cons (pe_tup pa_nil) pa_nil))) pa_nil)) (pa_cons (pe_call g_lowest (hr.mono (by omega)) rfl T.m_lowest T.F_lowest.kp T.b_lowest .nil pass0 (pa_cons (pe_tup (pa_cons pe_str (pa_cons pe_int (pa_cons (pe_un un_neg pe_int) pa_nil)))) pa_nil)) (pa_cons (pe_call g_lowest (hr.mono (by omega)) rfl T.m_lowest T.F_lowest.kp T.b_lowest .nil pass0 (pa_cons pe_int pa_nil)) pa_nil))))) (pe_lst (pa_cons (pe_un un_neg pe_int) (pa_cons pe_int (pa_cons pe_int (pa_cons pe_int pa_nil))))) (nomark _)))))))), ?_⟩
  refine ⟨_, rfl, a, _, rfl, .inl hsc.sq, _, _, rfl, _, _, rfl, _, rfl, ?_, ?_, ?_⟩
  · show -(2 ^ 62) ≤ (if (if (((ns.map V.int).length : Nat) : Int) < 3 then (((ns.map V.int).length : Nat) : Int) else 3) > 1 then (if (((ns.map V.int).length : Nat) : Int) < 3 then (((ns.map V.int).length : Nat) : Int) else 3) else 1)
    split <;> (try split) <;> omega
  · show (if (if (((ns.map V.int).length : Nat) : Int) < 3 then (((ns.map V.int).length : Nat) : Int) else 3) > 1 then (if (((ns.map V.int).length : Nat) : Int) < 3 then (((ns.map V.int).length : Nat) : Int) else 3) else 1) < 2 ^ 62
    split <;> (try split) <;> omega
  have hturns : (if (if (((ns.map V.int).length : Nat) : Int) < 3 then (((ns.map V.int).length : Nat) : Int) else 3) > 1 then (if (((ns.map V.int).length : Nat) : Int) < 3 then (((ns.map V.int).length : Nat) : Int) else 3) else 1).toNat ≤ 3 := by
    split <;> (try split) <;> omega
  generalize (if (if (((ns.map V.int).length : Nat) : Int) < 3 then (((ns.map V.int).length : Nat) : Int) else 3) > 1 then (if (((ns.map V.int).length : Nat) : Int) < 3 then (((ns.map V.int).length : Nat) : Int) else 3) else 1) = turns at hturns ⊢
  refine for_range (lo := 0) (n := turns.toNat) (fun i σ H' => ∃ y1 y2 y3 y4 y5 : Option V, σ = [some (.ref a), y1, y2, y3, y4, y5, none, none, none, none] ∧ Same H H') ⟨none, none, none, none, none, rfl, Same.refl _⟩ ?_ ?_
  · rintro i σ H' hi ⟨y1, y2, y3, y4, y5, rfl, t⟩
    refine ⟨_, rfl, _, rfl, a, ns, 0 + (i : Int), rfl, (hsc.same t).sq, by omega, by omega, by omega, fun G1 p s1 hpn hp => ?_⟩
    refine ⟨_, rfl, p, 0, 4, 9, rfl, hp, by decide, by decide, by decide, by decide, fun G2 v j s2 hp2 dj sj => ?_⟩
    have t2 : Same H G2 := Same.sx_free (t.trans s1) (t.free hpn) s2
    have gj := sj.good
    have d20 : j.deep ≤ 20 := Nat.le_trans gj.2.2 (by decide)
    have d8 : j.deep ≤ 8 := by have := sj.deep; omega
    have st9 := sj.most
    have alen : j.adr.length ≤ 9 := by
      have := J.adr_len j sj.stb
      omega
    have slen : j.states.length ≤ 4096 := by
      have h1 := stAll_len j.sys.ahead j.adr j.adr [[]]
      rw [List.length_singleton, Nat.mul_one] at h1
      have h2 : 2 ^ j.adr.length ≤ 2 ^ 12 := Nat.pow_le_pow_right (by decide) (by omega)
      unfold J.states
      omega
    -- the sums of the sets
    refine ⟨_, rfl, v, j, rfl, dj, d8, sj.stb, by omega, sj.rounded, fun G3 ls ss s3 els dss => ?_⟩
    have slen' : ss.length = j.states.length := by rw [dpAll_length dss, List.length_map]
    refine ⟨ls, rfl, ⟨_, SqL.of els⟩, fun D hD => ?_⟩
    refine lc_list (K := K) (a := ls) (xs := ss) (fun k G4 => Same G3 G4 ∧ G4 D = some (.lst ((j.uses.take k).map V.int))) ?_ ?_ ?_ ?_
    · exact ⟨same_new hD, by simpa using upd_same⟩
    · rintro k G4 _ ⟨s4, _⟩
      exact SqL.of (s4 _ _ els)
    · rintro k x G4 hk ⟨s4, eD⟩
      obtain ⟨dS, edS, hx⟩ := dpAll_get dss hk
      rw [List.getElem?_map] at edS
      obtain ⟨S, eS, rfl⟩ := Option.map_eq_some_iff.mp edS
      have hS : S ∈ j.states := List.mem_of_getElem? eS
      have kl : k < j.states.length := (List.getElem?_eq_some_iff.mp eS).1
      have Sadr : ∀ o ∈ S, o ∈ j.adr := by
        intro o ho
        unfold J.states at hS
        rw [← J.sys_adr j] at hS ⊢
        obtain ⟨Dc, _, rfl⟩ := (st_all (J.sys_before j) (J.sys_nodup j) S).mp hS
        exact (List.mem_filter.mp ho).1
      have Slen : S.length ≤ 12 := by
        have := stAll_small j.sys.ahead j.adr 0 j.adr [[]] (fun S hS => by simp only [List.mem_singleton] at hS; subst hS; simp) S hS
        omega
      obtain ⟨r, xs, rfl, hxs, hall⟩ := dp_lst_inv hx
      refine ⟨rfl, ?_⟩
      refine yesT ?_
      refine iteT ?_
      refine ⟨_, rfl, r, rfl, ⟨_, s4.seq hxs⟩, fun D2 hD2 => ?_⟩
      refine lc_list (K := K) (a := r) (xs := xs) (fun m G5 => Same G4 G5 ∧ G5 D2 = some (.lst (((S.take m).map (valOf j.sys.rows)).map V.int))) ?_ ?_ ?_ ?_
      · exact ⟨same_new hD2, by simpa using upd_same⟩
      · rintro m G5 _ ⟨s5, _⟩
        exact s5.seq (s4.seq hxs)
      · rintro m y G5 hm ⟨s5, eD2⟩
        obtain ⟨da, eda, hy⟩ := dpAll_get hall hm
        rw [adDs, List.getElem?_map] at eda
        obtain ⟨o, eo, rfl⟩ := Option.map_eq_some_iff.mp eda
        have ho := Sadr o (List.mem_of_getElem? eo)
        obtain ⟨tb, xb, rfl, htb, hxb⟩ := dp_tup_inv hy
        obtain rfl := ints_vals hxb
        obtain ⟨val, hval⟩ := adr_row ho
        have s35 := s4.trans s5
        refine ⟨rfl, ?_⟩
        refine yesT ?_
        refine iteT ?_
        refine ⟨_, rfl, _, rfl, v, j, tb, o, val, rfl, dp_same (s3.trans s35) dj, same_sqT s35 htb, hval, fun G6 s6 => ?_⟩
        have eval : valOf j.sys.rows o = val := valOf_mem (J.sys_nodup j) hval
        refine ⟨_, s6 _ _ eD2, ?_, ?_, ?_⟩
        · rw [List.length_map, List.length_map, List.length_take]
          exact small1000 (by omega)
        · intro c u hc
          rw [upd_ne (ne_of_none hc hD2)]
          exact s6 _ _ (s5 _ _ hc)
        · rw [upd_same, take_map (valOf j.sys.rows) eo, List.map_append, eval]
          rfl
      · rintro G5 ⟨s5, eD2⟩
        have xl : xs.length = S.length := by rw [dpAll_length hall, adDs, List.length_map]
        rw [xl, List.take_length] at eD2
        refine ⟨D2, S.map (valOf j.sys.rows), rfl, SqL.of eD2, ?_⟩
        refine ⟨_, s5 _ _ eD, ?_, ?_, ?_⟩
        · rw [List.length_map, List.length_take, sizeLine_eq]
          have : j.uses.length = j.states.length := by unfold J.uses; rw [List.length_map]
          omega
        · intro c u hc
          rw [upd_ne (ne_of_none hc hD)]
          exact s5 _ _ (s4 _ _ hc)
        · have eu : j.uses[k]? = some (useOf j.sys.rows S) := by
            unfold J.uses
            rw [List.getElem?_map, eS]
            rfl
          rw [upd_same, List.take_add_one, eu, List.map_append]
          rfl
    · rintro G4 ⟨s4, eD⟩
      have ul : ss.length = j.uses.length := by rw [slen']; unfold J.uses; rw [List.length_map]
      rw [ul, List.take_length] at eD
      have s24 := s3.trans s4
      have dj4 := dp_same s24 dj
      have n1 := J.net_60 _ gj.1
      have n2 := J.low_60 _ gj.1
      have m60 : (0 : Int) ≤ M60 := by decide
      -- repr([net, lowest]) != repr([usages[-1], min(usages)])
      refine ⟨_, rfl, v, j, rfl, dj4, d20, gj.isSome, fun K5 u5 => ?_⟩
      refine ⟨_, rfl, v, j, rfl, dp_same u5 dj4, d20, gj.isSome, fun K6 u6 => ?_⟩
      refine ⟨(by show 2 ≤ sizeLine; decide), fun l1 hl1 => ?_⟩
      obtain ⟨u7, dl1⟩ := lst_fresh (K := K) (ds := [.int j.net, .int j.low]) hl1 (.cons (.int _) (.cons (.int _) .nil))
      generalize (upd K6 l1 (.lst [.int j.net, .int j.low])) = K7 at u7 dl1 ⊢
      refine ⟨_, _, rfl, dl1, fine_two n1.1 n1.2 n2.1 (by omega), (by simp [PyData.depth, PyData.depthAll]), (by simp [PyData.bulk, PyData.bulkAll]), ?_⟩
      have u47 := u5.trans (u6.trans u7)
      have eD7 := u47 _ _ eD
      refine ⟨_, rfl, _, rfl, _, _, _, _, rfl, rfl, SqL.of eD7, atI_lastI (J.uses_last j sj.stb), ?_⟩
      refine ⟨_, rfl, D, j.uses, rfl, SqL.of eD7, ?_, fun m hm hlm => ?_⟩
      · have := J.uses_last j sj.stb
        cases e : j.uses with
        | nil => rw [e] at this; cases this
        | cons _ _ => exact Nat.succ_pos _
      rw [J.uses_low j sj.stb hm hlm]
      refine ⟨(by show 2 ≤ sizeLine; decide), fun l2 hl2 => ?_⟩
      obtain ⟨u8, dl2⟩ := lst_fresh (K := K) (ds := [.int j.net, .int j.low]) hl2 (.cons (.int _) (.cons (.int _) .nil))
      generalize (upd K7 l2 (.lst [.int j.net, .int j.low])) = K8 at u8 dl2 ⊢
      refine ⟨_, _, rfl, dl2, fine_two n1.1 n1.2 n2.1 (by omega), (by simp [PyData.depth, PyData.depthAll]), (by simp [PyData.bulk, PyData.bulkAll]), rfl, _, rfl, ?_⟩
      refine iteNS rfl ?_
      -- net != sum of all steps
      have u48 := u47.trans u8
      have dj8 := dp_same u48 dj4
      refine ⟨_, rfl, v, j, rfl, dj8, d20, gj.isSome, fun K9 u9 => ?_⟩
      have dj9 := dp_same u9 dj8
      refine ⟨_, rfl, v, j, rfl, dj9, d8, sj.stb, by omega, sj.rounded, fun Ka la as ua na ea da => ?_⟩
      have al : as.length = j.adr.length := by rw [dpAll_length da, adDs, List.length_map]
      refine ⟨la, rfl, ⟨_, SqL.of ea⟩, fun D3 hD3 => ?_⟩
      refine lc_list (K := K) (a := la) (xs := as) (fun m G5 => Same Ka G5 ∧ G5 D3 = some (.lst (((j.adr.take m).map (valOf j.sys.rows)).map V.int))) ?_ ?_ ?_ ?_
      · exact ⟨same_new hD3, by simpa using upd_same⟩
      · rintro m G5 _ ⟨s5, _⟩
        exact SqL.of (s5 _ _ ea)
      · rintro m y G5 hm ⟨s5, eD3⟩
        obtain ⟨da', eda, hy⟩ := dpAll_get da hm
        rw [adDs, List.getElem?_map] at eda
        obtain ⟨o, eo, rfl⟩ := Option.map_eq_some_iff.mp eda
        have ho : o ∈ j.adr := List.mem_of_getElem? eo
        obtain ⟨tb, xb, rfl, htb, hxb⟩ := dp_tup_inv hy
        obtain rfl := ints_vals hxb
        obtain ⟨val, hval⟩ := adr_row ho
        refine ⟨rfl, ?_⟩
        refine yesT ?_
        refine iteT ?_
        refine ⟨_, rfl, _, rfl, v, j, tb, o, val, rfl, dp_same (ua.trans s5) dj9, same_sqT s5 htb, hval, fun G6 s6 => ?_⟩
        have eval : valOf j.sys.rows o = val := valOf_mem (J.sys_nodup j) hval
        refine ⟨_, s6 _ _ eD3, ?_, ?_, ?_⟩
        · rw [List.length_map, List.length_map, List.length_take]
          exact small1000 (by omega)
        · intro c u hc
          rw [upd_ne (ne_of_none hc hD3)]
          exact s6 _ _ (s5 _ _ hc)
        · rw [upd_same, take_map (valOf j.sys.rows) eo, List.map_append, eval]
          rfl
      · rintro G5 ⟨s5, eD3⟩
        rw [al, List.take_length] at eD3
        refine ⟨D3, j.adr.map (valOf j.sys.rows), rfl, SqL.of eD3, rfl, _, rfl, ?_⟩
        have esum : (j.adr.map (valOf j.sys.rows)).sum = j.net := (J.states_last j sj.stb).2
        rw [esum]
        refine iteNS rfl ?_
        -- the great job
        have u25 : Same G2 G5 := s24.trans (u48.trans (u9.trans (ua.trans s5)))
        have hp5 := hp2.same u25
        have e12 : (10 : Int) ^ (12 : Int).toNat = 1000000000000 := by decide
        have e6 : (10 : Int) ^ (6 : Int).toNat = 1000000 := by decide
        refine ⟨_, rfl, _, _, rfl, rfl, powW_of 4 (by decide) (by decide) (by decide), _, _, rfl, rfl, powW_of 4 (by decide) (by decide) (by decide), ?_⟩
        dsimp only
        rw [e12, e6]
        refine ⟨(by show 6 ≤ sizeLine; decide), fun l hl => ?_⟩
        obtain ⟨lp, hlp⟩ := hp5.lst
        have nlp : l ≠ p := fun z => by rw [z, hlp] at hl; cases hl
        refine ⟨p, l, _, cs3, rfl, hp5.same (same_new hl), by decide, upd_same, nlp, by decide, by decide, ?_, fun G6 vg jg s6 hp6 dg gg => ?_⟩
        · simp only [List.mem_cons, List.not_mem_nil, or_false, M30]
          rintro c (rfl | rfl | rfl | rfl | rfl | rfl) <;> omega
        have t6 : Same H G6 := Same.sx_free ((t2.trans u25).trans (same_new hl)) (t.free hpn) s6
        have gd := gg.deep
        refine ⟨_, rfl, vg, jg, rfl, dg, by omega, fun G7 s7 => ?_⟩
        refine ⟨_, rfl, ?_⟩
        cases ej : (szJ jg 400 13).isSome with
        | false =>
          refine iteF ?_
          refine iteF ?_
          exact ⟨_, _, _, _, _, rfl, t6.trans s7⟩
        | true =>
          have gj' := good_of ej
          have d20' : jg.deep ≤ 20 := Nat.le_trans gj'.2.2 (by decide)
          have n3 := J.net_60 _ gj'.1
          have n4 := J.low_60 _ gj'.1
          have dg7 := dp_same s7 dg
          refine iteT ?_
          refine ⟨_, rfl, vg, jg, rfl, dg7, d20', gj'.isSome, fun K5 u5 => ?_⟩
          refine ⟨_, rfl, vg, jg, rfl, dp_same u5 dg7, d20', gj'.isSome, fun K6 u6 => ?_⟩
          refine ⟨(by show 2 ≤ sizeLine; decide), fun l1 hl1 => ?_⟩
          obtain ⟨u7, dl1⟩ := lst_fresh (K := K) (ds := [.int jg.net, .int jg.low]) hl1 (.cons (.int _) (.cons (.int _) .nil))
          generalize (upd K6 l1 (.lst [.int jg.net, .int jg.low])) = K7 at u7 dl1 ⊢
          refine ⟨_, _, rfl, dl1, fine_two n3.1 n3.2 n4.1 (by omega), (by simp [PyData.depth, PyData.depthAll]), (by simp [PyData.bulk, PyData.bulkAll]), ?_⟩
          have u57 := u5.trans (u6.trans u7)
          refine ⟨_, rfl, vg, jg, rfl, dp_same u57 dg7, gj'.2.2, gj'.1, fun K8 le u8 ele => ?_⟩
          have dl2 : Dp K K8 (.ref le) (.list [.int jg.net, .int jg.low]) := .lst (SqL.of ele) (.cons (.int _) (.cons (.int _) .nil))
          refine ⟨_, _, rfl, dl2, fine_two n3.1 n3.2 n4.1 (by omega), (by simp [PyData.depth, PyData.depthAll]), (by simp [PyData.bulk, PyData.bulkAll]), rfl, _, rfl, ?_⟩
          refine iteNS rfl ?_
          exact ⟨_, _, _, _, _, rfl, t6.trans (s7.trans (u57.trans u8))⟩
  · rintro σ H' ⟨y1, y2, y3, y4, y5, rfl, t⟩
    have e12 : (10 : Int) ^ (12 : Int).toNat = 1000000000000 := by decide
    refine ⟨_, _, rfl, rfl, powW_of 4 (by decide) (by decide) (by decide), ?_⟩
    dsimp only
    rw [e12]
    refine ⟨_, rfl, (by show 2 ≤ sizeLine; decide), fun q1 hq1 => ?_⟩
    obtain ⟨u1, d1⟩ := tup_fresh (K := K) (ds := [.int 2, .int (-3)]) hq1 (.cons (.int _) (.cons (.int _) .nil))
    generalize (upd H' q1 (.tup [.int 2, .int (-3)])) = F1 at u1 d1 ⊢
    refine ⟨(by show 2 ≤ sizeLine; decide), fun q2 hq2 => ?_⟩
    obtain ⟨u2, d2⟩ := tup_fresh (K := K) (ds := [.str "seq", .tuple [.int 2, .int (-3)]]) hq2 (.cons (.str _) (.cons d1 .nil))
    generalize (upd F1 q2 (.tup [.str "seq", .ref q1])) = F2 at u2 d2 ⊢
    refine ⟨(by show 3 ≤ sizeLine; decide), fun q3 hq3 => ?_⟩
    obtain ⟨u3, d3⟩ := tup_fresh (K := K) (ds := [.str "repeat", .int 1000000000000, .tuple [.str "seq", .tuple [.int 2, .int (-3)]]]) hq3 (.cons (.str _) (.cons (.int _) (.cons d2 .nil)))
    have dD : Dp K _ (.ref q3) jD3.toD := d3
    generalize (upd F2 q3 (.tup [.str "repeat", .int 1000000000000, .ref q2])) = F3 at u3 d3 dD ⊢
    refine ⟨_, _, rfl, rfl, powW_of 4 (by decide) (by decide) (by decide), ?_⟩
    dsimp only
    rw [e12]
    refine ⟨_, _, rfl, rfl, ?_⟩
    obtain ⟨v1, v2, v3, v4, v5, v6, v7⟩ := vals_3
    have dd : ∀ {x : J}, Good x → x.deep ≤ 20 := fun g => Nat.le_trans g.2.2 (by decide)
    refine ⟨_, rfl, _, jD3, rfl, dD, dd good_D3, good_D3.isSome, fun K1 w1 => ?_⟩
    refine ⟨_, rfl, _, jD3, rfl, dp_same w1 dD, dd good_D3, good_D3.isSome, fun K2 w2 => ?_⟩
    have dD2 := dp_same (w1.trans w2) dD
    refine ⟨_, rfl, (by show 3 ≤ sizeLine; decide), fun q4 hq4 => ?_⟩
    obtain ⟨w3, d4⟩ := tup_fresh (K := K) (ds := [.str "copies", .int 4, jD3.toD]) hq4 (.cons (.str _) (.cons (.int _) (.cons dD2 .nil)))
    have dC : Dp K _ (.ref q4) jC3.toD := d4
    generalize (upd K2 q4 (.tup [.str "copies", .int 4, .ref q3])) = K3 at w3 d4 dC ⊢
    refine ⟨.ref q4, jC3, rfl, dC, dd good_C3, good_C3.isSome, fun K4 w4 => ?_⟩
    rw [v1, v2, v3]
    refine ⟨(by show 3 ≤ sizeLine; decide), fun l1 hl1 => ?_⟩
    obtain ⟨w5, dl1⟩ := lst_fresh (K := K) (ds := [.int (-1000000000000), .int (-1000000000000), .int (-4000000000000)]) hl1 (.cons (.int _) (.cons (.int _) (.cons (.int _) .nil)))
    generalize (upd K4 l1 (.lst [.int (-1000000000000), .int (-1000000000000), .int (-4000000000000)])) = K5 at w5 dl1 ⊢
    have fn : fine (.list [.int (-1000000000000), .int (-1000000000000), .int (-4000000000000)]) := by
      simp only [fine, fines]
      decide +kernel
    refine ⟨_, _, rfl, dl1, fn, (by simp [PyData.depth, PyData.depthAll]), (by simp [PyData.bulk, PyData.bulkAll]), ?_⟩
    refine ⟨_, rfl, _, rfl, _, rfl, _, _, rfl, rfl, wide_mul (a := 64) (b := 64) (by decide) (by decide) (by decide) (by decide) (by decide), ?_⟩
    refine ⟨(by show 3 ≤ sizeLine; decide), fun l2 hl2 => ?_⟩
    obtain ⟨w6, dl2⟩ := lst_fresh (K := K) (ds := [.int (-1000000000000), .int (-1000000000000), .int (-4000000000000)]) hl2 (.cons (.int _) (.cons (.int _) (.cons (.int _) .nil)))
    refine ⟨_, _, rfl, dl2, fn, (by simp [PyData.depth, PyData.depthAll]), (by simp [PyData.bulk, PyData.bulkAll]), rfl, _, rfl, ?_⟩
    refine iteNS rfl ?_
    clear dl1 dl2 w5 w6
    -- the last row
    refine ⟨_, rfl, (by show 3 ≤ sizeLine; decide), fun p1 hp1 => ?_⟩
    obtain ⟨x1, c1⟩ := tup_fresh (K := K) (ds := [.int 3, .int (-4), .int 2]) hp1 (.cons (.int _) (.cons (.int _) (.cons (.int _) .nil)))
    generalize (upd _ p1 (.tup [.int 3, .int (-4), .int 2])) = E1 at x1 c1 ⊢
    refine ⟨(by show 2 ≤ sizeLine; decide), fun p2 hp2 => ?_⟩
    obtain ⟨x2, c2⟩ := tup_fresh (K := K) (ds := [.str "seq", .tuple [.int 3, .int (-4), .int 2]]) hp2 (.cons (.str _) (.cons c1 .nil))
    generalize (upd E1 p2 (.tup [.str "seq", .ref p1])) = E2 at x2 c2 ⊢
    have cA : Dp K E2 (.ref p2) jA3.toD := c2
    refine ⟨.ref p2, jA3, rfl, cA, dd good_A3, good_A3.isSome, fun E3 x3 => ?_⟩
    refine ⟨(by show 0 ≤ sizeLine; decide), fun p4 hp4 => ?_⟩
    obtain ⟨x4, c4⟩ := tup_fresh (K := K) (ds := []) hp4 .nil
    generalize (upd E3 p4 (.tup [])) = E4 at x4 c4 ⊢
    refine ⟨(by show 2 ≤ sizeLine; decide), fun p5 hp5 => ?_⟩
    obtain ⟨x5, c5⟩ := tup_fresh (K := K) (ds := [.str "seq", .tuple []]) hp5 (.cons (.str _) (.cons c4 .nil))
    generalize (upd E4 p5 (.tup [.str "seq", .ref p4])) = E5 at x5 c5 ⊢
    have cE : Dp K E5 (.ref p5) jE3.toD := c5
    refine ⟨.ref p5, jE3, rfl, cE, dd good_E3, good_E3.isSome, fun E6 x6 => ?_⟩
    refine ⟨_, rfl, (by show 3 ≤ sizeLine; decide), fun p7 hp7 => ?_⟩
    obtain ⟨x7, c7⟩ := tup_fresh (K := K) (ds := [.str "repeat", .int 0, .int (-5)]) hp7 (.cons (.str _) (.cons (.int _) (.cons (.int _) .nil)))
    generalize (upd E6 p7 (.tup [.str "repeat", .int 0, .int (-5)])) = E7 at x7 c7 ⊢
    have cF : Dp K E7 (.ref p7) jF3.toD := c7
    refine ⟨.ref p7, jF3, rfl, cF, dd good_F3, good_F3.isSome, fun E8 x8 => ?_⟩
    refine ⟨.int 4, .st 4, rfl, .int 4, dd good_43, good_43.isSome, fun E9 x9 => ?_⟩
    rw [v4, v5, v6, v7]
    refine ⟨(by show 4 ≤ sizeLine; decide), fun l3 hl3 => ?_⟩
    obtain ⟨xa, da⟩ := lst_fresh (K := K) (ds := [.int (-1), .int 0, .int 0, .int 0]) hl3 (.cons (.int _) (.cons (.int _) (.cons (.int _) (.cons (.int _) .nil))))
    generalize (upd E9 l3 (.lst [.int (-1), .int 0, .int 0, .int 0])) = Ea at xa da ⊢
    refine ⟨_, rfl, (by show 4 ≤ sizeLine; decide), fun l4 hl4 => ?_⟩
    obtain ⟨xb, db⟩ := lst_fresh (K := K) (ds := [.int (-1), .int 0, .int 0, .int 0]) hl4 (.cons (.int _) (.cons (.int _) (.cons (.int _) (.cons (.int _) .nil))))
    refine ⟨_, _, dp_same xb da, db, (by decide), (by decide), ?_⟩
    have ev : PyData.eqv (.list [.int (-1), .int 0, .int 0, .int 0]) (.list [.int (-1), .int 0, .int 0, .int 0]) = true := by decide +kernel
    rw [ev]
    exact q _
end
theorem all_mk {l : PySem.W.OpenLaw} {w : World} {K : PySem.W.Frag} {h : Heap} {mg : Str → Option Value} {fa : Addr} (X : K.In h) (G : h.Ns mainGlobals mg) (hfa : mg "law" = some (.ref fa))
    {od0 an0 : Option Addr} {sl0 : Array (Option Value)} {oc0 kV0 dc0 pm0 cd0 ct0 : Value} {f0 : Addr}
    {od1 an1 : Option Addr} {sl1 : Array (Option Value)} {oc1 kV1 dc1 pm1 cd1 ct1 : Value} {f1 : Addr}
    {od2 an2 : Option Addr} {sl2 : Array (Option Value)} {oc2 kV2 dc2 pm2 cd2 ct2 : Value} {f2 : Addr}
    {od3 an3 : Option Addr} {sl3 : Array (Option Value)} {oc3 kV3 dc3 pm3 cd3 ct3 : Value} {f3 : Addr}
    {od4 an4 : Option Addr} {sl4 : Array (Option Value)} {oc4 kV4 dc4 pm4 cd4 ct4 : Value} {f4 : Addr}
    {od5 an5 : Option Addr} {sl5 : Array (Option Value)} {oc5 kV5 dc5 pm5 cd5 ct5 : Value} {f5 : Addr}
    {od6 an6 : Option Addr} {sl6 : Array (Option Value)} {oc6 kV6 dc6 pm6 cd6 ct6 : Value} {f6 : Addr}
    {od7 an7 : Option Addr} {sl7 : Array (Option Value)} {oc7 kV7 dc7 pm7 cd7 ct7 : Value} {f7 : Addr}
    {od8 an8 : Option Addr} {sl8 : Array (Option Value)} {oc8 kV8 dc8 pm8 cd8 ct8 : Value} {f8 : Addr}
    {od9 an9 : Option Addr} {sl9 : Array (Option Value)} {oc9 kV9 dc9 pm9 cd9 ct9 : Value} {f9 : Addr}
    {od10 an10 : Option Addr} {sl10 : Array (Option Value)} {oc10 kV10 dc10 pm10 cd10 ct10 : Value} {f10 : Addr}
    {od11 an11 : Option Addr} {sl11 : Array (Option Value)} {oc11 kV11 dc11 pm11 cd11 ct11 : Value} {f11 : Addr}
    {od12 an12 : Option Addr} {sl12 : Array (Option Value)} {oc12 kV12 dc12 pm12 cd12 ct12 : Value} {f12 : Addr}
    {od13 an13 : Option Addr} {sl13 : Array (Option Value)} {oc13 kV13 dc13 pm13 cd13 ct13 : Value} {f13 : Addr}
    {od14 an14 : Option Addr} {sl14 : Array (Option Value)} {oc14 kV14 dc14 pm14 cd14 ct14 : Value} {f14 : Addr}
    {od15 an15 : Option Addr} {sl15 : Array (Option Value)} {oc15 kV15 dc15 pm15 cd15 ct15 : Value} {f15 : Addr}
    {od16 an16 : Option Addr} {sl16 : Array (Option Value)} {oc16 kV16 dc16 pm16 cd16 ct16 : Value} {f16 : Addr}
    {od17 an17 : Option Addr} {sl17 : Array (Option Value)} {oc17 kV17 dc17 pm17 cd17 ct17 : Value} {f17 : Addr}
    {od18 an18 : Option Addr} {sl18 : Array (Option Value)} {oc18 kV18 dc18 pm18 cd18 ct18 : Value} {f18 : Addr}
    {od19 an19 : Option Addr} {sl19 : Array (Option Value)} {oc19 kV19 dc19 pm19 cd19 ct19 : Value} {f19 : Addr}
    {od20 an20 : Option Addr} {sl20 : Array (Option Value)} {oc20 kV20 dc20 pm20 cd20 ct20 : Value} {f20 : Addr}
    {od21 an21 : Option Addr} {sl21 : Array (Option Value)} {oc21 kV21 dc21 pm21 cd21 ct21 : Value} {f21 : Addr}
    {od22 an22 : Option Addr} {sl22 : Array (Option Value)} {oc22 kV22 dc22 pm22 cd22 ct22 : Value} {f22 : Addr}
    {od23 an23 : Option Addr} {sl23 : Array (Option Value)} {oc23 kV23 dc23 pm23 cd23 ct23 : Value} {f23 : Addr}
    {od24 an24 : Option Addr} {sl24 : Array (Option Value)} {oc24 kV24 dc24 pm24 cd24 ct24 : Value} {f24 : Addr}
    {od25 an25 : Option Addr} {sl25 : Array (Option Value)} {oc25 kV25 dc25 pm25 cd25 ct25 : Value} {f25 : Addr}
    {tk0 : Tok}
    {tk1 : Tok}
    {tk2 : Tok}
    {tk3 : Tok}
    {tk4 : Tok}
    (a0 : PySem.W.nsIn K mainGlobals "is_integer" = some (some (.ref f0)))
    (l0 : K.lookup f0 = some ⟨oc0, od0, .func (PySem.W.fnOf "is_integer" "is_integer" (defArgs s_is_integer) (defBody s_is_integer) (defScope s_is_integer) .none kV0 dc0 pm0 an0 cd0 ct0), sl0⟩)
    (c0 : PySem.W.codeIn K cd0 "is_integer" = true) (k0 : PySem.W.keepIn K (.ref f0) = true)
    (a1 : PySem.W.nsIn K mainGlobals "is_within" = some (some (.ref f1)))
    (l1 : K.lookup f1 = some ⟨oc1, od1, .func (PySem.W.fnOf "is_within" "is_within" (defArgs s_is_within) (defBody s_is_within) (defScope s_is_within) .none kV1 dc1 pm1 an1 cd1 ct1), sl1⟩)
    (c1 : PySem.W.codeIn K cd1 "is_within" = true) (k1 : PySem.W.keepIn K (.ref f1) = true)
    (a2 : PySem.W.nsIn K mainGlobals "is_job" = some (some (.ref f2)))
    (l2 : K.lookup f2 = some ⟨oc2, od2, .func (PySem.W.fnOf "is_job" "is_job" (defArgs s_is_job) (defBody s_is_job) (defScope s_is_job) .none kV2 dc2 pm2 an2 cd2 ct2), sl2⟩)
    (c2 : PySem.W.codeIn K cd2 "is_job" = true) (k2 : PySem.W.keepIn K (.ref f2) = true)
    (a3 : PySem.W.nsIn K mainGlobals "net" = some (some (.ref f3)))
    (l3 : K.lookup f3 = some ⟨oc3, od3, .func (PySem.W.fnOf "net" "net" (defArgs s_net) (defBody s_net) (defScope s_net) .none kV3 dc3 pm3 an3 cd3 ct3), sl3⟩)
    (c3 : PySem.W.codeIn K cd3 "net" = true) (k3 : PySem.W.keepIn K (.ref f3) = true)
    (a4 : PySem.W.nsIn K mainGlobals "lowest" = some (some (.ref f4)))
    (l4 : K.lookup f4 = some ⟨oc4, od4, .func (PySem.W.fnOf "lowest" "lowest" (defArgs s_lowest) (defBody s_lowest) (defScope s_lowest) .none kV4 dc4 pm4 an4 cd4 ct4), sl4⟩)
    (c4 : PySem.W.codeIn K cd4 "lowest" = true) (k4 : PySem.W.keepIn K (.ref f4) = true)
    (a5 : PySem.W.nsIn K mainGlobals "checked_sizes" = some (some (.ref f5)))
    (l5 : K.lookup f5 = some ⟨oc5, od5, .func (PySem.W.fnOf "checked_sizes" "checked_sizes" (defArgs s_checked_sizes) (defBody s_checked_sizes) (defScope s_checked_sizes) .none kV5 dc5 pm5 an5 cd5 ct5), sl5⟩)
    (c5 : PySem.W.codeIn K cd5 "checked_sizes" = true) (k5 : PySem.W.keepIn K (.ref f5) = true)
    (a6 : PySem.W.nsIn K mainGlobals "steps_of_leaf" = some (some (.ref f6)))
    (l6 : K.lookup f6 = some ⟨oc6, od6, .func (PySem.W.fnOf "steps_of_leaf" "steps_of_leaf" (defArgs s_steps_of_leaf) (defBody s_steps_of_leaf) (defScope s_steps_of_leaf) .none kV6 dc6 pm6 an6 cd6 ct6), sl6⟩)
    (c6 : PySem.W.codeIn K cd6 "steps_of_leaf" = true) (k6 : PySem.W.keepIn K (.ref f6) = true)
    (a7 : PySem.W.nsIn K mainGlobals "sizes_of" = some (some (.ref f7)))
    (l7 : K.lookup f7 = some ⟨oc7, od7, .func (PySem.W.fnOf "sizes_of" "sizes_of" (defArgs s_sizes_of) (defBody s_sizes_of) (defScope s_sizes_of) .none kV7 dc7 pm7 an7 cd7 ct7), sl7⟩)
    (c7 : PySem.W.codeIn K cd7 "sizes_of" = true) (k7 : PySem.W.keepIn K (.ref f7) = true)
    (a8 : PySem.W.nsIn K mainGlobals "_sizes" = some (some (.ref f8)))
    (l8 : K.lookup f8 = some ⟨oc8, od8, .func (PySem.W.fnOf "_sizes" "_sizes" (defArgs s__sizes) (defBody s__sizes) (defScope s__sizes) .none kV8 dc8 pm8 an8 cd8 ct8), sl8⟩)
    (c8 : PySem.W.codeIn K cd8 "_sizes" = true) (k8 : PySem.W.keepIn K (.ref f8) = true)
    (a9 : PySem.W.nsIn K mainGlobals "_sizes_of_parts" = some (some (.ref f9)))
    (l9 : K.lookup f9 = some ⟨oc9, od9, .func (PySem.W.fnOf "_sizes_of_parts" "_sizes_of_parts" (defArgs s__sizes_of_parts) (defBody s__sizes_of_parts) (defScope s__sizes_of_parts) .none kV9 dc9 pm9 an9 cd9 ct9), sl9⟩)
    (c9 : PySem.W.codeIn K cd9 "_sizes_of_parts" = true) (k9 : PySem.W.keepIn K (.ref f9) = true)
    (a10 : PySem.W.nsIn K mainGlobals "_sizes_of_rounds" = some (some (.ref f10)))
    (l10 : K.lookup f10 = some ⟨oc10, od10, .func (PySem.W.fnOf "_sizes_of_rounds" "_sizes_of_rounds" (defArgs s__sizes_of_rounds) (defBody s__sizes_of_rounds) (defScope s__sizes_of_rounds) .none kV10 dc10 pm10 an10 cd10 ct10), sl10⟩)
    (c10 : PySem.W.codeIn K cd10 "_sizes_of_rounds" = true) (k10 : PySem.W.keepIn K (.ref f10) = true)
    (a11 : PySem.W.nsIn K mainGlobals "_within_count" = some (some (.ref f11)))
    (l11 : K.lookup f11 = some ⟨oc11, od11, .func (PySem.W.fnOf "_within_count" "_within_count" (defArgs s__within_count) (defBody s__within_count) (defScope s__within_count) .none kV11 dc11 pm11 an11 cd11 ct11), sl11⟩)
    (c11 : PySem.W.codeIn K cd11 "_within_count" = true) (k11 : PySem.W.keepIn K (.ref f11) = true)
    (a12 : PySem.W.nsIn K mainGlobals "_net_and_lowest" = some (some (.ref f12)))
    (l12 : K.lookup f12 = some ⟨oc12, od12, .func (PySem.W.fnOf "_net_and_lowest" "_net_and_lowest" (defArgs s__net_and_lowest) (defBody s__net_and_lowest) (defScope s__net_and_lowest) .none kV12 dc12 pm12 an12 cd12 ct12), sl12⟩)
    (c12 : PySem.W.codeIn K cd12 "_net_and_lowest" = true) (k12 : PySem.W.keepIn K (.ref f12) = true)
    (a13 : PySem.W.nsIn K mainGlobals "_net_and_lowest_of_seq" = some (some (.ref f13)))
    (l13 : K.lookup f13 = some ⟨oc13, od13, .func (PySem.W.fnOf "_net_and_lowest_of_seq" "_net_and_lowest_of_seq" (defArgs s__net_and_lowest_of_seq) (defBody s__net_and_lowest_of_seq) (defScope s__net_and_lowest_of_seq) .none kV13 dc13 pm13 an13 cd13 ct13), sl13⟩)
    (c13 : PySem.W.codeIn K cd13 "_net_and_lowest_of_seq" = true) (k13 : PySem.W.keepIn K (.ref f13) = true)
    (a14 : PySem.W.nsIn K mainGlobals "_law_pot" = some (some (.ref f14)))
    (l14 : K.lookup f14 = some ⟨oc14, od14, .func (PySem.W.fnOf "_law_pot" "_law_pot" (defArgs s__law_pot) (defBody s__law_pot) (defScope s__law_pot) .none kV14 dc14 pm14 an14 cd14 ct14), sl14⟩)
    (c14 : PySem.W.codeIn K cd14 "_law_pot" = true) (k14 : PySem.W.keepIn K (.ref f14) = true)
    (a15 : PySem.W.nsIn K mainGlobals "_law_take" = some (some (.ref f15)))
    (l15 : K.lookup f15 = some ⟨oc15, od15, .func (PySem.W.fnOf "_law_take" "_law_take" (defArgs s__law_take) (defBody s__law_take) (defScope s__law_take) .none kV15 dc15 pm15 an15 cd15 ct15), sl15⟩)
    (c15 : PySem.W.codeIn K cd15 "_law_take" = true) (k15 : PySem.W.keepIn K (.ref f15) = true)
    (a16 : PySem.W.nsIn K mainGlobals "_law_step" = some (some (.ref f16)))
    (l16 : K.lookup f16 = some ⟨oc16, od16, .func (PySem.W.fnOf "_law_step" "_law_step" (defArgs s__law_step) (defBody s__law_step) (defScope s__law_step) .none kV16 dc16 pm16 an16 cd16 ct16), sl16⟩)
    (c16 : PySem.W.codeIn K cd16 "_law_step" = true) (k16 : PySem.W.keepIn K (.ref f16) = true)
    (a17 : PySem.W.nsIn K mainGlobals "_law_job" = some (some (.ref f17)))
    (l17 : K.lookup f17 = some ⟨oc17, od17, .func (PySem.W.fnOf "_law_job" "_law_job" (defArgs s__law_job) (defBody s__law_job) (defScope s__law_job) .none kV17 dc17 pm17 an17 cd17 ct17), sl17⟩)
    (c17 : PySem.W.codeIn K cd17 "_law_job" = true) (k17 : PySem.W.keepIn K (.ref f17) = true)
    (a18 : PySem.W.nsIn K mainGlobals "_law_steps" = some (some (.ref f18)))
    (l18 : K.lookup f18 = some ⟨oc18, od18, .func (PySem.W.fnOf "_law_steps" "_law_steps" (defArgs s__law_steps) (defBody s__law_steps) (defScope s__law_steps) .none kV18 dc18 pm18 an18 cd18 ct18), sl18⟩)
    (c18 : PySem.W.codeIn K cd18 "_law_steps" = true) (k18 : PySem.W.keepIn K (.ref f18) = true)
    (a19 : PySem.W.nsIn K mainGlobals "_law_small" = some (some (.ref f19)))
    (l19 : K.lookup f19 = some ⟨oc19, od19, .func (PySem.W.fnOf "_law_small" "_law_small" (defArgs s__law_small) (defBody s__law_small) (defScope s__law_small) .none kV19 dc19 pm19 an19 cd19 ct19), sl19⟩)
    (c19 : PySem.W.codeIn K cd19 "_law_small" = true) (k19 : PySem.W.keepIn K (.ref f19) = true)
    (a20 : PySem.W.nsIn K mainGlobals "_law_addresses" = some (some (.ref f20)))
    (l20 : K.lookup f20 = some ⟨oc20, od20, .func (PySem.W.fnOf "_law_addresses" "_law_addresses" (defArgs s__law_addresses) (defBody s__law_addresses) (defScope s__law_addresses) .none kV20 dc20 pm20 an20 cd20 ct20), sl20⟩)
    (c20 : PySem.W.codeIn K cd20 "_law_addresses" = true) (k20 : PySem.W.keepIn K (.ref f20) = true)
    (a21 : PySem.W.nsIn K mainGlobals "_law_at" = some (some (.ref f21)))
    (l21 : K.lookup f21 = some ⟨oc21, od21, .func (PySem.W.fnOf "_law_at" "_law_at" (defArgs s__law_at) (defBody s__law_at) (defScope s__law_at) .none kV21 dc21 pm21 an21 cd21 ct21), sl21⟩)
    (c21 : PySem.W.codeIn K cd21 "_law_at" = true) (k21 : PySem.W.keepIn K (.ref f21) = true)
    (a22 : PySem.W.nsIn K mainGlobals "_law_ahead" = some (some (.ref f22)))
    (l22 : K.lookup f22 = some ⟨oc22, od22, .func (PySem.W.fnOf "_law_ahead" "_law_ahead" (defArgs s__law_ahead) (defBody s__law_ahead) (defScope s__law_ahead) .none kV22 dc22 pm22 an22 cd22 ct22), sl22⟩)
    (c22 : PySem.W.codeIn K cd22 "_law_ahead" = true) (k22 : PySem.W.keepIn K (.ref f22) = true)
    (a23 : PySem.W.nsIn K mainGlobals "_law_states" = some (some (.ref f23)))
    (l23 : K.lookup f23 = some ⟨oc23, od23, .func (PySem.W.fnOf "_law_states" "_law_states" (defArgs s__law_states) (defBody s__law_states) (defScope s__law_states) .none kV23 dc23 pm23 an23 cd23 ct23), sl23⟩)
    (c23 : PySem.W.codeIn K cd23 "_law_states" = true) (k23 : PySem.W.keepIn K (.ref f23) = true)
    (a24 : PySem.W.nsIn K mainGlobals "_law_extent" = some (some (.ref f24)))
    (l24 : K.lookup f24 = some ⟨oc24, od24, .func (PySem.W.fnOf "_law_extent" "_law_extent" (defArgs s__law_extent) (defBody s__law_extent) (defScope s__law_extent) .none kV24 dc24 pm24 an24 cd24 ct24), sl24⟩)
    (c24 : PySem.W.codeIn K cd24 "_law_extent" = true) (k24 : PySem.W.keepIn K (.ref f24) = true)
    (a25 : PySem.W.nsIn K mainGlobals "law" = some (some (.ref f25)))
    (l25 : K.lookup f25 = some ⟨oc25, od25, .func (PySem.W.fnOf "law" "law" (defArgs s_law) (defBody s_law) (defScope s_law) .none kV25 dc25 pm25 an25 cd25 ct25), sl25⟩)
    (c25 : PySem.W.codeIn K cd25 "law" = true) (k25 : PySem.W.keepIn K (.ref f25) = true)
    (gc0 : PySem.W.nsIn K mainGlobals "MAX_STEP" = some (some (.int 1000000000000000000000000000000 tk0)))
    (gc1 : PySem.W.nsIn K mainGlobals "MAX_COUNT" = some (some (.int 1000000000000000000000000000000 tk1)))
    (gc2 : PySem.W.nsIn K mainGlobals "MAX_PARTS" = some (some (.int 400 tk2)))
    (gc3 : PySem.W.nsIn K mainGlobals "MAX_NODES" = some (some (.int 400 tk3)))
    (gc4 : PySem.W.nsIn K mainGlobals "MAX_DEPTH" = some (some (.int 13 tk4)))
    (z0 : PySem.W.nsIn K mainGlobals "abs" = some none)
    (z1 : PySem.W.nsIn K mainGlobals "bool" = some none)
    (z2 : PySem.W.nsIn K mainGlobals "enumerate" = some none)
    (z3 : PySem.W.nsIn K mainGlobals "int" = some none)
    (z4 : PySem.W.nsIn K mainGlobals "isinstance" = some none)
    (z5 : PySem.W.nsIn K mainGlobals "len" = some none)
    (z6 : PySem.W.nsIn K mainGlobals "list" = some none)
    (z7 : PySem.W.nsIn K mainGlobals "max" = some none)
    (z8 : PySem.W.nsIn K mainGlobals "min" = some none)
    (z9 : PySem.W.nsIn K mainGlobals "range" = some none)
    (z10 : PySem.W.nsIn K mainGlobals "repr" = some none)
    (z11 : PySem.W.nsIn K mainGlobals "sum" = some none)
    (z12 : PySem.W.nsIn K mainGlobals "tuple" = some none)
    (z13 : PySem.W.nsIn K mainGlobals "zip" = some none) :
    ∃ fd : FuncData, (∀ (s : Shared) (v : Value), BindsTo s fd ⟨[v], []⟩ [("_law_script", v)]) ∧ ∀ base : Heap, K.In base → base.Ns mainGlobals mg → FnG l.prog w K mg base CX0 60 fa fd ["_law_script"] (spLaw K) := by
  have e := hfa.symm.trans (PySem.W.mg_of X G a25)
  cases e
  have T : Txt K mg := by
    have F0 := fun_mk (st := s_is_integer) l0 c0 k0
    have F1 := fun_mk (st := s_is_within) l1 c1 k1
    have F2 := fun_mk (st := s_is_job) l2 c2 k2
    have F3 := fun_mk (st := s_net) l3 c3 k3
    have F4 := fun_mk (st := s_lowest) l4 c4 k4
    have F5 := fun_mk (st := s_checked_sizes) l5 c5 k5
    have F6 := fun_mk (st := s_steps_of_leaf) l6 c6 k6
    have F7 := fun_mk (st := s_sizes_of) l7 c7 k7
    have F8 := fun_mk (st := s__sizes) l8 c8 k8
    have F9 := fun_mk (st := s__sizes_of_parts) l9 c9 k9
    have F10 := fun_mk (st := s__sizes_of_rounds) l10 c10 k10
    have F11 := fun_mk (st := s__within_count) l11 c11 k11
    have F12 := fun_mk (st := s__net_and_lowest) l12 c12 k12
    have F13 := fun_mk (st := s__net_and_lowest_of_seq) l13 c13 k13
    have F14 := fun_mk (st := s__law_pot) l14 c14 k14
    have F15 := fun_mk (st := s__law_take) l15 c15 k15
    have F16 := fun_mk (st := s__law_step) l16 c16 k16
    have F17 := fun_mk (st := s__law_job) l17 c17 k17
    have F18 := fun_mk (st := s__law_steps) l18 c18 k18
    have F19 := fun_mk (st := s__law_small) l19 c19 k19
    have F20 := fun_mk (st := s__law_addresses) l20 c20 k20
    have F21 := fun_mk (st := s__law_at) l21 c21 k21
    have F22 := fun_mk (st := s__law_ahead) l22 c22 k22
    have F23 := fun_mk (st := s__law_states) l23 c23 k23
    have F24 := fun_mk (st := s__law_extent) l24 c24 k24
    have B0 := F0.binds (ps := ["value"]) fun _ _ _ _ _ _ us hl => match us, hl with | [_], _ => rfl
    have B1 := F1.binds (ps := ["value", "least", "greatest"]) fun _ _ _ _ _ _ us hl => match us, hl with | [_, _, _], _ => rfl
    have B2 := F2.binds (ps := ["value"]) fun _ _ _ _ _ _ us hl => match us, hl with | [_], _ => rfl
    have B3 := F3.binds (ps := ["job"]) fun _ _ _ _ _ _ us hl => match us, hl with | [_], _ => rfl
    have B4 := F4.binds (ps := ["job"]) fun _ _ _ _ _ _ us hl => match us, hl with | [_], _ => rfl
    have B5 := F5.binds (ps := ["job"]) fun _ _ _ _ _ _ us hl => match us, hl with | [_], _ => rfl
    have B6 := F6.binds (ps := ["value"]) fun _ _ _ _ _ _ us hl => match us, hl with | [_], _ => rfl
    have B7 := F7.binds (ps := ["value", "leaf_steps"]) fun _ _ _ _ _ _ us hl => match us, hl with | [_, _], _ => rfl
    have B8 := F8.binds (ps := ["value", "leaf_steps", "room", "levels"]) fun _ _ _ _ _ _ us hl => match us, hl with | [_, _, _, _], _ => rfl
    have B9 := F9.binds (ps := ["parts", "leaf_steps", "room", "levels"]) fun _ _ _ _ _ _ us hl => match us, hl with | [_, _, _, _], _ => rfl
    have B10 := F10.binds (ps := ["n", "inner", "leaf_steps", "room", "levels"]) fun _ _ _ _ _ _ us hl => match us, hl with | [_, _, _, _, _], _ => rfl
    have B11 := F11.binds (ps := ["nodes", "steps"]) fun _ _ _ _ _ _ us hl => match us, hl with | [_, _], _ => rfl
    have B12 := F12.binds (ps := ["job"]) fun _ _ _ _ _ _ us hl => match us, hl with | [_], _ => rfl
    have B13 := F13.binds (ps := ["parts"]) fun _ _ _ _ _ _ us hl => match us, hl with | [_], _ => rfl
    have B14 := F14.binds (ps := ["_law_script", "_law_k"]) fun _ _ _ _ _ _ us hl => match us, hl with | [_, _], _ => rfl
    have B15 := F15.binds (ps := ["_law_pot_here", "_law_many"]) fun _ _ _ _ _ _ us hl => match us, hl with | [_, _], _ => rfl
    have B16 := F16.binds (ps := ["_law_pot_here"]) fun _ _ _ _ _ _ us hl => match us, hl with | [_], _ => rfl
    have B17 := F17.binds (ps := ["_law_pot_here", "_law_deep", "_law_counts"]) fun _ _ _ _ _ _ us hl => match us, hl with | [_, _, _], _ => rfl
    have B18 := F18.binds (ps := ["_law_job_here"]) fun _ _ _ _ _ _ us hl => match us, hl with | [_], _ => rfl
    have B19 := F19.binds (ps := ["_law_pot_here", "_law_deep", "_law_size"]) fun _ _ _ _ _ _ us hl => match us, hl with | [_, _, _], _ => rfl
    have B20 := F20.binds (ps := ["_law_job_here"]) fun _ _ _ _ _ _ us hl => match us, hl with | [_], _ => rfl
    have B21 := F21.binds (ps := ["_law_job_here", "_law_address"]) fun _ _ _ _ _ _ us hl => match us, hl with | [_, _], _ => rfl
    have B22 := F22.binds (ps := ["_law_job_here", "_law_one", "_law_other"]) fun _ _ _ _ _ _ us hl => match us, hl with | [_, _, _], _ => rfl
    have B23 := F23.binds (ps := ["_law_job_here"]) fun _ _ _ _ _ _ us hl => match us, hl with | [_], _ => rfl
    have B24 := F24.binds (ps := ["_law_job_here"]) fun _ _ _ _ _ _ us hl => match us, hl with | [_], _ => rfl
    exact {
      f_is_integer := f0, d_is_integer := _, F_is_integer := F0, b_is_integer := B0, m_is_integer := PySem.W.mg_of X G a0,
      f_is_within := f1, d_is_within := _, F_is_within := F1, b_is_within := B1, m_is_within := PySem.W.mg_of X G a1,
      f_is_job := f2, d_is_job := _, F_is_job := F2, b_is_job := B2, m_is_job := PySem.W.mg_of X G a2,
      f_net := f3, d_net := _, F_net := F3, b_net := B3, m_net := PySem.W.mg_of X G a3,
      f_lowest := f4, d_lowest := _, F_lowest := F4, b_lowest := B4, m_lowest := PySem.W.mg_of X G a4,
      f_checked_sizes := f5, d_checked_sizes := _, F_checked_sizes := F5, b_checked_sizes := B5, m_checked_sizes := PySem.W.mg_of X G a5,
      f_steps_of_leaf := f6, d_steps_of_leaf := _, F_steps_of_leaf := F6, b_steps_of_leaf := B6, m_steps_of_leaf := PySem.W.mg_of X G a6,
      f_sizes_of := f7, d_sizes_of := _, F_sizes_of := F7, b_sizes_of := B7, m_sizes_of := PySem.W.mg_of X G a7,
      f__sizes := f8, d__sizes := _, F__sizes := F8, b__sizes := B8, m__sizes := PySem.W.mg_of X G a8,
      f__sizes_of_parts := f9, d__sizes_of_parts := _, F__sizes_of_parts := F9, b__sizes_of_parts := B9, m__sizes_of_parts := PySem.W.mg_of X G a9,
      f__sizes_of_rounds := f10, d__sizes_of_rounds := _, F__sizes_of_rounds := F10, b__sizes_of_rounds := B10, m__sizes_of_rounds := PySem.W.mg_of X G a10,
      f__within_count := f11, d__within_count := _, F__within_count := F11, b__within_count := B11, m__within_count := PySem.W.mg_of X G a11,
      f__net_and_lowest := f12, d__net_and_lowest := _, F__net_and_lowest := F12, b__net_and_lowest := B12, m__net_and_lowest := PySem.W.mg_of X G a12,
      f__net_and_lowest_of_seq := f13, d__net_and_lowest_of_seq := _, F__net_and_lowest_of_seq := F13, b__net_and_lowest_of_seq := B13, m__net_and_lowest_of_seq := PySem.W.mg_of X G a13,
      f__law_pot := f14, d__law_pot := _, F__law_pot := F14, b__law_pot := B14, m__law_pot := PySem.W.mg_of X G a14,
      f__law_take := f15, d__law_take := _, F__law_take := F15, b__law_take := B15, m__law_take := PySem.W.mg_of X G a15,
      f__law_step := f16, d__law_step := _, F__law_step := F16, b__law_step := B16, m__law_step := PySem.W.mg_of X G a16,
      f__law_job := f17, d__law_job := _, F__law_job := F17, b__law_job := B17, m__law_job := PySem.W.mg_of X G a17,
      f__law_steps := f18, d__law_steps := _, F__law_steps := F18, b__law_steps := B18, m__law_steps := PySem.W.mg_of X G a18,
      f__law_small := f19, d__law_small := _, F__law_small := F19, b__law_small := B19, m__law_small := PySem.W.mg_of X G a19,
      f__law_addresses := f20, d__law_addresses := _, F__law_addresses := F20, b__law_addresses := B20, m__law_addresses := PySem.W.mg_of X G a20,
      f__law_at := f21, d__law_at := _, F__law_at := F21, b__law_at := B21, m__law_at := PySem.W.mg_of X G a21,
      f__law_ahead := f22, d__law_ahead := _, F__law_ahead := F22, b__law_ahead := B22, m__law_ahead := PySem.W.mg_of X G a22,
      f__law_states := f23, d__law_states := _, F__law_states := F23, b__law_states := B23, m__law_states := PySem.W.mg_of X G a23,
      f__law_extent := f24, d__law_extent := _, F__law_extent := F24, b__law_extent := B24, m__law_extent := PySem.W.mg_of X G a24,
      t_MAX_STEP := tk0, g_MAX_STEP := PySem.W.mg_of X G gc0,
      t_MAX_COUNT := tk1, g_MAX_COUNT := PySem.W.mg_of X G gc1,
      t_MAX_PARTS := tk2, g_MAX_PARTS := PySem.W.mg_of X G gc2,
      t_MAX_NODES := tk3, g_MAX_NODES := PySem.W.mg_of X G gc3,
      t_MAX_DEPTH := tk4, g_MAX_DEPTH := PySem.W.mg_of X G gc4,
      n_abs := PySem.W.mg_none_of X G z0,
      n_bool := PySem.W.mg_none_of X G z1,
      n_enumerate := PySem.W.mg_none_of X G z2,
      n_int := PySem.W.mg_none_of X G z3,
      n_isinstance := PySem.W.mg_none_of X G z4,
      n_len := PySem.W.mg_none_of X G z5,
      n_list := PySem.W.mg_none_of X G z6,
      n_max := PySem.W.mg_none_of X G z7,
      n_min := PySem.W.mg_none_of X G z8,
      n_range := PySem.W.mg_none_of X G z9,
      n_repr := PySem.W.mg_none_of X G z10,
      n_sum := PySem.W.mg_none_of X G z11,
      n_tuple := PySem.W.mg_none_of X G z12,
      n_zip := PySem.W.mg_none_of X G z13 }
  exact ⟨PySem.W.fnOf "law" "law" (defArgs s_law) (defBody s_law) (defScope s_law) .none kV25 dc25 pm25 an25 cd25 ct25, fun s v => .of_eq rfl, fun base _ _ => ok_law (fun_mk (st := s_law) l25 c25 k25) T⟩
end Lw

open PySem PySem.W PyProof.Rows
set_option maxRecDepth 100000 in
set_option maxHeartbeats 0 in
theorem PySem.Challenge.cw_roomprofile_k03_whole_lowest_usage_holds : PySem.Challenge.rw_roomprofile_k03_whole_lowest_usage.Holds := by
  w_on; o_law; k_head; (case hw => w_witness2)
  k_fill
  refine Rp.law_end (l := PySem.Challenge.rw_roomprofile_k03_whole_lowest_usage) (n := 63) (k := 60) (x := "_law_script") (sp := Lw.spLaw) rfl (by decide) rfl ⟨rfl, by decide, by decide⟩ (fun w h Y => PySem.W.kIn_of Y) ?F (fun K H a ns hl hO hS => ⟨a, ns, rfl, hO, hS, hl, fun _ => rfl⟩)
  case F =>
    intro w mg fa h KX G hmg
    refine' Lw.all_mk KX G hmg ?a0 ?l0 ?c0 ?k0 ?a1 ?l1 ?c1 ?k1 ?a2 ?l2 ?c2 ?k2 ?a3 ?l3 ?c3 ?k3 ?a4 ?l4 ?c4 ?k4 ?a5 ?l5 ?c5 ?k5 ?a6 ?l6 ?c6 ?k6 ?a7 ?l7 ?c7 ?k7 ?a8 ?l8 ?c8 ?k8 ?a9 ?l9 ?c9 ?k9 ?a10 ?l10 ?c10 ?k10 ?a11 ?l11 ?c11 ?k11 ?a12 ?l12 ?c12 ?k12 ?a13 ?l13 ?c13 ?k13 ?a14 ?l14 ?c14 ?k14 ?a15 ?l15 ?c15 ?k15 ?a16 ?l16 ?c16 ?k16 ?a17 ?l17 ?c17 ?k17 ?a18 ?l18 ?c18 ?k18 ?a19 ?l19 ?c19 ?k19 ?a20 ?l20 ?c20 ?k20 ?a21 ?l21 ?c21 ?k21 ?a22 ?l22 ?c22 ?k22 ?a23 ?l23 ?c23 ?k23 ?a24 ?l24 ?c24 ?k24 ?a25 ?l25 ?c25 ?k25 ?gc0 ?gc1 ?gc2 ?gc3 ?gc4 ?z0 ?z1 ?z2 ?z3 ?z4 ?z5 ?z6 ?z7 ?z8 ?z9 ?z10 ?z11 ?z12 ?z13
    (case a0 => k_is)
    (case l0 => k_is)
    (case c0 => k_is)
    (case k0 => k_is)
    (case a1 => k_is)
    (case l1 => k_is)
    (case c1 => k_is)
    (case k1 => k_is)
    (case a2 => k_is)
    (case l2 => k_is)
    (case c2 => k_is)
    (case k2 => k_is)
    (case a3 => k_is)
    (case l3 => k_is)
    (case c3 => k_is)
    (case k3 => k_is)
    (case a4 => k_is)
    (case l4 => k_is)
    (case c4 => k_is)
    (case k4 => k_is)
    (case a5 => k_is)
    (case l5 => k_is)
    (case c5 => k_is)
    (case k5 => k_is)
    (case a6 => k_is)
    (case l6 => k_is)
    (case c6 => k_is)
    (case k6 => k_is)
    (case a7 => k_is)
    (case l7 => k_is)
    (case c7 => k_is)
    (case k7 => k_is)
    (case a8 => k_is)
    (case l8 => k_is)
    (case c8 => k_is)
    (case k8 => k_is)
    (case a9 => k_is)
    (case l9 => k_is)
    (case c9 => k_is)
    (case k9 => k_is)
    (case a10 => k_is)
    (case l10 => k_is)
    (case c10 => k_is)
    (case k10 => k_is)
    (case a11 => k_is)
    (case l11 => k_is)
    (case c11 => k_is)
    (case k11 => k_is)
    (case a12 => k_is)
    (case l12 => k_is)
    (case c12 => k_is)
    (case k12 => k_is)
    (case a13 => k_is)
    (case l13 => k_is)
    (case c13 => k_is)
    (case k13 => k_is)
    (case a14 => k_is)
    (case l14 => k_is)
    (case c14 => k_is)
    (case k14 => k_is)
    (case a15 => k_is)
    (case l15 => k_is)
    (case c15 => k_is)
    (case k15 => k_is)
    (case a16 => k_is)
    (case l16 => k_is)
    (case c16 => k_is)
    (case k16 => k_is)
    (case a17 => k_is)
    (case l17 => k_is)
    (case c17 => k_is)
    (case k17 => k_is)
    (case a18 => k_is)
    (case l18 => k_is)
    (case c18 => k_is)
    (case k18 => k_is)
    (case a19 => k_is)
    (case l19 => k_is)
    (case c19 => k_is)
    (case k19 => k_is)
    (case a20 => k_is)
    (case l20 => k_is)
    (case c20 => k_is)
    (case k20 => k_is)
    (case a21 => k_is)
    (case l21 => k_is)
    (case c21 => k_is)
    (case k21 => k_is)
    (case a22 => k_is)
    (case l22 => k_is)
    (case c22 => k_is)
    (case k22 => k_is)
    (case a23 => k_is)
    (case l23 => k_is)
    (case c23 => k_is)
    (case k23 => k_is)
    (case a24 => k_is)
    (case l24 => k_is)
    (case c24 => k_is)
    (case k24 => k_is)
    (case a25 => k_is)
    (case l25 => k_is)
    (case c25 => k_is)
    (case k25 => k_is)
    (case gc0 => k_is)
    (case gc1 => k_is)
    (case gc2 => k_is)
    (case gc3 => k_is)
    (case gc4 => k_is)
    (case z0 => k_is)
    (case z1 => k_is)
    (case z2 => k_is)
    (case z3 => k_is)
    (case z4 => k_is)
    (case z5 => k_is)
    (case z6 => k_is)
    (case z7 => k_is)
    (case z8 => k_is)
    (case z9 => k_is)
    (case z10 => k_is)
    (case z11 => k_is)
    (case z12 => k_is)
    (case z13 => k_is)
