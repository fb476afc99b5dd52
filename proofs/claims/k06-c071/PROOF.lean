import PyProof.Rows.All
import Wide.All
import OpenK.AllK
import Wide.FinOn
import HandS.ForMost
import HandS.IsInst
import HandS.TupAny
import HandS.Wide
import HandS.Codes
import HandS.Style
import PyProof.ReprRoads
import PyProof.ReprLen
import PyProof.ReprBulk
import PyProof.FitsInt
import HandS.TryOnly
import HandS.ForExc
import HandS.TryMany
import HandS.ExcIs
import HandS.ExcField
import HandS.HotCalls
import HandS.SetFor
import HandS.Deep
import HandS.Zip
import HandS.Walk
import HandS.CallLocal
import PySem.Challenge.RW_roomprofile_k06_jobs_refused
set_option Elab.async false
set_option linter.all false
set_option maxRecDepth 100000
set_option maxHeartbeats 4000000
/-! Rp: what the proofs of the laws over roomprofile share: powers, data, repr, isinstance, heaps. -/
namespace Rp
open PySem L2

/-! ### powers of great ints -/
def CPowW (i j : Int) : Prop := 0 ≤ j ∧ (Builtin.Int.intBits i : Int) * j ≤ 2 ^ 27
theorem bits_le {i : Int} {b : Nat} (hi : i.natAbs < 2 ^ b) : Builtin.Int.intBits i ≤ b := by
  unfold Builtin.Int.intBits
  split
  · exact Nat.zero_le _
  · rename_i hne
    have h0 : i.natAbs ≠ 0 := by
      intro z
      apply hne
      have : i = 0 := by omega
      subst this
      rfl
    have := (Nat.log2_lt h0).mpr hi
    omega
theorem powW_of {i j : Int} (b : Nat) (h0 : 0 ≤ j) (hi : i.natAbs < 2 ^ b) (hb : (b : Int) * j ≤ 2 ^ 27) : CPowW i j := by
  refine ⟨h0, Int.le_trans ?_ hb⟩
  have := bits_le hi
  exact Int.mul_le_mul_of_nonneg_right (by omega) h0
section
variable {X : Cx}
theorem op_powW : OpR X (binaryOp .Pow) (rI CPowW fun i j => .int (i ^ j.toNat)) := opI fun _ _ _ _ _ _ _ hc q => PyProof.Rows.pow_int hc.1 hc.2 q
end

/-! ### data -/
def tyN : PyData → String
  | .none => "NoneType"
  | .bool _ => "bool"
  | .int _ => "int"
  | .str _ => "str"
  | .list _ => "list"
  | .tuple _ => "tuple"
  | .dict _ => "dict"
theorem dp_ty {K : PySem.W.Frag} {H : Hp} {v : V} {d : PyData} (h : Dp K H v d) : TyX K H v (.type (tyN d)) := by
  cases h with
  | non => exact .base .non
  | bl b => exact .base (.bl b)
  | int i => exact .base (.int i)
  | str x => exact .base (.str x)
  | lst hs ha =>
    rcases hs with (e | ⟨o, e⟩) | ⟨o, its, n, hk, hc, _⟩
    · exact .base (.lst e)
    · exact .base (.frz e)
    · exact .kList hk hc
  | tup hs ha =>
    rcases hs with (e | ⟨o, e⟩) | ⟨o, its, n, hk, hc, _⟩
    · exact .base (.tup e)
    · exact .fTuple e
    · exact .kTuple hk hc
def isInt : PyData → Bool
  | .int _ => true
  | .bool _ => true
  | _ => false
def isBoo : PyData → Bool
  | .bool _ => true
  | _ => false
def isTup : PyData → Bool
  | .tuple _ => true
  | _ => false
def isStr : PyData → Bool
  | .str _ => true
  | _ => false
def isLst : PyData → Bool
  | .list _ => true
  | _ => false
theorem kit_int (d : PyData) : kitB (tyN d) "int" = some (isInt d) := by cases d <;> (simp only [tyN, isInt]; decide +kernel)
theorem kit_bool (d : PyData) : kitB (tyN d) "bool" = some (isBoo d) := by cases d <;> (simp only [tyN, isBoo]; decide +kernel)
theorem kit_tuple (d : PyData) : kitB (tyN d) "tuple" = some (isTup d) := by cases d <;> (simp only [tyN, isTup]; decide +kernel)
theorem kit_str (d : PyData) : kitB (tyN d) "str" = some (isStr d) := by cases d <;> (simp only [tyN, isStr]; decide +kernel)
theorem kit_list (d : PyData) : kitB (tyN d) "list" = some (isLst d) := by cases d <;> (simp only [tyN, isLst]; decide +kernel)
section
variable {X : Cx}
def rIsD (K : PySem.W.Frag) : List V → Hp → VK → Prop := fun xs H Q => ∃ (v : V) (n : String) (d : PyData) (b : Bool), xs = [v, .ty n] ∧ Dp K H v d ∧ kitB (tyN d) n = some b ∧ Q (.bl b) H
theorem call_isD : CallR X (.builtin "isinstance") (rIsD X.K) := by
  intro pins s σ H xs us Q I r h
  obtain ⟨v, n, d, b, e, hd, hk, q⟩ := h
  exact call_isi pins s σ H xs us Q I r ⟨v, .ty n, _, _, _, e, .ty n, dp_ty hd, kit_ty hk, q⟩
end

/-! ### len, list(..), tuple(..) by names -/
section
variable {X : Cx}
def rLenS (K : PySem.W.Frag) : List V → Hp → VK → Prop := fun xs H Q => ∃ (p : Addr) (ys : List V), xs = [.ref p] ∧ (SqL K H p ys ∨ SqT K H p ys) ∧ Q (.int ys.length) H
theorem call_lenS : CallR X (.builtin "len") (rLenS X.K) := call_len_seq
def rListS (K : PySem.W.Frag) : List V → Hp → VK → Prop := fun xs H Q => ∃ (p : Addr) (ys : List V), xs = [.ref p] ∧ (SqL K H p ys ∨ SqT K H p ys) ∧ ∀ l, H l = none → Q (.ref l) (upd H l (.lst ys))
theorem call_listS : CallR X (.type "list") (rListS X.K) := call_list_of
def rTupS (K : PySem.W.Frag) : List V → Hp → VK → Prop := fun xs H Q => ∃ (p : Addr) (ys : List V), xs = [.ref p] ∧ ((SqL K H p ys ∧ ∀ l, H l = none → Q (.ref l) (upd H l (.tup ys))) ∨ (SqT K H p ys ∧ Q (.ref p) H))
theorem call_tupS : CallR X (.type "tuple") (rTupS X.K) := call_tuple_of
end

/-! ### repr of data -/
mutual
/-- data whose text is made without trouble: no dicts, ints of at most 180 digits, signs below 16 ^ 8 -/
def fine : PyData → Prop
  | .int i => i.natAbs < 10 ^ 180
  | .str x => (x.cps.toList.all fun c => decide (c < 16 ^ 8)) = true
  | .list xs => fines xs
  | .tuple xs => fines xs
  | .dict _ => False
  | _ => True
def fines : List PyData → Prop
  | [] => True
  | x :: xs => fine x ∧ fines xs
end
theorem int_log {i : Int} (h : i.natAbs < 10 ^ 180) : i.natAbs.log2 < 1920 := by
  by_cases z : i.natAbs = 0
  · rw [z]
    decide
  · exact (Nat.log2_lt z).mpr (Nat.lt_trans h (by decide +kernel))
theorem shown_int {i : Int} (h : i.natAbs < 10 ^ 180) : (PyData.shown (.int i)).length ≤ 200 := by
  have e := int_text_length_le10 (k := 180) (by decide) h
  show (Str.ofString (toString i)).length ≤ 200
  rw [ofString_length]
  omega
mutual
theorem fine_ok : ∀ d : PyData, fine d → d.showable = true ∧ d.leavesShort 200 = true ∧ d.hasDict = false
  | .none, _ => by simp [PyData.showable, PyData.leavesShort, PyData.hasDict]
  | .bool _, _ => by simp [PyData.showable, PyData.leavesShort, PyData.hasDict]
  | .int i, h => by
    simp only [fine] at h
    simp only [PyData.showable, PyData.leavesShort, PyData.hasDict, decide_eq_true_eq, and_true]
    exact ⟨int_log h, shown_int h⟩
  | .str x, h => by
    simp only [fine] at h
    simp only [PyData.showable, PyData.leavesShort, PyData.hasDict, and_true, true_and]
    exact h
  | .list xs, h => by
    simp only [fine] at h
    simp only [PyData.showable, PyData.leavesShort, PyData.hasDict]
    exact fines_ok xs h
  | .tuple xs, h => by
    simp only [fine] at h
    simp only [PyData.showable, PyData.leavesShort, PyData.hasDict]
    exact fines_ok xs h
  | .dict _, h => by simp only [fine] at h
theorem fines_ok : ∀ xs : List PyData, fines xs → PyData.showableAll xs = true ∧ PyData.leavesShortAll 200 xs = true ∧ PyData.hasDictAll xs = false
  | [], _ => by simp [PyData.showableAll, PyData.leavesShortAll, PyData.hasDictAll]
  | x :: xs, h => by
    simp only [fines] at h
    obtain ⟨a1, a2, a3⟩ := fine_ok x h.1
    obtain ⟨b1, b2, b3⟩ := fines_ok xs h.2
    simp only [PyData.showableAll, PyData.leavesShortAll, PyData.hasDictAll, a1, a2, a3, b1, b2, b3, Bool.and_self, Bool.or_self, and_self]
end
section
variable {X : Cx}
def rRepr (K : PySem.W.Frag) : List V → Hp → VK → Prop := fun xs H Q => ∃ (v : V) (d : PyData), xs = [v] ∧ Dp K H v d ∧ fine d ∧ d.depth ≤ 64 ∧ d.bulk ≤ 80000 ∧ Q (.str d.shown) H
theorem call_reprD (hg : X.A.guards = some []) (hu : X.A.units + 66 < cLine) : CallR X (.builtin "repr") (rRepr X.K) := by
  intro pins s σ H xs us Q I r h
  obtain ⟨v, d, rfl, hd, hf, hdep, hw, q⟩ := h
  obtain ⟨hs, hl, hnd⟩ := fine_ok d hf
  have hz : d.shown.length ≤ sizeLine := by
    have := PyData.shown_le_bulk 200 (by decide) d hl
    rw [sizeLine_eq]
    omega
  obtain ⟨u, rfl, ru⟩ := vals1 r
  have hsm : ∀ as : List Addr, d.hasDict = true → sysModules ∉ as := fun as => PyData.noDict_hsm hnd
  obtain ⟨as, hr⟩ := Dp.reads I d v u hd ru
  cases hr with
  | none => exact P.repr_of_none ⟨.str _, H, I.tok _, ⟨_, rfl⟩, q⟩
  | bool b => exact P.repr_of_bool ⟨.str _, H, I.tok _, ⟨_, rfl⟩, q⟩
  | int i t => exact P.repr_of_int (by simpa [PyData.showable] using hs) ⟨.str _, H, I.tok _, ⟨_, rfl⟩, q⟩
  | str x t => exact P.repr_of_str ⟨.str _, H, I.tok _, ⟨_, rfl⟩, q⟩ (by simpa only [PyData.shown] using hz)
  | list h1 h2 h3 h4 =>
    refine repr_of_reads' (h₀ := s.heap) (.list h1 h2 h3 h4) hs (hsm _) hg (by omega) (fun _ _ e => e) (fun h' u' tk hk => ?_) hz
    exact ⟨.str _, H, I.kept hk, ⟨_, rfl⟩, q⟩
  | tuple h1 h2 h3 h4 =>
    refine repr_of_reads' (h₀ := s.heap) (.tuple h1 h2 h3 h4) hs (hsm _) hg (by omega) (fun _ _ e => e) (fun h' u' tk hk => ?_) hz
    exact ⟨.str _, H, I.kept hk, ⟨_, rfl⟩, q⟩
  | dict _ _ _ _ _ => exact absurd hnd (by simp [PyData.hasDict])
end

/-! ### what stays of the heap -/
theorem same_sqT {K : PySem.W.Frag} {H H' : Hp} {a : Addr} {xs : List V} (s : Same H H') (h : SqT K H a xs) : SqT K H' a xs := by
  rcases h with (h | ⟨o, h⟩) | h
  · exact .inl (.inl (s _ _ h))
  · exact .inl (.inr ⟨o, s _ _ h⟩)
  · exact .inr h
theorem same_new {H : Hp} {p : Addr} {o : HO} (h : H p = none) : Same H (upd H p o) := fun b u q => by rw [upd_ne (ne_of_none q h)]; exact q
mutual
theorem dp_same {K : PySem.W.Frag} {H H' : Hp} (s : Same H H') : ∀ {d : PyData} {v : V}, Dp K H v d → Dp K H' v d
  | .none, _, h => by cases h; exact .non
  | .bool _, _, h => by cases h; exact .bl _
  | .int _, _, h => by cases h; exact .int _
  | .str _, _, h => by cases h; exact .str _
  | .list ds, _, h => by
    cases h with
    | lst hs ha => exact .lst (s.seq hs) (dpAll_same s ha)
  | .tuple ds, _, h => by
    cases h with
    | tup hs ha => exact .tup (same_sqT s hs) (dpAll_same s ha)
  | .dict _, _, h => by cases h
theorem dpAll_same {K : PySem.W.Frag} {H H' : Hp} (s : Same H H') : ∀ {ds : List PyData} {vs : List V}, DpAll K H vs ds → DpAll K H' vs ds
  | [], _, h => by cases h; exact .nil
  | d :: ds, _, h => by
    cases h with
    | cons h1 h2 => exact .cons (dp_same s h1) (dpAll_same s h2)
end
/-- all but p stays -/
def Sx (p : Addr) (H H' : Hp) : Prop := ∀ b o, b ≠ p → H b = some o → H' b = some o
theorem Sx.refl {p : Addr} {H : Hp} : Sx p H H := fun _ _ _ h => h
theorem Sx.trans {p : Addr} {H H1 H2 : Hp} (a : Sx p H H1) (b : Sx p H1 H2) : Sx p H H2 := fun c o n h => b c o n (a c o n h)
theorem Same.sx {p : Addr} {H H' : Hp} (s : Same H H') : Sx p H H' := fun b o _ h => s b o h
theorem sx_upd {p : Addr} {H : Hp} {o : HO} : Sx p H (upd H p o) := fun b u n h => by rw [upd_ne n]; exact h
theorem sx_new {p q : Addr} {H : Hp} {o : HO} (h : H q = none) : Sx p H (upd H q o) := fun b u _ q => same_new h b u q
/-! data without lists and dicts -/
mutual
def noL : PyData → Bool
  | .list _ => false
  | .dict _ => false
  | .tuple ds => noLs ds
  | _ => true
def noLs : List PyData → Bool
  | [] => true
  | d :: ds => noL d && noLs ds
end
theorem Sx.sqT {K : PySem.W.Frag} {p a : Addr} {H H' : Hp} {l xs : List V} (s : Sx p H H') (hp : H p = some (.lst l)) (h : SqT K H a xs) : SqT K H' a xs := by
  rcases h with (h | ⟨o, h⟩) | h
  · exact .inl (.inl (s _ _ (ne_of h hp (by intro z; cases z)) h))
  · exact .inl (.inr ⟨o, s _ _ (ne_of h hp (by intro z; cases z)) h⟩)
  · exact .inr h
mutual
theorem dp_keep {K : PySem.W.Frag} {H H' : Hp} (s : ∀ a xs, SqT K H a xs → SqT K H' a xs) : ∀ {d : PyData} {v : V}, noL d = true → Dp K H v d → Dp K H' v d
  | .none, _, _, h => by cases h; exact .non
  | .bool _, _, _, h => by cases h; exact .bl _
  | .int _, _, _, h => by cases h; exact .int _
  | .str _, _, _, h => by cases h; exact .str _
  | .list ds, _, n, h => by simp [noL] at n
  | .tuple ds, _, n, h => by
    cases h with
    | tup hs ha => exact .tup (s _ _ hs) (dpAll_keep s (by simpa [noL] using n) ha)
  | .dict _, _, _, h => by cases h
theorem dpAll_keep {K : PySem.W.Frag} {H H' : Hp} (s : ∀ a xs, SqT K H a xs → SqT K H' a xs) : ∀ {ds : List PyData} {vs : List V}, noLs ds = true → DpAll K H vs ds → DpAll K H' vs ds
  | [], _, _, h => by cases h; exact .nil
  | d :: ds, _, n, h => by
    cases h with
    | cons h1 h2 =>
      have n' : noL d = true ∧ noLs ds = true := by simpa [noLs] using n
      exact .cons (dp_keep s n'.1 h1) (dpAll_keep s n'.2 h2)
end
theorem Sx.dp {K : PySem.W.Frag} {p : Addr} {H H' : Hp} {l : List V} {d : PyData} {v : V} (s : Sx p H H') (hp : H p = some (.lst l)) (n : noL d = true) (h : Dp K H v d) : Dp K H' v d :=
  dp_keep (fun _ _ z => s.sqT hp z) n h
theorem dpAll_length {K : PySem.W.Frag} {H : Hp} : ∀ {vs : List V} {ds : List PyData}, DpAll K H vs ds → vs.length = ds.length
  | _, _, .nil => rfl
  | _, _, .cons _ h => congrArg (· + 1) (dpAll_length h)
theorem dpAll_get {K : PySem.W.Frag} {H : Hp} : ∀ {vs : List V} {ds : List PyData} {i : Nat} {v : V}, DpAll K H vs ds → vs[i]? = some v → ∃ d, ds[i]? = some d ∧ Dp K H v d
  | _, _, _, _, .nil, e => by simp at e
  | _, _, 0, _, .cons h _, e => by
    simp at e
    subst e
    exact ⟨_, rfl, h⟩
  | _, _, i + 1, _, .cons _ t, e => by
    obtain ⟨d, e1, e2⟩ := dpAll_get (i := i) t (by simpa using e)
    exact ⟨d, by simpa using e1, e2⟩
theorem dpAll_append {K : PySem.W.Frag} {H : Hp} : ∀ {vs ws : List V} {ds es : List PyData}, DpAll K H vs ds → DpAll K H ws es → DpAll K H (vs ++ ws) (ds ++ es)
  | _, _, _, _, .nil, h => h
  | _, _, _, _, .cons h t, h' => .cons h (dpAll_append t h')
theorem dpAll_one {K : PySem.W.Frag} {H : Hp} {v : V} {d : PyData} (h : Dp K H v d) : DpAll K H [v] [d] := .cons h .nil
theorem dpAll_rev {K : PySem.W.Frag} {H : Hp} : ∀ {vs : List V} {ds : List PyData}, DpAll K H vs ds → DpAll K H vs.reverse ds.reverse
  | _, _, .nil => .nil
  | _, _, .cons h t => by
    rw [List.reverse_cons, List.reverse_cons]
    exact dpAll_append (dpAll_rev t) (.cons h .nil)
theorem dp_int_inv {K : PySem.W.Frag} {H : Hp} {v : V} {i : Int} (h : Dp K H v (.int i)) : v = .int i := by cases h; rfl
theorem dp_str_inv {K : PySem.W.Frag} {H : Hp} {v : V} {x : Str} (h : Dp K H v (.str x)) : v = .str x := by cases h; rfl
theorem dp_none_inv {K : PySem.W.Frag} {H : Hp} {v : V} (h : Dp K H v .none) : v = .non := by cases h; rfl
theorem dp_bool_inv {K : PySem.W.Frag} {H : Hp} {v : V} {b : Bool} (h : Dp K H v (.bool b)) : v = .bl b := by cases h; rfl
theorem dp_tup_inv {K : PySem.W.Frag} {H : Hp} {v : V} {ds : List PyData} (h : Dp K H v (.tuple ds)) : ∃ a xs, v = .ref a ∧ SqT K H a xs ∧ DpAll K H xs ds := by
  cases h with
  | tup h1 h2 => exact ⟨_, _, rfl, h1, h2⟩
theorem dp_lst_inv {K : PySem.W.Frag} {H : Hp} {v : V} {ds : List PyData} (h : Dp K H v (.list ds)) : ∃ a xs, v = .ref a ∧ SqL K H a xs ∧ DpAll K H xs ds := by
  cases h with
  | lst h1 h2 => exact ⟨_, _, rfl, h1, h2⟩
theorem tup_fresh {K : PySem.W.Frag} {H : Hp} {p : Addr} {xs : List V} {ds : List PyData} (hp : H p = none) (h : DpAll K H xs ds) : Same H (upd H p (.tup xs)) ∧ Dp K (upd H p (.tup xs)) (.ref p) (.tuple ds) :=
  ⟨same_new hp, .tup (.inl (.inl upd_same)) (dpAll_same (same_new hp) h)⟩
theorem lst_fresh {K : PySem.W.Frag} {H : Hp} {p : Addr} {xs : List V} {ds : List PyData} (hp : H p = none) (h : DpAll K H xs ds) : Same H (upd H p (.lst xs)) ∧ Dp K (upd H p (.lst xs)) (.ref p) (.list ds) :=
  ⟨same_new hp, .lst (.inl (.inl upd_same)) (dpAll_same (same_new hp) h)⟩
theorem Same.sx_free {H H1 H2 : Hp} {p : Addr} (s : Same H H1) (h : H p = none) (t : Sx p H1 H2) : Same H H2 := fun b o e =>
  t b o (ne_of_none e h) (s b o e)
theorem small {n : Nat} (h : n ≤ 1000) : n ≤ sizeLine := Nat.le_of_lt (small1000 h)
theorem small' {n : Nat} (h : n ≤ 1000000) : n ≤ sizeLine := by rw [sizeLine_eq]; omega

theorem atI_at {α : Type} {xs : List α} {k : Int} {j : Nat} {v : α} (e : k = (j : Int)) (h : xs[j]? = some v) : atI xs k = some v := by
  subst e
  exact atI_nat h
theorem atI_int {ns : List Int} {k : Int} (h0 : 0 ≤ k) (h : k < (ns.length : Int)) : ∃ z, z ∈ ns ∧ atI (ns.map V.int) k = some (.int z) := by
  have hk : k.toNat < ns.length := by omega
  refine ⟨ns[k.toNat], List.getElem_mem hk, atI_at (j := k.toNat) (by omega) ?_⟩
  rw [List.getElem?_map, List.getElem?_eq_getElem hk]
  rfl

/-! ### the script as the law gets it: it never changes -/
def Scr (K : PySem.W.Frag) (H : Hp) (a : Addr) (ns : List Int) : Prop := (∃ o, H a = some (.frz o (.lst (ns.map V.int)))) ∨
  ∃ (o : Obj) (its : Array Value) (n : Nat), K.lookup a = some o ∧ o.cls = .type "list" ∧ o.dict = none ∧ o.data = .seq its n ∧ its.size ≤ sizeLine ∧ Vals (ns.map V.int) its.toList
theorem Scr.sq {K : PySem.W.Frag} {H : Hp} {a : Addr} {ns : List Int} (h : Scr K H a ns) : SqL K H a (ns.map V.int) := by
  rcases h with ⟨o, h⟩ | h
  · exact .inl (.inr ⟨o, h⟩)
  · exact .inr h
theorem Scr.of {K : PySem.W.Frag} {H : Hp} {a : Addr} {ns : List Int} (hO : Only H) (h : SqL K H a (ns.map V.int)) : Scr K H a ns := by
  rcases h with (h | h) | h
  · rcases hO a with z | ⟨o, xs, z⟩
    · rw [h] at z; cases z
    · rw [h] at z; cases z
  · exact .inl h
  · exact .inr h
theorem Scr.same {K : PySem.W.Frag} {H H' : Hp} {a : Addr} {ns : List Int} (s : Same H H') (h : Scr K H a ns) : Scr K H' a ns := by
  rcases h with ⟨o, h⟩ | h
  · exact .inl ⟨o, s _ _ h⟩
  · exact .inr h
theorem Scr.sx {K : PySem.W.Frag} {H H' : Hp} {a p : Addr} {ns : List Int} {l : List V} (s : Sx p H H') (hp : H p = some (.lst l)) (h : Scr K H a ns) : Scr K H' a ns := by
  rcases h with ⟨o, h⟩ | h
  · exact .inl ⟨o, s _ _ (ne_of h hp (by intro z; cases z)) h⟩
  · exact .inr h
end Rp
/-! RpG: defs that say repr of made data: the layer's judgements where no repr is under way (guards known), and the law's end over them. -/
namespace Rp
open PySem L2 PyProof.Rows

structure FnG (P : Program) (w : World) (K : PySem.W.Frag) (mg : Str → Option Value) (base : Heap) (CX : CXT) (k : Nat) (f : Addr) (fd : FuncData) (ps : List Str) (sp : Sp) : Prop where
  len : ∀ vs H Q E, sp vs H Q E → vs.length = ps.length
  run : ∀ (A : Around) (outer : List Env) (s : Shared) (H : Hp) (args : Args) (us : List Value) (vs : List V) (Q : VK) (E : XK), Room k A → A.guards = some [] →
    Env0 P w K mg base A outer s H → BindsTo s fd args (ps.zip us) → Vals vs us → sp vs H Q E → codeAny (model P w) A (.call (.ref f) args) (CR CX outer P w H s Q E) s

theorem room66 {k : Nat} {A : Around} (hr : Room k A) : A.units + 66 < cLine := by
  have := hr.un
  omega
section
variable {P : Program} {w : World} {K : PySem.W.Frag} {mg : Str → Option Value} {base : Heap}
theorem okG {name qual : Str} {st : Stmt} {f : Addr} {fd : FuncData} {N ps : List Str} {k : Nat} {sp : Sp} (F : Fun K name qual st f fd) (S : FnScope N ps (defScope st))
    (hlen : ∀ vs H Q E, sp vs H Q E → vs.length = ps.length)
    (hb : ∀ (cdv : Value) (A : Around) (outer : List Env) (s : Shared) (H : Hp) (vs : List V) (Q : VK) (E : XK),
      Room k (A.deeper (envOfC qual (defScope st) s.heap.objs.size f cdv)) → A.guards = some [] → sp vs H Q E →
      ∃ t, PSs (cxOf CX0 P w K mg base N qual (defScope st) f cdv A outer s H E).nox (defBody st) t ∧
        t { nx := fun _ H' => Q .non H', rt := Q } (start N vs) H) : FnG P w K mg base CX0 (k + 1) f fd ps sp := by
  obtain ⟨oc, od, kV, doc, pm, an, cdv, ct, osl, rfl, lk, hcd⟩ := F.ex
  refine ⟨hlen, fun A outer s H args us vs Q E room gd en bd rv want => ?_⟩
  have kin : K.In s.heap := en.mod.kin.keeps fun b o z => (en.bs b o z).1
  have nolim : s.heap.NoLimit := en.mod.nolimit.keeps fun b o z => (en.bs b o z).1
  have hl := hlen _ _ _ _ want
  refine Att.call_fn kin nolim lk hcd room.depth bd ?_ (fun s1 ic => ?_) S.co S.gen S.kind
  · refine List.all_eq_true.mpr fun y hy => ?_
    obtain ⟨a, b⟩ := y
    rcases S.par a (List.of_mem_zip hy).1 with z | z
    · simp [z]
    · simp [z]
  · obtain ⟨t, ht, hq⟩ := hb cdv A outer s H vs Q E (room.deeper _) gd want
    have I := inv_start (CX := CX0) (P := P) (w := w) (K := K) (mg := mg) (base := base) (E := E) S room.hd en hl rv ic
    refine wpAny_mono (ht.nox.run [] s1 (start N vs) H _ I hq) (fun fl s' hs => ?_) (fun e s' hs => hs)
    cases fl with
    | ret u =>
      obtain ⟨v, σ', H', J, rr, q⟩ := hs
      exact ⟨v, H', J.os, J.bare, J.base, J.hok, rr, q⟩
    | next =>
      obtain ⟨σ', H', J, q⟩ := hs
      exact ⟨V.non, H', J.os, J.bare, J.base, J.hok, rfl, q⟩
    | brk =>
      obtain ⟨_, _, _, q⟩ := hs
      exact False.elim q
    | cont =>
      obtain ⟨_, _, _, q⟩ := hs
      exact False.elim q
end
section
variable {X : Cx} {k : Nat} {f : Addr} {fd : FuncData} {ps : List Str} {sp : Sp} {dvs : List V} {ds : List Value} {x : Str} {p pos : Pos} {e : Expr} {es : List Expr} {t : TA}
theorem runG {pins : List (Addr × Obj)} {σ : L2.St} {H : Hp} {s : Shared} {Q : VK} {us : List Value} {vs : List V} (F : FnG X.prog X.w X.K X.mg X.base CX0 k f fd ps sp) (room : Room k X.A) (gd : X.A.guards = some [])
    (bd : Binds X.K fd ps ds) (dv : Vals dvs ds) (I : Inv X pins σ H s) (rv : Vals vs us) (want : sp (vs ++ dvs) H Q E0) : wpAny (model X.prog X.w) X.A (call (.ref f) us) (EP X pins σ Q) X.xe s := by
  have rv2 : Vals (vs ++ dvs) (us ++ ds) := rv.append dv
  have hl : (us ++ ds).length = ps.length := by
    rw [← rv2.length]
    exact F.len _ _ _ _ want
  refine wpAny_call (codeAny_mono (F.run X.A X.stack s H ⟨us, []⟩ (us ++ ds) (vs ++ dvs) Q E0 room gd I.env0 (bd s us I.kIn hl) rv2 want) fun r s' hq => ?_)
  cases r with
  | error e => exact False.elim hq
  | ok fl =>
    cases fl with
    | ret u => exact I.after hq
    | next => exact False.elim hq
    | brk => exact False.elim hq
    | cont => exact False.elim hq
theorem pe_callG (F : FnG X.prog X.w X.K X.mg X.base CX0 k f fd ps sp) (room : Room k X.A) (gd : X.A.guards = some []) (gl : Gl X x) (hm : X.mg x = some (.ref f)) (kp : PySem.W.keepIn X.K (.ref f) = true)
    (bd : Binds X.K fd ps ds) (dv : Vals dvs ds) (ha : PA X (e :: es) t) (nodbg : (x == ("__debug__" : Str)) = false := by decide)
    (he : starEach (e :: es) X.env = (false, eval e X.env) :: starEach es X.env := by rfl) (hpl : (backTo pos (starEach es X.env)).any (·.1) = false := by rfl) :
    PE X (.Call (.Name x p) (e :: es) [] pos) (tCall sp dvs E0 t) := by
  constructor
  intro pins s σ H Q I want
  refine wpAny_Call_Name_kw (ld_glob I gl hm (PySem.W.callWith_K (h₀ := X.base) I.ok.mod.kin kp (thn (ha.run pos pins s σ H _ I want) ?_) he hpl) nodbg)
  rintro us s1 ⟨vs, H1, I1, rv, q⟩
  exact ⟨I1.kIn, runG F room gd bd dv I1 rv q⟩
theorem pe_callG0 (F : FnG X.prog X.w X.K X.mg X.base CX0 k f fd ps sp) (room : Room k X.A) (gd : X.A.guards = some []) (gl : Gl X x) (hm : X.mg x = some (.ref f)) (kp : PySem.W.keepIn X.K (.ref f) = true)
    (bd : Binds X.K fd ps ds) (dv : Vals dvs ds) (nodbg : (x == ("__debug__" : Str)) = false := by decide) : PE X (.Call (.Name x p) [] [] pos) (tCall sp dvs E0 tNil) := by
  constructor
  intro pins s σ H Q I want
  exact wpAny_Call_Name_kw (ld_glob I gl hm (PySem.W.callWith_K0 I.kIn kp (runG (us := []) F room gd bd dv I .nil want)) nodbg)
end

/-! ### the law's end -/
/-- a heap that tells of the script alone -/
theorem script_heap {P : Program} {w : World} {K : PySem.W.Frag} {h : Heap} {a : Addr} {vs : List Value} {ns : List Int} (kin : K.In h) (ha : h.get? a = some { cls := .type "list", data := .seq vs.toArray })
    (hi : IntsAre vs ns) (hl : ns.length ≤ sizeLine) :
    ∃ H : Hp, Only H ∧ SqL K H a (ns.map V.int) ∧ HOk P w H h ∧ (∀ b, H b ≠ none → b = a) ∧ (∀ b o, K.lookup b = some o → H b = none) := by
  have rv := vals_ints hi
  have len := hi.length
  cases hk : K.lookup a with
  | some o =>
    have eo := kin a o hk
    rw [ha] at eo
    cases eo
    refine ⟨fun _ => none, fun _ => .inl rfl, .inr ⟨_, vs.toArray, _, hk, rfl, rfl, rfl, ?_, by simpa using rv⟩, (fun b u z => nomatch z), (fun b z => absurd rfl z), fun _ _ _ => rfl⟩
    rw [List.size_toArray, len]
    exact hl
  | none =>
    let H : Hp := fun b => if b = a then some (.frz { cls := .type "list", data := .seq vs.toArray } (.lst (ns.map V.int))) else none
    have at_a : H a = some (.frz { cls := .type "list", data := .seq vs.toArray } (.lst (ns.map V.int))) := if_pos rfl
    have off : ∀ b, b ≠ a → H b = none := fun b z => if_neg z
    refine ⟨H, fun b => ?_, .inl (.inr ⟨_, at_a⟩), fun b u z => ?_, fun b z => ?_, fun b o z => off b ?_⟩
    · by_cases c : b = a
      · exact .inr ⟨_, _, c ▸ at_a⟩
      · exact .inl (off b c)
    · by_cases c : b = a
      · subst c
        rw [at_a] at z
        cases z
        refine ⟨ha, ?_, vs, _, rv, ha⟩
        rw [List.length_map]
        exact hl
      · rw [off b c] at z
        cases z
    · by_cases c : b = a
      · exact c
      · exact absurd (off b c) z
    · intro c
      rw [c, hk] at z
      cases z

theorem law_end {l : PySem.W.OpenLaw} {n k : Nat} {q : Program} {loose : List Str} {XP : (Str → Option Value) → Heap → Prop} {YP : World → Heap → Prop} {d : DefRec} {K : Params → PySem.W.Frag} {sp : PySem.W.Frag → Sp} {x : Str}
    (hn : l.most = some n) (hn2 : n ≤ sizeLine) (hdf : d.params.defaults = []) (hr : Room k callerA)
    (hY : ∀ (w : World) (h : Heap), YP w h → (K w.params).In h)
    (F : ∀ (w : World) (mg : Str → Option Value) (fa : Addr) (h : Heap), (K w.params).In h → h.Ns mainGlobals mg → mg d.name = some (.ref fa) →
      ∃ fd : FuncData, (∀ (s : Shared) (u : Value), BindsTo s fd ⟨[u], []⟩ [(x, u)]) ∧
        ∀ base : Heap, (K w.params).In base → base.Ns mainGlobals mg → FnG l.prog w (K w.params) mg base CX0 k fa fd [x] (sp (K w.params)))
    (hsp : ∀ (K : PySem.W.Frag) (H : Hp) (a : Addr) (ns : List Int), ns.length ≤ n → Only H → SqL K H a (ns.map V.int) → sp K [.ref a] H (fun v _ => v = .bl true) fun _ _ _ => False) :
    PySem.W.WalkO q loose XP YP l.row.toRowW d [] (fun f vs => PySem.call f vs) := by
  refine Att.attach_call hn hdf fun w s₀ s₁ mg mb fa o pm cd doc a vs ns G Y ho hd hcd hmg hobj hints hlen hgens => ?_
  have kin := hY w _ Y
  obtain ⟨fd, bd, FF⟩ := F w mg fa _ kin G.T.g hmg
  obtain ⟨H, hO, hS, hok, only, notK⟩ := script_heap (P := l.prog) (w := w) kin hobj hints (Nat.le_trans hlen hn2)
  have free : ∀ {b : Addr} {ob : Obj} {es : Array DictEntry} {ep : Nat}, s₁.heap.get? b = some ob → ob.data = .dict es ep → H b = none := by
    intro b ob es ep h1 h2
    cases c : H b with
    | none => rfl
    | some u =>
      have e : b = a := only b (by rw [c]; exact fun z => nomatch z)
      rw [e, hobj] at h1
      have h3 := congrArg Obj.data (Option.some.inj h1)
      rw [h2] at h3
      exact nomatch h3
  have ns' : ∀ {b : Addr} {m : Str → Option Value}, s₁.heap.Ns b m → (hidT s₁.heap H).Ns b m := by
    rintro b m ⟨ob, es, ep, h1, h2, h3⟩
    exact ⟨ob, es, ep, hidT_get h1 (free h1 h2), h2, h3⟩
  have kinB : (K w.params).In (hidT s₁.heap H) := fun b ob e => hidT_get (kin b ob e) (notK b ob e)
  have lim : (hidT s₁.heap H).NoLimit := by
    obtain ⟨mc, h1, h2⟩ := G.T.nolimit
    exact ⟨mc, ns' h1, h2⟩
  have en : Env0 l.prog w (K w.params) mg (hidT s₁.heap H) callerA [] s₁ H :=
    ⟨rfl, ⟨kinB, ns' G.T.g, ⟨mb, ns' G.T.b, G.T.builtins⟩, lim⟩, fun b ob e => of_hidT e, Nat.le_of_eq (hidT_size _ _), trivial, (fun b z => nomatch z), hok, .of_eq hgens⟩
  refine codeAny_mono ((FF _ kinB (ns' G.T.g)).run callerA [] s₁ H ⟨[.ref a], []⟩ [.ref a] [.ref a] _ _ hr rfl en (bd s₁ (.ref a)) (.cons rfl .nil) (hsp _ H a ns hlen hO hS)) fun r s' z => ?_
  cases r with
  | error e => exact False.elim z
  | ok fl =>
    cases fl with
    | next => exact False.elim z
    | brk => exact False.elim z
    | cont => exact False.elim z
    | ret u =>
      obtain ⟨v, H', os, bare, un, hok', rr, e⟩ := z
      have e' : v = .bl true := e
      subst e'
      obtain rfl : u = Value.bool true := rr
      refine ⟨rfl, OldK.of_keep fun b ob hb => ?_, os, bare⟩
      cases c : H b with
      | none => exact un.keep b ob hb c (fun z => nomatch z) (fun z => nomatch z)
      | some u =>
        rcases hO b with z | ⟨ox, xs, z⟩
        · rw [c] at z
          cases z
        · obtain ⟨e1, _⟩ := hok b _ z
          obtain ⟨e2, _⟩ := hok' b _ (un.frzs b ox _ z)
          rw [hb] at e1
          cases e1
          exact e2
end Rp
/-! Jm: jobs as a type of trees, their data, sizes; what the pot holds. No Python here. -/
namespace Lw
open PySem L2 Rp

abbrev M30 : Int := 1000000000000000000000000000000
inductive J where
  | st (i : Int)
  | ps (par : Bool) (xs : List J)
  | rn (cop : Bool) (n : Int) (x : J)
def kwP (b : Bool) : Str := if b then "par" else "seq"
def kwR (b : Bool) : Str := if b then "copies" else "repeat"
mutual
def J.toD : J → PyData
  | .st i => .int i
  | .ps k xs => .tuple [.str (kwP k), .tuple (J.toDs xs)]
  | .rn k n x => .tuple [.str (kwR k), .int n, x.toD]
def J.toDs : List J → List PyData
  | [] => []
  | x :: xs => x.toD :: J.toDs xs
end
mutual
theorem J.noL : ∀ j : J, noL j.toD = true
  | .st _ => rfl
  | .ps _ xs => by
    have h := J.noLs xs
    simp [J.toD, Rp.noL, Rp.noLs, h]
  | .rn _ _ x => by
    have h := J.noL x
    simp [J.toD, Rp.noL, Rp.noLs, h]
theorem J.noLs : ∀ js : List J, noLs (J.toDs js) = true
  | [] => rfl
  | x :: xs => by
    have h1 := J.noL x
    have h2 := J.noLs xs
    simp [J.toDs, Rp.noLs, h1, h2]
end
theorem J.toDs_eq : ∀ xs : List J, J.toDs xs = xs.map J.toD
  | [] => rfl
  | x :: xs => by rw [J.toDs, J.toDs_eq xs]; rfl

/-! sizes as the program finds them -/
def within (nodes steps : Int) : Option (Int × Int) := if steps ≤ M30 then some (nodes, steps) else none
mutual
def szJ : J → Int → Int → Option (Int × Int)
  | .st i, room, lv => if room < 1 ∨ lv < 1 then none else if -M30 ≤ i ∧ i ≤ M30 then some (1, 1) else none
  | .ps _ xs, room, lv => if room < 1 ∨ lv < 1 then none else if (xs.length : Int) > 400 then none else szJs xs 1 0 room lv
  | .rn _ n x, room, lv => if room < 1 ∨ lv < 1 then none else if ¬ (0 ≤ n ∧ n ≤ M30) then none else
      match szJ x (room - 1) (lv - 1) with
      | none => none
      | some (a, b) => within (a + 1) (b * n)
def szJs : List J → Int → Int → Int → Int → Option (Int × Int)
  | [], nodes, steps, _, _ => within nodes steps
  | x :: xs, nodes, steps, room, lv =>
      match szJ x (room - nodes) (lv - 1) with
      | none => none
      | some (a, b) => szJs xs (nodes + a) (steps + b) room lv
end
mutual
def J.nodes : J → Int
  | .st _ => 1
  | .ps _ xs => 1 + J.nodesL xs
  | .rn _ _ x => x.nodes + 1
def J.nodesL : List J → Int
  | [] => 0
  | x :: xs => x.nodes + J.nodesL xs
end
mutual
def J.steps : J → Int
  | .st _ => 1
  | .ps _ xs => J.stepsL xs
  | .rn _ n x => x.steps * n
def J.stepsL : List J → Int
  | [] => 0
  | x :: xs => x.steps + J.stepsL xs
end
mutual
def J.deep : J → Nat
  | .st _ => 1
  | .ps _ xs => J.deepL xs + 1
  | .rn _ _ x => x.deep + 1
def J.deepL : List J → Nat
  | [] => 0
  | x :: xs => max x.deep (J.deepL xs)
end
mutual
/-- a job but for nodes and nesting -/
def J.ok : J → Prop
  | .st i => -M30 ≤ i ∧ i ≤ M30
  | .ps _ xs => (xs.length : Int) ≤ 400 ∧ J.okL xs ∧ J.stepsL xs ≤ M30
  | .rn _ n x => (0 ≤ n ∧ n ≤ M30) ∧ x.ok ∧ x.steps * n ≤ M30
def J.okL : List J → Prop
  | [] => True
  | x :: xs => x.ok ∧ J.okL xs
end
mutual
theorem J.nodes_pos : ∀ j : J, 1 ≤ j.nodes
  | .st _ => by simp [J.nodes]
  | .ps _ xs => by have := J.nodesL_pos xs; simp only [J.nodes]; omega
  | .rn _ _ x => by have := J.nodes_pos x; simp only [J.nodes]; omega
theorem J.nodesL_pos : ∀ xs : List J, 0 ≤ J.nodesL xs
  | [] => by simp [J.nodesL]
  | x :: xs => by have := J.nodes_pos x; have := J.nodesL_pos xs; simp only [J.nodesL]; omega
end
theorem J.deep_pos : ∀ j : J, 1 ≤ j.deep
  | .st _ => by simp [J.deep]
  | .ps _ xs => by simp only [J.deep]; omega
  | .rn _ _ x => by simp only [J.deep]; omega
mutual
theorem J.steps_nn : ∀ j : J, j.ok → 0 ≤ j.steps
  | .st _, _ => by simp [J.steps]
  | .ps _ xs, h => by
    simp only [J.ok] at h
    simp only [J.steps]
    exact J.stepsL_nn xs h.2.1
  | .rn _ n x, h => by
    simp only [J.ok] at h
    simp only [J.steps]
    exact Int.mul_nonneg (J.steps_nn x h.2.1) h.1.1
theorem J.stepsL_nn : ∀ xs : List J, J.okL xs → 0 ≤ J.stepsL xs
  | [], _ => by simp [J.stepsL]
  | x :: xs, h => by
    simp only [J.okL] at h
    have := J.steps_nn x h.1
    have := J.stepsL_nn xs h.2
    simp only [J.stepsL]
    omega
end
theorem J.steps_le (j : J) (h : j.ok) : j.steps ≤ M30 := by
  cases j with
  | st i => simp only [J.steps]; decide
  | ps k xs => simp only [J.ok] at h; simp only [J.steps]; exact h.2.2
  | rn k n x => simp only [J.ok] at h; simp only [J.steps]; exact h.2.2
/-! the closed form: is a job within room and levels, and then its sizes -/
mutual
theorem szJ_some : ∀ (j : J) (room lv : Int), j.ok → j.nodes ≤ room → (j.deep : Int) ≤ lv → szJ j room lv = some (j.nodes, j.steps)
  | .st i, room, lv, h, h1, h2 => by
    simp only [J.ok] at h
    simp only [J.nodes, J.deep] at h1 h2
    simp only [szJ, J.nodes, J.steps]
    rw [if_neg (by omega), if_pos h]
  | .ps k xs, room, lv, h, h1, h2 => by
    simp only [J.ok] at h
    simp only [J.nodes, J.deep] at h1 h2
    have hn := J.nodesL_pos xs
    simp only [szJ, J.nodes, J.steps]
    rw [if_neg (by omega), if_neg (by omega)]
    have := szJs_some xs 1 0 room lv h.2.1 (by omega) (by omega) (by omega) (by omega)
    rw [this, Int.zero_add]
  | .rn k n x, room, lv, h, h1, h2 => by
    simp only [J.ok] at h
    simp only [J.nodes, J.deep] at h1 h2
    have hn := J.nodes_pos x
    simp only [szJ, J.nodes, J.steps]
    rw [if_neg (by omega), if_neg (by omega), szJ_some x (room - 1) (lv - 1) h.2.1 (by omega) (by omega)]
    simp only [within]
    rw [if_pos h.2.2]
theorem szJs_some : ∀ (xs : List J) (nodes steps room lv : Int), J.okL xs → 1 ≤ nodes → nodes + J.nodesL xs ≤ room → (J.deepL xs : Int) ≤ lv - 1 → steps + J.stepsL xs ≤ M30 → szJs xs nodes steps room lv = some (nodes + J.nodesL xs, steps + J.stepsL xs)
  | [], nodes, steps, room, lv, _, _, _, _, h => by
    simp only [J.nodesL, J.stepsL, szJs, within, Int.add_zero] at *
    rw [if_pos h]
  | x :: xs, nodes, steps, room, lv, h, h0, h1, h2, h3 => by
    simp only [J.okL] at h
    simp only [J.nodesL, J.stepsL, J.deepL] at *
    have p1 := J.nodes_pos x
    have p2 := J.nodesL_pos xs
    have p3 := J.stepsL_nn xs h.2
    simp only [szJs]
    rw [szJ_some x (room - nodes) (lv - 1) h.1 (by omega) (by omega)]
    simp only
    rw [szJs_some xs (nodes + x.nodes) (steps + x.steps) room lv h.2 (by omega) (by omega) (by omega) (by omega)]
    rw [Int.add_assoc, Int.add_assoc]
end
mutual
theorem szJ_inv : ∀ (j : J) (room lv a b : Int), szJ j room lv = some (a, b) → j.ok ∧ j.nodes ≤ room ∧ (j.deep : Int) ≤ lv ∧ a = j.nodes ∧ b = j.steps
  | .st i, room, lv, a, b, h => by
    simp only [szJ] at h
    split at h
    · cases h
    · split at h
      · rename_i h1 h2
        cases h
        simp only [J.ok, J.nodes, J.deep, J.steps]
        refine ⟨h2, by omega, by omega, ?_, ?_⟩ <;> trivial
      · cases h
  | .ps k xs, room, lv, a, b, h => by
    simp only [szJ] at h
    split at h
    · cases h
    · split at h
      · cases h
      · rename_i h1 h2
        obtain ⟨q1, q2, q3, q4, q5, q6⟩ := szJs_inv xs 1 0 room lv a b h (by omega)
        simp only [J.ok, J.nodes, J.deep, J.steps]
        have q3' : (J.deepL xs : Int) ≤ lv - 1 := by
          rcases q3 with q3 | q3
          · exact q3
          · subst q3
            simp only [J.deepL]
            omega
        refine ⟨⟨by omega, q1, by omega⟩, by omega, by omega, by omega, by omega⟩
  | .rn k n x, room, lv, a, b, h => by
    simp only [szJ] at h
    split at h
    · cases h
    · split at h
      · cases h
      · rename_i h1 h2
        split at h
        · cases h
        · rename_i a1 b1 h3
          obtain ⟨q1, q2, q3, q4, q5⟩ := szJ_inv x (room - 1) (lv - 1) a1 b1 h3
          simp only [within] at h
          split at h
          · rename_i h4
            cases h
            subst q4 q5
            simp only [J.ok, J.nodes, J.deep, J.steps]
            refine ⟨⟨Decidable.not_not.mp h2, q1, h4⟩, by omega, by omega, ?_, ?_⟩ <;> trivial
          · cases h
theorem szJs_inv : ∀ (xs : List J) (nodes steps room lv a b : Int), szJs xs nodes steps room lv = some (a, b) → nodes ≤ room → J.okL xs ∧ nodes + J.nodesL xs ≤ room ∧ ((J.deepL xs : Int) ≤ lv - 1 ∨ xs = []) ∧ steps + J.stepsL xs ≤ M30 ∧ a = nodes + J.nodesL xs ∧ b = steps + J.stepsL xs
  | [], nodes, steps, room, lv, a, b, h, h0 => by
    simp only [szJs, within] at h
    split at h
    · rename_i h1
      cases h
      simp only [J.okL, J.nodesL, J.stepsL, Int.add_zero]
      refine ⟨trivial, h0, .inr ?_, h1, ?_, ?_⟩ <;> trivial
    · cases h
  | x :: xs, nodes, steps, room, lv, a, b, h, h0 => by
    simp only [szJs] at h
    split at h
    · cases h
    · rename_i a1 b1 h3
      obtain ⟨q1, q2, q3, q4, q5⟩ := szJ_inv x (room - nodes) (lv - 1) a1 b1 h3
      subst q4 q5
      obtain ⟨r1, r2, r3, r4, r5, r6⟩ := szJs_inv xs (nodes + x.nodes) (steps + x.steps) room lv a b h (by omega)
      have dp := J.deep_pos x
      simp only [J.okL, J.nodesL, J.stepsL, J.deepL]
      refine ⟨⟨q1, r1⟩, by omega, .inl ?_, by omega, by omega, by omega⟩
      rcases r3 with r3 | r3
      · omega
      · subst r3
        simp only [J.deepL]
        omega
end
end Lw
/-! Jn: nets, lowest usages and mirrors of jobs. No Python here. -/
namespace Lw
open PySem L2 Rp
mutual
def J.net : J → Int
  | .st i => i
  | .ps _ xs => J.netL xs
  | .rn _ n x => n * x.net
def J.netL : List J → Int
  | [] => 0
  | x :: xs => x.net + J.netL xs
end
mutual
def J.low : J → Int
  | .st i => min 0 i
  | .ps false xs => J.lowS xs
  | .ps true xs => J.lowL xs
  | .rn true n x => n * x.low
  | .rn false n x => if n = 0 then 0 else x.low + (n - 1) * min 0 x.net
/-- in sequence -/
def J.lowS : List J → Int
  | [] => 0
  | x :: xs => min x.low (x.net + J.lowS xs)
/-- side by side -/
def J.lowL : List J → Int
  | [] => 0
  | x :: xs => x.low + J.lowL xs
end
theorem mul_min_nonneg {a b : Int} (h : 0 ≤ a) : a * min 0 b ≤ 0 ∧ a * min 0 b ≤ a * b := by
  constructor
  · have : 0 ≤ a * (- min 0 b) := Int.mul_nonneg h (by omega)
    rw [Int.mul_neg] at this
    omega
  · exact Int.mul_le_mul_of_nonneg_left (by omega) h
mutual
/-- the lowest usage is at most 0 and at most the net -/
theorem J.low_le : ∀ j : J, j.ok → j.low ≤ 0 ∧ j.low ≤ j.net
  | .st i, _ => by simp only [J.low, J.net]; omega
  | .ps false xs, h => by
    simp only [J.ok] at h
    simp only [J.low, J.net]
    exact J.lowS_le xs h.2.1
  | .ps true xs, h => by
    simp only [J.ok] at h
    simp only [J.low, J.net]
    exact J.lowL_le xs h.2.1
  | .rn true n x, h => by
    simp only [J.ok] at h
    have ih := J.low_le x h.2.1
    simp only [J.low, J.net]
    constructor
    · have : 0 ≤ n * (- x.low) := Int.mul_nonneg h.1.1 (by omega)
      rw [Int.mul_neg] at this
      omega
    · exact Int.mul_le_mul_of_nonneg_left ih.2 h.1.1
  | .rn false n x, h => by
    simp only [J.ok] at h
    have ih := J.low_le x h.2.1
    simp only [J.low, J.net]
    split
    · rename_i e
      subst e
      omega
    · have p := mul_min_nonneg (a := n - 1) (b := x.net) (by omega)
      have e : n * x.net = (n - 1) * x.net + x.net := by rw [Int.sub_mul, Int.one_mul]; omega
      omega
theorem J.lowS_le : ∀ xs : List J, J.okL xs → J.lowS xs ≤ 0 ∧ J.lowS xs ≤ J.netL xs
  | [], _ => by simp only [J.lowS, J.netL]; omega
  | x :: xs, h => by
    simp only [J.okL] at h
    have h1 := J.low_le x h.1
    have h2 := J.lowS_le xs h.2
    simp only [J.lowS, J.netL]
    omega
theorem J.lowL_le : ∀ xs : List J, J.okL xs → J.lowL xs ≤ 0 ∧ J.lowL xs ≤ J.netL xs
  | [], _ => by simp only [J.lowL, J.netL]; omega
  | x :: xs, h => by
    simp only [J.okL] at h
    have h1 := J.low_le x h.1
    have h2 := J.lowL_le xs h.2
    simp only [J.lowL, J.netL]
    omega
end
/-! sizes: at most the steps times a step's greatest -/
theorem mul_natAbs_le {n b c : Int} (h0 : 0 ≤ n) (h : b.natAbs ≤ c.natAbs) : (n * b).natAbs ≤ (n * c).natAbs := by
  rw [Int.natAbs_mul, Int.natAbs_mul]
  exact Nat.mul_le_mul_left _ h
mutual
theorem J.net_big : ∀ j : J, j.ok → -(j.steps * M30) ≤ j.net ∧ j.net ≤ j.steps * M30
  | .st i, h => by
    simp only [J.ok, M30] at h
    simp only [J.net, J.steps, M30]
    omega
  | .ps _ xs, h => by
    simp only [J.ok] at h
    simp only [J.net, J.steps]
    exact J.netL_big xs h.2.1
  | .rn _ n x, h => by
    simp only [J.ok] at h
    have ih := J.net_big x h.2.1
    simp only [J.net, J.steps]
    have e : x.steps * n * M30 = n * (x.steps * M30) := by rw [Int.mul_comm x.steps n, Int.mul_assoc]
    rw [e]
    constructor
    · rw [← Int.mul_neg]
      exact Int.mul_le_mul_of_nonneg_left ih.1 h.1.1
    · exact Int.mul_le_mul_of_nonneg_left ih.2 h.1.1
theorem J.netL_big : ∀ xs : List J, J.okL xs → -(J.stepsL xs * M30) ≤ J.netL xs ∧ J.netL xs ≤ J.stepsL xs * M30
  | [], _ => by simp only [J.netL, J.stepsL]; omega
  | x :: xs, h => by
    simp only [J.okL] at h
    have h1 := J.net_big x h.1
    have h2 := J.netL_big xs h.2
    simp only [J.netL, J.stepsL, M30] at *
    omega
end
mutual
theorem J.low_big : ∀ j : J, j.ok → -(j.steps * M30) ≤ j.low
  | .st i, h => by
    simp only [J.ok, M30] at h
    simp only [J.low, J.steps, M30]
    omega
  | .ps false xs, h => by
    simp only [J.ok] at h
    simp only [J.low, J.steps]
    exact J.lowS_big xs h.2.1
  | .ps true xs, h => by
    simp only [J.ok] at h
    simp only [J.low, J.steps]
    exact J.lowL_big xs h.2.1
  | .rn true n x, h => by
    simp only [J.ok] at h
    have ih := J.low_big x h.2.1
    simp only [J.low, J.steps]
    have e : x.steps * n * M30 = n * (x.steps * M30) := by rw [Int.mul_comm x.steps n, Int.mul_assoc]
    rw [e, ← Int.mul_neg]
    exact Int.mul_le_mul_of_nonneg_left ih h.1.1
  | .rn false n x, h => by
    simp only [J.ok] at h
    have ih := J.low_big x h.2.1
    have ih2 := J.net_big x h.2.1
    have nn := J.steps_nn x h.2.1
    simp only [J.low, J.steps]
    have e : x.steps * n * M30 = n * (x.steps * M30) := by rw [Int.mul_comm x.steps n, Int.mul_assoc]
    rw [e]
    split
    · rename_i z
      subst z
      omega
    · have hm : -(x.steps * M30) ≤ min 0 x.net := by
        have : 0 ≤ x.steps * M30 := Int.mul_nonneg nn (by decide)
        omega
      have p : (n - 1) * (-(x.steps * M30)) ≤ (n - 1) * min 0 x.net := Int.mul_le_mul_of_nonneg_left hm (by omega)
      have e2 : (n - 1) * (-(x.steps * M30)) = -(n * (x.steps * M30)) + x.steps * M30 := by rw [Int.mul_neg, Int.sub_mul, Int.one_mul]; omega
      omega
theorem J.lowS_big : ∀ xs : List J, J.okL xs → -(J.stepsL xs * M30) ≤ J.lowS xs
  | [], _ => by simp only [J.lowS, J.stepsL]; omega
  | x :: xs, h => by
    simp only [J.okL] at h
    have h1 := J.low_big x h.1
    have h2 := J.lowS_big xs h.2
    have h3 := J.net_big x h.1
    have n1 := J.steps_nn x h.1
    have n2 := J.stepsL_nn xs h.2
    simp only [J.lowS, J.stepsL, M30] at *
    omega
theorem J.lowL_big : ∀ xs : List J, J.okL xs → -(J.stepsL xs * M30) ≤ J.lowL xs
  | [], _ => by simp only [J.lowL, J.stepsL]; omega
  | x :: xs, h => by
    simp only [J.okL] at h
    have h1 := J.low_big x h.1
    have h2 := J.lowL_big xs h.2
    simp only [J.lowL, J.stepsL, M30] at *
    omega
end
abbrev M60 : Int := 1000000000000000000000000000000000000000000000000000000000000
theorem J.net_60 (j : J) (h : j.ok) : -M60 ≤ j.net ∧ j.net ≤ M60 := by
  have h1 := J.net_big j h
  have h2 := J.steps_le j h
  simp only [M30, M60] at *
  omega
theorem J.low_60 (j : J) (h : j.ok) : -M60 ≤ j.low ∧ j.low ≤ 0 := by
  have h1 := J.low_big j h
  have h2 := J.steps_le j h
  have h3 := (J.low_le j h).1
  simp only [M30, M60] at *
  omega
/-! the mirror -/
mutual
def J.mir : J → J
  | .st i => .st (-i)
  | .ps false xs => .ps false (J.mirL xs).reverse
  | .ps true xs => .ps true (J.mirL xs)
  | .rn k n x => .rn k n x.mir
def J.mirL : List J → List J
  | [] => []
  | x :: xs => x.mir :: J.mirL xs
end
theorem J.mirL_eq : ∀ xs : List J, J.mirL xs = xs.map J.mir
  | [] => rfl
  | x :: xs => by rw [J.mirL, J.mirL_eq xs]; rfl
theorem J.mirL_rev (xs : List J) : J.mirL xs.reverse = (J.mirL xs).reverse := by rw [J.mirL_eq, J.mirL_eq, List.map_reverse]
mutual
theorem J.mir_mir : ∀ j : J, j.mir.mir = j
  | .st i => by simp [J.mir]
  | .ps false xs => by simp only [J.mir, J.mirL_rev, List.reverse_reverse, J.mirL_mirL xs]
  | .ps true xs => by simp only [J.mir, J.mirL_mirL xs]
  | .rn k n x => by simp only [J.mir, J.mir_mir x]
theorem J.mirL_mirL : ∀ xs : List J, J.mirL (J.mirL xs) = xs
  | [] => rfl
  | x :: xs => by simp only [J.mirL, J.mir_mir x, J.mirL_mirL xs]
end
theorem J.nodesL_rev (xs : List J) : J.nodesL xs.reverse = J.nodesL xs := by
  induction xs with
  | nil => rfl
  | cons x xs ih =>
    have app : ∀ xs ys : List J, J.nodesL (xs ++ ys) = J.nodesL xs + J.nodesL ys := by
      intro xs ys
      induction xs with
      | nil => simp [J.nodesL]
      | cons a l ih => simp only [List.cons_append, J.nodesL, ih]; omega
    rw [List.reverse_cons, app, ih]
    simp only [J.nodesL]
    omega
theorem J.stepsL_app (xs ys : List J) : J.stepsL (xs ++ ys) = J.stepsL xs + J.stepsL ys := by
  induction xs with
  | nil => simp [J.stepsL]
  | cons a l ih => simp only [List.cons_append, J.stepsL, ih]; omega
theorem J.stepsL_rev (xs : List J) : J.stepsL xs.reverse = J.stepsL xs := by
  induction xs with
  | nil => rfl
  | cons x xs ih =>
    rw [List.reverse_cons, J.stepsL_app, ih]
    simp only [J.stepsL]
    omega
theorem J.netL_app (xs ys : List J) : J.netL (xs ++ ys) = J.netL xs + J.netL ys := by
  induction xs with
  | nil => simp [J.netL]
  | cons a l ih => simp only [List.cons_append, J.netL, ih]; omega
theorem J.netL_rev (xs : List J) : J.netL xs.reverse = J.netL xs := by
  induction xs with
  | nil => rfl
  | cons x xs ih =>
    rw [List.reverse_cons, J.netL_app, ih]
    simp only [J.netL]
    omega
theorem J.deepL_rev (xs : List J) : J.deepL xs.reverse = J.deepL xs := by
  induction xs with
  | nil => rfl
  | cons x xs ih =>
    have app : ∀ xs ys : List J, J.deepL (xs ++ ys) = max (J.deepL xs) (J.deepL ys) := by
      intro xs ys
      induction xs with
      | nil => simp [J.deepL]
      | cons a l ih => simp only [List.cons_append, J.deepL, ih]; omega
    rw [List.reverse_cons, app, ih]
    simp only [J.deepL]
    omega
theorem J.okL_iff : ∀ xs : List J, J.okL xs ↔ ∀ x ∈ xs, x.ok
  | [] => by simp [J.okL]
  | x :: xs => by simp only [J.okL, J.okL_iff xs, List.forall_mem_cons]
theorem J.okL_rev (xs : List J) : J.okL xs.reverse ↔ J.okL xs := by
  rw [J.okL_iff, J.okL_iff]
  simp
theorem J.mirL_len (xs : List J) : (J.mirL xs).length = xs.length := by rw [J.mirL_eq, List.length_map]
mutual
theorem J.mir_same : ∀ j : J, j.mir.nodes = j.nodes ∧ j.mir.steps = j.steps ∧ j.mir.deep = j.deep ∧ j.mir.net = -j.net ∧ (j.ok → j.mir.ok)
  | .st i => by
    simp only [J.mir, J.nodes, J.steps, J.deep, J.net, J.ok, true_and]
    omega
  | .ps false xs => by
    obtain ⟨h1, h2, h3, h4, h5⟩ := J.mirL_same xs
    simp only [J.mir, J.nodes, J.steps, J.deep, J.net, J.ok, J.nodesL_rev, J.stepsL_rev, J.deepL_rev, J.netL_rev, J.okL_rev, List.length_reverse, J.mirL_len, h1, h2, h3, h4, true_and]
    exact fun z => ⟨z.1, h5 z.2.1, z.2.2⟩
  | .ps true xs => by
    obtain ⟨h1, h2, h3, h4, h5⟩ := J.mirL_same xs
    simp only [J.mir, J.nodes, J.steps, J.deep, J.net, J.ok, J.mirL_len, h1, h2, h3, h4, true_and]
    exact fun z => ⟨z.1, h5 z.2.1, z.2.2⟩
  | .rn k n x => by
    obtain ⟨h1, h2, h3, h4, h5⟩ := J.mir_same x
    simp only [J.mir, J.nodes, J.steps, J.deep, J.net, J.ok, h1, h2, h3, h4, true_and, Int.mul_neg]
    exact fun z => ⟨z.1, h5 z.2.1, z.2.2⟩
theorem J.mirL_same : ∀ xs : List J, J.nodesL (J.mirL xs) = J.nodesL xs ∧ J.stepsL (J.mirL xs) = J.stepsL xs ∧ J.deepL (J.mirL xs) = J.deepL xs ∧ J.netL (J.mirL xs) = -J.netL xs ∧ (J.okL xs → J.okL (J.mirL xs))
  | [] => by simp [J.mirL, J.nodesL, J.stepsL, J.deepL, J.netL, J.okL]
  | x :: xs => by
    obtain ⟨h1, h2, h3, h4, h5⟩ := J.mir_same x
    obtain ⟨k1, k2, k3, k4, k5⟩ := J.mirL_same xs
    simp only [J.mirL, J.nodesL, J.stepsL, J.deepL, J.netL, J.okL, h1, h2, h3, h4, k1, k2, k3, k4, true_and]
    refine ⟨by omega, fun z => ⟨h5 z.1, k5 z.2⟩⟩
end
theorem J.lowS_app (xs : List J) (y : J) (hy : y.ok) (hx : J.okL xs) : J.lowS (xs ++ [y]) = min (J.lowS xs) (J.netL xs + y.low) := by
  induction xs with
  | nil =>
    have := J.low_le y hy
    simp only [List.nil_append, J.lowS, J.netL]
    omega
  | cons x xs ih =>
    simp only [J.okL] at hx
    simp only [List.cons_append, J.lowS, J.netL, ih hx.2]
    omega
mutual
theorem J.mir_low : ∀ j : J, j.ok → j.mir.low = j.low - j.net
  | .st i, _ => by simp only [J.mir, J.low, J.net]; omega
  | .ps false xs, h => by
    simp only [J.ok] at h
    simp only [J.mir, J.low, J.net]
    exact J.mirL_lowS xs h.2.1
  | .ps true xs, h => by
    simp only [J.ok] at h
    simp only [J.mir, J.low, J.net]
    exact J.mirL_lowL xs h.2.1
  | .rn true n x, h => by
    simp only [J.ok] at h
    simp only [J.mir, J.low, J.net, J.mir_low x h.2.1, Int.mul_sub]
  | .rn false n x, h => by
    simp only [J.ok] at h
    obtain ⟨_, _, _, hn, _⟩ := J.mir_same x
    simp only [J.mir, J.low, J.net, J.mir_low x h.2.1, hn]
    split
    · rename_i e
      subst e
      omega
    · have e : min 0 (-x.net) = min 0 x.net - x.net := by omega
      have e1 : (n - 1) * (min 0 x.net - x.net) = (n - 1) * min 0 x.net - (n - 1) * x.net := Int.mul_sub _ _ _
      have e2 : (n - 1) * x.net = n * x.net - x.net := by rw [Int.sub_mul, Int.one_mul]
      rw [e, e1]
      omega
theorem J.mirL_lowS : ∀ xs : List J, J.okL xs → J.lowS (J.mirL xs).reverse = J.lowS xs - J.netL xs
  | [], _ => by simp only [J.mirL, List.reverse_nil, J.lowS, J.netL]; omega
  | x :: xs, h => by
    simp only [J.okL] at h
    obtain ⟨_, _, _, _, ho⟩ := J.mir_same x
    obtain ⟨_, _, _, hn, hos⟩ := J.mirL_same xs
    simp only [J.mirL, List.reverse_cons]
    rw [J.lowS_app _ _ (ho h.1) ((J.okL_rev _).mpr (hos h.2)), J.mirL_lowS xs h.2, J.mir_low x h.1, J.netL_rev, hn]
    simp only [J.lowS, J.netL]
    omega
theorem J.mirL_lowL : ∀ xs : List J, J.okL xs → J.lowL (J.mirL xs) = J.lowL xs - J.netL xs
  | [], _ => by simp only [J.mirL, J.lowL, J.netL]; omega
  | x :: xs, h => by
    simp only [J.okL] at h
    simp only [J.mirL, J.lowL, J.netL, J.mirL_lowL xs h.2, J.mir_low x h.1]
    omega
end
/-! a job's data at hand -/
theorem ps_inv {K : PySem.W.Frag} {H : Hp} {v : V} {k : Bool} {xs : List J} (h : Dp K H v (J.ps k xs).toD) : ∃ a b vs, v = .ref a ∧ SqT K H a [.str (kwP k), .ref b] ∧ SqT K H b vs ∧ DpAll K H vs (J.toDs xs) := by
  rw [J.toD] at h
  obtain ⟨a, ys, rfl, hys, hall⟩ := dp_tup_inv h
  cases hall with
  | cons e1 hall =>
    obtain rfl := dp_str_inv e1
    cases hall with
    | cons e2 hall =>
      cases hall
      obtain ⟨b, vs, rfl, hvs, hall2⟩ := dp_tup_inv e2
      exact ⟨a, b, vs, rfl, hys, hvs, hall2⟩
theorem rn_inv {K : PySem.W.Frag} {H : Hp} {v : V} {k : Bool} {n : Int} {x : J} (h : Dp K H v (J.rn k n x).toD) : ∃ a w, v = .ref a ∧ SqT K H a [.str (kwR k), .int n, w] ∧ Dp K H w x.toD := by
  rw [J.toD] at h
  obtain ⟨a, ys, rfl, hys, hall⟩ := dp_tup_inv h
  cases hall with
  | cons e1 hall =>
    obtain rfl := dp_str_inv e1
    cases hall with
    | cons e2 hall =>
      obtain rfl := dp_int_inv e2
      cases hall with
      | cons e3 hall =>
        cases hall
        exact ⟨a, _, rfl, hys, e3⟩
theorem parts_at {K : PySem.W.Frag} {H : Hp} {xs : List J} {vs : List V} {i : Nat} {x : V} (hall : DpAll K H vs (J.toDs xs)) (hi : vs[i]? = some x) : ∃ j, xs[i]? = some j ∧ j ∈ xs ∧ Dp K H x j.toD := by
  obtain ⟨d, ed, hd⟩ := dpAll_get hall hi
  rw [J.toDs_eq, List.getElem?_map] at ed
  cases e : xs[i]? with
  | none =>
    rw [e] at ed
    cases ed
  | some j =>
    rw [e] at ed
    obtain rfl := (Option.some.inj ed).symm
    exact ⟨j, rfl, List.mem_of_getElem? e, hd⟩
theorem parts_len {K : PySem.W.Frag} {H : Hp} {xs : List J} {vs : List V} (hall : DpAll K H vs (J.toDs xs)) : vs.length = xs.length := by
  rw [dpAll_length hall, J.toDs_eq, List.length_map]
theorem deep_mem : ∀ {l : List J} {y : J}, y ∈ l → y.deep ≤ J.deepL l
  | z :: r, y, h => by
    simp only [J.deepL]
    rcases List.mem_cons.mp h with rfl | h
    · omega
    · have := deep_mem h
      omega
theorem ok_mem {l : List J} {y : J} (o : J.okL l) (h : y ∈ l) : y.ok := (J.okL_iff l).mp o y h
theorem take_step {α β : Type} {xs : List α} {i : Nat} {j : α} (f : α → β) (e : xs[i]? = some j) : (xs.take (i + 1)).map f = (xs.take i).map f ++ [f j] := by
  rw [List.take_add_one, e, List.map_append]
  rfl
/-! words -/
theorem w_in_parts (k : Bool) : inV (.str (kwP k)) [.str "seq", .str "par"] = true := by cases k <;> decide +kernel
theorem w_in_parts_no (k : Bool) : inV (.str (kwR k)) [.str "seq", .str "par"] = false := by cases k <;> decide +kernel
theorem w_in_rounds (k : Bool) : inV (.str (kwR k)) [.str "repeat", .str "copies"] = true := by cases k <;> decide +kernel
theorem w_in_rounds_no (k : Bool) : inV (.str (kwP k)) [.str "repeat", .str "copies"] = false := by cases k <;> decide +kernel
theorem w_seq (k : Bool) : decide (V.str (kwP k) = V.str "seq") = !k := by cases k <;> decide +kernel
theorem w_par (k : Bool) : decide (V.str (kwP k) = V.str "par") = k := by cases k <;> decide +kernel
theorem w_seq_no (k : Bool) : decide (V.str (kwR k) = V.str "seq") = false := by cases k <;> decide +kernel
theorem w_par_no (k : Bool) : decide (V.str (kwR k) = V.str "par") = false := by cases k <;> decide +kernel
theorem w_copies (k : Bool) : decide (V.str (kwR k) = V.str "copies") = k := by cases k <;> decide +kernel
theorem w_dec_int {a b : Int} : decide (V.int a = V.int b) = decide (a = b) := by
  by_cases h : a = b
  · subst h
    simp
  · rw [decide_eq_false h, decide_eq_false (fun z => h (V.int.inj z))]
/-! the data of a job: fine to be shown, comparable -/
theorem kwP_fine (k : Bool) : fine (.str (kwP k)) := by cases k <;> (simp only [fine]; decide +kernel)
theorem kwR_fine (k : Bool) : fine (.str (kwR k)) := by cases k <;> (simp only [fine]; decide +kernel)
theorem kwP_bulk (k : Bool) : (PyData.str (kwP k)).bulk ≤ 10 := by cases k <;> (simp only [PyData.bulk]; decide +kernel)
theorem kwR_bulk (k : Bool) : (PyData.str (kwR k)).bulk ≤ 10 := by cases k <;> (simp only [PyData.bulk]; decide +kernel)
theorem lt180 {i : Int} (h0 : -M60 ≤ i) (h : i ≤ M60) : i.natAbs < 10 ^ 180 := by
  simp only [M60] at h0 h
  exact Nat.lt_of_le_of_lt (show i.natAbs ≤ 1000000000000000000000000000000000000000000000000000000000000 by omega) (by decide +kernel)
mutual
theorem J.fine : ∀ j : J, j.ok → fine j.toD
  | .st i, h => by
    simp only [J.ok, M30] at h
    simp only [J.toD, Rp.fine]
    exact lt180 (by simp only [M60]; omega) (by simp only [M60]; omega)
  | .ps k xs, h => by
    simp only [J.ok] at h
    have h1 := J.fines xs h.2.1
    have h2 := kwP_fine k
    simp only [J.toD, Rp.fine, fines] at *
    exact ⟨h2, h1, trivial⟩
  | .rn k n x, h => by
    simp only [J.ok, M30] at h
    have h1 := J.fine x h.2.1
    have h2 := kwR_fine k
    simp only [J.toD, Rp.fine, fines] at *
    exact ⟨h2, lt180 (by simp only [M60]; omega) (by simp only [M60]; omega), h1, trivial⟩
theorem J.fines : ∀ xs : List J, J.okL xs → fines (J.toDs xs)
  | [], _ => by simp [J.toDs, Rp.fines]
  | x :: xs, h => by
    simp only [J.okL] at h
    simp only [J.toDs, Rp.fines]
    exact ⟨J.fine x h.1, J.fines xs h.2⟩
end
mutual
theorem J.bulk : ∀ j : J, (j.toD.bulk : Int) ≤ 20 * j.nodes - 5
  | .st i => by simp only [J.toD, PyData.bulk, J.nodes]; omega
  | .ps k xs => by
    have h1 := J.bulks xs
    have h2 := kwP_bulk k
    simp only [J.toD, PyData.bulk, PyData.bulkAll, J.nodes] at *
    omega
  | .rn k n x => by
    have h1 := J.bulk x
    have h2 := kwR_bulk k
    simp only [J.toD, PyData.bulk, PyData.bulkAll, J.nodes] at *
    omega
theorem J.bulks : ∀ xs : List J, (PyData.bulkAll (J.toDs xs) : Int) ≤ 20 * J.nodesL xs
  | [] => by simp [J.toDs, PyData.bulkAll, J.nodesL]
  | x :: xs => by
    have h1 := J.bulk x
    have h2 := J.bulks xs
    simp only [J.toDs, PyData.bulkAll, J.nodesL, List.length_cons] at *
    omega
end
mutual
theorem J.depth : ∀ j : J, j.toD.depth ≤ 2 * j.deep
  | .st i => by simp [J.toD, PyData.depth]
  | .ps k xs => by
    have h1 := J.depths xs
    simp only [J.toD, PyData.depth, PyData.depthAll, J.deep]
    omega
  | .rn k n x => by
    have h1 := J.depth x
    simp only [J.toD, PyData.depth, PyData.depthAll, J.deep]
    omega
theorem J.depths : ∀ xs : List J, PyData.depthAll (J.toDs xs) ≤ 2 * J.deepL xs
  | [] => by simp [J.toDs, PyData.depthAll, J.deepL]
  | x :: xs => by
    have h1 := J.depth x
    have h2 := J.depths xs
    simp only [J.toDs, PyData.depthAll, J.deepL]
    omega
end
theorem kwP_strOk (k : Bool) : PyData.canLay0 (.str (kwP k)) = true := by cases k <;> (simp only [PyData.canLay0]; decide +kernel)
theorem kwR_strOk (k : Bool) : PyData.canLay0 (.str (kwR k)) = true := by cases k <;> (simp only [PyData.canLay0]; decide +kernel)
mutual
theorem J.canLay : ∀ j : J, j.toD.canLay0 = true
  | .st i => by simp [J.toD, PyData.canLay0]
  | .ps k xs => by
    have h1 := J.canLays xs
    have h2 := kwP_strOk k
    simp only [J.toD, PyData.canLay0, PyData.canLayAll0, h1, Bool.and_true, Bool.true_and] at *
    exact h2
  | .rn k n x => by
    have h1 := J.canLay x
    have h2 := kwR_strOk k
    simp only [J.toD, PyData.canLay0, PyData.canLayAll0, h1, Bool.and_true, Bool.true_and] at *
    exact h2
theorem J.canLays : ∀ xs : List J, PyData.canLayAll0 (J.toDs xs) = true
  | [] => rfl
  | x :: xs => by
    have h1 := J.canLay x
    have h2 := J.canLays xs
    simp only [J.toDs, PyData.canLayAll0, h1, h2, Bool.and_self]
end
theorem J.shaped (j : J) (h : j.deep ≤ 30) : SeqAt.shaped j.toD = true := by
  have h1 := J.canLay j
  have h2 := J.depth j
  unfold SeqAt.shaped
  rw [h1, decide_eq_true (by omega)]
  rfl
theorem J.eqv (j : J) : PyData.eqv j.toD j.toD = true := SeqAt.eqv_refl _ (J.canLay j)
end Lw
/-! Rq: data of any kind (lists that nobody changes, dicts), beside a pot at p: isinstance, in, repr. -/
namespace Rp
open PySem L2 PyProof.Rows

theorem str_eq_dict (b : Str) (u : Tok) (a : Addr) : Meets (Builtin.«str.__eq__» { pos := [Value.str b u, Value.ref a] }) fun _ R s => (∃ o es n, s.heap.get? a = some o ∧ o.data = Data.dict es n) ∧ R (.ok (.ret Value.notImplemented)) s := by
  rintro prog w A R s ⟨⟨o, es, n, h, hd⟩, q⟩
  have e : Builtin.«str.__eq__» { pos := [Value.str b u, Value.ref a] } = (do
      let o ← asStr? (Value.ref a)
      match o with
      | some o => ret (Value.bool (b.cps.toList == o.cps.toList))
      | none => do
          rule (toString "str." ++ toString "__eq__" ++ toString ".not-a-str")
          ret Value.notImplemented) := rfl
  rw [e]
  refine wpAny_bind ?_
  unfold asStr?
  refine wpAny_bind (wpAny_load h ?_)
  rw [hd]
  refine wpAny_pure ?_
  refine wpAny_bind (wpAny_rule ?_)
  exact wpAny_pure q
theorem dict_eq_str (b : Str) (u : Tok) (a : Addr) : Meets (Builtin.«dict.__eq__» { pos := [Value.ref a, Value.str b u] }) fun _ R s => R (.ok (.ret Value.notImplemented)) s := by
  rintro prog w A R s q
  have e : Builtin.«dict.__eq__» { pos := [Value.ref a, Value.str b u] } = (do
      let x ← isInstance (Value.str b u) (Value.type "dict")
      if (!x) = true then do
          rule (toString "dict." ++ toString "__eq__" ++ toString ".not-a-dict")
          ret Value.notImplemented
        else do
          let p ← Builtin.Dict.addrOf (Value.ref a)
          let q ← Builtin.Dict.addrOf (Value.str b u)
          let z ← Builtin.Dict.samePairs (toString "dict." ++ toString "__eq__") p q
          ret (Value.bool (z == true))) := rfl
  rw [e]
  refine wpAny_bind (wpAny_isInstance_val (b := false) (T := "str") rfl (by rfl) ?_)
  refine wpAny_bind (wpAny_rule ?_)
  exact wpAny_pure q
theorem rc_str_dict {A : Around} {s : Shared} {a : Addr} {o : Obj} {es : Array DictEntry} {n : Nat} (b : Str) (u : Tok) (h : s.heap.get? a = some o) (hc : o.cls = .type "dict") (hd : o.data = .dict es n) (room : A.units < cLine) : SeqAt.RcAt A s (.str b u) (.ref a) false := by
  intro prog w E Q q
  have ta : s.TypeIs (.str b u) "str" := by rfl
  have tb : s.TypeIs (.ref a) "dict" := ⟨o, h, hc⟩
  have e1 : ∀ Q' : Value → Shared → Prop, Q' Value.notImplemented s → wpAny (model prog w) A (call (Value.builtin "str.__eq__") [.str b u, .ref a]) Q' E s := fun Q' z =>
    call_meets PyProof.Rows.slot_str_eq ta F.entry_str_eq (F.args_str_eq_2 _ _) (str_eq_dict b u a) ⟨⟨o, es, n, h, hd⟩, z⟩
  have e2 : ∀ Q' : Value → Shared → Prop, Q' Value.notImplemented s → wpAny (model prog w) A (call (Value.builtin "dict.__eq__") [.ref a, .str b u]) Q' E s := fun Q' z =>
    call_meets F.slot_dict_eq tb F.entry_dict_eq (F.args_dict_eq_2 _ _) (dict_eq_str b u a) z
  exact SeqAt.rc_eq_decline_or (Ta := "str") (Tb := "dict") (k := false) ta tb (by decide) (by rfl) PyProof.Rows.slot_str_eq F.slot_dict_eq_refl e1 e2 (fun Q' z => wpAny_pure z) (.inr room) q
theorem eq_str_dict {A : Around} {s : Shared} {a : Addr} {o : Obj} {es : Array DictEntry} {n : Nat} (b : Str) (u : Tok) (h : s.heap.get? a = some o) (hc : o.cls = .type "dict") (hd : o.data = .dict es n) (room : A.units < cLine) : SeqAt.EqAt A s (.str b u) (.ref a) false := by
  intro prog w E Q q
  unfold eqBool
  refine wpAny_holding ?_
  have e : (Value.str b u == Value.ref a) = false := rfl
  simp only [e, Bool.false_eq_true, if_false]
  refine wpAny_bind (rc_str_dict b u h hc hd room prog w E _ ?_)
  exact wpAny_truthy_bool q

mutual
inductive Dq (K : PySem.W.Frag) (p : Addr) (H : Hp) : V → PyData → Prop
  | non : Dq K p H .non .none
  | bl (b : Bool) : Dq K p H (.bl b) (.bool b)
  | int (i : Int) : Dq K p H (.int i) (.int i)
  | str (x : Str) : Dq K p H (.str x) (.str x)
  | lst {a : Addr} {xs : List V} {ds : List PyData} : a ≠ p → H a = some (.lst xs) → DqAll K p H xs ds → Dq K p H (.ref a) (.list ds)
  | tup {a : Addr} {xs : List V} {ds : List PyData} : SqT K H a xs → DqAll K p H xs ds → Dq K p H (.ref a) (.tuple ds)
  | dct {a : Addr} {kvs : List (Key × V)} {ds : List (PyData × PyData)} : a ≠ p → H a = some (.dK kvs) → (ds = [] → kvs = []) → Dq K p H (.ref a) (.dict ds)
inductive DqAll (K : PySem.W.Frag) (p : Addr) (H : Hp) : List V → List PyData → Prop
  | nil : DqAll K p H [] []
  | cons {v : V} {d : PyData} {vs : List V} {ds : List PyData} : Dq K p H v d → DqAll K p H vs ds → DqAll K p H (v :: vs) (d :: ds)
end
mutual
theorem dq_of {K : PySem.W.Frag} {p : Addr} {H : Hp} : ∀ {d : PyData} {v : V}, noL d = true → Dp K H v d → Dq K p H v d
  | .none, _, _, h => by cases h; exact .non
  | .bool _, _, _, h => by cases h; exact .bl _
  | .int _, _, _, h => by cases h; exact .int _
  | .str _, _, _, h => by cases h; exact .str _
  | .list _, _, n, _ => by simp [noL] at n
  | .tuple ds, _, n, h => by
    cases h with
    | tup hs ha => exact .tup hs (dqAll_of (by simpa [noL] using n) ha)
  | .dict _, _, _, h => by cases h
theorem dqAll_of {K : PySem.W.Frag} {p : Addr} {H : Hp} : ∀ {ds : List PyData} {vs : List V}, noLs ds = true → DpAll K H vs ds → DqAll K p H vs ds
  | [], _, _, h => by cases h; exact .nil
  | d :: ds, _, n, h => by
    cases h with
    | cons h1 h2 =>
      have n' : noL d = true ∧ noLs ds = true := by simpa [noLs] using n
      exact .cons (dq_of n'.1 h1) (dqAll_of n'.2 h2)
end
/-- what keeps such data: tuples, and all but p -/
structure Kp (K : PySem.W.Frag) (p : Addr) (H H' : Hp) : Prop where
  sx : Sx p H H'
  tp : ∀ a xs, SqT K H a xs → SqT K H' a xs
theorem Kp.refl {K : PySem.W.Frag} {p : Addr} {H : Hp} : Kp K p H H := ⟨Sx.refl, fun _ _ h => h⟩
theorem Kp.trans {K : PySem.W.Frag} {p : Addr} {H H1 H2 : Hp} (a : Kp K p H H1) (b : Kp K p H1 H2) : Kp K p H H2 := ⟨a.sx.trans b.sx, fun x xs h => b.tp x xs (a.tp x xs h)⟩
theorem Same.kp {K : PySem.W.Frag} {p : Addr} {H H' : Hp} (s : Same H H') : Kp K p H H' := ⟨Same.sx s, fun _ _ h => same_sqT s h⟩
theorem Sx.kp {K : PySem.W.Frag} {p : Addr} {H H' : Hp} {l : List V} (s : Sx p H H') (hp : H p = some (.lst l)) : Kp K p H H' := ⟨s, fun _ _ h => s.sqT hp h⟩
mutual
theorem Dq.keep {K : PySem.W.Frag} {p : Addr} {H H' : Hp} (s : Kp K p H H') : ∀ {d : PyData} {v : V}, Dq K p H v d → Dq K p H' v d
  | .none, _, h => by cases h; exact .non
  | .bool _, _, h => by cases h; exact .bl _
  | .int _, _, h => by cases h; exact .int _
  | .str _, _, h => by cases h; exact .str _
  | .list ds, _, h => by
    cases h with
    | lst n e ha => exact .lst n (s.sx _ _ n e) (DqAll.keep s ha)
  | .tuple ds, _, h => by
    cases h with
    | tup hs ha => exact .tup (s.tp _ _ hs) (DqAll.keep s ha)
  | .dict _, _, h => by
    cases h with
    | dct n e z => exact .dct n (s.sx _ _ n e) z
theorem DqAll.keep {K : PySem.W.Frag} {p : Addr} {H H' : Hp} (s : Kp K p H H') : ∀ {ds : List PyData} {vs : List V}, DqAll K p H vs ds → DqAll K p H' vs ds
  | [], _, h => by cases h; exact .nil
  | d :: ds, _, h => by
    cases h with
    | cons h1 h2 => exact .cons (Dq.keep s h1) (DqAll.keep s h2)
end
theorem dqAll_length {K : PySem.W.Frag} {p : Addr} {H : Hp} : ∀ {vs : List V} {ds : List PyData}, DqAll K p H vs ds → vs.length = ds.length
  | _, _, .nil => rfl
  | _, _, .cons _ h => congrArg (· + 1) (dqAll_length h)
theorem dqAll_get {K : PySem.W.Frag} {p : Addr} {H : Hp} : ∀ {vs : List V} {ds : List PyData} {i : Nat} {v : V}, DqAll K p H vs ds → vs[i]? = some v → ∃ d, ds[i]? = some d ∧ Dq K p H v d
  | _, _, _, _, .nil, e => by simp at e
  | _, _, 0, _, .cons h _, e => by
    simp at e
    subst e
    exact ⟨_, rfl, h⟩
  | _, _, i + 1, _, .cons _ t, e => by
    obtain ⟨d, e1, e2⟩ := dqAll_get (i := i) t (by simpa using e)
    exact ⟨d, by simpa using e1, e2⟩
theorem dqAll_append {K : PySem.W.Frag} {p : Addr} {H : Hp} : ∀ {vs ws : List V} {ds es : List PyData}, DqAll K p H vs ds → DqAll K p H ws es → DqAll K p H (vs ++ ws) (ds ++ es)
  | _, _, _, _, .nil, h => h
  | _, _, _, _, .cons h t, h' => .cons h (dqAll_append t h')
theorem dqAll_take {K : PySem.W.Frag} {p : Addr} {H : Hp} : ∀ (n : Nat) {vs : List V} {ds : List PyData}, DqAll K p H vs ds → DqAll K p H (vs.take n) (ds.take n)
  | 0, _, _, _ => by simpa using .nil
  | n + 1, _, _, .nil => by simpa using .nil
  | n + 1, _, _, .cons h t => by simpa using .cons h (dqAll_take n t)
theorem dqAll_drop {K : PySem.W.Frag} {p : Addr} {H : Hp} : ∀ (n : Nat) {vs : List V} {ds : List PyData}, DqAll K p H vs ds → DqAll K p H (vs.drop n) (ds.drop n)
  | 0, _, _, h => by simpa using h
  | n + 1, _, _, .nil => by simpa using .nil
  | n + 1, _, _, .cons h t => by simpa using dqAll_drop n t
theorem dq_int_inv {K : PySem.W.Frag} {p : Addr} {H : Hp} {v : V} {i : Int} (h : Dq K p H v (.int i)) : v = .int i := by cases h; rfl
theorem dq_str_inv {K : PySem.W.Frag} {p : Addr} {H : Hp} {v : V} {x : Str} (h : Dq K p H v (.str x)) : v = .str x := by cases h; rfl
theorem dq_bool_inv {K : PySem.W.Frag} {p : Addr} {H : Hp} {v : V} {b : Bool} (h : Dq K p H v (.bool b)) : v = .bl b := by cases h; rfl
theorem dq_tup_inv {K : PySem.W.Frag} {p : Addr} {H : Hp} {v : V} {ds : List PyData} (h : Dq K p H v (.tuple ds)) : ∃ a xs, v = .ref a ∧ SqT K H a xs ∧ DqAll K p H xs ds := by
  cases h with
  | tup h1 h2 => exact ⟨_, _, rfl, h1, h2⟩
theorem tupq {K : PySem.W.Frag} {p q : Addr} {H : Hp} {xs : List V} {ds : List PyData} (hq : H q = none) (h : DqAll K p H xs ds) : Same H (upd H q (.tup xs)) ∧ Dq K p (upd H q (.tup xs)) (.ref q) (.tuple ds) :=
  ⟨same_new hq, .tup (.inl (.inl upd_same)) (h.keep (Same.kp (same_new hq)))⟩
theorem lstq {K : PySem.W.Frag} {p q : Addr} {H : Hp} {xs : List V} {ds : List PyData} (n : q ≠ p) (hq : H q = none) (h : DqAll K p H xs ds) : Same H (upd H q (.lst xs)) ∧ Dq K p (upd H q (.lst xs)) (.ref q) (.list ds) :=
  ⟨same_new hq, .lst n upd_same (h.keep (Same.kp (same_new hq)))⟩

mutual
def noD : PyData → Bool
  | .list ds => noDs ds
  | .tuple ds => noDs ds
  | .dict _ => false
  | _ => true
def noDs : List PyData → Bool
  | [] => true
  | d :: ds => noD d && noDs ds
end
mutual
theorem Dq.dp {K : PySem.W.Frag} {p : Addr} {H : Hp} : ∀ {d : PyData} {v : V}, noD d = true → Dq K p H v d → Dp K H v d
  | .none, _, _, h => by cases h; exact .non
  | .bool _, _, _, h => by cases h; exact .bl _
  | .int _, _, _, h => by cases h; exact .int _
  | .str _, _, _, h => by cases h; exact .str _
  | .list ds, _, n, h => by
    cases h with
    | lst _ e ha => exact .lst (SqL.of e) (DqAll.dp (by simpa [noD] using n) ha)
  | .tuple ds, _, n, h => by
    cases h with
    | tup hs ha => exact .tup hs (DqAll.dp (by simpa [noD] using n) ha)
  | .dict _, _, n, _ => by simp [noD] at n
theorem DqAll.dp {K : PySem.W.Frag} {p : Addr} {H : Hp} : ∀ {ds : List PyData} {vs : List V}, noDs ds = true → DqAll K p H vs ds → DpAll K H vs ds
  | [], _, _, h => by cases h; exact .nil
  | d :: ds, _, n, h => by
    cases h with
    | cons h1 h2 =>
      have n' : noD d = true ∧ noDs ds = true := by simpa [noDs] using n
      exact .cons (Dq.dp n'.1 h1) (DqAll.dp n'.2 h2)
end
theorem dq_ty {K : PySem.W.Frag} {p : Addr} {H : Hp} {v : V} {d : PyData} (h : Dq K p H v d) : TyX K H v (.type (tyN d)) := by
  cases h with
  | non => exact .base .non
  | bl b => exact .base (.bl b)
  | int i => exact .base (.int i)
  | str x => exact .base (.str x)
  | lst n hs ha => exact .base (.lst hs)
  | tup hs ha =>
    rcases hs with (e | ⟨o, e⟩) | ⟨o, its, n, hk, hc, _⟩
    · exact .base (.tup e)
    · exact .fTuple e
    · exact .kTuple hk hc
  | dct n e z => exact .base (.dK e)
section
variable {X : Cx}
def rIsQ (K : PySem.W.Frag) : List V → Hp → VK → Prop := fun xs H Q => ∃ (v : V) (n : String) (p : Addr) (d : PyData) (b : Bool), xs = [v, .ty n] ∧ Dq K p H v d ∧ kitB (tyN d) n = some b ∧ Q (.bl b) H
theorem call_isQ : CallR X (.builtin "isinstance") (rIsQ X.K) := by
  intro pins s σ H xs us Q I r h
  obtain ⟨v, n, p, d, b, e, hd, hk, q⟩ := h
  exact call_isi pins s σ H xs us Q I r ⟨v, .ty n, _, _, _, e, .ty n, dq_ty hd, kit_ty hk, q⟩
/-- is the data one of these texts -/
def inS (d : PyData) (ss : List Str) : Bool := match d with
  | .str x => ss.any (· == x)
  | _ => false
theorem isTuple_of {pins : List (Addr × Obj)} {σ : L2.St} {H : Hp} {s : Shared} {a : Addr} {xs : List V} (I : Inv X pins σ H s) (h : SqT X.K H a xs) : ∃ its : Array Value, Vals xs its.toList ∧ s.heap.IsTuple a its := by
  rcases h with h | ⟨o, its, n, hk, hc, hd, hz, hv⟩
  · obtain ⟨_, its, hv, ht⟩ := h.ok I.hok
    exact ⟨its.toArray, by simpa using hv, ht⟩
  · exact ⟨its, hv, o, I.kIn _ _ hk, hc, n, hd⟩
theorem vals_strs : ∀ {ss : List Str} {us : List Value}, Vals (ss.map V.str) us → ∃ ts : List (Str × Tok), us = ts.map (fun z => .str z.1 z.2) ∧ ts.map (·.1) = ss
  | [], us, h => by
    generalize e : ([] : List Str).map V.str = vs at h
    cases h with
    | nil => exact ⟨[], rfl, rfl⟩
    | cons r h => cases e
  | x :: ss, us, h => by
    generalize e : (x :: ss).map V.str = vs at h
    cases h with
    | nil => cases e
    | cons r h =>
      obtain ⟨rfl, rfl⟩ := List.cons.inj e
      obtain ⟨ts, rfl, rfl⟩ := vals_strs h
      obtain ⟨t, rfl⟩ := r
      exact ⟨(x, t) :: ts, rfl, rfl⟩
def rInQ (K : PySem.W.Frag) : R2 := fun x y H Q => ∃ (p a : Addr) (ss : List Str) (d : PyData), y = .ref a ∧ SqT K H a (ss.map V.str) ∧ Dq K p H x d ∧ Q (.bl (inS d ss)) H
theorem op_inQ (hu : X.A.units + 66 < cLine) : OpR X (compareOp .In) (rInQ X.K) := by
  rintro pins s σ H x y v u Q I rv ru ⟨p, a, ss, d, rfl, ht, hd, q⟩
  obtain rfl : u = .ref a := ru
  obtain ⟨its, hv, hit⟩ := isTuple_of I ht
  obtain ⟨ts, e1, e2⟩ := vals_strs hv
  have room : X.A.in1.units < cLine := by
    show X.A.units + 1 < cLine
    omega
  refine SeqAt.in_tupleAt (fun y => match y with | .str w _ => inS d [w] | _ => false) hit (fun y hy => ?_) ?_
  · have hy' : y ∈ its.toList := by simpa using hy
    rw [e1] at hy'
    obtain ⟨⟨w, t⟩, _, rfl⟩ := List.mem_map.mp hy'
    show SeqAt.EqAt X.A.in1 s (.str w t) v (inS d [w])
    cases hd with
    | non =>
      obtain rfl : v = .none := rv
      exact SeqAt.EqAt.str_none _ _
    | bl b =>
      obtain rfl : v = .bool b := rv
      exact SeqAt.EqAt.str_bool _ _ _
    | int i =>
      obtain ⟨t', rfl⟩ := rv
      exact SeqAt.EqAt.str_int _ _ _ _
    | str x =>
      obtain ⟨t', rfl⟩ := rv
      have e : inS (.str x) [w] = (w == x) := by simp [inS]
      rw [e]
      exact SeqAt.EqAt.str_str _ _ _ _
    | lst n e ha =>
      rename_i l xs ds
      obtain rfl : v = .ref l := rv
      obtain ⟨_, its', n', hv', ho⟩ := I.hok _ _ e
      exact SeqAt.EqAt.str_list (items := its'.toArray) _ _ ⟨_, ho, rfl, n', rfl⟩ room
    | tup hs ha =>
      rename_i l xs ds
      obtain rfl : v = .ref l := rv
      obtain ⟨its', hv', ho⟩ := isTuple_of I hs
      exact SeqAt.EqAt.str_tuple (items := its') _ _ ho room
    | dct n e z =>
      rename_i l kvs ds
      obtain rfl : v = .ref l := rv
      obtain ⟨_, _, vs, _, o, es, ep, h1, h2, h3, _⟩ := I.hok _ _ e
      exact eq_str_dict _ _ h1 h2.1 h3 room
  · refine ⟨.bl (inS d ss), H, I, ?_, q⟩
    show Value.bool _ = Value.bool _
    congr 1
    rw [← Array.any_toList, e1, ← e2, List.any_map]
    cases d <;> simp [inS, Function.comp_def]

mutual
/-- data whose text is made without trouble: only empty dicts -/
def fineQ : PyData → Prop
  | .int i => i.natAbs < 10 ^ 180
  | .str x => (x.cps.toList.all fun c => decide (c < 16 ^ 8)) = true
  | .list xs => finesQ xs
  | .tuple xs => finesQ xs
  | .dict ds => ds = []
  | _ => True
def finesQ : List PyData → Prop
  | [] => True
  | x :: xs => fineQ x ∧ finesQ xs
end
mutual
theorem fineQ_ok : ∀ d : PyData, fineQ d → d.showable = true ∧ d.leavesShort 200 = true
  | .none, _ => by simp [PyData.showable, PyData.leavesShort]
  | .bool _, _ => by simp [PyData.showable, PyData.leavesShort]
  | .int i, h => by
    simp only [fineQ] at h
    simp only [PyData.showable, PyData.leavesShort, decide_eq_true_eq]
    exact ⟨int_log h, shown_int h⟩
  | .str x, h => by
    simp only [fineQ] at h
    simp only [PyData.showable, PyData.leavesShort, true_and]
    exact h
  | .list xs, h => by
    simp only [fineQ] at h
    simp only [PyData.showable, PyData.leavesShort]
    exact finesQ_ok xs h
  | .tuple xs, h => by
    simp only [fineQ] at h
    simp only [PyData.showable, PyData.leavesShort]
    exact finesQ_ok xs h
  | .dict ds, h => by
    simp only [fineQ] at h
    subst h
    simp [PyData.showable, PyData.showableKv, PyData.leavesShort, PyData.leavesShortKv]
theorem finesQ_ok : ∀ xs : List PyData, finesQ xs → PyData.showableAll xs = true ∧ PyData.leavesShortAll 200 xs = true
  | [], _ => by simp [PyData.showableAll, PyData.leavesShortAll]
  | x :: xs, h => by
    simp only [finesQ] at h
    obtain ⟨a1, a2⟩ := fineQ_ok x h.1
    obtain ⟨b1, b2⟩ := finesQ_ok xs h.2
    simp only [PyData.showableAll, PyData.leavesShortAll, a1, a2, b1, b2, Bool.and_self, and_self]
end
mutual
theorem Dq.reads {p : Addr} {pins : List (Addr × Obj)} {σ : L2.St} {H : Hp} {s : Shared} (I : Inv X pins σ H s) (hs : H sysModules = none) : ∀ (d : PyData) (v : V) (u : Value), fineQ d → Dq X.K p H v d → RelV v u → ∃ as, Reads s.heap u d as ∧ sysModules ∉ as
  | .none, _, u, _, h, r => by
    cases h
    obtain rfl : u = .none := r
    exact ⟨_, .none, by simp⟩
  | .bool b, _, u, _, h, r => by
    cases h
    obtain rfl : u = .bool b := r
    exact ⟨_, .bool b, by simp⟩
  | .int i, _, u, _, h, r => by
    cases h
    obtain ⟨t, rfl⟩ := r
    exact ⟨_, .int i t, by simp⟩
  | .str x, _, u, _, h, r => by
    cases h
    obtain ⟨t, rfl⟩ := r
    exact ⟨_, .str x t, by simp⟩
  | .list ds, _, u, f, h, r => by
    cases h with
    | lst n e ha =>
      rename_i l xs
      obtain rfl : u = .ref l := r
      obtain ⟨_, its', n', hv', ho⟩ := I.hok _ _ e
      obtain ⟨as, ra, na⟩ := DqAll.reads I hs ds xs its' (by simpa only [fineQ] using f) ha hv'
      refine ⟨_, .list ho rfl rfl (by simpa using ra), ?_⟩
      intro z
      rcases List.mem_cons.mp z with z | z
      · rw [z, e] at hs
        cases hs
      · exact na z
  | .tuple ds, _, u, f, h, r => by
    cases h with
    | tup ht ha =>
      rename_i l xs
      obtain rfl : u = .ref l := r
      obtain ⟨its', hv', o, h1, h2, n, h3⟩ := isTuple_of I ht
      obtain ⟨as, ra, na⟩ := DqAll.reads I hs ds xs its'.toList (by simpa only [fineQ] using f) ha hv'
      exact ⟨_, .tuple h1 h2 h3 ra, na⟩
  | .dict ds, _, u, f, h, r => by
    cases h with
    | dct n e z =>
      rename_i l kvs
      obtain rfl : u = .ref l := r
      simp only [fineQ] at f
      subst f
      obtain rfl := z rfl
      obtain ⟨_, _, vs, kv, o, es, ep, h1, h2, h3, _, h4, _⟩ := I.hok _ _ e
      generalize ek : ([] : List (Key × V)) = kk at kv
      cases kv with
      | cons _ _ => cases ek
      | nil =>
        generalize ee : es.toList = el at h4
        cases h4
        have e0 : es = #[] := by
          apply Array.ext'
          simpa using ee
        subst e0
        refine ⟨_, .dict (as := []) (bs := []) h1 h2.1 h3 (by simpa using .nil) (by simpa using .nil), ?_⟩
        intro y
        have y' : sysModules = l := by simpa using y
        rw [y', e] at hs
        cases hs
theorem DqAll.reads {p : Addr} {pins : List (Addr × Obj)} {σ : L2.St} {H : Hp} {s : Shared} (I : Inv X pins σ H s) (hs : H sysModules = none) : ∀ (ds : List PyData) (vs : List V) (us : List Value), finesQ ds → DqAll X.K p H vs ds → Vals vs us → ∃ as, ReadsAll s.heap us ds as ∧ sysModules ∉ as
  | [], _, us, _, h, r => by
    cases h
    generalize e : ([] : List V) = l at r
    cases r with
    | nil => exact ⟨_, .nil, by simp⟩
    | cons _ _ => cases e
  | d :: ds, _, us, f, h, r => by
    cases h with
    | cons h1 h2 =>
      rename_i v vs
      generalize e : v :: vs = l at r
      cases r with
      | nil => cases e
      | cons r1 r2 =>
        obtain ⟨rfl, rfl⟩ := List.cons.inj e
        simp only [finesQ] at f
        obtain ⟨as, ra, na⟩ := Dq.reads I hs d _ _ f.1 h1 r1
        obtain ⟨bs, rb, nb⟩ := DqAll.reads I hs ds _ _ f.2 h2 r2
        exact ⟨_, .cons ra rb, by simp [na, nb]⟩
end
/-- the written part holds the table of modules -/
def Sys (base : Heap) : Prop := ∃ o, base.get? sysModules = some o
theorem Inv.nosys {pins : List (Addr × Obj)} {σ : L2.St} {H : Hp} {s : Shared} (I : Inv X pins σ H s) (hb : Sys X.base) : H sysModules = none := by
  obtain ⟨o, hb⟩ := hb
  obtain ⟨h1, h2⟩ := I.ok.bs _ _ hb
  exact I.base.free _ _ h1 h2 (I.ok.noex _ _ hb)
def rReprQ (K : PySem.W.Frag) : List V → Hp → VK → Prop := fun xs H Q => ∃ (p : Addr) (v : V) (d : PyData), xs = [v] ∧ Dq K p H v d ∧ fineQ d ∧ d.depth ≤ 64 ∧ d.bulk ≤ 80000 ∧ Q (.str d.shown) H
theorem call_reprQ (hb : Sys X.base) (hg : X.A.guards = some []) (hu : X.A.units + 66 < cLine) : CallR X (.builtin "repr") (rReprQ X.K) := by
  intro pins s σ H xs us Q I r h
  obtain ⟨p, v, d, rfl, hd, hf, hdep, hw, q⟩ := h
  obtain ⟨hs, hl⟩ := fineQ_ok d hf
  have hz : d.shown.length ≤ sizeLine := by
    have := PyData.shown_le_bulk 200 (by decide) d hl
    rw [sizeLine_eq]
    omega
  obtain ⟨u, rfl, ru⟩ := vals1 r
  obtain ⟨as, hr, hsm⟩ := Dq.reads I (Inv.nosys I hb) d v u hf hd ru
  cases hr with
  | none => exact P.repr_of_none ⟨.str _, H, I.tok _, ⟨_, rfl⟩, q⟩
  | bool b => exact P.repr_of_bool ⟨.str _, H, I.tok _, ⟨_, rfl⟩, q⟩
  | int i t => exact P.repr_of_int (by simpa [PyData.showable] using hs) ⟨.str _, H, I.tok _, ⟨_, rfl⟩, q⟩
  | str x t => exact P.repr_of_str ⟨.str _, H, I.tok _, ⟨_, rfl⟩, q⟩ (by simpa only [PyData.shown] using hz)
  | list h1 h2 h3 h4 =>
    refine repr_of_reads' (h₀ := s.heap) (.list h1 h2 h3 h4) hs (fun _ => hsm) hg (by omega) (fun _ _ e => e) (fun h' u' tk hk => ?_) hz
    exact ⟨.str _, H, I.kept hk, ⟨_, rfl⟩, q⟩
  | tuple h1 h2 h3 h4 =>
    refine repr_of_reads' (h₀ := s.heap) (.tuple h1 h2 h3 h4) hs (fun _ => hsm) hg (by omega) (fun _ _ e => e) (fun h' u' tk hk => ?_) hz
    exact ⟨.str _, H, I.kept hk, ⟨_, rfl⟩, q⟩
  | dict h1 h2 h3 h4 h5 =>
    refine repr_of_reads' (h₀ := s.heap) (.dict h1 h2 h3 h4 h5) hs (fun _ => hsm) hg (by omega) (fun _ _ e => e) (fun h' u' tk hk => ?_) hz
    exact ⟨.str _, H, I.kept hk, ⟨_, rfl⟩, q⟩

def rInLD (K : PySem.W.Frag) : R2 := fun x y H Q => ∃ (ds : List PyData) (d : PyData), Dp K H y (.list ds) ∧ Dp K H x d ∧ PyData.canLayAll0 ds = true ∧ d.canLay0 = true ∧ d.depth ≤ 60 ∧ Q (.bl (ds.any fun e => e.eqv d)) H
theorem op_inLD (hu : X.A.units + 66 < cLine) : OpR X (compareOp .In) (rInLD X.K) := by
  rintro pins s σ H x y v u Q I rv ru ⟨ds, d, hy, hx, c1, c2, c3, q⟩
  obtain ⟨as, r1⟩ := Dp.reads I _ _ _ hy ru
  obtain ⟨bs, r2⟩ := Dp.reads I _ _ _ hx rv
  refine SeqAt.in_list_reads r1 r2 c1 c2 ?_ ⟨.bl _, H, I, rfl, q⟩
  have : min (PyData.depthAll ds) d.depth ≤ 60 := Nat.le_trans (Nat.min_le_right _ _) c3
  omega

end
end Rp

namespace Rp
open PySem L2 PyProof.Rows
theorem law_endS {l : PySem.W.OpenLaw} {n k : Nat} {q : Program} {loose : List Str} {XP : (Str → Option Value) → Heap → Prop} {YP : World → Heap → Prop} {d : DefRec} {K : Params → PySem.W.Frag} {sp : PySem.W.Frag → Sp} {x : Str}
    (hn : l.most = some n) (hn2 : n ≤ sizeLine) (hdf : d.params.defaults = []) (hr : Room k callerA) (himp : importsNone q = true)
    (hY : ∀ (w : World) (h : Heap), YP w h → (K w.params).In h)
    (F : ∀ (w : World) (mg : Str → Option Value) (fa : Addr) (h : Heap), (K w.params).In h → h.Ns mainGlobals mg → mg d.name = some (.ref fa) →
      ∃ fd : FuncData, (∀ (s : Shared) (u : Value), BindsTo s fd ⟨[u], []⟩ [(x, u)]) ∧
        ∀ base : Heap, (K w.params).In base → base.Ns mainGlobals mg → Sys base → FnG l.prog w (K w.params) mg base CX0 k fa fd [x] (sp (K w.params)))
    (hsp : ∀ (K : PySem.W.Frag) (H : Hp) (a : Addr) (ns : List Int), ns.length ≤ n → Only H → SqL K H a (ns.map V.int) → sp K [.ref a] H (fun v _ => v = .bl true) fun _ _ _ => False) :
    PySem.W.WalkO q loose XP YP l.row.toRowW d [] (fun f vs => PySem.call f vs) := by
  refine Att.attach_call hn hdf fun w s₀ s₁ mg mb fa o pm cd doc a vs ns G Y ho hd hcd hmg hobj hints hlen hgens => ?_
  have kin := hY w _ Y
  obtain ⟨fd, bd, FF⟩ := F w mg fa _ kin G.T.g hmg
  obtain ⟨H, hO, hS, hok, only, notK⟩ := script_heap (P := l.prog) (w := w) kin hobj hints (Nat.le_trans hlen hn2)
  have free : ∀ {b : Addr} {ob : Obj} {es : Array DictEntry} {ep : Nat}, s₁.heap.get? b = some ob → ob.data = .dict es ep → H b = none := by
    intro b ob es ep h1 h2
    cases c : H b with
    | none => rfl
    | some u =>
      have e : b = a := only b (by rw [c]; exact fun z => nomatch z)
      rw [e, hobj] at h1
      have h3 := congrArg Obj.data (Option.some.inj h1)
      rw [h2] at h3
      exact nomatch h3
  have ns' : ∀ {b : Addr} {m : Str → Option Value}, s₁.heap.Ns b m → (hidT s₁.heap H).Ns b m := by
    rintro b m ⟨ob, es, ep, h1, h2, h3⟩
    exact ⟨ob, es, ep, hidT_get h1 (free h1 h2), h2, h3⟩
  have kinB : (K w.params).In (hidT s₁.heap H) := fun b ob e => hidT_get (kin b ob e) (notK b ob e)
  have lim : (hidT s₁.heap H).NoLimit := by
    obtain ⟨mc, h1, h2⟩ := G.T.nolimit
    exact ⟨mc, ns' h1, h2⟩
  have sys : Sys (hidT s₁.heap H) := by
    obtain ⟨mm, hm, _⟩ := (G.T.seer himp).mods
    obtain ⟨ob, es, ep, h1, _⟩ := ns' hm
    exact ⟨ob, h1⟩
  have en : Env0 l.prog w (K w.params) mg (hidT s₁.heap H) callerA [] s₁ H :=
    ⟨rfl, ⟨kinB, ns' G.T.g, ⟨mb, ns' G.T.b, G.T.builtins⟩, lim⟩, fun b ob e => of_hidT e, Nat.le_of_eq (hidT_size _ _), trivial, (fun b z => nomatch z), hok, .of_eq hgens⟩
  refine codeAny_mono ((FF _ kinB (ns' G.T.g) sys).run callerA [] s₁ H ⟨[.ref a], []⟩ [.ref a] [.ref a] _ _ hr rfl en (bd s₁ (.ref a)) (.cons rfl .nil) (hsp _ H a ns hlen hO hS)) fun r s' z => ?_
  cases r with
  | error e => exact False.elim z
  | ok fl =>
    cases fl with
    | next => exact False.elim z
    | brk => exact False.elim z
    | cont => exact False.elim z
    | ret u =>
      obtain ⟨v, H', os, bare, un, hok', rr, e⟩ := z
      have e' : v = .bl true := e
      subst e'
      obtain rfl : u = Value.bool true := rr
      refine ⟨rfl, OldK.of_keep fun b ob hb => ?_, os, bare⟩
      cases c : H b with
      | none => exact un.keep b ob hb c (fun z => nomatch z) (fun z => nomatch z)
      | some u =>
        rcases hO b with z | ⟨ox, xs, z⟩
        · rw [c] at z
          cases z
        · obtain ⟨e1, _⟩ := hok b _ z
          obtain ⟨e2, _⟩ := hok' b _ (un.frzs b ox _ z)
          rw [hb] at e1
          cases e1
          exact e2
end Rp
/-! Sf: which data is a job, as the program finds it and as the laws measure it. No Python here. -/
namespace Lw
open PySem L2 Rp

def partsF (f : PyData → Int → Option (Int × Int)) : List PyData → Int → Int → Int → Option (Int × Int)
  | [], nodes, steps, _ => within nodes steps
  | x :: xs, nodes, steps, room =>
    match f x (room - nodes) with
    | none => none
    | some (a, b) => partsF f xs (nodes + a) (steps + b) room
/-- the sizes of a job with n levels, as the program finds them -/
def szF : Nat → PyData → Int → Option (Int × Int)
  | 0, _, _ => none
  | n + 1, d, room => if room < 1 then none else
    match d with
    | .int i => if -M30 ≤ i ∧ i ≤ M30 then some (1, 1) else none
    | .tuple [w, x] => if inS w ["seq", "par"] = true then
        (match x with
        | .tuple ds => if (ds.length : Int) > 400 then none else partsF (szF n) ds 1 0 room
        | _ => none) else none
    | .tuple [w, c, x] => if inS w ["repeat", "copies"] = true then
        (match c with
        | .int c => if ¬ (0 ≤ c ∧ c ≤ M30) then none else
          match szF n x (room - 1) with
          | none => none
          | some (a, b) => within (a + 1) (b * c)
        | _ => none) else none
    | _ => none
def capM (a b : Int) : Option (Int × Int) := if a ≤ 400 ∧ b ≤ M30 then some (a, b) else none
def msL (f : PyData → Option (Int × Int)) : List PyData → Option (Int × Int)
  | [] => some (0, 0)
  | x :: xs =>
    match f x, msL f xs with
    | some (a, b), some (c, d) => some (a + c, b + d)
    | _, _ => none
/-- the sizes of a job with n levels, as the law measures them -/
def msF : Nat → PyData → Option (Int × Int)
  | 0, _ => none
  | n + 1, d =>
    match d with
    | .int i => if -M30 ≤ i ∧ i ≤ M30 then some (1, 1) else none
    | .tuple [w, x] => if inS w ["seq", "par"] = true then
        (match x with
        | .tuple ds => if (ds.length : Int) > 400 then none else
          match msL (msF n) ds with
          | none => none
          | some (a, b) => capM (1 + a) b
        | _ => none) else none
    | .tuple [w, c, x] => if inS w ["repeat", "copies"] = true then
        (match c with
        | .int c =>
          match msF n x with
          | none => none
          | some (a, b) => if 0 ≤ c ∧ c ≤ M30 then capM (1 + a) (c * b) else none
        | _ => none) else none
    | _ => none
def Fit (a b : Int) : Prop := 1 ≤ a ∧ a ≤ 400 ∧ 0 ≤ b ∧ b ≤ M30
theorem msL_pos {f : PyData → Option (Int × Int)} (hf : ∀ d a b, f d = some (a, b) → Fit a b) : ∀ ds a b, msL f ds = some (a, b) → 0 ≤ a ∧ 0 ≤ b
  | [], a, b, h => by
    simp only [msL, Option.some.injEq, Prod.mk.injEq] at h
    omega
  | x :: xs, a, b, h => by
    simp only [msL] at h
    split at h
    · rename_i a1 b1 c1 d1 e1 e2
      have p1 := hf _ _ _ e1
      have p2 := msL_pos hf xs _ _ e2
      simp only [Option.some.injEq, Prod.mk.injEq] at h
      unfold Fit at p1
      omega
    · cases h
theorem capM_inv {a b c d : Int} (h : capM a b = some (c, d)) : a ≤ 400 ∧ b ≤ M30 ∧ c = a ∧ d = b := by
  unfold capM at h
  split at h
  · rename_i z
    simp only [Option.some.injEq, Prod.mk.injEq] at h
    exact ⟨z.1, z.2, h.1.symm, h.2.symm⟩
  · cases h
theorem msF_fit : ∀ (n : Nat) (d : PyData) (a b : Int), msF n d = some (a, b) → Fit a b
  | 0, _, _, _, h => by cases h
  | n + 1, d, a, b, h => by
    have ih := msF_fit n
    unfold msF at h
    split at h
    · split at h
      · simp only [Option.some.injEq, Prod.mk.injEq] at h
        unfold Fit M30
        omega
      · cases h
    · split at h
      · split at h
        · split at h
          · cases h
          · split at h
            · cases h
            · rename_i e
              obtain ⟨h1, h2, rfl, rfl⟩ := capM_inv h
              have := msL_pos ih _ _ _ e
              unfold Fit
              omega
        · cases h
      · cases h
    · split at h
      · split at h
        · split at h
          · cases h
          · rename_i e
            split at h
            · rename_i z
              obtain ⟨h1, h2, rfl, rfl⟩ := capM_inv h
              have p := ih _ _ _ e
              unfold Fit at p
              have := Int.mul_nonneg z.1 p.2.2.1
              unfold Fit
              omega
            · cases h
        · cases h
      · cases h
    · cases h
def cut (room : Int) : Option (Int × Int) → Option (Int × Int)
  | none => none
  | some (a, b) => if a ≤ room then some (a, b) else none
theorem partsF_eq {n : Nat} (ih : ∀ (d : PyData) (room : Int), room ≤ 400 → szF n d room = cut room (msF n d)) {room : Int} (hr : room ≤ 400) : ∀ (ds : List PyData) (nodes steps : Int), 1 ≤ nodes → nodes ≤ room →
    partsF (szF n) ds nodes steps room = (match msL (msF n) ds with
      | none => none
      | some (a, b) => if nodes + a ≤ room ∧ steps + b ≤ M30 then some (nodes + a, steps + b) else none)
  | [], nodes, steps, h1, h2 => by
    simp only [partsF, msL, within, Int.add_zero, h2, true_and]
  | x :: xs, nodes, steps, h1, h2 => by
    simp only [partsF, msL]
    rw [ih x (room - nodes) (by omega)]
    cases e : msF n x with
    | none => simp only [cut]
    | some ab =>
      obtain ⟨a, b⟩ := ab
      have p := msF_fit n _ _ _ e
      unfold Fit at p
      simp only [cut]
      split
      · rename_i hb
        split at hb
        · cases hb
        · rename_i z
          cases hm : msL (msF n) xs with
          | none => rfl
          | some cd =>
            obtain ⟨c, d⟩ := cd
            have p2 := msL_pos (msF_fit n) _ _ _ hm
            simp only
            rw [if_neg (by omega)]
      · rename_i a' b' hb
        split at hb
        · rename_i z
          cases hb
          rw [partsF_eq ih hr xs (nodes + a) (steps + b) (by omega) (by omega)]
          cases hm : msL (msF n) xs with
          | none => rfl
          | some cd =>
            obtain ⟨c, d⟩ := cd
            simp only [Int.add_assoc]
        · cases hb
theorem szF_eq : ∀ (n : Nat) (d : PyData) (room : Int), room ≤ 400 → szF n d room = cut room (msF n d)
  | 0, d, room, h => rfl
  | n + 1, d, room, h => by
    have ih := szF_eq n
    by_cases hroom : room < 1
    · have e1 : szF (n + 1) d room = none := by
        unfold szF
        rw [if_pos hroom]
      rw [e1]
      cases e : msF (n + 1) d with
      | none => rfl
      | some ab =>
        obtain ⟨a, b⟩ := ab
        have p := msF_fit _ _ _ _ e
        unfold Fit at p
        simp only [cut]
        rw [if_neg (by omega)]
    unfold szF msF
    rw [if_neg hroom]
    split
    · split
      · simp only [cut]
        rw [if_pos (by omega)]
      · rfl
    · split
      · split
        · split
          · rfl
          · rename_i ds _
            rw [partsF_eq ih h ds 1 0 (by omega) (by omega)]
            cases e : msL (msF n) ds with
            | none => rfl
            | some ab =>
              obtain ⟨a, b⟩ := ab
              simp only [Int.zero_add]
              unfold capM
              by_cases z : 1 + a ≤ room ∧ b ≤ M30
              · rw [if_pos z, if_pos (by omega)]
                simp only [cut]
                rw [if_pos z.1]
              · rw [if_neg z]
                split
                · simp only [cut]
                  rw [if_neg (by omega)]
                · rfl
        · rfl
      · rfl
    · split
      · split
        · rename_i x hw c0 c
          split
          · rename_i z
            cases e : msF n x with
            | none => rfl
            | some ab =>
              rfl
          · rename_i z
            have z' := Decidable.not_not.mp z
            rw [ih x (room - 1) (by omega)]
            cases e : msF n x with
            | none => rfl
            | some ab =>
              obtain ⟨a, b⟩ := ab
              simp only
              rw [if_pos z']
              simp only [cut]
              unfold capM
              have hc : b * c = c * b := Int.mul_comm _ _
              by_cases z1 : a ≤ room - 1
              · rw [if_pos z1]
                simp only [within]
                rw [hc, Int.add_comm a 1]
                by_cases z2 : c * b ≤ M30
                · rw [if_pos z2, if_pos (by omega)]
                  simp only [cut]
                  rw [if_pos (by omega)]
                · rw [if_neg z2, if_neg (by omega)]
              · rw [if_neg z1]
                by_cases z2 : 1 + a ≤ 400 ∧ c * b ≤ M30
                · rw [if_pos z2]
                  simp only [cut]
                  rw [if_neg (by omega)]
                · rw [if_neg z2]
        · rfl
      · rfl
    · rfl
theorem isJob_eq (d : PyData) : (szF 13 d 400).isSome = (msF 13 d).isSome := by
  rw [szF_eq 13 d 400 (by omega)]
  cases e : msF 13 d with
  | none => rfl
  | some ab =>
    obtain ⟨a, b⟩ := ab
    have p := msF_fit _ _ _ _ e
    unfold Fit at p
    simp only [cut]
    rw [if_pos (by omega)]
theorem cut_inv {room a b : Int} {o : Option (Int × Int)} (h : cut room o = some (a, b)) : o = some (a, b) := by
  cases o with
  | none => cases h
  | some ab =>
    obtain ⟨a1, b1⟩ := ab
    simp only [cut] at h
    split at h
    · exact h
    · cases h
theorem szF_fit {n : Nat} {d : PyData} {room a b : Int} (hr : room ≤ 400) (h : szF n d room = some (a, b)) : Fit a b := by
  rw [szF_eq n d room hr] at h
  exact msF_fit _ _ _ _ (cut_inv h)
end Lw
/-! Ex: errors: what a clause names, calls that raise nothing after all. -/
namespace Rp
open PySem L2 PyProof.Rows
/-- an error of the class S is what «except T» names, when S stands below T -/
theorem exm_sub {K : PySem.W.Frag} {S T : Addr} {b : Bool} (h1 : PySem.W.subIn K (.ref T) (.type "BaseException") = some true) (h2 : PySem.W.isClsIn K T = true) (h3 : PySem.W.typeIn K (.ref T) = some (.type "type")) (h4 : PySem.W.subIn K (.ref S) (.ref T) = some b) :
    PySem.W.exmOne K (.ref S) (.ref T) = some b := by
  have e1 : (PySem.W.subIn K (.ref T) (.type "BaseException") == some true) = true := by rw [h1] <;> rfl
  have e2 : ((PySem.W.clsIn K T).isSome && PySem.W.typeIn K (.ref T) == some (.type "type")) = true := by
    have h2' : (PySem.W.clsIn K T).isSome = true := h2
    rw [h2', h3] <;> rfl
  show (if (PySem.W.subIn K (.ref T) (.type "BaseException") == some true) = true then (if ((PySem.W.clsIn K T).isSome && PySem.W.typeIn K (.ref T) == some (.type "type")) = true then PySem.W.subIn K (.ref S) (.ref T) else none) else none) = some b
  rw [if_pos e1, if_pos e2]
  exact h4
/-- a def that may raise, called where it does not -/
theorem passN {X : Cx} : Passes (L2.CX X.prog X.w) X E0 := by
  rintro pins σ H s e s' _ ⟨_, _, _, _, _, _, _, _, _, _, _, _, h⟩
  exact h.elim
/-- the heap without what stands at L -/
def mask (H : Hp) (L : Addr) : Hp := fun b => if b = L then none else H b
theorem same_mask (H : Hp) (L : Addr) : Same (mask H L) H := fun b o h => by
  unfold mask at h
  split at h
  · cases h
  · exact h
theorem mask_new {H : Hp} {L : Addr} {o : HO} (h : H L = none) : Same H (mask (upd H L o) L) := fun b u e => by
  have n : b ≠ L := fun z => by rw [z, h] at e; cases e
  show (if b = L then none else upd H L o b) = some u
  rw [if_neg n, upd_ne n]
  exact e
theorem mask_upd {H : Hp} {L : Addr} {o : HO} : mask (upd H L o) L = mask H L := by
  funext b
  unfold mask
  split
  · rfl
  · rename_i n
    exact upd_ne n
theorem mask_mono {H H' : Hp} {L : Addr} (s : Same H H') : Same (mask H L) (mask H' L) := fun b o h => by
  unfold mask at h ⊢
  split at h
  · cases h
  · rename_i n
    rw [if_neg n]
    exact s b o h
theorem mask_at {H : Hp} {L b : Addr} {o : HO} (n : b ≠ L) (h : H b = some o) : mask H L b = some o := by
  unfold mask
  rw [if_neg n]
  exact h
theorem mask_none {H : Hp} {L : Addr} : mask H L L = none := by
  unfold mask
  rw [if_pos rfl]
theorem sx_mask {H : Hp} {L : Addr} : Sx L H (mask H L) := fun b o n h => mask_at n h
end Rp
/-! Ea: several clauses, some with a name for the error (ps_tryA goes the way of the library's ps_try_many and ps_try_as, which it joins); defs that are handed the error that is being handled. -/
namespace Rp
open PySem PySem.Spec L2 PyProof.Rows
abbrev TSA := Addr → Value → Option Addr → TS
/-- what clauses, each with a slot for its name or none, wish of an error of the body -/
def wMA (K : PySem.W.Frag) (Wout : WX) (D : Ends) : List (Value × Option Nat × TSA) → WX
  | [] => Wout
  | (c, none, ts) :: r => fun cls d σ H => ∃ b, PySem.W.exmOne K cls c = some b ∧ (b = true → ∀ a, H a = none → ts a cls d D σ H) ∧ (b = false → wMA K Wout D r cls d σ H)
  | (c, some i, ts) :: r => wAs K c i ts (wMA K Wout D r) D
inductive ClsOk (X : Cx) : List ExceptHandler → List (Value × Option Nat × TSA) → Prop
  | nil : ClsOk X [] []
  | bare {x : Str} {c : Value} {ts : TSA} {b₀ : Stmt} {su : List Stmt} {np pos' : Pos} {hs : List ExceptHandler} {l : List (Value × Option Nat × TSA)} (hc : Names X x c)
      (hsu : ∀ (a : Addr) (oe : Obj) (cls : Value) (d : Option Addr) (pn : List (Addr × Obj)), Zc cls d oe → (∃ vs, oe.data = .fields vs) → PSs (X.suite a ((a, oe) :: pn)) (b₀ :: su) (ts a cls d)) (r : ClsOk X hs l) :
      ClsOk X (.ExceptHandler (some (.Name x np)) none (b₀ :: su) pos' :: hs) ((c, none, ts) :: l)
  | named {x n : Str} {i : Nat} {c : Value} {ts : TSA} {b₀ : Stmt} {su : List Stmt} {np pos' : Pos} {hs : List ExceptHandler} {l : List (Value × Option Nat × TSA)} (hi : X.N[i]? = some n) (hln : X.env.kindOf n = some .local) (hc : Names X x c)
      (hsu : ∀ (a : Addr) (oe : Obj) (cls : Value) (d : Option Addr) (pn : List (Addr × Obj)), Zc cls d oe → (∃ vs, oe.data = .fields vs) → PSs (X.suite a ((a, oe) :: pn)) (b₀ :: su) (ts a cls d)) (r : ClsOk X hs l) :
      ClsOk X (.ExceptHandler (some (.Name x np)) (some n) (b₀ :: su) pos' :: hs) ((c, some i, ts) :: l)
section
variable {X : Cx} {body : List Stmt} {h₀ : ExceptHandler} {hs : List ExceptHandler} {l : List (Value × Option Nat × TSA)} {pos : Pos} {tb : WX → TS} {Wout : WX}
theorem ps_tryA (hst : X.stack = X.env :: X.outer) (hfr0 : X.env.frame = some X.env.locals) (hN : X.N.Nodup) (tk : Takes X Wout)
    (hb : ∀ (W : WX) (pn : List (Addr × Obj)) (xe : Value → Shared → Prop), Takes (X.tr pn xe) W → PassesOwn (model X.prog X.w) X.A X.env xe → PSs (X.tr pn xe) body (tb W))
    (hh : ClsOk X (h₀ :: cls0) l) : PS X (.Try body (h₀ :: cls0) [] [] pos) (fun D σ H => tb (wMA X.K Wout D l) D σ H) := by
  constructor
  intro pins s σ H D I want
  have ok := I.ok
  have frames : X.A.frames = some (X.env :: X.outer) := by rw [ok.frames, hst]
  refine wpAny_Try_except ?_
  refine wpAny_mono ((hb (wMA X.K Wout D l) (X.pn ++ pins) (fun e s₁ => wpAny (model X.prog X.w) X.A (noteFrame e X.env) (fun _ s₂ => wpAny (model X.prog X.w) X.A (setFlight e none) (fun _ s₃ =>
    wpAny (model X.prog X.w) X.A (handleBy e X.env (h₀ :: cls0)) (SP X pins D) X.xe s₃) X.xe s₂) X.xe s₁) (fun u s' up0 => ?caught) PassesOwn.looking).run [] s σ H D (I.toTry _) want) (fun f s1 out => ?went) (fun e s1 he => he)
  case went =>
    cases f with
    | next => obtain ⟨σ', H', It, q⟩ := out; exact wpAny_execs_nil ⟨σ', H', It.ofTry ok, q⟩
    | brk => obtain ⟨σ', H', It, q⟩ := out; exact ⟨σ', H', It.ofTry ok, q⟩
    | cont => obtain ⟨σ', H', It, q⟩ := out; exact ⟨σ', H', It.ofTry ok, q⟩
    | ret u => obtain ⟨v, σ', H', It, r, q⟩ := out; exact ⟨v, σ', H', It.ofTry ok, r, q⟩
  case caught =>
    obtain ⟨a, B, s0, ps0, σ', H', cls, d, rfl, It, apart, up, above, na, os, ag, w⟩ := up0
    have I1 : Inv X pins σ' H' s0 := It.ofTry ok
    have sky' : Sky B (X.env :: X.outer) a (Zc cls d) X.env.locals s'.heap := by rw [← hst]; exact above
    show wpAny (model X.prog X.w) X.A (noteFrame (.ref a) X.env) _ _ _
    refine Sky.land Zc.steady frames hfr0 sky' fun h3 land3 u3 => ?_
    have I3 : Inv X pins σ' H' { s' with heap := h3 } := I1.landed apart land3.1 (up.trans u3) os ag
    obtain ⟨o3, f3, g3, z3, k3⟩ := land3.there
    have offFr : a ∉ frs (X.env :: X.outer) := fun hm => by
      obtain ⟨_, o', e', hnf⟩ := land3.2.2.1.mem hm
      rw [g3] at e'
      cases e'
      exact hnf _ k3
    have offL : a ≠ X.env.locals := fun z => offFr (List.mem_filterMap.mpr ⟨X.env, List.mem_cons_self, by rw [hfr0, z]⟩)
    have offF : a ∉ X.fs := fun hm => by
      obtain ⟨e, he, q⟩ := List.mem_filterMap.mp hm
      exact offFr (List.mem_filterMap.mpr ⟨e, List.mem_cons_of_mem _ he, q⟩)
    have In3 := I3.suite g3 k3 na offL offF
    have looks : PySem.W.Looks (model X.prog X.w) h3 (typeOf (.ref a)) cls := fun A Q E s k q => wpAny_typeOf_ref (k _ _ g3) (by rw [z3.1]; exact q)
    have test : ∀ {x : Str} {c : Value} {np : Pos} {Q : Value → Shared → Prop} {E : Value → Shared → Prop}, Names X x c → Q c { s' with heap := h3 } → wpAny (model X.prog X.w) (X.A.mark (some (.ref a))) (eval (.Name x np) X.env) Q E { s' with heap := h3 } := fun {x c np Q E} hc q => by
      obtain ⟨hg, dbg, hm | ⟨hm, hv, nm⟩⟩ := hc
      · exact ld_glob (X := X.suite a ((a, o3) :: (X.pn ++ pins))) In3 hg hm q dbg
      · exact ld_blt (X := X.suite a ((a, o3) :: (X.pn ++ pins))) In3 hg hm hv q nm dbg
    have go : ∀ {hs' : List ExceptHandler} {l' : List (Value × Option Nat × TSA)}, ClsOk X hs' l' → wMA X.K Wout D l' cls d σ' H' →
        wpAny (model X.prog X.w) X.A (handleBy (.ref a) X.env hs') (SP X pins D) X.xe { s' with heap := h3 } := by
      intro hs' l' hk
      induction hk with
      | nil =>
        intro w
        refine wpAny_handleBy_nil ?_
        obtain ⟨_, _, _, oe, vs, T, oT, _, he, hz, hd, h1, hr⟩ := id land3
        unfold PySem.passOn
        refine wpAny_bind (wpAny_field he hd h1 ?_)
        rw [if_neg (show ¬ ((Value.ref T == Value.none) = true) from by simp)]
        have leave : wpAny (model X.prog X.w) X.A (setFlight (.ref a) X.env.frame) (fun _ s4 => wpAny (model X.prog X.w) X.A (throw (.ref a) : Sem Flow) (SP X pins D) X.xe s4) X.xe { s' with heap := h3 } := by
          rw [hfr0]
          refine HandSPX.setFlight_upZ land3 fun h4 hh4 u4 => wpAny_throw (tk _ _ ?_)
          exact ⟨a, B, s0, pins, σ', H', cls, d, rfl, I1, apart, (up.trans u3).trans u4, .inr (.inr (by rw [hst]; exact hh4)), na, os, ag, w⟩
        first
          | exact wpAny_bind (wpAny_pure (wpAny_bind leave))
          | exact wpAny_bind leave
      | @bare x c ts b₀ su np pos' hs2 l2 hc hsu r ih =>
        intro w
        obtain ⟨b, says, then_, else_⟩ := w
        refine wpAny_handleBy_cons (codeAny_handlers_test ?_) (by intro q; cases q)
        refine test hc ((PySem.W.exm_one (M := model X.prog X.w) I3.kIn looks says).here ?_)
        cases b with
        | false => exact ih (else_ rfl)
        | true =>
          refine codeAny_handlers_suite ?_
          refine HandSPX.lands_againZ land3 fun h4 land4 u4 => ?_
          have I4 : Inv X pins σ' H' { s' with heap := h4 } := I1.landed apart land4.1 ((up.trans u3).trans u4) os ag
          obtain ⟨o4, f4, g4, z4, k4⟩ := land4.there
          have In4 := I4.suite g4 k4 na offL offF
          refine wpAny_mono ((hsu a o4 cls d (X.pn ++ pins) z4 ⟨_, k4⟩).run [] _ _ H' _ In4 (then_ rfl a na)) (fun f s6 out => ?_) (fun _ _ z => False.elim z)
          cases f with
          | next => obtain ⟨σ6, H6, In6, q6⟩ := out; exact ⟨_, _, In6.unsuite ok, q6⟩
          | brk => obtain ⟨σ6, H6, In6, q6⟩ := out; exact ⟨_, _, In6.unsuite ok, q6⟩
          | cont => obtain ⟨σ6, H6, In6, q6⟩ := out; exact ⟨_, _, In6.unsuite ok, q6⟩
          | ret u => obtain ⟨v6, σ6, H6, In6, r6, q6⟩ := out; exact ⟨_, _, _, In6.unsuite ok, r6, q6⟩
      | @named x n i c ts b₀ su np pos' hs2 l2 hi hln hc hsu r ih =>
        intro w
        obtain ⟨b, says, then_, else_⟩ := w
        refine wpAny_handleBy_cons (codeAny_handlers_test ?_) (by intro q; cases q)
        refine test hc ((PySem.W.exm_one (M := model X.prog X.w) I3.kIn looks says).here ?_)
        cases b with
        | false => exact ih (else_ rfl)
        | true =>
          refine codeAny_handlers_suite_as ?_
          refine HandSPX.lands_againZ land3 fun h4 land4 u4 => ?_
          have I4 : Inv X pins σ' H' { s' with heap := h4 } := I1.landed apart land4.1 ((up.trans u3).trans u4) os ag
          obtain ⟨o4, f4, g4, z4, k4⟩ := land4.there
          have In4 := I4.suite g4 k4 na offL offF
          refine store_ok (X := X.suite a ((a, o4) :: (X.pn ++ pins))) (v := .ref a) In4 hN hi (.inl hln) rfl (fun s5 In5 => ?_) (.inr hln)
          refine wpAny_mono ((hsu a o4 cls d (X.pn ++ pins) z4 ⟨_, k4⟩).run [] s5 _ H' _ In5 (then_ rfl a na)) (fun f s6 out => ?_) (fun _ _ z => False.elim z)
          have end_ : ∀ {σ6 : L2.St} {H6 : Hp} {Q : Shared → Prop}, Inv (X.suite a ((a, o4) :: (X.pn ++ pins))) [] σ6 H6 s6 → (∀ s7, Inv X pins (σ6.set i none) H6 s7 → Q s7) →
              wpAny (model X.prog X.w) X.A (do bindName X.env n .none; unbindBehindTheSuite X.env n pos') (fun _ s7 => Q s7) X.xe s6 := fun In6 hq => gone_ok (In6.unsuite ok) hN hi hln hq
          cases f with
          | next => obtain ⟨σ6, H6, In6, q6⟩ := out; exact end_ In6 fun s7 J7 => ⟨_, _, J7, q6⟩
          | brk => obtain ⟨σ6, H6, In6, q6⟩ := out; exact end_ In6 fun s7 J7 => ⟨_, _, J7, q6⟩
          | cont => obtain ⟨σ6, H6, In6, q6⟩ := out; exact end_ In6 fun s7 J7 => ⟨_, _, J7, q6⟩
          | ret u => obtain ⟨v6, σ6, H6, In6, r6, q6⟩ := out; exact end_ In6 fun s7 J7 => ⟨_, _, _, J7, r6, q6⟩
    exact go hh w
end

/-! ### defs that are handed the error -/
/-- a def called in an except suite, told by the error: its address, its class, its dict -/
abbrev SpE := Addr → Value → Option Addr → Sp
structure FnE (P : Program) (w : World) (K : PySem.W.Frag) (mg : Str → Option Value) (base : Heap) (CX : CXT) (k : Nat) (f : Addr) (fd : FuncData) (ps : List Str) (sp : SpE) : Prop where
  len : ∀ a cls d vs H Q E, sp a cls d vs H Q E → vs.length = ps.length
  run : ∀ (A : Around) (outer : List Env) (s : Shared) (H : Hp) (args : Args) (us : List Value) (vs : List V) (Q : VK) (E : XK) (p : Addr × Obj) (cls : Value) (d : Option Addr), L2H.RoomH k A → L2H.PinOk outer H s p → Zc cls d p.2 → (∃ fs, p.2.data = .fields fs) →
    Env0 P w K mg base A outer s H → BindsTo s fd args (ps.zip us) → Vals vs us → sp p.1 cls d vs H Q E → codeAny (model P w) A (.call (.ref f) args) (CR CX outer P w H s Q E) s
section
variable {P : Program} {w : World} {K : PySem.W.Frag} {mg : Str → Option Value} {base : Heap}
theorem okE {CX : CXT} {name qual : Str} {st : Stmt} {f : Addr} {fd : FuncData} {N ps : List Str} {k : Nat} {sp : SpE} (F : Fun K name qual st f fd) (S : FnScope N ps (defScope st))
    (hlen : ∀ a cls d vs H Q E, sp a cls d vs H Q E → vs.length = ps.length)
    (hb : ∀ (cdv : Value) (A : Around) (outer : List Env) (s : Shared) (H : Hp) (vs : List V) (Q : VK) (E : XK) (p : Addr × Obj) (cls : Value) (d : Option Addr), Zc cls d p.2 → (∃ fs, p.2.data = .fields fs) →
      L2H.RoomH k (A.deeper (envOfC qual (defScope st) s.heap.objs.size f cdv)) → sp p.1 cls d vs H Q E →
      ∃ t, PSs (L2H.cxH CX P w K mg base N qual (defScope st) f cdv A outer s H E p) (defBody st) t ∧
        t { nx := fun _ H' => Q .non H', rt := Q } (start N vs) H) : FnE P w K mg base CX (k + 1) f fd ps sp := by
  obtain ⟨oc, od, kV, doc, pm, an, cdv, ct, osl, rfl, lk, hcd⟩ := F.ex
  refine ⟨hlen, fun A outer s H args us vs Q E p cls d room pin hz hf en bd rv want => ?_⟩
  have kin : K.In s.heap := en.mod.kin.keeps fun b o z => (en.bs b o z).1
  have nolim : s.heap.NoLimit := en.mod.nolimit.keeps fun b o z => (en.bs b o z).1
  have hl := hlen _ _ _ _ _ _ _ want
  refine Att.call_fn kin nolim lk hcd room.depth bd ?_ (fun s1 ic => ?_) S.co S.gen S.kind
  · refine List.all_eq_true.mpr fun y hy => ?_
    obtain ⟨a, b⟩ := y
    rcases S.par a (List.of_mem_zip hy).1 with z | z
    · simp [z]
    · simp [z]
  · obtain ⟨t, ht, hq⟩ := hb cdv A outer s H vs Q E p cls d hz hf (room.deeper _) want
    have I := L2H.inv_startH (CX := CX) (P := P) (w := w) (K := K) (mg := mg) (base := base) (E := E) S pin en hl rv ic
    refine wpAny_mono (ht.run [] s1 (start N vs) H _ I hq) (fun fl s' hs => ?_) (fun e s' hs => hs)
    cases fl with
    | ret u =>
      obtain ⟨v, σ', H', J, rr, q⟩ := hs
      exact ⟨v, H', J.os, J.bare, J.base, J.hok, rr, q⟩
    | next =>
      obtain ⟨σ', H', J, q⟩ := hs
      exact ⟨V.non, H', J.os, J.bare, J.base, J.hok, rfl, q⟩
    | brk =>
      obtain ⟨_, _, _, q⟩ := hs
      exact False.elim q
    | cont =>
      obtain ⟨_, _, _, q⟩ := hs
      exact False.elim q
end
section
variable {X : Cx} {CX : CXT} {k : Nat} {f : Addr} {fd : FuncData} {ps : List Str} {sp : SpE} {E : L2.St → XK} {x : Str} {q pos : Pos} {e : Expr} {es : List Expr} {t : TA} {a : Addr} {oe : Obj} {cls : Value} {d : Option Addr} {pn : List (Addr × Obj)}
theorem pe_callE (F : FnE X.prog X.w X.K X.mg X.base CX k f fd ps sp) (hr : L2H.RoomH k X.A) (hz : Zc cls d oe) (hf : ∃ vs, oe.data = .fields vs) (hg : Gl X x) (hm : X.mg x = some (.ref f)) (hk : PySem.W.keepIn X.K (.ref f) = true) (hb : Binds X.K fd ps [])
    (hx : ∀ σ, PassesAt CX (X.suite a ((a, oe) :: pn)) σ (E σ))
    (ha : PA (X.suite a ((a, oe) :: pn)) (e :: es) t) (hdb : (x == ("__debug__" : Str)) = false := by decide) (he : starEach (e :: es) X.env = (false, eval e X.env) :: starEach es X.env := by rfl) (hpl : (backTo pos (starEach es X.env)).any (·.1) = false := by rfl) :
    PE (X.suite a ((a, oe) :: pn)) (.Call (.Name x q) (e :: es) [] pos) (tCallS (sp a cls d) E t) := by
  constructor
  intro pins s σ H Q I want
  refine wpAny_Call_Name_kw (ld_glob (X := X.suite a ((a, oe) :: pn)) I hg hm ?_ hdb)
  refine PySem.W.callWith_K (h₀ := X.base) I.ok.mod.kin hk (thn (ha.run pos pins s σ H _ I want) ?_) he hpl
  rintro us s1 ⟨vs, H1, I1, rv, q⟩
  refine ⟨I1.kIn, ?_⟩
  have hl : us.length = ps.length := by
    rw [← rv.length]
    exact F.len _ _ _ _ _ _ _ q
  have b := hb s1 us I1.kIn (by rw [List.append_nil]; exact hl)
  rw [List.append_nil] at b
  have P1 := I1.pin (a, oe) (List.mem_append_left _ List.mem_cons_self)
  have pin : L2H.PinOk X.stack H1 s1 (a, oe) := ⟨P1.1, P1.2.1, fun hm => (List.mem_cons.mp (I1.stkSub a hm)).elim P1.2.2.1 P1.2.2.2.1, P1.2.2.2.2⟩
  refine wpAny_call (codeAny_mono (F.run (X.A.mark (some (.ref a))) X.stack s1 H1 ⟨us, []⟩ us vs Q (E σ) (a, oe) cls d ⟨hr.dp, hr.un⟩ pin hz hf I1.env0 b rv q) fun r s' hq => ?_)
  cases r with
  | error e => exact hx σ pins H1 s1 e s' I1 hq
  | ok fl =>
    cases fl with
    | ret u => exact I1.after hq
    | next => exact False.elim hq
    | brk => exact False.elim hq
    | cont => exact False.elim hq
/-- isinstance of an error that stands in the state, by its class -/
theorem cr_isE {X : Cx} {a D : Addr} {oe : Obj} (C : ExcC X.K D) (hm : (a, oe) ∈ X.pn) (hz : Zc (.ref D) none oe) (hf : ∃ vs, oe.data = .fields vs) : CallR X (.builtin "isinstance") (rIsE X.K D a) := by
  intro pins s σ H xs us Q I r h
  obtain ⟨c, cv, b, rfl, hcv, e, q⟩ := h
  cases r with
  | cons rx rr =>
    cases rr with
    | cons rt rr =>
      cases rr
      cases rx
      obtain rfl := hcv _ rt
      obtain ⟨hget, _⟩ := I.pin (a, oe) (List.mem_append.mpr (.inl hm))
      obtain ⟨vs, hv⟩ := hf
      obtain ⟨oc, od, oda, osl⟩ := oe
      obtain ⟨h1, h2⟩ := hz
      dsimp only at h1 h2 hv
      subst h1 h2 hv
      exact PySem.W.kia_one (PySem.W.handS_kitx_exc C.hg C.hk C.hs C.hd C.ha C.hn C.ht C.hm) I.kIn ⟨hget, rfl, rfl, trivial⟩ e (fun z => nomatch z) fun tk => ⟨.bl b, H, I.kept (t' := tk) fun _ _ z => z, rfl, q⟩
/-- a rule that is never asked -/
theorem cr_never {X : Cx} {f : Value} : CallR X f (fun _ _ _ => False) := fun _ _ _ _ _ _ _ _ _ h => False.elim h
theorem passE0 {X : Cx} {E : L2.St → XK} : ∀ σ, PassesAt CX0 X σ (E σ) := fun _ _ _ _ _ _ _ h => False.elim h
end
/-- isinstance by the class's line: what the written part tells of both -/
theorem kit_of {K : PySem.W.Frag} {C D : Addr} {b : Bool} (h : PySem.W.subIn K (.ref C) (.ref D) = some b) (hc : PySem.W.subIn K (.ref C) (.ref C) = some true) (i : PySem.W.isClsIn K D = true) (t : PySem.W.typeIn K (.ref D) = some (.type "type")) : PySem.W.kitOne K (.ref C) (.ref D) = some b := by
  have e : ((PySem.W.clsIn K D).isSome && PySem.W.typeIn K (.ref D) == some (.type "type")) = true := by
    have i' : (PySem.W.clsIn K D).isSome = true := i
    rw [i', t] <;> rfl
  unfold PySem.W.kitOne
  split
  · rename_i z
    obtain rfl : C = D := by simpa using z
    rw [hc] at h
    exact h
  · show (if ((PySem.W.clsIn K D).isSome && PySem.W.typeIn K (.ref D) == some (.type "type")) = true then PySem.W.subIn K (.ref C) (.ref D) else none) = some b
    rw [if_pos e]
    exact h
/-! ### a def picked out of data, called -/
structure HeldX (P : Program) (w : World) (K : PySem.W.Frag) (mg : Str → Option Value) (base : Heap) (k : Nat) (f : Addr) (sp : Sp) : Prop where
  ex : ∃ (fd : FuncData) (ps : List Str), FnOk P w K mg base (L2.CX P w) k f fd ps sp ∧ PySem.W.keepIn K (.ref f) = true ∧ Binds K fd ps []
def tCallP (S : Addr → Sp → Prop) (W : WX) (tf : TE) (t : TA) : TE := fun σ H Q => tf σ H fun v H1 => ∃ f sp, v = .ref f ∧ S f sp ∧ t σ H1 fun vs H2 => sp vs H2 Q (WE W σ)
section
variable {X : Cx} {k : Nat} {W : WX} {S : Addr → Sp → Prop} {fe e : Expr} {es : List Expr} {pos : Pos} {tf : TE} {t : TA}
theorem pe_callP (A : ∀ f sp, S f sp → HeldX X.prog X.w X.K X.mg X.base k f sp) (hr : Room k X.A) (tk : Takes X W) (hf : PE X fe tf) (ha : PA X (e :: es) t)
    (hc : eval (.Call fe (e :: es) [] pos) X.env = (do callWith pos (← eval fe X.env) [] (backTo pos (starEach (e :: es) X.env)) (backToKw pos (keywordEach [] X.env))) := by rfl)
    (he : starEach (e :: es) X.env = (false, eval e X.env) :: starEach es X.env := by rfl) (hpl : (backTo pos (starEach es X.env)).any (·.1) = false := by rfl) : PE X (.Call fe (e :: es) [] pos) (tCallP S W tf t) := by
  constructor
  intro pins s σ H Q I want
  refine Call_ (thn (hf.run pins s σ H _ I want) ?_) hc
  rintro u s1 ⟨v, H1, I1, rv, f, sp, rfl, hS, q⟩
  obtain rfl : u = Value.ref f := rv
  obtain ⟨fd, ps, F, hk, hb⟩ := (A f sp hS).ex
  refine PySem.W.callWith_K (h₀ := X.base) I.ok.mod.kin hk (thn (ha.run pos pins s1 σ H1 _ I1 q) ?_) he hpl
  rintro us s2 ⟨vs, H2, I2, r, q2⟩
  exact ⟨I2.kIn, run_fnS F hr hb (passAt tk σ) I2 r q2⟩
/-! ### list.count, flat items -/
def rCntF (K : PySem.W.Frag) : V → List V → Hp → VK → Prop := fun x xs H Q => ∃ (a : Addr) (ys : List V) (y : V), x = V.ref a ∧ xs = [y] ∧ SqL K H a ys ∧ flatV y = true ∧ ys.all flatV = true ∧ Q (.int ((ys.countP fun z => eqV z y : Nat) : Int)) H
theorem countP_eq {y : V} {uy : Value} : ∀ {ys : List V} {its : List Value}, Vals ys its → (∀ z u, z ∈ ys → RelV z u → eqU y u = eqV z y) → its.countP (eqU y) = ys.countP fun z => eqV z y := by
  intro ys its r
  induction r with
  | nil => intro _; rfl
  | cons r rs ih =>
    intro h
    rw [List.countP_cons, List.countP_cons, ih fun z' u' hz => h z' u' (List.mem_cons_of_mem _ hz), h _ _ (List.mem_cons_self ..) r]
theorem mt_cntF : MtR X "list.count" (rCntF X.K) := by
  intro pins s σ H x xs v us Q I rx rxs h
  obtain ⟨a, ys, y, rfl, rfl, hs, fy, fys, q⟩ := h
  cases rx
  cases rxs with
  | cons ry rt =>
    rename_i uy ut
    cases rt
    obtain ⟨its, rv, ⟨⟨cls, dd, data, sl⟩, n, ho, hc, hdn, hd⟩, hlen⟩ := I.list hs
    simp only at hc hd
    subst hc hd
    refine call_meets PySem.F.slot_list_count ⟨_, ho, rfl⟩ PySem.F.entry_list_count (PySem.F.args_list_count_2 _ _)
      (SeqAt.list_countAt a its.toArray n dd sl uy (eqU y)) ⟨ho, fun u' hu' => mem_eqAt ry fy rv fys u' (by simpa using hu'), ?_⟩
    have e : its.toArray.toList.countP (eqU y) = ys.countP fun z => eqV z y := countP_eq (uy := uy) rv fun z u hz r => eqU_of r (List.all_eq_true.mp fys z hz)
    refine ⟨.int ((ys.countP fun z => eqV z y : Nat) : Int), H, I.tok _, ⟨s.toks, ?_⟩, q⟩
    show Value.int ((its.toArray.toList.countP (eqU y) : Nat) : Int) s.toks = Value.int (((ys.countP fun z => eqV z y : Nat)) : Int) s.toks
    rw [e]
end
end Rp
namespace Lw
open PySem L2 Rp
local macro_rules | `(tactic| walk_at "rd") => `(tactic| repeat (first | refine ⟨_, rfl, ?_⟩ | refine ⟨_, _, rfl, rfl, ?_⟩))
def top (i : Nat) : Stmt := PySem.Challenge.pw_roomprofile_k06_jobs_refused.main.body.getD i (.Pass ⟨0, 0, 0, 0⟩)
abbrev s_is_integer : Stmt := top 8
abbrev N_is_integer : List Str := ["value"]
theorem sc_is_integer : FnScope N_is_integer ["value"] (defScope s_is_integer) := ⟨rfl, rfl, rfl, by decide +kernel, rfl, by decide +kernel, by decide +kernel⟩
abbrev s_is_within : Stmt := top 9
abbrev N_is_within : List Str := ["value", "least", "greatest"]
theorem sc_is_within : FnScope N_is_within ["value", "least", "greatest"] (defScope s_is_within) := ⟨rfl, rfl, rfl, by decide +kernel, rfl, by decide +kernel, by decide +kernel⟩
abbrev s_is_job : Stmt := top 17
abbrev N_is_job : List Str := ["value"]
theorem sc_is_job : FnScope N_is_job ["value"] (defScope s_is_job) := ⟨rfl, rfl, rfl, by decide +kernel, rfl, by decide +kernel, by decide +kernel⟩
abbrev s_node_count : Stmt := top 18
abbrev N_node_count : List Str := ["job"]
theorem sc_node_count : FnScope N_node_count ["job"] (defScope s_node_count) := ⟨rfl, rfl, rfl, by decide +kernel, rfl, by decide +kernel, by decide +kernel⟩
abbrev s_step_count : Stmt := top 19
abbrev N_step_count : List Str := ["job"]
theorem sc_step_count : FnScope N_step_count ["job"] (defScope s_step_count) := ⟨rfl, rfl, rfl, by decide +kernel, rfl, by decide +kernel, by decide +kernel⟩
abbrev s_is_empty : Stmt := top 20
abbrev N_is_empty : List Str := ["job"]
theorem sc_is_empty : FnScope N_is_empty ["job"] (defScope s_is_empty) := ⟨rfl, rfl, rfl, by decide +kernel, rfl, by decide +kernel, by decide +kernel⟩
abbrev s_net : Stmt := top 21
abbrev N_net : List Str := ["job"]
theorem sc_net : FnScope N_net ["job"] (defScope s_net) := ⟨rfl, rfl, rfl, by decide +kernel, rfl, by decide +kernel, by decide +kernel⟩
abbrev s_lowest : Stmt := top 22
abbrev N_lowest : List Str := ["job"]
theorem sc_lowest : FnScope N_lowest ["job"] (defScope s_lowest) := ⟨rfl, rfl, rfl, by decide +kernel, rfl, by decide +kernel, by decide +kernel⟩
abbrev s_mirror : Stmt := top 23
abbrev N_mirror : List Str := ["job"]
theorem sc_mirror : FnScope N_mirror ["job"] (defScope s_mirror) := ⟨rfl, rfl, rfl, by decide +kernel, rfl, by decide +kernel, by decide +kernel⟩
abbrev s_tidy : Stmt := top 24
abbrev N_tidy : List Str := ["job", "result"]
theorem sc_tidy : FnScope N_tidy ["job"] (defScope s_tidy) := ⟨rfl, rfl, rfl, by decide +kernel, rfl, by decide +kernel, by decide +kernel⟩
abbrev s_checked_sizes : Stmt := top 25
abbrev N_checked_sizes : List Str := ["job", "sizes"]
theorem sc_checked_sizes : FnScope N_checked_sizes ["job"] (defScope s_checked_sizes) := ⟨rfl, rfl, rfl, by decide +kernel, rfl, by decide +kernel, by decide +kernel⟩
abbrev s_steps_of_leaf : Stmt := top 26
abbrev N_steps_of_leaf : List Str := ["value"]
theorem sc_steps_of_leaf : FnScope N_steps_of_leaf ["value"] (defScope s_steps_of_leaf) := ⟨rfl, rfl, rfl, by decide +kernel, rfl, by decide +kernel, by decide +kernel⟩
abbrev s_sizes_of : Stmt := top 27
abbrev N_sizes_of : List Str := ["value", "leaf_steps"]
theorem sc_sizes_of : FnScope N_sizes_of ["value", "leaf_steps"] (defScope s_sizes_of) := ⟨rfl, rfl, rfl, by decide +kernel, rfl, by decide +kernel, by decide +kernel⟩
abbrev s__sizes : Stmt := top 28
abbrev N__sizes : List Str := ["value", "leaf_steps", "room", "levels", "steps"]
theorem sc__sizes : FnScope N__sizes ["value", "leaf_steps", "room", "levels"] (defScope s__sizes) := ⟨rfl, rfl, rfl, by decide +kernel, rfl, by decide +kernel, by decide +kernel⟩
abbrev s__sizes_of_parts : Stmt := top 29
abbrev N__sizes_of_parts : List Str := ["parts", "leaf_steps", "room", "levels", "nodes", "steps", "part", "sizes"]
theorem sc__sizes_of_parts : FnScope N__sizes_of_parts ["parts", "leaf_steps", "room", "levels"] (defScope s__sizes_of_parts) := ⟨rfl, rfl, rfl, by decide +kernel, rfl, by decide +kernel, by decide +kernel⟩
abbrev s__sizes_of_rounds : Stmt := top 30
abbrev N__sizes_of_rounds : List Str := ["n", "inner", "leaf_steps", "room", "levels", "sizes"]
theorem sc__sizes_of_rounds : FnScope N__sizes_of_rounds ["n", "inner", "leaf_steps", "room", "levels"] (defScope s__sizes_of_rounds) := ⟨rfl, rfl, rfl, by decide +kernel, rfl, by decide +kernel, by decide +kernel⟩
abbrev s__within_count : Stmt := top 31
abbrev N__within_count : List Str := ["nodes", "steps"]
theorem sc__within_count : FnScope N__within_count ["nodes", "steps"] (defScope s__within_count) := ⟨rfl, rfl, rfl, by decide +kernel, rfl, by decide +kernel, by decide +kernel⟩
abbrev s__net_and_lowest : Stmt := top 32
abbrev N__net_and_lowest : List Str := ["job", "pairs", "n", "inner_net", "inner_low", "part", "pair"]
theorem sc__net_and_lowest : FnScope N__net_and_lowest ["job"] (defScope s__net_and_lowest) := ⟨rfl, rfl, rfl, by decide +kernel, rfl, by decide +kernel, by decide +kernel⟩
abbrev s__net_and_lowest_of_seq : Stmt := top 33
abbrev N__net_and_lowest_of_seq : List Str := ["parts", "before", "low", "part", "part_net", "part_low"]
theorem sc__net_and_lowest_of_seq : FnScope N__net_and_lowest_of_seq ["parts"] (defScope s__net_and_lowest_of_seq) := ⟨rfl, rfl, rfl, by decide +kernel, rfl, by decide +kernel, by decide +kernel⟩
abbrev s_mirrored : Stmt := top 34
abbrev N_mirrored : List Str := ["job", "parts", "part"]
theorem sc_mirrored : FnScope N_mirrored ["job"] (defScope s_mirrored) := ⟨rfl, rfl, rfl, by decide +kernel, rfl, by decide +kernel, by decide +kernel⟩
abbrev s_tidied : Stmt := top 35
abbrev N_tidied : List Str := ["job", "part"]
theorem sc_tidied : FnScope N_tidied ["job"] (defScope s_tidied) := ⟨rfl, rfl, rfl, by decide +kernel, rfl, by decide +kernel, by decide +kernel⟩
abbrev s__tidied_parts : Stmt := top 36
abbrev N__tidied_parts : List Str := ["kind", "tidy_parts", "parts", "part"]
theorem sc__tidied_parts : FnScope N__tidied_parts ["kind", "tidy_parts"] (defScope s__tidied_parts) := ⟨rfl, rfl, rfl, by decide +kernel, rfl, by decide +kernel, by decide +kernel⟩
abbrev s__grouped : Stmt := top 37
abbrev N__grouped : List Str := ["parts", "kinds", "counts", "part", "n", "inner"]
theorem sc__grouped : FnScope N__grouped ["parts"] (defScope s__grouped) := ⟨rfl, rfl, rfl, by decide +kernel, rfl, by decide +kernel, by decide +kernel⟩
abbrev s__tidied_rounds : Stmt := top 38
abbrev N__tidied_rounds : List Str := ["kind", "n", "inner"]
theorem sc__tidied_rounds : FnScope N__tidied_rounds ["kind", "n", "inner"] (defScope s__tidied_rounds) := ⟨rfl, rfl, rfl, by decide +kernel, rfl, by decide +kernel, by decide +kernel⟩
abbrev s__has_kind : Stmt := top 39
abbrev N__has_kind : List Str := ["job", "kind"]
theorem sc__has_kind : FnScope N__has_kind ["job", "kind"] (defScope s__has_kind) := ⟨rfl, rfl, rfl, by decide +kernel, rfl, by decide +kernel, by decide +kernel⟩
abbrev s__law_pot : Stmt := top 41
abbrev N__law_pot : List Str := ["_law_script", "_law_k", "_law_cell", "_law_mixed"]
theorem sc__law_pot : FnScope N__law_pot ["_law_script", "_law_k"] (defScope s__law_pot) := ⟨rfl, rfl, rfl, by decide +kernel, rfl, by decide +kernel, by decide +kernel⟩
abbrev s__law_take : Stmt := top 42
abbrev N__law_take : List Str := ["_law_pot_here", "_law_many", "_law_found", "_law_one", "_law_other"]
theorem sc__law_take : FnScope N__law_take ["_law_pot_here", "_law_many"] (defScope s__law_take) := ⟨rfl, rfl, rfl, by decide +kernel, rfl, by decide +kernel, by decide +kernel⟩
abbrev s__law_step : Stmt := top 43
abbrev N__law_step : List Str := ["_law_pot_here", "_law_way", "_law_great"]
theorem sc__law_step : FnScope N__law_step ["_law_pot_here"] (defScope s__law_step) := ⟨rfl, rfl, rfl, by decide +kernel, rfl, by decide +kernel, by decide +kernel⟩
abbrev s__law_job : Stmt := top 44
abbrev N__law_job : List Str := ["_law_pot_here", "_law_deep", "_law_counts", "_law_way", "_law_many", "_law_turn"]
theorem sc__law_job : FnScope N__law_job ["_law_pot_here", "_law_deep", "_law_counts"] (defScope s__law_job) := ⟨rfl, rfl, rfl, by decide +kernel, rfl, by decide +kernel, by decide +kernel⟩
abbrev s__law_bent : Stmt := top 45
abbrev N__law_bent : List Str := ["_law_pot_here", "_law_job_here", "_law_deep", "_law_words", "_law_odd", "_law_lone", "_law_word_here", "_law_way", "_law_some", "_law_at"]
theorem sc__law_bent : FnScope N__law_bent ["_law_pot_here", "_law_job_here", "_law_deep"] (defScope s__law_bent) := ⟨rfl, rfl, rfl, by decide +kernel, rfl, by decide +kernel, by decide +kernel⟩
abbrev s__law_word : Stmt := top 46
abbrev N__law_word : List Str := ["_law_caught", "_law_few"]
theorem sc__law_word : FnScope N__law_word ["_law_caught"] (defScope s__law_word) := ⟨rfl, rfl, rfl, by decide +kernel, rfl, by decide +kernel, by decide +kernel⟩
abbrev s__law_told : Stmt := top 47
abbrev N__law_told : List Str := ["_law_way", "_law_value", "e"]
theorem sc__law_told : FnScope N__law_told ["_law_way", "_law_value"] (defScope s__law_told) := ⟨rfl, rfl, rfl, by decide +kernel, rfl, by decide +kernel, by decide +kernel⟩
abbrev s_law : Stmt := top 48
abbrev N_law : List Str := ["_law_script", "_law_job_here", "_law_k", "_law_pot_here", "_law_value", "_law_some", "_law_odd", "_law_kept", "_law_way"]
theorem sc_law : FnScope N_law ["_law_script"] (defScope s_law) := ⟨rfl, rfl, rfl, by decide +kernel, rfl, by decide +kernel, by decide +kernel⟩
structure Txt (K : PySem.W.Frag) (mg : Str → Option Value) where
  f_is_integer : Addr
  d_is_integer : FuncData
  F_is_integer : Fun K "is_integer" "is_integer" s_is_integer f_is_integer d_is_integer
  b_is_integer : Binds K d_is_integer ["value"] []
  m_is_integer : mg "is_integer" = some (.ref f_is_integer)
  f_is_within : Addr
  d_is_within : FuncData
  F_is_within : Fun K "is_within" "is_within" s_is_within f_is_within d_is_within
  b_is_within : Binds K d_is_within ["value", "least", "greatest"] []
  m_is_within : mg "is_within" = some (.ref f_is_within)
  f_is_job : Addr
  d_is_job : FuncData
  F_is_job : Fun K "is_job" "is_job" s_is_job f_is_job d_is_job
  b_is_job : Binds K d_is_job ["value"] []
  m_is_job : mg "is_job" = some (.ref f_is_job)
  f_node_count : Addr
  d_node_count : FuncData
  F_node_count : Fun K "node_count" "node_count" s_node_count f_node_count d_node_count
  b_node_count : Binds K d_node_count ["job"] []
  m_node_count : mg "node_count" = some (.ref f_node_count)
  f_step_count : Addr
  d_step_count : FuncData
  F_step_count : Fun K "step_count" "step_count" s_step_count f_step_count d_step_count
  b_step_count : Binds K d_step_count ["job"] []
  m_step_count : mg "step_count" = some (.ref f_step_count)
  f_is_empty : Addr
  d_is_empty : FuncData
  F_is_empty : Fun K "is_empty" "is_empty" s_is_empty f_is_empty d_is_empty
  b_is_empty : Binds K d_is_empty ["job"] []
  m_is_empty : mg "is_empty" = some (.ref f_is_empty)
  f_net : Addr
  d_net : FuncData
  F_net : Fun K "net" "net" s_net f_net d_net
  b_net : Binds K d_net ["job"] []
  m_net : mg "net" = some (.ref f_net)
  f_lowest : Addr
  d_lowest : FuncData
  F_lowest : Fun K "lowest" "lowest" s_lowest f_lowest d_lowest
  b_lowest : Binds K d_lowest ["job"] []
  m_lowest : mg "lowest" = some (.ref f_lowest)
  f_mirror : Addr
  d_mirror : FuncData
  F_mirror : Fun K "mirror" "mirror" s_mirror f_mirror d_mirror
  b_mirror : Binds K d_mirror ["job"] []
  m_mirror : mg "mirror" = some (.ref f_mirror)
  f_tidy : Addr
  d_tidy : FuncData
  F_tidy : Fun K "tidy" "tidy" s_tidy f_tidy d_tidy
  b_tidy : Binds K d_tidy ["job"] []
  m_tidy : mg "tidy" = some (.ref f_tidy)
  f_checked_sizes : Addr
  d_checked_sizes : FuncData
  F_checked_sizes : Fun K "checked_sizes" "checked_sizes" s_checked_sizes f_checked_sizes d_checked_sizes
  b_checked_sizes : Binds K d_checked_sizes ["job"] []
  m_checked_sizes : mg "checked_sizes" = some (.ref f_checked_sizes)
  f_steps_of_leaf : Addr
  d_steps_of_leaf : FuncData
  F_steps_of_leaf : Fun K "steps_of_leaf" "steps_of_leaf" s_steps_of_leaf f_steps_of_leaf d_steps_of_leaf
  b_steps_of_leaf : Binds K d_steps_of_leaf ["value"] []
  m_steps_of_leaf : mg "steps_of_leaf" = some (.ref f_steps_of_leaf)
  f_sizes_of : Addr
  d_sizes_of : FuncData
  F_sizes_of : Fun K "sizes_of" "sizes_of" s_sizes_of f_sizes_of d_sizes_of
  b_sizes_of : Binds K d_sizes_of ["value", "leaf_steps"] []
  m_sizes_of : mg "sizes_of" = some (.ref f_sizes_of)
  f__sizes : Addr
  d__sizes : FuncData
  F__sizes : Fun K "_sizes" "_sizes" s__sizes f__sizes d__sizes
  b__sizes : Binds K d__sizes ["value", "leaf_steps", "room", "levels"] []
  m__sizes : mg "_sizes" = some (.ref f__sizes)
  f__sizes_of_parts : Addr
  d__sizes_of_parts : FuncData
  F__sizes_of_parts : Fun K "_sizes_of_parts" "_sizes_of_parts" s__sizes_of_parts f__sizes_of_parts d__sizes_of_parts
  b__sizes_of_parts : Binds K d__sizes_of_parts ["parts", "leaf_steps", "room", "levels"] []
  m__sizes_of_parts : mg "_sizes_of_parts" = some (.ref f__sizes_of_parts)
  f__sizes_of_rounds : Addr
  d__sizes_of_rounds : FuncData
  F__sizes_of_rounds : Fun K "_sizes_of_rounds" "_sizes_of_rounds" s__sizes_of_rounds f__sizes_of_rounds d__sizes_of_rounds
  b__sizes_of_rounds : Binds K d__sizes_of_rounds ["n", "inner", "leaf_steps", "room", "levels"] []
  m__sizes_of_rounds : mg "_sizes_of_rounds" = some (.ref f__sizes_of_rounds)
  f__within_count : Addr
  d__within_count : FuncData
  F__within_count : Fun K "_within_count" "_within_count" s__within_count f__within_count d__within_count
  b__within_count : Binds K d__within_count ["nodes", "steps"] []
  m__within_count : mg "_within_count" = some (.ref f__within_count)
  f__net_and_lowest : Addr
  d__net_and_lowest : FuncData
  F__net_and_lowest : Fun K "_net_and_lowest" "_net_and_lowest" s__net_and_lowest f__net_and_lowest d__net_and_lowest
  b__net_and_lowest : Binds K d__net_and_lowest ["job"] []
  m__net_and_lowest : mg "_net_and_lowest" = some (.ref f__net_and_lowest)
  f__net_and_lowest_of_seq : Addr
  d__net_and_lowest_of_seq : FuncData
  F__net_and_lowest_of_seq : Fun K "_net_and_lowest_of_seq" "_net_and_lowest_of_seq" s__net_and_lowest_of_seq f__net_and_lowest_of_seq d__net_and_lowest_of_seq
  b__net_and_lowest_of_seq : Binds K d__net_and_lowest_of_seq ["parts"] []
  m__net_and_lowest_of_seq : mg "_net_and_lowest_of_seq" = some (.ref f__net_and_lowest_of_seq)
  f_mirrored : Addr
  d_mirrored : FuncData
  F_mirrored : Fun K "mirrored" "mirrored" s_mirrored f_mirrored d_mirrored
  b_mirrored : Binds K d_mirrored ["job"] []
  m_mirrored : mg "mirrored" = some (.ref f_mirrored)
  f_tidied : Addr
  d_tidied : FuncData
  F_tidied : Fun K "tidied" "tidied" s_tidied f_tidied d_tidied
  b_tidied : Binds K d_tidied ["job"] []
  m_tidied : mg "tidied" = some (.ref f_tidied)
  f__tidied_parts : Addr
  d__tidied_parts : FuncData
  F__tidied_parts : Fun K "_tidied_parts" "_tidied_parts" s__tidied_parts f__tidied_parts d__tidied_parts
  b__tidied_parts : Binds K d__tidied_parts ["kind", "tidy_parts"] []
  m__tidied_parts : mg "_tidied_parts" = some (.ref f__tidied_parts)
  f__grouped : Addr
  d__grouped : FuncData
  F__grouped : Fun K "_grouped" "_grouped" s__grouped f__grouped d__grouped
  b__grouped : Binds K d__grouped ["parts"] []
  m__grouped : mg "_grouped" = some (.ref f__grouped)
  f__tidied_rounds : Addr
  d__tidied_rounds : FuncData
  F__tidied_rounds : Fun K "_tidied_rounds" "_tidied_rounds" s__tidied_rounds f__tidied_rounds d__tidied_rounds
  b__tidied_rounds : Binds K d__tidied_rounds ["kind", "n", "inner"] []
  m__tidied_rounds : mg "_tidied_rounds" = some (.ref f__tidied_rounds)
  f__has_kind : Addr
  d__has_kind : FuncData
  F__has_kind : Fun K "_has_kind" "_has_kind" s__has_kind f__has_kind d__has_kind
  b__has_kind : Binds K d__has_kind ["job", "kind"] []
  m__has_kind : mg "_has_kind" = some (.ref f__has_kind)
  f__law_pot : Addr
  d__law_pot : FuncData
  F__law_pot : Fun K "_law_pot" "_law_pot" s__law_pot f__law_pot d__law_pot
  b__law_pot : Binds K d__law_pot ["_law_script", "_law_k"] []
  m__law_pot : mg "_law_pot" = some (.ref f__law_pot)
  f__law_take : Addr
  d__law_take : FuncData
  F__law_take : Fun K "_law_take" "_law_take" s__law_take f__law_take d__law_take
  b__law_take : Binds K d__law_take ["_law_pot_here", "_law_many"] []
  m__law_take : mg "_law_take" = some (.ref f__law_take)
  f__law_step : Addr
  d__law_step : FuncData
  F__law_step : Fun K "_law_step" "_law_step" s__law_step f__law_step d__law_step
  b__law_step : Binds K d__law_step ["_law_pot_here"] []
  m__law_step : mg "_law_step" = some (.ref f__law_step)
  f__law_job : Addr
  d__law_job : FuncData
  F__law_job : Fun K "_law_job" "_law_job" s__law_job f__law_job d__law_job
  b__law_job : Binds K d__law_job ["_law_pot_here", "_law_deep", "_law_counts"] []
  m__law_job : mg "_law_job" = some (.ref f__law_job)
  f__law_bent : Addr
  d__law_bent : FuncData
  F__law_bent : Fun K "_law_bent" "_law_bent" s__law_bent f__law_bent d__law_bent
  b__law_bent : Binds K d__law_bent ["_law_pot_here", "_law_job_here", "_law_deep"] []
  m__law_bent : mg "_law_bent" = some (.ref f__law_bent)
  f__law_word : Addr
  d__law_word : FuncData
  F__law_word : Fun K "_law_word" "_law_word" s__law_word f__law_word d__law_word
  b__law_word : Binds K d__law_word ["_law_caught"] []
  m__law_word : mg "_law_word" = some (.ref f__law_word)
  f__law_told : Addr
  d__law_told : FuncData
  F__law_told : Fun K "_law_told" "_law_told" s__law_told f__law_told d__law_told
  b__law_told : Binds K d__law_told ["_law_way", "_law_value"] []
  m__law_told : mg "_law_told" = some (.ref f__law_told)
  t_MAX_STEP : Tok
  g_MAX_STEP : mg "MAX_STEP" = some (.int 1000000000000000000000000000000 t_MAX_STEP)
  t_MAX_COUNT : Tok
  g_MAX_COUNT : mg "MAX_COUNT" = some (.int 1000000000000000000000000000000 t_MAX_COUNT)
  t_MAX_PARTS : Tok
  g_MAX_PARTS : mg "MAX_PARTS" = some (.int 400 t_MAX_PARTS)
  t_MAX_NODES : Tok
  g_MAX_NODES : mg "MAX_NODES" = some (.int 400 t_MAX_NODES)
  t_MAX_DEPTH : Tok
  g_MAX_DEPTH : mg "MAX_DEPTH" = some (.int 13 t_MAX_DEPTH)
  c_InvalidJob : Addr
  g_InvalidJob : mg "InvalidJob" = some (.ref c_InvalidJob)
  x_InvalidJob : PySem.W.excIn K c_InvalidJob [.type "ValueError", .type "Exception", .type "BaseException", .type "object"] "ValueError.__new__" = true
  k_InvalidJob : PySem.W.keepIn K (.ref c_InvalidJob) = true
  bb_InvalidJob : PySem.W.subIn K (.ref c_InvalidJob) (.type "BaseException") = some true
  tt_InvalidJob : PySem.W.typeIn K (.ref c_InvalidJob) = some (.type "type")
  c_JobError : Addr
  g_JobError : mg "JobError" = some (.ref c_JobError)
  x_JobError : PySem.W.excIn K c_JobError [.type "ValueError", .type "Exception", .type "BaseException", .type "object"] "ValueError.__new__" = true
  k_JobError : PySem.W.keepIn K (.ref c_JobError) = true
  bb_JobError : PySem.W.subIn K (.ref c_JobError) (.type "BaseException") = some true
  tt_JobError : PySem.W.typeIn K (.ref c_JobError) = some (.type "type")
  e_InvalidJob_JobError : PySem.W.exmOne K (.ref c_InvalidJob) (.ref c_JobError) = some true
  c_InvalidAddress : Addr
  g_InvalidAddress : mg "InvalidAddress" = some (.ref c_InvalidAddress)
  c_InvalidState : Addr
  g_InvalidState : mg "InvalidState" = some (.ref c_InvalidState)
  c_InvalidNumber : Addr
  g_InvalidNumber : mg "InvalidNumber" = some (.ref c_InvalidNumber)
  c_TooMany : Addr
  g_TooMany : mg "TooMany" = some (.ref c_TooMany)
  xc_InvalidJob : ExcC K c_InvalidJob
  q_InvalidJob_InvalidJob : PySem.W.kitOne K (.ref c_InvalidJob) (.ref c_InvalidJob) = some true
  q_InvalidJob_InvalidAddress : PySem.W.kitOne K (.ref c_InvalidJob) (.ref c_InvalidAddress) = some false
  q_InvalidJob_InvalidState : PySem.W.kitOne K (.ref c_InvalidJob) (.ref c_InvalidState) = some false
  q_InvalidJob_InvalidNumber : PySem.W.kitOne K (.ref c_InvalidJob) (.ref c_InvalidNumber) = some false
  q_InvalidJob_TooMany : PySem.W.kitOne K (.ref c_InvalidJob) (.ref c_TooMany) = some false
  q_InvalidJob_JobError : PySem.W.kitOne K (.ref c_InvalidJob) (.ref c_JobError) = some true
  n_abs : mg "abs" = none
  n_bool : mg "bool" = none
  n_int : mg "int" = none
  n_isinstance : mg "isinstance" = none
  n_len : mg "len" = none
  n_list : mg "list" = none
  n_max : mg "max" = none
  n_min : mg "min" = none
  n_range : mg "range" = none
  n_repr : mg "repr" = none
  n_sum : mg "sum" = none
  n_tuple : mg "tuple" = none
  n_zip : mg "zip" = none
/-! block SizesQN (of the later code): is_integer, is_within, steps_of_leaf, sizes_of, _within_count, _sizes and its two helpers, is_job, over data of any kind -/
def isI : PyData → Bool
  | .int _ => true
  | _ => false
theorem isI_eq (d : PyData) : (isInt d && !isBoo d) = isI d := by cases d <;> rfl
def spIsIntQ (K : PySem.W.Frag) : Sp := fun vs H Q _ => ∃ (v : V) (p : Addr) (d : PyData), vs = [v] ∧ Dq K p H v d ∧ Q (.bl (isI d)) H
/-- a pair of ints, or None -/
def RepSz (H : Hp) (r : V) : Option (Int × Int) → Prop
  | none => r = .non
  | some (a, b) => ∃ t, r = .ref t ∧ H t = some (.tup [.int a, .int b])
def spWithin : Sp := fun vs H Q _ => ∃ a b : Int, vs = [.int a, .int b] ∧ ∀ (H' : Hp) (r : V), Same H H' → RepSz H' r (within a b) → Q r H'
def szP (m : Nat) (d : PyData) (room : Int) : Option (Int × Int) := match d with
  | .tuple ds => if (ds.length : Int) > 400 then none else partsF (szF m) ds 1 0 room
  | _ => none
def szR (m : Nat) (c x : PyData) (room : Int) : Option (Int × Int) := match c with
  | .int c => if ¬ (0 ≤ c ∧ c ≤ M30) then none else
    match szF m x (room - 1) with
    | none => none
    | some (a, b) => within (a + 1) (b * c)
  | _ => none
def inW : PyData → Int → Int → Bool
  | .int i, a, b => decide (a ≤ i) && decide (i ≤ b)
  | _, _, _ => false
theorem inW_int {i a b : Int} : inW (.int i) a b = (decide (a ≤ i) && decide (i ≤ b)) := rfl
theorem inW_no {d : PyData} {a b : Int} (h : isI d = false) : inW d a b = false := by
  cases d <;> first | rfl | cases h
def spWi (K : PySem.W.Frag) : Sp := fun vs H Q _ => ∃ (v : V) (p : Addr) (d : PyData) (a b : Int), vs = [v, .int a, .int b] ∧ Dq K p H v d ∧ Q (.bl (inW d a b)) H
def spLeaf (K : PySem.W.Frag) : Sp := fun vs H Q _ => ∃ (v : V) (p : Addr) (d : PyData), vs = [v] ∧ Dq K p H v d ∧ Q (if inW d (-M30) M30 = true then .int 1 else .non) H
def spSzQ (K : PySem.W.Frag) (L : Addr) (n : Nat) : Sp := fun vs H Q _ => ∃ (v : V) (p : Addr) (d : PyData) (room : Int), vs = [v, .ref L, .int room, .int (n : Int)] ∧ Dq K p H v d ∧ room ≤ 400 ∧
  ∀ (H' : Hp) (r : V), Same H H' → RepSz H' r (szF n d room) → Q r H'
def spSzsQ (K : PySem.W.Frag) (L : Addr) (n : Nat) : Sp := fun vs H Q _ => ∃ (m : Nat) (v : V) (p : Addr) (d : PyData) (room : Int), n = m + 1 ∧ vs = [v, .ref L, .int room, .int (n : Int)] ∧ Dq K p H v d ∧ 1 ≤ room ∧ room ≤ 400 ∧
  ∀ (H' : Hp) (r : V), Same H H' → RepSz H' r (szP m d room) → Q r H'
def spSzrQ (K : PySem.W.Frag) (L : Addr) (n : Nat) : Sp := fun vs H Q _ => ∃ (m : Nat) (vc v : V) (p : Addr) (c x : PyData) (room : Int), n = m + 1 ∧ vs = [vc, v, .ref L, .int room, .int (n : Int)] ∧ Dq K p H vc c ∧ Dq K p H v x ∧ room ≤ 400 ∧
  ∀ (H' : Hp) (r : V), Same H H' → RepSz H' r (szR m c x room) → Q r H'
section
variable {P : Program} {w : World} {K : PySem.W.Frag} {mg : Str → Option Value} {base : Heap}
theorem ok_isint (T : Txt K mg) : FnOk P w K mg base CX0 1 T.f_is_integer T.d_is_integer ["value"] (spIsIntQ K) := by
  refine T.F_is_integer.ok sc_is_integer (fun vs H Q E h => ?_) (fun cdv A outer s H vs Q E hr h => ?_)
  · obtain ⟨v, p, d, rfl, _⟩ := h
    rfl
  obtain ⟨v, p, d, rfl, hd, q⟩ := h
  refine ⟨_, (pss_one (ps_ret (pe_and (pe_callB (r := rIsQ K) call_isQ (by rfl) T.n_isinstance (by decide +kernel) (pa_cons (pv 0) (pa_cons (pe_bltn (v := .ty "int") (by rfl) T.n_int (by decide +kernel) rfl) pa_nil))) (pe_one (pe_not (pe_callB (r := rIsQ K) call_isQ (by rfl) T.n_isinstance (by decide +kernel) (pa_cons (pv 0) (pa_cons (pe_bltn (v := .ty "bool") (by rfl) T.n_bool (by decide +kernel) rfl) pa_nil)))))))), ?_⟩
  rw [← isI_eq] at q
  refine ⟨_, rfl, v, _, p, d, _, rfl, hd, kit_int d, _, rfl, ?_⟩
  cases e : isInt d with
  | false =>
    refine iteF ?_
    rw [e] at q
    exact q
  | true =>
    refine iteT ⟨_, rfl, v, _, p, d, _, rfl, hd, kit_bool d, _, rfl, ?_⟩
    rw [e] at q
    exact q
theorem ok_wi (T : Txt K mg) : FnOk P w K mg base CX0 2 T.f_is_within T.d_is_within ["value", "least", "greatest"] (spWi K) := by
  have g_is_integer : FnOk P w K mg base CX0 1 T.f_is_integer T.d_is_integer ["value"] (spIsIntQ K) := ok_isint T
  refine T.F_is_within.ok sc_is_within (fun vs H Q E h => ?_) (fun cdv A outer s H vs Q E hr h => ?_)
  · obtain ⟨v, p, d, a, b, rfl, _⟩ := h
    rfl
  obtain ⟨v, p, d, a, b, rfl, hd, q⟩ := h
  refine ⟨_, (pss_one (ps_ret (pe_and (pe_call g_is_integer (hr.mono (by omega)) rfl T.m_is_integer T.F_is_integer.kp T.b_is_integer .nil pass0 (pa_cons (pv 0) pa_nil)) (pe_one (pe_chain op_le op_le (pv 1) (pv 0) (pv 2)))))), ?_⟩
  refine ⟨_, rfl, v, p, d, rfl, hd, _, rfl, ?_⟩
  cases ei : isI d with
  | true =>
    obtain ⟨i, rfl⟩ : ∃ i, d = .int i := by cases d <;> first | exact ⟨_, rfl⟩ | cases ei
    obtain rfl := dq_int_inv hd
    refine iteT ?_
    refine ⟨_, rfl, _, rfl, _, _, rfl, rfl, _, rfl, ?_⟩
    rw [inW_int] at q
    cases e1 : decide (a ≤ i) with
    | true =>
      refine iteT ?_
      rw [e1, Bool.true_and] at q
      exact ⟨_, rfl, _, _, rfl, rfl, q⟩
    | false =>
      refine iteF ?_
      rw [e1, Bool.false_and] at q
      exact q
  | false =>
    rw [inW_no ei] at q
    refine iteF ?_
    exact q
theorem ok_leaf (T : Txt K mg) : FnOk P w K mg base CX0 3 T.f_steps_of_leaf T.d_steps_of_leaf ["value"] (spLeaf K) := by
  have g_is_within := ok_wi (P := P) (w := w) (base := base) T
  refine T.F_steps_of_leaf.ok sc_steps_of_leaf (fun vs H Q E h => ?_) (fun cdv A outer s H vs Q E hr h => ?_)
  · obtain ⟨v, p, d, rfl, _⟩ := h
    rfl
  obtain ⟨v, p, d, rfl, hd, q⟩ := h
  refine ⟨_, (pss_one (ps_ret (pe_ifExp (pt_val (pe_call g_is_within (hr.mono (by omega)) rfl T.m_is_within T.F_is_within.kp T.b_is_within .nil pass0 (pa_cons (pv 0) (pa_cons (pe_un un_neg (pe_glob (v := .int 1000000000000000000000000000000) rfl T.g_MAX_STEP ⟨_, rfl⟩)) (pa_cons (pe_glob (v := .int 1000000000000000000000000000000) rfl T.g_MAX_STEP ⟨_, rfl⟩) pa_nil))))) pe_int pe_non))), ?_⟩
  refine ⟨_, rfl, _, rfl, v, p, d, -M30, M30, rfl, hd, _, rfl, ?_⟩
  cases e : inW d (-M30) M30 with
  | true =>
    rw [e] at q
    refine iteT ?_
    exact q
  | false =>
    rw [e] at q
    refine iteF ?_
    exact q
theorem ok_within (T : Txt K mg) : FnOk P w K mg base CX0 1 T.f__within_count T.d__within_count ["nodes", "steps"] spWithin := by
  refine T.F__within_count.ok sc__within_count (fun vs H Q E h => ?_) (fun cdv A outer s H vs Q E hr h => ?_)
  · obtain ⟨a, b, rfl, _⟩ := h
    rfl
  obtain ⟨a, b, rfl, q⟩ := h
  refine ⟨_, (pss_one (ps_ret (pe_ifExp (pt_cmpR op_le (pv 1) (pe_glob (v := .int 1000000000000000000000000000000) rfl T.g_MAX_COUNT ⟨_, rfl⟩) (nomark _)) (pe_tup (pa_cons (pv 0) (pa_cons (pv 1) pa_nil))) pe_non))), ?_⟩
  refine ⟨_, rfl, _, _, rfl, rfl, _, rfl, ?_⟩
  unfold within at q
  refine ite2 (fun g => ?_) (fun g => ?_)
  · rw [if_pos (of_decide_eq_true g)] at q
    refine ⟨_, rfl, _, rfl, (by show 2 ≤ sizeLine; decide), fun t ht => ?_⟩
    exact q _ _ (same_new ht) ⟨t, rfl, upd_same⟩
  · rw [if_neg (fun z => g (decide_eq_true z))] at q
    exact q _ _ (Same.refl _) rfl
theorem ok_szs (T : Txt K mg) {n : Nat} (g__sizes : FnOk P w K mg base CX0 (2 * n + 4) T.f__sizes T.d__sizes ["value", "leaf_steps", "room", "levels"] (spSzQ K T.f_steps_of_leaf n)) :
    FnOk P w K mg base CX0 (2 * n + 5) T.f__sizes_of_parts T.d__sizes_of_parts ["parts", "leaf_steps", "room", "levels"] (spSzsQ K T.f_steps_of_leaf (n + 1)) := by
  have g__within_count : FnOk P w K mg base CX0 1 T.f__within_count T.d__within_count ["nodes", "steps"] spWithin := ok_within T
  refine T.F__sizes_of_parts.ok sc__sizes_of_parts (fun vs H Q E h => ?_) (fun cdv A outer s H vs Q E hr h => ?_)
  · obtain ⟨m, v, p, d, room, _, rfl, _⟩ := h
    rfl
  obtain ⟨m, v, p, d, room, em, rfl, hd, r1, r4, q⟩ := h
  obtain rfl : n = m := by omega
  refine ⟨_, (pss_cons (ps_if (PW.pt (pw_or (pt_not (pt_val (pe_callB (r := rIsQ K) call_isQ (by rfl) T.n_isinstance (by decide +kernel) (pa_cons (pv 0) (pa_cons (pe_bltn (v := .ty "tuple") (by rfl) T.n_tuple (by decide +kernel) rfl) pa_nil))))) (pw_or1 (pt_cmpR op_gt (pe_callB (r := rLenS K) call_lenS (by rfl) T.n_len (by decide +kernel) (pa_cons (pv 0) pa_nil)) (pe_glob (v := .int 400) rfl T.g_MAX_PARTS ⟨_, rfl⟩) (nomark _))))) (pss_one (ps_ret pe_non)) pss_nil)
      (pss_cons (ps_set (i := 4) sc__sizes_of_parts.nd rfl (Or.inl rfl) pe_int)
      (pss_cons (ps_set (i := 5) sc__sizes_of_parts.nd rfl (Or.inl rfl) pe_int)
      (pss_cons (ps_for PassesOwn.never rfl (pi_tup (pv 0)) (pg_name (i := 6) sc__sizes_of_parts.nd rfl (Or.inl rfl))
        (pss_cons (ps_set (i := 7) sc__sizes_of_parts.nd rfl (Or.inl rfl) (pe_call g__sizes (hr.mono (by omega)) rfl T.m__sizes T.F__sizes.kp T.b__sizes .nil pass0 (pa_cons (pv 6) (pa_cons (pv 1) (pa_cons (pe_op op_sub (pv 2) (pv 4)) (pa_cons (pe_op op_sub (pv 3) pe_int) pa_nil))))))
        (pss_cons (ps_if (pt_cmpR op_isN (pv 7) pe_non (nomark _)) (pss_one (ps_ret pe_non)) pss_nil)
        (pss_cons (ps_aug (i := 4) sc__sizes_of_parts.nd rfl (Or.inl rfl) (pe_ix (r := rIxT K) ix_tup (pv 7) pe_int (fun _ _ => rfl)) ip_add)
        (pss_one (ps_aug (i := 5) sc__sizes_of_parts.nd rfl (Or.inl rfl) (pe_ix (r := rIxT K) ix_tup (pv 7) pe_int (fun _ _ => rfl)) ip_add))))))
      (pss_one (ps_ret (pe_call g__within_count (hr.mono (by omega)) rfl T.m__within_count T.F__within_count.kp T.b__within_count .nil pass0 (pa_cons (pv 4) (pa_cons (pv 5) pa_nil))))))))), ?_⟩
  refine ⟨_, rfl, _, _, p, d, _, rfl, hd, kit_tuple d, _, rfl, ?_⟩
  cases et : isTup d with
  | false =>
    have e : szP n d room = none := by cases d <;> first | rfl | cases et
    rw [e] at q
    refine iteT ?_
    exact q _ _ (Same.refl _) rfl
  | true =>
  obtain ⟨ds, rfl⟩ : ∃ ds, d = .tuple ds := by
    cases d <;> first | exact ⟨_, rfl⟩ | cases et
  obtain ⟨a, xs, rfl, hxs, hall⟩ := dq_tup_inv hd
  have hlen : xs.length = ds.length := dqAll_length hall
  simp only [szP] at q
  refine iteF ?_
  refine ⟨_, rfl, a, xs, rfl, .inr hxs, _, _, rfl, rfl, _, rfl, ?_⟩
  refine ite2 (fun g => ?_) (fun g => ?_)
  · have g' : (400 : Int) < (xs.length : Int) := of_decide_eq_true g
    rw [if_pos (by omega)] at q
    exact q _ _ (Same.refl _) rfl
  have g' : ¬ (400 : Int) < (xs.length : Int) := fun z => g (decide_eq_true z)
  rw [if_neg (by omega)] at q
  refine ⟨_, rfl, a, rfl, ⟨xs, hxs⟩, ?_⟩
  -- the loop: what is left of the parts gives what is left of the sizes
  refine for_tup (K := K) (a := a) (xs := xs) (fun i σ H' => ∃ (nodes steps : Int) (y5 y6 : Option V), σ = [some (.ref a), some (.ref T.f_steps_of_leaf), some (.int room), some (.int ((n + 1 : Nat) : Int)), some (.int nodes), some (.int steps), y5, y6] ∧ Same H H' ∧ 1 ≤ nodes ∧
    partsF (szF n) ds 1 0 room = partsF (szF n) (ds.drop i) nodes steps room) ⟨1, 0, none, none, rfl, Same.refl _, Int.le_refl _, rfl⟩ (fun i σ H' _ ⟨_, _, _, _, _, s1, _⟩ => same_sqT s1 hxs) ?_ ?_
  · rintro i x σ H' hi ⟨nodes, steps, y5, y6, rfl, s1, n1, es⟩
    obtain ⟨d, ed, hd'⟩ := dqAll_get hall hi
    have hij : i < ds.length := by
      rw [← hlen]
      exact (List.getElem?_eq_some_iff.mp hi).1
    have ej : d = ds[i] := by
      rw [List.getElem?_eq_getElem hij] at ed
      exact (Option.some.inj ed).symm
    subst ej
    have hdrop : ds.drop i = ds[i] :: ds.drop (i + 1) := List.drop_eq_getElem_cons hij
    rw [hdrop] at es
    have en : ((n + 1 : Nat) : Int) - 1 = (n : Int) := by omega
    refine ⟨_, rfl, _, rfl, _, rfl, _, rfl, _, _, rfl, rfl, _, rfl, _, _, rfl, rfl, x, p, ds[i], room - nodes, ?_, hd'.keep (Same.kp s1), by omega, fun H2 r2 s2 h2 => ?_⟩
    · rw [← en]
      rfl
    simp only [partsF] at es
    cases ez : szF n ds[i] (room - nodes) with
    | none =>
      rw [ez] at h2 es
      obtain rfl : r2 = .non := h2
      refine ⟨_, rfl, rfl, _, rfl, ?_⟩
      refine iteT ?_
      rw [es] at q
      exact q _ _ (s1.trans s2) rfl
    | some ab =>
      obtain ⟨a1, b1⟩ := ab
      rw [ez] at h2 es
      have hf := szF_fit (by omega) ez
      unfold Fit at hf
      obtain ⟨t, rfl, ht⟩ := h2
      refine ⟨_, rfl, rfl, _, rfl, ?_⟩
      refine iteF ?_
      refine ⟨_, rfl, _, rfl, _, _, _, _, rfl, rfl, SqT.of ht, rfl, _, _, rfl, rfl, ?_⟩
      refine ⟨_, rfl, _, rfl, _, _, _, _, rfl, rfl, SqT.of ht, rfl, _, _, rfl, rfl, ?_⟩
      exact ⟨_, _, _, _, rfl, s1.trans s2, (show 1 ≤ nodes + a1 by omega), es⟩
  · rintro σ H' ⟨nodes, steps, y5, y6, rfl, s1, n1, es⟩
    rw [hlen, List.drop_length] at es
    simp only [partsF] at es
    refine ⟨_, rfl, _, rfl, nodes, steps, rfl, fun H2 r2 s2 h2 => ?_⟩
    rw [es] at q
    exact q _ _ (s1.trans s2) h2
theorem ok_szr (T : Txt K mg) {n : Nat} (g__sizes : FnOk P w K mg base CX0 (2 * n + 4) T.f__sizes T.d__sizes ["value", "leaf_steps", "room", "levels"] (spSzQ K T.f_steps_of_leaf n)) :
    FnOk P w K mg base CX0 (2 * n + 5) T.f__sizes_of_rounds T.d__sizes_of_rounds ["n", "inner", "leaf_steps", "room", "levels"] (spSzrQ K T.f_steps_of_leaf (n + 1)) := by
  have g__within_count : FnOk P w K mg base CX0 1 T.f__within_count T.d__within_count ["nodes", "steps"] spWithin := ok_within T
  have g_is_within := ok_wi (P := P) (w := w) (base := base) T
  refine T.F__sizes_of_rounds.ok sc__sizes_of_rounds (fun vs H Q E h => ?_) (fun cdv A outer s H vs Q E hr h => ?_)
  · obtain ⟨m, vc, v, p, c, x, room, _, rfl, _⟩ := h
    rfl
  obtain ⟨m, vc, v, p, cd, x, room, em, rfl, hc, hd, r4, q⟩ := h
  obtain rfl : n = m := by omega
  refine ⟨_, (pss_cons (ps_if (pt_not (pt_val (pe_call g_is_within (hr.mono (by omega)) rfl T.m_is_within T.F_is_within.kp T.b_is_within .nil pass0 (pa_cons (pv 0) (pa_cons pe_int (pa_cons (pe_glob (v := .int 1000000000000000000000000000000) rfl T.g_MAX_COUNT ⟨_, rfl⟩) pa_nil)))))) (pss_one (ps_ret pe_non)) pss_nil)
      (pss_cons (ps_set (i := 5) sc__sizes_of_rounds.nd rfl (Or.inl rfl) (pe_call g__sizes (hr.mono (by omega)) rfl T.m__sizes T.F__sizes.kp T.b__sizes .nil pass0 (pa_cons (pv 1) (pa_cons (pv 2) (pa_cons (pe_op op_sub (pv 3) pe_int) (pa_cons (pe_op op_sub (pv 4) pe_int) pa_nil))))))
      (pss_cons (ps_if (pt_cmpR op_isN (pv 5) pe_non (nomark _)) (pss_one (ps_ret pe_non)) pss_nil)
      (pss_one (ps_ret (pe_call g__within_count (hr.mono (by omega)) rfl T.m__within_count T.F__within_count.kp T.b__within_count .nil pass0 (pa_cons (pe_op op_add (pe_ix (r := rIxT K) ix_tup (pv 5) pe_int (fun _ _ => rfl)) pe_int) (pa_cons (pe_op op_mulW (pe_ix (r := rIxT K) ix_tup (pv 5) pe_int (fun _ _ => rfl)) (pv 0)) pa_nil)))))))), ?_⟩
  refine ⟨_, rfl, vc, p, cd, 0, M30, rfl, hc, _, rfl, ?_⟩
  cases et : isI cd with
  | false =>
    have e : szR n cd x room = none := by cases cd <;> first | rfl | cases et
    rw [e] at q
    rw [inW_no et]
    refine iteT ?_
    exact q _ _ (Same.refl _) rfl
  | true =>
  obtain ⟨c, rfl⟩ : ∃ c, cd = .int c := by
    cases cd <;> first | exact ⟨_, rfl⟩ | cases et
  obtain rfl := dq_int_inv hc
  simp only [szR] at q
  rw [inW_int]
  refine ite2 (fun g => ?_) (fun g => ?_)
  · rw [if_pos (fun z => by rw [decide_eq_true z.1, decide_eq_true z.2] at g; cases g)] at q
    exact q _ _ (Same.refl _) rfl
  obtain ⟨g0, g1⟩ : 0 ≤ c ∧ c ≤ M30 := by
    by_cases z : 0 ≤ c ∧ c ≤ M30
    · exact z
    · exfalso
      apply g
      rw [Bool.not_eq_true', Bool.and_eq_false_iff]
      by_cases z0 : 0 ≤ c
      · exact .inr (decide_eq_false fun y => z ⟨z0, y⟩)
      · exact .inl (decide_eq_false z0)
  rw [if_neg (fun z => z ⟨g0, g1⟩)] at q
  have en : ((n + 1 : Nat) : Int) - 1 = (n : Int) := by omega
  refine ⟨_, rfl, _, rfl, _, rfl, _, _, rfl, rfl, _, rfl, _, _, rfl, rfl, v, p, x, room - 1, ?_, hd, by omega, fun H2 r2 s2 h2 => ?_⟩
  · rw [← en]
    rfl
  cases ez : szF n x (room - 1) with
  | none =>
    rw [ez] at h2 q
    obtain rfl : r2 = .non := h2
    refine ⟨_, rfl, rfl, _, rfl, ?_⟩
    refine iteT ?_
    exact q _ _ s2 rfl
  | some ab =>
    obtain ⟨a1, b1⟩ := ab
    rw [ez] at h2 q
    obtain ⟨t, rfl, ht⟩ := h2
    refine ⟨_, rfl, rfl, _, rfl, ?_⟩
    refine iteF ?_
    have hf := szF_fit (by omega) ez
    unfold Fit at hf
    refine ⟨_, rfl, _, _, _, _, rfl, rfl, SqT.of ht, rfl, _, _, rfl, rfl, _, rfl, _, _, _, _, rfl, rfl, SqT.of ht, rfl, _, rfl, _, _, rfl, rfl, ?_, ?_⟩
    · have e1 : b1.natAbs < 2 ^ 128 := Nat.lt_of_le_of_lt (show b1.natAbs ≤ 1000000000000000000000000000000 by simp only [M30] at hf; omega) (by decide)
      have e2 : c.natAbs < 2 ^ 128 := Nat.lt_of_le_of_lt (show c.natAbs ≤ 1000000000000000000000000000000 by simp only [M30] at g1; omega) (by decide)
      exact wide_mul (a := 128) (b := 128) e1 e2 (by decide) (by decide) (by decide)
    refine ⟨_, _, rfl, fun H3 r3 s3 h3 => ?_⟩
    exact q _ _ (s2.trans s3) h3
theorem ok_sz (T : Txt K mg) {n : Nat} (g__sizes_of_parts : FnOk P w K mg base CX0 (2 * n + 3) T.f__sizes_of_parts T.d__sizes_of_parts ["parts", "leaf_steps", "room", "levels"] (spSzsQ K T.f_steps_of_leaf n))
    (g__sizes_of_rounds : FnOk P w K mg base CX0 (2 * n + 3) T.f__sizes_of_rounds T.d__sizes_of_rounds ["n", "inner", "leaf_steps", "room", "levels"] (spSzrQ K T.f_steps_of_leaf n)) :
    FnOk P w K mg base CX0 (2 * n + 4) T.f__sizes T.d__sizes ["value", "leaf_steps", "room", "levels"] (spSzQ K T.f_steps_of_leaf n) := by
  have g_steps_of_leaf := ok_leaf (P := P) (w := w) (base := base) T
  refine T.F__sizes.ok sc__sizes (fun vs H Q E h => ?_) (fun cdv A outer s H vs Q E hr h => ?_)
  · obtain ⟨v, p, d, room, rfl, _⟩ := h
    rfl
  obtain ⟨v, p, d, room, rfl, hd, r4, q⟩ := h
  refine ⟨_, (pss_cons (ps_if (PW.pt (pw_or (pt_cmpR op_lt (pv 2) pe_int (nomark _)) (pw_or1 (pt_cmpR op_lt (pv 3) pe_int (nomark _))))) (pss_one (ps_ret pe_non)) pss_nil)
      (pss_cons (ps_set (i := 4) sc__sizes.nd rfl (Or.inl rfl) (pe_callL (i := 1) g_steps_of_leaf (hr.mono (by omega)) rfl (.inl rfl) T.F_steps_of_leaf.kp T.b_steps_of_leaf .nil pass0 (pa_cons (pv 0) pa_nil)))
      (pss_cons (ps_if (pt_cmpR op_notN (pv 4) pe_non (nomark _)) (pss_one (ps_ret (pe_tup (pa_cons pe_int (pa_cons (pv 4) pa_nil))))) pss_nil)
      (pss_cons (ps_if (pt_not (pt_val (pe_callB (r := rIsQ K) call_isQ (by rfl) T.n_isinstance (by decide +kernel) (pa_cons (pv 0) (pa_cons (pe_bltn (v := .ty "tuple") (by rfl) T.n_tuple (by decide +kernel) rfl) pa_nil))))) (pss_one (ps_ret pe_non)) pss_nil)
      (pss_cons (ps_if (PW.pt (pw_and (pt_cmpR op_eq (pe_callB (r := rLenS K) call_lenS (by rfl) T.n_len (by decide +kernel) (pa_cons (pv 0) pa_nil)) pe_int (nomark _)) (pw_and1 (pt_cmpR (r := rInQ K) (op_inQ (room66 hr)) (pe_ix (r := rIxT K) ix_tup (pv 0) pe_int (fun _ _ => rfl)) (pe_tup (pa_cons pe_str (pa_cons pe_str pa_nil))) (by rfl))))) (pss_one (ps_ret (pe_call g__sizes_of_parts (hr.mono (by omega)) rfl T.m__sizes_of_parts T.F__sizes_of_parts.kp T.b__sizes_of_parts .nil pass0 (pa_cons (pe_ix (r := rIxT K) ix_tup (pv 0) pe_int (fun _ _ => rfl)) (pa_cons (pv 1) (pa_cons (pv 2) (pa_cons (pv 3) pa_nil))))))) pss_nil)
      (pss_cons (ps_if (PW.pt (pw_and (pt_cmpR op_eq (pe_callB (r := rLenS K) call_lenS (by rfl) T.n_len (by decide +kernel) (pa_cons (pv 0) pa_nil)) pe_int (nomark _)) (pw_and1 (pt_cmpR (r := rInQ K) (op_inQ (room66 hr)) (pe_ix (r := rIxT K) ix_tup (pv 0) pe_int (fun _ _ => rfl)) (pe_tup (pa_cons pe_str (pa_cons pe_str pa_nil))) (by rfl))))) (pss_one (ps_ret (pe_call g__sizes_of_rounds (hr.mono (by omega)) rfl T.m__sizes_of_rounds T.F__sizes_of_rounds.kp T.b__sizes_of_rounds .nil pass0 (pa_cons (pe_ix (r := rIxT K) ix_tup (pv 0) pe_int (fun _ _ => rfl)) (pa_cons (pe_ix (r := rIxT K) ix_tup (pv 0) pe_int (fun _ _ => rfl)) (pa_cons (pv 1) (pa_cons (pv 2) (pa_cons (pv 3) pa_nil)))))))) pss_nil)
      (pss_one (ps_ret pe_non)))))))), ?_⟩
  -- room < 1 or levels < 1
  refine ⟨_, rfl, _, _, rfl, rfl, _, rfl, ?_⟩
  refine ite2 (fun g => ?_) (fun g => ?_)
  · have e : szF n d room = none := by
      cases n with
      | zero => rfl
      | succ n =>
        unfold szF
        rw [if_pos (of_decide_eq_true g)]
    rw [e] at q
    refine iteT ?_
    exact q _ _ (Same.refl _) rfl
  have r1 : ¬ room < 1 := fun z => g (decide_eq_true z)
  refine ⟨_, rfl, _, _, rfl, rfl, _, rfl, ?_⟩
  refine ite2 (fun g2 => ?_) (fun g2 => ?_)
  · have g2' : (n : Int) < 1 := of_decide_eq_true g2
    obtain rfl : n = 0 := by omega
    exact q _ _ (Same.refl _) rfl
  have g2' : ¬ (n : Int) < 1 := fun z => g2 (decide_eq_true z)
  obtain ⟨m, rfl⟩ : ∃ m, n = m + 1 := ⟨n - 1, by omega⟩
  unfold szF at q
  rw [if_neg r1] at q
  refine ⟨rfl, _, rfl, v, p, d, rfl, hd, ?_⟩
  cases ei : inW d (-M30) M30 with
  | true =>
    obtain ⟨i, rfl⟩ : ∃ i, d = .int i := by cases d <;> first | exact ⟨_, rfl⟩ | cases ei
    simp only at q
    rw [inW_int, Bool.and_eq_true, decide_eq_true_eq, decide_eq_true_eq] at ei
    rw [if_pos ei] at q
    refine ⟨_, rfl, rfl, _, rfl, ?_⟩
    refine iteT ?_
    refine ⟨_, rfl, (by show 2 ≤ sizeLine; decide), fun t ht => ?_⟩
    exact q _ _ (same_new ht) ⟨t, rfl, upd_same⟩
  | false =>
  refine ⟨_, rfl, rfl, _, rfl, ?_⟩
  refine iteF ?_
  refine ⟨_, rfl, v, _, p, d, _, rfl, hd, kit_tuple d, _, rfl, ?_⟩
  cases et : isTup d with
  | false =>
    refine iteT ?_
    cases d with
    | int i =>
      simp only at q
      rw [if_neg (fun z => by rw [inW_int, decide_eq_true z.1, decide_eq_true z.2] at ei; cases ei)] at q
      exact q _ _ (Same.refl _) rfl
    | tuple ds => cases et
    | _ => exact q _ _ (Same.refl _) rfl
  | true =>
  obtain ⟨ds, rfl⟩ : ∃ ds, d = .tuple ds := by
    cases d <;> first | exact ⟨_, rfl⟩ | cases et
  refine iteF ?_
  obtain ⟨a, ys, rfl, hys, hall⟩ := dq_tup_inv hd
  cases hall with
  | nil =>
    refine ⟨_, rfl, a, _, rfl, .inr hys, rfl, _, rfl, ?_⟩
    refine iteF ?_
    refine ⟨_, rfl, a, _, rfl, .inr hys, rfl, _, rfl, ?_⟩
    refine iteF ?_
    exact q _ _ (Same.refl _) rfl
  | cons e1 hall =>
  cases hall with
  | nil =>
    refine ⟨_, rfl, a, _, rfl, .inr hys, rfl, _, rfl, ?_⟩
    refine iteF ?_
    refine ⟨_, rfl, a, _, rfl, .inr hys, rfl, _, rfl, ?_⟩
    refine iteF ?_
    exact q _ _ (Same.refl _) rfl
  | cons e2 hall =>
  cases hall with
  | nil =>
    rename_i vw dw vx dx
    simp only at q
    refine ⟨_, rfl, a, _, rfl, .inr hys, rfl, _, rfl, ?_⟩
    refine iteT ?_
    refine ⟨_, rfl, _, _, _, _, rfl, rfl, hys, rfl, (by show 2 ≤ sizeLine; decide), fun t ht => ?_⟩
    have s1 : Same H (upd H t (.tup [.str "seq", .str "par"])) := same_new ht
    refine ⟨p, t, ["seq", "par"], dw, rfl, SqT.of upd_same, e1.keep (Same.kp s1), _, rfl, ?_⟩
    cases ew : inS dw ["seq", "par"] with
    | true =>
      rw [ew] at q
      refine iteT ?_
      rw [if_pos rfl] at q
      refine ⟨_, rfl, _, _, _, _, rfl, rfl, same_sqT s1 hys, rfl, _, rfl, _, rfl, _, rfl, m, vx, p, dx, room, rfl, rfl, e2.keep (Same.kp s1), by omega, r4, fun H2 r2 s2 h2 => ?_⟩
      exact q _ _ (s1.trans s2) h2
    | false =>
      rw [ew] at q
      refine iteF ?_
      refine ⟨_, rfl, a, _, rfl, .inr (same_sqT s1 hys), rfl, _, rfl, ?_⟩
      refine iteF ?_
      exact q _ _ s1 rfl
  | cons e3 hall =>
  cases hall with
  | nil =>
    rename_i vw dw vc dc vx dx
    simp only at q
    refine ⟨_, rfl, a, _, rfl, .inr hys, rfl, _, rfl, ?_⟩
    refine iteF ?_
    refine ⟨_, rfl, a, _, rfl, .inr hys, rfl, _, rfl, ?_⟩
    refine iteT ?_
    refine ⟨_, rfl, _, _, _, _, rfl, rfl, hys, rfl, (by show 2 ≤ sizeLine; decide), fun t ht => ?_⟩
    have s1 : Same H (upd H t (.tup [.str "repeat", .str "copies"])) := same_new ht
    refine ⟨p, t, ["repeat", "copies"], dw, rfl, SqT.of upd_same, e1.keep (Same.kp s1), _, rfl, ?_⟩
    cases ew : inS dw ["repeat", "copies"] with
    | true =>
      rw [ew] at q
      refine iteT ?_
      rw [if_pos rfl] at q
      refine ⟨_, rfl, _, _, _, _, rfl, rfl, same_sqT s1 hys, rfl, _, rfl, _, _, _, _, rfl, rfl, same_sqT s1 hys, rfl, _, rfl, _, rfl, _, rfl, m, vc, vx, p, dc, dx, room, rfl, rfl, e2.keep (Same.kp s1), e3.keep (Same.kp s1), r4, fun H2 r2 s2 h2 => ?_⟩
      exact q _ _ (s1.trans s2) h2
    | false =>
      rw [ew] at q
      refine iteF ?_
      exact q _ _ s1 rfl
  | cons e4 hall =>
    rename_i v1 d1 v2 d2 v3 d3 v4 d4 vs ds
    refine ⟨_, rfl, a, _, rfl, .inr hys, rfl, _, rfl, ?_⟩
    refine ite2 (fun z => ?_) (fun _ => ?_)
    · exfalso
      have z' : ((v1 :: v2 :: v3 :: v4 :: vs).length : Int) = 2 := of_decide_eq_true z
      simp only [List.length_cons] at z'
      omega
    refine ⟨_, rfl, a, _, rfl, .inr hys, rfl, _, rfl, ?_⟩
    refine ite2 (fun z => ?_) (fun _ => ?_)
    · exfalso
      have z' : ((v1 :: v2 :: v3 :: v4 :: vs).length : Int) = 3 := of_decide_eq_true z
      simp only [List.length_cons] at z'
      omega
    exact q _ _ (Same.refl _) rfl
theorem ok_sizes (T : Txt K mg) : ∀ n : Nat, FnOk P w K mg base CX0 (2 * n + 4) T.f__sizes T.d__sizes ["value", "leaf_steps", "room", "levels"] (spSzQ K T.f_steps_of_leaf n)
  | 0 => ok_sz T ⟨fun vs H Q E h => absurd h.choose_spec.choose_spec.choose_spec.choose_spec.choose_spec.1 (by omega), fun A outer s H args us vs Q E _ _ _ _ h => absurd h.choose_spec.choose_spec.choose_spec.choose_spec.choose_spec.1 (by omega)⟩
      ⟨fun vs H Q E h => absurd h.choose_spec.choose_spec.choose_spec.choose_spec.choose_spec.choose_spec.choose_spec.1 (by omega), fun A outer s H args us vs Q E _ _ _ _ h => absurd h.choose_spec.choose_spec.choose_spec.choose_spec.choose_spec.choose_spec.choose_spec.1 (by omega)⟩
  | n + 1 => ok_sz T (ok_szs T (ok_sizes T n)) (ok_szr T (ok_sizes T n))
def spIsJobQ (K : PySem.W.Frag) : Sp := fun vs H Q _ => ∃ (v : V) (p : Addr) (d : PyData), vs = [v] ∧ Dq K p H v d ∧ ∀ H', Same H H' → Q (.bl (szF 13 d 400).isSome) H'
def spSzOf (K : PySem.W.Frag) (L : Addr) : Sp := fun vs H Q _ => ∃ (v : V) (p : Addr) (d : PyData), vs = [v, .ref L] ∧ Dq K p H v d ∧ ∀ (H' : Hp) (r : V), Same H H' → RepSz H' r (szF 13 d 400) → Q r H'
theorem ok_szof (T : Txt K mg) : FnOk P w K mg base CX0 31 T.f_sizes_of T.d_sizes_of ["value", "leaf_steps"] (spSzOf K T.f_steps_of_leaf) := by
  have g__sizes := ok_sizes (P := P) (w := w) (base := base) T 13
  refine T.F_sizes_of.ok sc_sizes_of (fun vs H Q E h => ?_) (fun cdv A outer s H vs Q E hr h => ?_)
  · obtain ⟨v, p, d, rfl, _⟩ := h
    rfl
  obtain ⟨v, p, d, rfl, hd, q⟩ := h
  refine ⟨_, (pss_one (ps_ret (pe_call g__sizes (hr.mono (by omega)) rfl T.m__sizes T.F__sizes.kp T.b__sizes .nil pass0 (pa_cons (pv 0) (pa_cons (pv 1) (pa_cons (pe_glob (v := .int 400) rfl T.g_MAX_NODES ⟨_, rfl⟩) (pa_cons (pe_glob (v := .int 13) rfl T.g_MAX_DEPTH ⟨_, rfl⟩) pa_nil))))))), ?_⟩
  exact ⟨_, rfl, _, rfl, v, p, d, 400, rfl, hd, by decide, q⟩
theorem ok_isjob (T : Txt K mg) : FnOk P w K mg base CX0 32 T.f_is_job T.d_is_job ["value"] (spIsJobQ K) := by
  have g_sizes_of := ok_szof (P := P) (w := w) (base := base) T
  refine T.F_is_job.ok sc_is_job (fun vs H Q E h => ?_) (fun cdv A outer s H vs Q E hr h => ?_)
  · obtain ⟨v, p, d, rfl, _⟩ := h
    rfl
  obtain ⟨v, p, d, rfl, hd, q⟩ := h
  refine ⟨_, (pss_one (ps_ret (pe_cmpR op_notN (pe_call g_sizes_of (hr.mono (by omega)) rfl T.m_sizes_of T.F_sizes_of.kp T.b_sizes_of .nil pass0 (pa_cons (pv 0) (pa_cons (pe_glob (v := .ref T.f_steps_of_leaf) rfl T.m_steps_of_leaf rfl) pa_nil))) pe_non (nomark _)))), ?_⟩
  refine ⟨_, rfl, v, p, d, rfl, hd, fun H2 r2 s2 h2 => ?_⟩
  cases ez : szF 13 d 400 with
  | none =>
    rw [ez] at h2 q
    obtain rfl : r2 = .non := h2
    exact ⟨rfl, q _ s2⟩
  | some ab =>
    obtain ⟨a, b⟩ := ab
    rw [ez] at h2 q
    obtain ⟨t, rfl, ht⟩ := h2
    exact ⟨rfl, q _ s2⟩
end
/-! block Int06: is_integer of data without dicts (behind bSizesQ) -/
def spNo : Sp := fun _ _ _ _ => False
def spIsInt (K : PySem.W.Frag) : Sp := fun vs H Q _ => ∃ (v : V) (d : PyData), vs = [v] ∧ Dp K H v d ∧ Q (.bl (isInt d && !isBoo d)) H
section
variable {P : Program} {w : World} {K : PySem.W.Frag} {mg : Str → Option Value} {base : Heap}
theorem ok_isintJ (T : Txt K mg) : FnOk P w K mg base CX0 1 T.f_is_integer T.d_is_integer ["value"] (spIsInt K) := by
  refine T.F_is_integer.ok sc_is_integer (fun vs H Q E h => ?_) (fun cdv A outer s H vs Q E hr h => ?_)
  · obtain ⟨v, d, rfl, _⟩ := h
    rfl
  obtain ⟨v, d, rfl, hd, q⟩ := h
  refine ⟨_, (pss_one (ps_ret (pe_and (pe_callB (r := rIsD K) call_isD (by rfl) T.n_isinstance (by decide +kernel) (pa_cons (pv 0) (pa_cons (pe_bltn (v := .ty "int") (by rfl) T.n_int (by decide +kernel) rfl) pa_nil))) (pe_one (pe_not (pe_callB (r := rIsD K) call_isD (by rfl) T.n_isinstance (by decide +kernel) (pa_cons (pv 0) (pa_cons (pe_bltn (v := .ty "bool") (by rfl) T.n_bool (by decide +kernel) rfl) pa_nil)))))))), ?_⟩
  refine ⟨_, rfl, v, _, d, _, rfl, hd, kit_int d, _, rfl, ?_⟩
  cases e : isInt d with
  | false =>
    refine iteF ?_
    rw [e] at q
    exact q
  | true =>
    refine iteT ⟨_, rfl, v, _, d, _, rfl, hd, kit_bool d, _, rfl, ?_⟩
    rw [e] at q
    exact q
end
/-! block Net: _net_and_lowest, _net_and_lowest_of_seq, net, lowest -/
def spNl (K : PySem.W.Frag) (n : Nat) : Sp := fun vs H Q _ => ∃ (v : V) (j : J), vs = [v] ∧ Dp K H v j.toD ∧ j.deep ≤ n ∧ j.ok ∧ ∀ (H' : Hp) (t : Addr), Same H H' → H' t = some (.tup [.int j.net, .int j.low]) → Q (.ref t) H'
def spNls (K : PySem.W.Frag) (n : Nat) : Sp := fun vs H Q _ => ∃ (b : Addr) (vs' : List V) (xs : List J), vs = [.ref b] ∧ SqT K H b vs' ∧ DpAll K H vs' (J.toDs xs) ∧ J.deepL xs ≤ n ∧ J.okL xs ∧
  ∀ (H' : Hp) (t : Addr), Same H H' → H' t = some (.tup [.int (J.netL xs), .int (J.lowS xs)]) → Q (.ref t) H'
/-- low as the loop finds it -/
def lowFrom : Int → Int → List J → Int
  | _, low, [] => low
  | before, low, x :: xs => lowFrom (before + x.net) (min low (before + x.low)) xs
theorem lowFrom_eq : ∀ (xs : List J) (before low : Int), J.okL xs → low ≤ before → lowFrom before low xs = min low (before + J.lowS xs)
  | [], before, low, _, h => by simp only [lowFrom, J.lowS]; omega
  | x :: xs, before, low, o, h => by
    simp only [J.okL] at o
    have h1 := J.low_le x o.1
    have h2 := J.lowS_le xs o.2
    simp only [lowFrom, J.lowS]
    rw [lowFrom_eq xs _ _ o.2 (by omega)]
    omega
theorem J.netL_sum : ∀ xs : List J, (xs.map J.net).sum = J.netL xs
  | [] => by simp [J.netL]
  | x :: xs => by simp only [List.map_cons, List.sum_cons, J.netL, J.netL_sum xs]
theorem J.lowL_sum : ∀ xs : List J, (xs.map J.low).sum = J.lowL xs
  | [] => by simp [J.lowL]
  | x :: xs => by simp only [List.map_cons, List.sum_cons, J.lowL, J.lowL_sum xs]
theorem min_ite (a b : Int) : (if b < a then b else a) = min a b := by
  split <;> omega
section
variable {P : Program} {w : World} {K : PySem.W.Frag} {mg : Str → Option Value} {base : Heap}
theorem ok_nls (T : Txt K mg) {n k : Nat} (g__net_and_lowest : FnOk P w K mg base CX0 k T.f__net_and_lowest T.d__net_and_lowest ["job"] (spNl K n)) :
    FnOk P w K mg base CX0 (k + 1) T.f__net_and_lowest_of_seq T.d__net_and_lowest_of_seq ["parts"] (spNls K n) := by
  refine T.F__net_and_lowest_of_seq.ok sc__net_and_lowest_of_seq (fun vs H Q E h => ?_) (fun cdv A outer s H vs Q E hr h => ?_)
  · obtain ⟨b, vs', xs, rfl, _⟩ := h
    rfl
  obtain ⟨b, vs', xs, rfl, hb, hall, hn, hok, q⟩ := h
  refine ⟨_, (pss_cons (ps_set (i := 1) sc__net_and_lowest_of_seq.nd rfl (Or.inl rfl) pe_int)
      (pss_cons (ps_set (i := 2) sc__net_and_lowest_of_seq.nd rfl (Or.inl rfl) pe_int)
      (pss_cons (ps_for PassesOwn.never rfl (pi_tup (pv 0)) (pg_name (i := 3) sc__net_and_lowest_of_seq.nd rfl (Or.inl rfl))
        (pss_cons (ps_asg (pe_call g__net_and_lowest (hr.mono (by omega)) rfl T.m__net_and_lowest T.F__net_and_lowest.kp T.b__net_and_lowest .nil pass0 (pa_cons (pv 3) pa_nil)) (pg_tup (by rfl) (pgs_cons (pg_name (i := 4) sc__net_and_lowest_of_seq.nd rfl (Or.inl rfl)) (pgs_cons (pg_name (i := 5) sc__net_and_lowest_of_seq.nd rfl (Or.inl rfl)) pgs_nil))))
        (pss_cons (ps_set (i := 2) sc__net_and_lowest_of_seq.nd rfl (Or.inl rfl) (pe_callB (call_min2 rfl) (by rfl) T.n_min (by decide +kernel) (pa_cons (pv 2) (pa_cons (pe_op op_add (pv 1) (pv 5)) pa_nil))))
        (pss_one (ps_aug (i := 1) sc__net_and_lowest_of_seq.nd rfl (Or.inl rfl) (pv 4) ip_add)))))
      (pss_one (ps_ret (pe_tup (pa_cons (pv 1) (pa_cons (pv 2) pa_nil)))))))), ?_⟩
  refine ⟨_, rfl, b, rfl, ⟨vs', hb⟩, ?_⟩
  refine for_tup (K := K) (a := b) (xs := vs') (fun i σ H' => ∃ (before low : Int) (y3 y4 y5 : Option V), σ = [some (.ref b), some (.int before), some (.int low), y3, y4, y5] ∧ Same H H' ∧
    before + J.netL (xs.drop i) = J.netL xs ∧ lowFrom before low (xs.drop i) = lowFrom 0 0 xs) ⟨0, 0, none, none, none, rfl, Same.refl _, by rw [List.drop_zero]; omega, rfl⟩ (fun i σ H' _ ⟨_, _, _, _, _, _, s1, _⟩ => same_sqT s1 hb) ?_ ?_
  · rintro i x σ H' hi ⟨before, low, y3, y4, y5, rfl, s1, e1, e2⟩
    obtain ⟨j, ej, mj, dj⟩ := parts_at hall hi
    obtain ⟨hij, ej'⟩ := List.getElem?_eq_some_iff.mp ej
    have hdrop : xs.drop i = j :: xs.drop (i + 1) := by rw [← ej']; exact List.drop_eq_getElem_cons hij
    rw [hdrop] at e1 e2
    simp only [J.netL, lowFrom] at e1 e2
    refine ⟨_, rfl, x, j, rfl, dp_same s1 dj, by have := deep_mem mj; omega, ok_mem hok mj, fun H2 t s2 ht => ?_⟩
    refine ⟨t, _, rfl, SqT.of ht, rfl, _, _, rfl, _, _, rfl, rfl, ?_⟩
    refine ⟨_, rfl, _, rfl, _, rfl, _, _, rfl, rfl, _, _, rfl, ?_⟩
    refine ⟨_, rfl, _, rfl, _, _, rfl, rfl, ?_⟩
    refine ⟨_, _, _, _, _, rfl, s1.trans s2, by show before + j.net + J.netL (xs.drop (i + 1)) = J.netL xs; omega, ?_⟩
    rw [min_ite]
    exact e2
  · rintro σ H' ⟨before, low, y3, y4, y5, rfl, s1, e1, e2⟩
    have el : vs'.length = xs.length := parts_len hall
    rw [el, List.drop_length] at e1 e2
    simp only [J.netL, lowFrom] at e1 e2
    refine ⟨_, rfl, _, rfl, (by show 2 ≤ sizeLine; decide), fun t ht => ?_⟩
    have l1 := lowFrom_eq xs 0 0 hok (by omega)
    have l2 := J.lowS_le xs hok
    refine q _ t (s1.trans (same_new ht)) ?_
    rw [upd_same, e2, l1]
    have x1 : before = J.netL xs := by omega
    have x2 : min 0 (0 + J.lowS xs) = J.lowS xs := by omega
    rw [x1, x2]
theorem ok_nl_next (T : Txt K mg) {n : Nat} (g__net_and_lowest : FnOk P w K mg base CX0 (2 * n + 1) T.f__net_and_lowest T.d__net_and_lowest ["job"] (spNl K n)) :
    FnOk P w K mg base CX0 (2 * (n + 1) + 1) T.f__net_and_lowest T.d__net_and_lowest ["job"] (spNl K (n + 1)) := by
  have g_is_integer : FnOk P w K mg base CX0 1 T.f_is_integer T.d_is_integer ["value"] (spIsInt K) := ok_isintJ T
  have g__net_and_lowest_of_seq := ok_nls T g__net_and_lowest
  refine T.F__net_and_lowest.ok sc__net_and_lowest (fun vs H Q E h => ?_) (fun cdv A outer s H vs Q E hr h => ?_)
  · obtain ⟨v, j, rfl, _⟩ := h
    rfl
  obtain ⟨v, j, rfl, hd, hn, hok, q⟩ := h
  refine ⟨_, (pss_cons (ps_if (pt_val (pe_call g_is_integer (hr.mono (by omega)) rfl T.m_is_integer T.F_is_integer.kp T.b_is_integer .nil pass0 (pa_cons (pv 0) pa_nil))) (pss_one (ps_ret (pe_tup (pa_cons (pv 0) (pa_cons (pe_callB (call_min2 rfl) (by rfl) T.n_min (by decide +kernel) (pa_cons pe_int (pa_cons (pv 0) pa_nil))) pa_nil))))) pss_nil)
      (pss_cons (ps_if (pt_cmpR op_eq (pe_ix (r := rIxT K) ix_tup (pv 0) pe_int (fun _ _ => rfl)) pe_str (nomark _)) (pss_one (ps_ret (pe_call g__net_and_lowest_of_seq (hr.mono (by omega)) rfl T.m__net_and_lowest_of_seq T.F__net_and_lowest_of_seq.kp T.b__net_and_lowest_of_seq .nil pass0 (pa_cons (pe_ix (r := rIxT K) ix_tup (pv 0) pe_int (fun _ _ => rfl)) pa_nil)))) pss_nil)
      (pss_cons (ps_if (pt_cmpR op_eq (pe_ix (r := rIxT K) ix_tup (pv 0) pe_int (fun _ _ => rfl)) pe_str (nomark _)) (pss_cons (ps_setLc (i := 1) (own := [("part", 5)]) (g := (gName 5)) (by rfl) sc__net_and_lowest.nd rfl rfl (sw_true rfl rfl rfl (by decide +kernel)) (pi_tup (pe_ix (r := rIxT K) ix_tup (pv 0) pe_int (fun _ _ => rfl))) (blkOk_by (N := N__net_and_lowest) (sc := (defScope s__net_and_lowest)) (by decide +kernel)) (fun _ _ _ _ _ => (pg_name (i := 5) sc__net_and_lowest.nd rfl (Or.inl rfl))) (fun _ _ _ _ _ => pts_nil) (fun _ _ _ _ _ => (pe_call g__net_and_lowest (hr.mono (by omega)) rfl T.m__net_and_lowest T.F__net_and_lowest.kp T.b__net_and_lowest .nil pass0 (pa_cons (pv 5) pa_nil))))
        (pss_one (ps_ret (pe_tup (pa_cons (pe_callB (r := rSum K) (cr_sum rfl) (by rfl) T.n_sum (by decide +kernel) (pa_cons (pe_lc (own := [("pair", 6)]) (g := (gName 6)) (by rfl) sc__net_and_lowest.nd (pi_list (pv 1)) (blkOk_by (N := N__net_and_lowest) (sc := (defScope s__net_and_lowest)) (by decide +kernel)) (fun _ _ _ _ _ => (pg_name (i := 6) sc__net_and_lowest.nd rfl (Or.inl rfl))) (fun _ _ _ _ _ => pts_nil) (fun _ _ _ _ _ => (pe_ix (r := rIxT K) ix_tup (pv 6) pe_int (fun _ _ => rfl)))) pa_nil)) (pa_cons (pe_callB (r := rSum K) (cr_sum rfl) (by rfl) T.n_sum (by decide +kernel) (pa_cons (pe_lc (own := [("pair", 6)]) (g := (gName 6)) (by rfl) sc__net_and_lowest.nd (pi_list (pv 1)) (blkOk_by (N := N__net_and_lowest) (sc := (defScope s__net_and_lowest)) (by decide +kernel)) (fun _ _ _ _ _ => (pg_name (i := 6) sc__net_and_lowest.nd rfl (Or.inl rfl))) (fun _ _ _ _ _ => pts_nil) (fun _ _ _ _ _ => (pe_ix (r := rIxT K) ix_tup (pv 6) pe_int (fun _ _ => rfl)))) pa_nil)) pa_nil)))))) pss_nil)
      (pss_cons (ps_set (i := 2) sc__net_and_lowest.nd rfl (Or.inl rfl) (pe_ix (r := rIxT K) ix_tup (pv 0) pe_int (fun _ _ => rfl)))
      (pss_cons (ps_asg (pe_call g__net_and_lowest (hr.mono (by omega)) rfl T.m__net_and_lowest T.F__net_and_lowest.kp T.b__net_and_lowest .nil pass0 (pa_cons (pe_ix (r := rIxT K) ix_tup (pv 0) pe_int (fun _ _ => rfl)) pa_nil)) (pg_tup (by rfl) (pgs_cons (pg_name (i := 3) sc__net_and_lowest.nd rfl (Or.inl rfl)) (pgs_cons (pg_name (i := 4) sc__net_and_lowest.nd rfl (Or.inl rfl)) pgs_nil))))
      (pss_cons (ps_if (pt_cmpR op_eq (pv 2) pe_int (nomark _)) (pss_one (ps_ret (pe_tup (pa_cons pe_int (pa_cons pe_int pa_nil))))) pss_nil)
      (pss_cons (ps_if (pt_cmpR op_eq (pe_ix (r := rIxT K) ix_tup (pv 0) pe_int (fun _ _ => rfl)) pe_str (nomark _)) (pss_one (ps_ret (pe_tup (pa_cons (pe_op op_mulW (pv 2) (pv 3)) (pa_cons (pe_op op_mulW (pv 2) (pv 4)) pa_nil))))) pss_nil)
      (pss_one (ps_ret (pe_tup (pa_cons (pe_op op_mulW (pv 2) (pv 3)) (pa_cons (pe_op op_add (pv 4) (pe_op op_mulW (pe_op op_sub (pv 2) pe_int) (pe_callB (call_min2 rfl) (by rfl) T.n_min (by decide +kernel) (pa_cons pe_int (pa_cons (pv 3) pa_nil))))) pa_nil)))))))))))), ?_⟩
  cases j with
  | st i =>
    obtain rfl := dp_int_inv hd
    simp only [J.net, J.low] at q
    refine ⟨_, rfl, _, .int i, rfl, .int i, _, rfl, ?_⟩
    refine iteT ?_
    refine ⟨_, rfl, _, rfl, _, _, rfl, (by show 2 ≤ sizeLine; decide), fun t ht => ?_⟩
    refine q _ t (same_new ht) ?_
    rw [upd_same, min_ite]
  | ps k xs =>
    simp only [J.deep] at hn
    simp only [J.ok] at hok
    have hd0 := hd
    obtain ⟨a, b, vs, rfl, hys, hvs, hall⟩ := ps_inv hd
    refine ⟨_, rfl, _, _, rfl, hd0, _, rfl, ?_⟩
    rw [J.toD]
    refine iteF ?_
    refine ⟨_, rfl, _, _, _, _, rfl, rfl, hys, rfl, rfl, _, rfl, ?_⟩
    rw [w_seq]
    cases k with
    | false =>
      refine iteT ?_
      simp only [J.net, J.low] at q
      refine ⟨_, rfl, _, _, _, _, rfl, rfl, hys, rfl, b, vs, xs, rfl, hvs, hall, by omega, hok.2.1, fun H2 t s2 ht => ?_⟩
      exact q _ t s2 ht
    | true =>
      refine iteF ?_
      refine ⟨_, rfl, _, _, _, _, rfl, rfl, hys, rfl, rfl, _, rfl, ?_⟩
      rw [w_par]
      refine iteT ?_
      simp only [J.net, J.low] at q
      refine ⟨_, rfl, _, _, _, _, rfl, rfl, hys, rfl, b, rfl, ⟨vs, hvs⟩, fun D hD => ?_⟩
      have el : vs.length = xs.length := parts_len hall
      refine lc_tup (K := K) (a := b) (xs := vs) (fun i H' => Same H H' ∧ ∃ ts : List Addr, ts.length = i ∧ H' D = some (.lst (ts.map V.ref)) ∧ ∀ (m : Nat) (t : Addr) (j : J), ts[m]? = some t → xs[m]? = some j → H' t = some (.tup [.int j.net, .int j.low])) ?_ ?_ ?_ ?_
      · exact ⟨same_new hD, [], rfl, upd_same, fun m t j z => by simp at z⟩
      · rintro i H' _ ⟨s2, _⟩
        exact same_sqT s2 hvs
      · rintro i x H' hi ⟨s2, ts, lt, eD, hts⟩
        obtain ⟨j, ej, mj, dj⟩ := parts_at hall hi
        refine ⟨rfl, ?_⟩
        unfold tYes
        refine iteT ?_
        refine ⟨_, rfl, x, j, rfl, dp_same s2 dj, by have := deep_mem mj; omega, ok_mem hok.2.1 mj, fun H3 t s3 ht => ?_⟩
        have il : i < vs.length := (List.getElem?_eq_some_iff.mp hi).1
        have eD3 := s3 _ _ eD
        refine ⟨_, eD3, ?_, ?_, ts ++ [t], ?_, ?_, ?_⟩
        · rw [List.length_map]
          exact small1000 (by omega)
        · intro c o hc
          rw [upd_ne (ne_of_none hc hD)]
          exact s3 _ _ (s2 _ _ hc)
        · rw [List.length_append, List.length_singleton, lt]
        · rw [upd_same, List.map_append]
          rfl
        · intro m t2 j2 z1 z2
          have ntD : t2 ≠ D → (upd H3 D (.lst (ts.map V.ref ++ [V.ref t]))) t2 = H3 t2 := fun z => upd_ne z
          by_cases hm : m < ts.length
          · rw [List.getElem?_append_left hm] at z1
            have g := s3 _ _ (hts m t2 j2 z1 z2)
            rw [ntD (ne_of g eD3 (by intro z; cases z))]
            exact g
          · have hm2 : m = ts.length := by
              have := (List.getElem?_eq_some_iff.mp z1).1
              rw [List.length_append, List.length_singleton] at this
              omega
            subst hm2
            rw [List.getElem?_append_right (Nat.le_refl _), Nat.sub_self] at z1
            have e1 : t = t2 := Option.some.inj z1
            subst e1
            rw [lt] at z2
            rw [ej] at z2
            have e2 : j = j2 := Option.some.inj z2
            subst e2
            rw [ntD (ne_of ht eD3 (by intro z; cases z))]
            exact ht
      · rintro H' ⟨s2, ts, lt, eD, hts⟩
        -- the two sums
        have lts : ts.length = xs.length := by rw [lt, el]
        have half : ∀ (H4 : Hp) (g : J → Int) (s4 : Same H' H4) (Z : Addr) (hZ : H4 Z = none) (H5 : Hp), Same H4 H5 → True := fun _ _ _ _ _ _ _ => trivial
        refine ⟨_, rfl, D, rfl, ⟨_, SqL.of eD⟩, fun Z hZ => ?_⟩
        refine lc_list (K := K) (a := D) (xs := ts.map V.ref) (fun i H4 => Same H' H4 ∧ H4 Z = some (.lst (((xs.take i).map J.net).map V.int))) ⟨same_new hZ, upd_same⟩ (fun i H4 _ ⟨s4, _⟩ => SqL.of (s4 _ _ eD)) ?_ ?_
        · rintro i x H4 hi ⟨s4, eZ⟩
          rw [List.getElem?_map] at hi
          obtain ⟨t, et, rfl⟩ := Option.map_eq_some_iff.mp hi
          have il : i < ts.length := (List.getElem?_eq_some_iff.mp et).1
          have ij : i < xs.length := by omega
          have ht := s4 _ _ (hts i t _ et (List.getElem?_eq_getElem ij))
          refine ⟨rfl, ?_⟩
          unfold tYes
          refine iteT ?_
          refine ⟨_, rfl, _, _, _, _, rfl, rfl, SqT.of ht, rfl, _, eZ, ?_, ?_, ?_⟩
          · rw [List.length_map, List.length_map, List.length_take]
            exact small1000 (by omega)
          · intro c o hc
            rw [upd_ne (ne_of_none hc hZ)]
            exact s4 _ _ hc
          · rw [upd_same, take_step J.net (List.getElem?_eq_getElem ij), List.map_append]
            rfl
        · rintro H4 ⟨s4, eZ⟩
          rw [List.length_map, lts, List.take_length] at eZ
          refine ⟨Z, xs.map J.net, rfl, SqL.of eZ, ?_⟩
          refine ⟨_, rfl, D, rfl, ⟨_, SqL.of (s4 _ _ eD)⟩, fun Y hY => ?_⟩
          refine lc_list (K := K) (a := D) (xs := ts.map V.ref) (fun i H5 => Same H4 H5 ∧ H5 Y = some (.lst (((xs.take i).map J.low).map V.int))) ⟨same_new hY, upd_same⟩ (fun i H5 _ ⟨s5, _⟩ => SqL.of (s5 _ _ (s4 _ _ eD))) ?_ ?_
          · rintro i x H5 hi ⟨s5, eY⟩
            rw [List.getElem?_map] at hi
            obtain ⟨t, et, rfl⟩ := Option.map_eq_some_iff.mp hi
            have il : i < ts.length := (List.getElem?_eq_some_iff.mp et).1
            have ij : i < xs.length := by omega
            have ht := s5 _ _ (s4 _ _ (hts i t _ et (List.getElem?_eq_getElem ij)))
            refine ⟨rfl, ?_⟩
            unfold tYes
            refine iteT ?_
            refine ⟨_, rfl, _, _, _, _, rfl, rfl, SqT.of ht, rfl, _, eY, ?_, ?_, ?_⟩
            · rw [List.length_map, List.length_map, List.length_take]
              exact small1000 (by omega)
            · intro c o hc
              rw [upd_ne (ne_of_none hc hY)]
              exact s5 _ _ hc
            · rw [upd_same, take_step J.low (List.getElem?_eq_getElem ij), List.map_append]
              rfl
          · rintro H5 ⟨s5, eY⟩
            rw [List.length_map, lts, List.take_length] at eY
            refine ⟨Y, xs.map J.low, rfl, SqL.of eY, ?_⟩
            refine ⟨(by show 2 ≤ sizeLine; decide), fun u hu => ?_⟩
            refine q _ u (s2.trans (s4.trans (s5.trans (same_new hu)))) ?_
            rw [upd_same, J.netL_sum, J.lowL_sum]
  | rn k c x =>
    simp only [J.deep] at hn
    simp only [J.ok] at hok
    have hd0 := hd
    obtain ⟨a, v, rfl, hys, hx⟩ := rn_inv hd
    refine ⟨_, rfl, _, _, rfl, hd0, _, rfl, ?_⟩
    rw [J.toD]
    refine iteF ?_
    refine ⟨_, rfl, _, _, _, _, rfl, rfl, hys, rfl, rfl, _, rfl, ?_⟩
    rw [w_seq_no]
    refine iteF ?_
    refine ⟨_, rfl, _, _, _, _, rfl, rfl, hys, rfl, rfl, _, rfl, ?_⟩
    rw [w_par_no]
    refine iteF ?_
    refine ⟨_, rfl, _, _, _, _, rfl, rfl, hys, rfl, ?_⟩
    refine ⟨_, rfl, _, _, _, _, rfl, rfl, hys, rfl, v, x, rfl, hx, by omega, hok.2.1, fun H2 t s2 ht => ?_⟩
    refine ⟨t, _, rfl, SqT.of ht, rfl, _, _, rfl, _, _, rfl, rfl, ?_⟩
    have n60 := J.net_60 x hok.2.1
    have l60 := J.low_60 x hok.2.1
    have c30 := hok.1
    simp only [M60, M30] at n60 l60 c30
    have b1 : c.natAbs < 2 ^ 128 := Nat.lt_of_le_of_lt (show c.natAbs ≤ 1000000000000000000000000000000 by omega) (by decide)
    have b2 : (c - 1).natAbs < 2 ^ 128 := Nat.lt_of_le_of_lt (show (c - 1).natAbs ≤ 1000000000000000000000000000000 by omega) (by decide)
    have b3 : x.net.natAbs < 2 ^ 256 := Nat.lt_of_le_of_lt (show x.net.natAbs ≤ 1000000000000000000000000000000000000000000000000000000000000 by omega) (by decide)
    have b4 : x.low.natAbs < 2 ^ 256 := Nat.lt_of_le_of_lt (show x.low.natAbs ≤ 1000000000000000000000000000000000000000000000000000000000000 by omega) (by decide)
    refine ⟨_, rfl, rfl, _, rfl, ?_⟩
    rw [w_dec_int]
    refine ite2 (fun g => ?_) (fun g => ?_)
    · have g' : c = 0 := of_decide_eq_true g
      subst g'
      refine ⟨(by show 2 ≤ sizeLine; decide), fun u hu => ?_⟩
      refine q _ u (s2.trans (same_new hu)) ?_
      rw [upd_same]
      cases k <;> simp only [J.net, J.low, Int.zero_mul, if_true]
    · have g' : c ≠ 0 := fun z => g (decide_eq_true z)
      refine ⟨_, rfl, _, _, _, _, rfl, rfl, same_sqT s2 hys, rfl, rfl, _, rfl, ?_⟩
      rw [w_copies]
      cases k with
      | true =>
        refine iteT ?_
        refine ⟨_, rfl, _, rfl, _, _, rfl, rfl, wide_mul (a := 128) (b := 256) b1 b3 (by decide) (by decide) (by decide), _, rfl, _, rfl, _, _, rfl, rfl, wide_mul (a := 128) (b := 256) b1 b4 (by decide) (by decide) (by decide), (by show 2 ≤ sizeLine; decide), fun u hu => ?_⟩
        refine q _ u (s2.trans (same_new hu)) ?_
        rw [upd_same]
        simp only [J.net, J.low]
      | false =>
        refine iteF ?_
        refine ⟨_, rfl, _, rfl, _, _, rfl, rfl, wide_mul (a := 128) (b := 256) b1 b3 (by decide) (by decide) (by decide), _, rfl, _, rfl, _, _, rfl, rfl, _, rfl, _, _, rfl, ?_⟩
        refine ⟨_, _, rfl, rfl, wide_mul (a := 128) (b := 256) b2 (by split <;> first | exact b3 | decide) (by decide) (by decide) (by decide), ?_⟩
        refine ⟨_, _, rfl, rfl, (by show 2 ≤ sizeLine; decide), fun u hu => ?_⟩
        refine q _ u (s2.trans (same_new hu)) ?_
        rw [upd_same, min_ite]
        simp only [J.net, J.low]
        rw [if_neg g']
theorem ok_nl (T : Txt K mg) : ∀ n : Nat, FnOk P w K mg base CX0 (2 * n + 1) T.f__net_and_lowest T.d__net_and_lowest ["job"] (spNl K n)
  | 0 => by
    have no : ∀ vs H Q E, ¬ spNl K 0 vs H Q E := by
      rintro vs H Q E ⟨v, j, _, _, h, _⟩
      have := J.deep_pos j
      omega
    exact ⟨fun vs H Q E h => absurd h (no vs H Q E), fun A outer s H args us vs Q E _ _ _ _ h => absurd h (no vs H Q E)⟩
  | n + 1 => ok_nl_next T (ok_nl T n)
def spNet (K : PySem.W.Frag) : Sp := fun vs H Q _ => ∃ (v : V) (j : J), vs = [v] ∧ Dp K H v j.toD ∧ j.deep ≤ 20 ∧ (szJ j 400 13).isSome = true ∧ ∀ H', Same H H' → Q (.int j.net) H'
def spLow (K : PySem.W.Frag) : Sp := fun vs H Q _ => ∃ (v : V) (j : J), vs = [v] ∧ Dp K H v j.toD ∧ j.deep ≤ 20 ∧ (szJ j 400 13).isSome = true ∧ ∀ H', Same H H' → Q (.int j.low) H'
end
/-! block Ref06: what the functions of jobs answer to any value (behind bSizesQ, bNet) -/
def spChkQ (K : PySem.W.Frag) (C : Addr) : Sp := fun vs H Q E => ∃ (v : V) (p : Addr) (d : PyData), vs = [v] ∧ Dq K p H v d ∧
  (∀ a b, szF 13 d 400 = some (a, b) → ∀ (H' : Hp) (t : Addr), Same H H' → H' t = some (.tup [.int a, .int b]) → Q (.ref t) H') ∧ (szF 13 d 400 = none → ∀ H', Same H H' → E (.ref C) none H')
/-- a value that is no job -/
def spRefQ (K : PySem.W.Frag) (C : Addr) : Sp := fun vs H _ E => ∃ (v : V) (p : Addr) (d : PyData), vs = [v] ∧ Dq K p H v d ∧ szF 13 d 400 = none ∧ ∀ H', Same H H' → E (.ref C) none H'
/-- a job, and a number of it -/
def spNumQ (K : PySem.W.Frag) (f : J → Int) : Sp := fun vs H Q _ => ∃ (v : V) (j : J) (a b : Int), vs = [v] ∧ Dp K H v j.toD ∧ j.deep ≤ 20 ∧ j.ok ∧ szF 13 j.toD 400 = some (a, b) ∧ a = j.nodes ∧ b = j.steps ∧ ∀ H', Same H H' → Q (.int (f j)) H'
def spBothQ (K : PySem.W.Frag) (C : Addr) (f : J → Int) : Sp := fun vs H Q E => spRefQ K C vs H Q E ∨ spNumQ K f vs H Q E
theorem both_len {K : PySem.W.Frag} {C : Addr} {f : J → Int} {x : Str} {vs : List V} {H : Hp} {Q : VK} {E : XK} (h : spBothQ K C f vs H Q E) : vs.length = [x].length := by
  rcases h with ⟨v, p, d, rfl, _⟩ | ⟨v, j, a, b, rfl, _⟩ <;> rfl
theorem ref_len {K : PySem.W.Frag} {C : Addr} {x : Str} {vs : List V} {H : Hp} {Q : VK} {E : XK} (h : spRefQ K C vs H Q E) : vs.length = [x].length := by
  obtain ⟨v, p, d, rfl, _⟩ := h
  rfl
section
variable {P : Program} {w : World} {K : PySem.W.Frag} {mg : Str → Option Value} {base : Heap}
theorem no_tidied (T : Txt K mg) : FnOk P w K mg base CX0 1 T.f_tidied T.d_tidied ["job"] spNo := by
  refine T.F_tidied.ok sc_tidied (fun vs H Q E h => ?_) (fun cdv A outer s H vs Q E hr h => ?_)
  · exact False.elim h
  · exact False.elim h
theorem no_mirrored (T : Txt K mg) : FnOk P w K mg base CX0 1 T.f_mirrored T.d_mirrored ["job"] spNo := by
  refine T.F_mirrored.ok sc_mirrored (fun vs H Q E h => ?_) (fun cdv A outer s H vs Q E hr h => ?_)
  · exact False.elim h
  · exact False.elim h
theorem ok_chkQ (T : Txt K mg) : FnOk P w K mg base (L2.CX P w) 32 T.f_checked_sizes T.d_checked_sizes ["job"] (spChkQ K T.c_InvalidJob) := by
  have g_sizes_of := ok_szof (P := P) (w := w) (base := base) T
  refine T.F_checked_sizes.okX sc_checked_sizes (fun vs H Q E h => ?_) (fun cdv A outer s H vs Q E hr h => ?_)
  · obtain ⟨v, p, d, rfl, _⟩ := h
    rfl
  obtain ⟨v, p, d, rfl, hd, q, qe⟩ := h
  refine ⟨_, (pss_cons (ps_set (i := 1) sc_checked_sizes.nd rfl (Or.inl rfl) (pe_call g_sizes_of (hr.mono (by omega)) rfl T.m_sizes_of T.F_sizes_of.kp T.b_sizes_of .nil pass0 (pa_cons (pv 0) (pa_cons (pe_glob (v := .ref T.f_steps_of_leaf) rfl T.m_steps_of_leaf rfl) pa_nil))))
      (pss_cons (ps_if (pt_cmpR op_isN (pv 1) pe_non (nomark _)) (pss_one (ps_raise rfl (takes_of rfl rfl rfl rfl) (pmk_own PySem.F.excBase_ValueError T.x_InvalidJob T.g_InvalidJob T.k_InvalidJob (raises_own T.bb_InvalidJob T.tt_InvalidJob) rfl))) pss_nil)
      (pss_one (ps_ret (pv 1))))), ?_⟩
  refine ⟨_, rfl, v, p, d, rfl, hd, fun H2 r2 s2 h2 => ?_⟩
  cases ez : szF 13 d 400 with
  | none =>
    rw [ez] at h2
    obtain rfl : r2 = .non := h2
    refine ⟨_, rfl, rfl, _, rfl, ?_⟩
    refine iteT ?_
    exact qe ez _ s2
  | some ab =>
    obtain ⟨a, b⟩ := ab
    rw [ez] at h2
    obtain ⟨t, rfl, ht⟩ := h2
    refine ⟨_, rfl, rfl, _, rfl, ?_⟩
    refine iteF ?_
    exact ⟨_, rfl, q a b ez _ t s2 ht⟩
theorem ok_nodeQ (T : Txt K mg) : FnOk P w K mg base (L2.CX P w) 45 T.f_node_count T.d_node_count ["job"] (spBothQ K T.c_InvalidJob J.nodes) := by
  have g_checked_sizes := ok_chkQ (P := P) (w := w) (base := base) T
  refine T.F_node_count.okX sc_node_count (fun vs H Q E h => both_len h) (fun cdv A outer s H vs Q E hr h => ?_)
  refine ⟨_, (pss_one (ps_ret (pe_ix (r := rIxT K) ix_tup (pe_callS g_checked_sizes (hr.mono (by omega)) rfl T.m_checked_sizes T.F_checked_sizes.kp T.b_checked_sizes (fun σ => passAt (takes_of rfl rfl rfl rfl) σ) (pa_cons (pv 0) pa_nil)) pe_int (fun _ _ => rfl)))), ?_⟩
  rcases h with ⟨v, p, d, rfl, hd, ez, qe⟩ | ⟨v, j, a, b, rfl, hd, hdp, ho, ez, ea, eb, q⟩
  · exact ⟨_, rfl, v, p, d, rfl, hd, fun a b e => (by rw [ez] at e; cases e), fun _ H' s => qe H' s⟩
  · refine ⟨_, rfl, v, 0, j.toD, rfl, dq_of j.noL hd, fun a' b' e H' t s ht => ?_, fun e => by rw [ez] at e; cases e⟩
    rw [ez] at e
    cases e
    exact ⟨_, _, _, _, rfl, rfl, SqT.of ht, rfl, by rw [ea]; exact q _ s⟩
theorem ok_stepQ (T : Txt K mg) : FnOk P w K mg base (L2.CX P w) 45 T.f_step_count T.d_step_count ["job"] (spBothQ K T.c_InvalidJob J.steps) := by
  have g_checked_sizes := ok_chkQ (P := P) (w := w) (base := base) T
  refine T.F_step_count.okX sc_step_count (fun vs H Q E h => both_len h) (fun cdv A outer s H vs Q E hr h => ?_)
  refine ⟨_, (pss_one (ps_ret (pe_ix (r := rIxT K) ix_tup (pe_callS g_checked_sizes (hr.mono (by omega)) rfl T.m_checked_sizes T.F_checked_sizes.kp T.b_checked_sizes (fun σ => passAt (takes_of rfl rfl rfl rfl) σ) (pa_cons (pv 0) pa_nil)) pe_int (fun _ _ => rfl)))), ?_⟩
  rcases h with ⟨v, p, d, rfl, hd, ez, qe⟩ | ⟨v, j, a, b, rfl, hd, hdp, ho, ez, ea, eb, q⟩
  · exact ⟨_, rfl, v, p, d, rfl, hd, fun a b e => (by rw [ez] at e; cases e), fun _ H' s => qe H' s⟩
  · refine ⟨_, rfl, v, 0, j.toD, rfl, dq_of j.noL hd, fun a' b' e H' t s ht => ?_, fun e => by rw [ez] at e; cases e⟩
    rw [ez] at e
    cases e
    exact ⟨_, _, _, _, rfl, rfl, SqT.of ht, rfl, by rw [eb]; exact q _ s⟩
theorem ok_emptyQ (T : Txt K mg) : FnOk P w K mg base (L2.CX P w) 45 T.f_is_empty T.d_is_empty ["job"] (spRefQ K T.c_InvalidJob) := by
  have g_checked_sizes := ok_chkQ (P := P) (w := w) (base := base) T
  refine T.F_is_empty.okX sc_is_empty (fun vs H Q E h => ref_len h) (fun cdv A outer s H vs Q E hr h => ?_)
  refine ⟨_, (pss_one (ps_ret (pe_cmpR op_eq (pe_ix (r := rIxT K) ix_tup (pe_callS g_checked_sizes (hr.mono (by omega)) rfl T.m_checked_sizes T.F_checked_sizes.kp T.b_checked_sizes (fun σ => passAt (takes_of rfl rfl rfl rfl) σ) (pa_cons (pv 0) pa_nil)) pe_int (fun _ _ => rfl)) pe_int (nomark _)))), ?_⟩
  obtain ⟨v, p, d, rfl, hd, ez, qe⟩ := h
  exact ⟨_, rfl, v, p, d, rfl, hd, fun a b e => (by rw [ez] at e; cases e), fun _ H' s => qe H' s⟩
theorem ok_mirrorQ (T : Txt K mg) : FnOk P w K mg base (L2.CX P w) 45 T.f_mirror T.d_mirror ["job"] (spRefQ K T.c_InvalidJob) := by
  have g_checked_sizes := ok_chkQ (P := P) (w := w) (base := base) T
  have g_mirrored := no_mirrored (P := P) (w := w) (base := base) T
  refine T.F_mirror.okX sc_mirror (fun vs H Q E h => ref_len h) (fun cdv A outer s H vs Q E hr h => ?_)
  refine ⟨_, (pss_cons (ps_expr (pe_callS g_checked_sizes (hr.mono (by omega)) rfl T.m_checked_sizes T.F_checked_sizes.kp T.b_checked_sizes (fun σ => passAt (takes_of rfl rfl rfl rfl) σ) (pa_cons (pv 0) pa_nil)))
      (pss_one (ps_ret (pe_call g_mirrored (hr.mono (by omega)) rfl T.m_mirrored T.F_mirrored.kp T.b_mirrored .nil pass0 (pa_cons (pv 0) pa_nil))))), ?_⟩
  obtain ⟨v, p, d, rfl, hd, ez, qe⟩ := h
  exact ⟨_, rfl, v, p, d, rfl, hd, fun a b e => (by rw [ez] at e; cases e), fun _ H' s => qe H' s⟩
theorem ok_tidyQ (T : Txt K mg) : FnOk P w K mg base (L2.CX P w) 45 T.f_tidy T.d_tidy ["job"] (spRefQ K T.c_InvalidJob) := by
  have g_checked_sizes := ok_chkQ (P := P) (w := w) (base := base) T
  have g_tidied := no_tidied (P := P) (w := w) (base := base) T
  have g_is_job := ok_isjob (P := P) (w := w) (base := base) T
  refine T.F_tidy.okX sc_tidy (fun vs H Q E h => ref_len h) (fun cdv A outer s H vs Q E hr h => ?_)
  refine ⟨_, (pss_cons (ps_expr (pe_callS g_checked_sizes (hr.mono (by omega)) rfl T.m_checked_sizes T.F_checked_sizes.kp T.b_checked_sizes (fun σ => passAt (takes_of rfl rfl rfl rfl) σ) (pa_cons (pv 0) pa_nil)))
      (pss_cons (ps_set (i := 1) sc_tidy.nd rfl (Or.inl rfl) (pe_call g_tidied (hr.mono (by omega)) rfl T.m_tidied T.F_tidied.kp T.b_tidied .nil pass0 (pa_cons (pv 0) pa_nil)))
      (pss_cons (ps_if (pt_not (pt_val (pe_call g_is_job (hr.mono (by omega)) rfl T.m_is_job T.F_is_job.kp T.b_is_job .nil pass0 (pa_cons (pv 1) pa_nil)))) (pss_one ps_never) pss_nil)
      (pss_one (ps_ret (pv 1)))))), ?_⟩
  obtain ⟨v, p, d, rfl, hd, ez, qe⟩ := h
  exact ⟨_, rfl, v, p, d, rfl, hd, fun a b e => (by rw [ez] at e; cases e), fun _ H' s => qe H' s⟩
theorem ok_netQ (T : Txt K mg) : FnOk P w K mg base (L2.CX P w) 45 T.f_net T.d_net ["job"] (spBothQ K T.c_InvalidJob J.net) := by
  have g_checked_sizes := ok_chkQ (P := P) (w := w) (base := base) T
  have g__net_and_lowest := ok_nl (P := P) (w := w) (base := base) T 20
  refine T.F_net.okX sc_net (fun vs H Q E h => both_len h) (fun cdv A outer s H vs Q E hr h => ?_)
  refine ⟨_, (pss_cons (ps_expr (pe_callS g_checked_sizes (hr.mono (by omega)) rfl T.m_checked_sizes T.F_checked_sizes.kp T.b_checked_sizes (fun σ => passAt (takes_of rfl rfl rfl rfl) σ) (pa_cons (pv 0) pa_nil)))
      (pss_one (ps_ret (pe_ix (r := rIxT K) ix_tup (pe_call g__net_and_lowest (hr.mono (by omega)) rfl T.m__net_and_lowest T.F__net_and_lowest.kp T.b__net_and_lowest .nil pass0 (pa_cons (pv 0) pa_nil)) pe_int (fun _ _ => rfl))))), ?_⟩
  rcases h with ⟨v, p, d, rfl, hd, ez, qe⟩ | ⟨v, j, a, b, rfl, hd, hdp, ho, ez, ea, eb, q⟩
  · exact ⟨_, rfl, v, p, d, rfl, hd, fun a b e => (by rw [ez] at e; cases e), fun _ H' s => qe H' s⟩
  · refine ⟨_, rfl, v, 0, j.toD, rfl, dq_of j.noL hd, fun a' b' e H' t s ht => ?_, fun e => by rw [ez] at e; cases e⟩
    refine ⟨_, rfl, v, j, rfl, dp_same s hd, hdp, ho, fun H2 t2 s2 ht2 => ?_⟩
    exact ⟨_, _, _, _, rfl, rfl, SqT.of ht2, rfl, q _ (s.trans s2)⟩
theorem ok_lowestQ (T : Txt K mg) : FnOk P w K mg base (L2.CX P w) 45 T.f_lowest T.d_lowest ["job"] (spBothQ K T.c_InvalidJob J.low) := by
  have g_checked_sizes := ok_chkQ (P := P) (w := w) (base := base) T
  have g__net_and_lowest := ok_nl (P := P) (w := w) (base := base) T 20
  refine T.F_lowest.okX sc_lowest (fun vs H Q E h => both_len h) (fun cdv A outer s H vs Q E hr h => ?_)
  refine ⟨_, (pss_cons (ps_expr (pe_callS g_checked_sizes (hr.mono (by omega)) rfl T.m_checked_sizes T.F_checked_sizes.kp T.b_checked_sizes (fun σ => passAt (takes_of rfl rfl rfl rfl) σ) (pa_cons (pv 0) pa_nil)))
      (pss_one (ps_ret (pe_ix (r := rIxT K) ix_tup (pe_call g__net_and_lowest (hr.mono (by omega)) rfl T.m__net_and_lowest T.F__net_and_lowest.kp T.b__net_and_lowest .nil pass0 (pa_cons (pv 0) pa_nil)) pe_int (fun _ _ => rfl))))), ?_⟩
  rcases h with ⟨v, p, d, rfl, hd, ez, qe⟩ | ⟨v, j, a, b, rfl, hd, hdp, ho, ez, ea, eb, q⟩
  · exact ⟨_, rfl, v, p, d, rfl, hd, fun a b e => (by rw [ez] at e; cases e), fun _ H' s => qe H' s⟩
  · refine ⟨_, rfl, v, 0, j.toD, rfl, dq_of j.noL hd, fun a' b' e H' t s ht => ?_, fun e => by rw [ez] at e; cases e⟩
    refine ⟨_, rfl, v, j, rfl, dp_same s hd, hdp, ho, fun H2 t2 s2 ht2 => ?_⟩
    exact ⟨_, _, _, _, rfl, rfl, SqT.of ht2, rfl, q _ (s.trans s2)⟩
end
/-! block Word06: _law_word, _law_told (behind bRef06) -/
def spWord (C : Addr) : SpE := fun a cls d vs H Q _ => vs = [.ref a] ∧ cls = .ref C ∧ d = none ∧ ∀ H', Same H H' → Q (.str "job") H'
section
variable {P : Program} {w : World} {K : PySem.W.Frag} {mg : Str → Option Value} {base : Heap}
theorem ok_word (T : Txt K mg) : FnE P w K mg base CX0 1 T.f__law_word T.d__law_word ["_law_caught"] (spWord T.c_InvalidJob) := by
  refine okE T.F__law_word sc__law_word (fun a cls d vs H Q E h => ?_) (fun cdv A outer s H vs Q E p cls d hz hf hr h => ?_)
  · obtain ⟨rfl, _⟩ := h
    rfl
  obtain ⟨a, oe⟩ := p
  obtain ⟨rfl, rfl, rfl, q⟩ := h
  have xC := T.xc_InvalidJob
  refine ⟨_, (pss_cons (ps_set (i := 1) sc__law_word.nd rfl (Or.inl rfl) (pe_lst (pa_cons (pe_callB (r := rIsE K _ a) (cr_isE xC (List.mem_cons_self ..) hz hf) (by rfl) T.n_isinstance (by decide +kernel) (pa_cons (pv 0) (pa_cons (pe_glob (v := .ref T.c_InvalidJob) rfl T.g_InvalidJob rfl) pa_nil))) (pa_cons (pe_callB (r := rIsE K _ a) (cr_isE xC (List.mem_cons_self ..) hz hf) (by rfl) T.n_isinstance (by decide +kernel) (pa_cons (pv 0) (pa_cons (pe_glob (v := .ref T.c_InvalidAddress) rfl T.g_InvalidAddress rfl) pa_nil))) (pa_cons (pe_callB (r := rIsE K _ a) (cr_isE xC (List.mem_cons_self ..) hz hf) (by rfl) T.n_isinstance (by decide +kernel) (pa_cons (pv 0) (pa_cons (pe_glob (v := .ref T.c_InvalidState) rfl T.g_InvalidState rfl) pa_nil))) pa_nil)))))
      (pss_cons (ps_set (i := 1) sc__law_word.nd rfl (Or.inl rfl) (pe_op op_cat (pv 1) (pe_lst (pa_cons (pe_callB (r := rIsE K _ a) (cr_isE xC (List.mem_cons_self ..) hz hf) (by rfl) T.n_isinstance (by decide +kernel) (pa_cons (pv 0) (pa_cons (pe_glob (v := .ref T.c_InvalidNumber) rfl T.g_InvalidNumber rfl) pa_nil))) (pa_cons (pe_callB (r := rIsE K _ a) (cr_isE xC (List.mem_cons_self ..) hz hf) (by rfl) T.n_isinstance (by decide +kernel) (pa_cons (pv 0) (pa_cons (pe_glob (v := .ref T.c_TooMany) rfl T.g_TooMany rfl) pa_nil))) pa_nil)))))
      (pss_cons (ps_if (PW.pt (pw_or (pt_cmpR op_ne (pe_bm PySem.F.plainAttrs_list PySem.F.slot_list_count PySem.F.type_list_count mt_cntF (pv 1) (pa_cons pe_bl pa_nil)) pe_int (nomark _)) (pw_or1 (pt_cmpR op_ne (pe_callB (r := rIsE K _ a) (cr_isE xC (List.mem_cons_self ..) hz hf) (by rfl) T.n_isinstance (by decide +kernel) (pa_cons (pv 0) (pa_cons (pe_glob (v := .ref T.c_JobError) rfl T.g_JobError rfl) pa_nil))) (pe_cmpR op_lt (pe_bm PySem.F.plainAttrs_list PySem.F.slot_list_index PySem.F.type_list_index mt_index (pv 1) (pa_cons pe_bl pa_nil)) pe_int (nomark _)) (nomark _))))) (pss_one (ps_ret pe_str)) pss_nil)
      (pss_cons (ps_if (pt_val (pe_ix (r := rIxL K) ix_list (pv 1) pe_int (fun _ _ => rfl))) (pss_one (ps_ret (pe_op op_add_str pe_str (pe_callB (cr_never (f := .builtin "repr")) (by rfl) T.n_repr (by decide +kernel) (pa_cons (pe_fld (pv 0) rfl) pa_nil))))) pss_nil)
      (pss_one (ps_ret (pe_ifExp (pt_val (pe_ix (r := rIxL K) ix_list (pv 1) pe_int (fun _ _ => rfl))) (pe_op op_add_str pe_str (pe_callB (cr_never (f := .builtin "repr")) (by rfl) T.n_repr (by decide +kernel) (pa_cons (pe_fld (pv 0) rfl) pa_nil))) (pe_ix (r := rIxL K) ix_list (pe_lst (pa_cons pe_str (pa_cons pe_str (pa_cons pe_str pa_nil)))) (pe_bm PySem.F.plainAttrs_list PySem.F.slot_list_index PySem.F.type_list_index mt_index (pv 1) (pa_cons pe_bl pa_nil)) (fun _ _ => rfl))))))))), ?_⟩
  refine ⟨_, rfl, .ref T.c_InvalidJob, .ref T.c_InvalidJob, true, rfl, fun u h => h, T.q_InvalidJob_InvalidJob, _, rfl, .ref T.c_InvalidAddress, .ref T.c_InvalidAddress, false, rfl, fun u h => h, T.q_InvalidJob_InvalidAddress, _, rfl, .ref T.c_InvalidState, .ref T.c_InvalidState, false, rfl, fun u h => h, T.q_InvalidJob_InvalidState, (by show 3 ≤ sizeLine; decide), fun l1 h1 => ?_⟩
  have s1 : Same H (upd H l1 (.lst [.bl true, .bl false, .bl false])) := same_new h1
  have e1 : upd H l1 (.lst [.bl true, .bl false, .bl false]) l1 = some (.lst [.bl true, .bl false, .bl false]) := upd_same
  generalize (upd H l1 (.lst [.bl true, .bl false, .bl false])) = H1 at s1 e1 ⊢
  refine ⟨_, rfl, _, rfl, .ref T.c_InvalidNumber, .ref T.c_InvalidNumber, false, rfl, fun u h => h, T.q_InvalidJob_InvalidNumber, _, rfl, .ref T.c_TooMany, .ref T.c_TooMany, false, rfl, fun u h => h, T.q_InvalidJob_TooMany, (by show 2 ≤ sizeLine; decide), fun l2 h2 => ?_⟩
  have s2 : Same H1 (upd H1 l2 (.lst [.bl false, .bl false])) := same_new h2
  have e2 : upd H1 l2 (.lst [.bl false, .bl false]) l2 = some (.lst [.bl false, .bl false]) := upd_same
  generalize (upd H1 l2 (.lst [.bl false, .bl false])) = H2 at s2 e2 ⊢
  refine ⟨l1, l2, _, _, rfl, rfl, s2 _ _ e1, e2, (by show 5 ≤ sizeLine; decide), fun l3 h3 => ?_⟩
  have s3 : Same H2 (upd H2 l3 (.lst ([.bl true, .bl false, .bl false] ++ [.bl false, .bl false]))) := same_new h3
  have e3 : upd H2 l3 (.lst ([.bl true, .bl false, .bl false] ++ [.bl false, .bl false])) l3 = some (.lst [.bl true, .bl false, .bl false, .bl false, .bl false]) := upd_same
  generalize (upd H2 l3 (.lst ([.bl true, .bl false, .bl false] ++ [.bl false, .bl false]))) = H3 at s3 e3 ⊢
  have S3 := s1.trans (s2.trans s3)
  have ty3 : ∀ K' : PySem.W.Frag, tyV K' "list" (.ref l3) H3 := fun K' => .inl ⟨rfl, _, SqL.of e3⟩
  refine ⟨_, rfl, ⟨ty3 _, l3, _, _, rfl, rfl, SqL.of e3, rfl, rfl, rfl, ?_⟩⟩
  refine ⟨_, rfl, ?_⟩
  refine iteF ?_
  refine ⟨_, rfl, .ref T.c_JobError, .ref T.c_JobError, true, rfl, fun u h => h, T.q_InvalidJob_JobError, ?_⟩
  refine ⟨_, rfl, ⟨ty3 _, l3, _, .bl true, 0, .bl true, rfl, rfl, SqL.of e3, rfl, rfl, rfl, rfl, fun m z h => absurd h (Nat.not_lt_zero _), ?_⟩⟩
  refine ⟨_, _, rfl, rfl, rfl, _, rfl, ?_⟩
  refine iteF ?_
  refine ⟨_, rfl, l3, _, _, _, rfl, rfl, SqL.of e3, rfl, _, rfl, ?_⟩
  refine iteF ?_
  refine ⟨_, rfl, l3, _, _, _, rfl, rfl, SqL.of e3, rfl, _, rfl, ?_⟩
  refine iteF ?_
  refine ⟨(by show 3 ≤ sizeLine; decide), fun l4 h4 => ?_⟩
  have s4 : Same H3 (upd H3 l4 (.lst [.str "job", .str "address", .str "state"])) := same_new h4
  have e4 : upd H3 l4 (.lst [.str "job", .str "address", .str "state"]) l4 = some (.lst [.str "job", .str "address", .str "state"]) := upd_same
  generalize (upd H3 l4 (.lst [.str "job", .str "address", .str "state"])) = H4 at s4 e4 ⊢
  have e34 := s4 _ _ e3
  refine ⟨_, rfl, ⟨.inl ⟨rfl, _, SqL.of e34⟩, l3, _, .bl true, 0, .bl true, rfl, rfl, SqL.of e34, rfl, rfl, rfl, rfl, fun m z h => absurd h (Nat.not_lt_zero _), ?_⟩⟩
  exact ⟨l4, _, _, _, rfl, rfl, SqL.of e4, rfl, q _ (S3.trans s4)⟩
end
section
variable {P : Program} {w : World} {K : PySem.W.Frag} {mg : Str → Option Value} {base : Heap}
def spTold (K : PySem.W.Frag) : Sp := fun vs H Q _ => ∃ (n : Nat) (v : V) (p : Addr) (d : PyData), vs = [.int (n : Int), v] ∧ n < 7 ∧ Dq K p H v d ∧ szF 13 d 400 = none ∧ ∀ H', Same H H' → Q (.str "job") H'
theorem ok_told (T : Txt K mg) : FnOk P w K mg base CX0 47 T.f__law_told T.d__law_told ["_law_way", "_law_value"] (spTold K) := by
  have g__law_word := ok_word (P := P) (w := w) (base := base) T
  have hS : ∀ (f : Addr) (sp : Sp), (sp = spRefQ K T.c_InvalidJob ∧ f ∈ [T.f_node_count, T.f_step_count, T.f_is_empty, T.f_net, T.f_lowest, T.f_mirror, T.f_tidy]) → HeldX P w K mg base 45 f sp := by
    rintro f sp ⟨rfl, hf⟩
    simp only [List.mem_cons, List.not_mem_nil, or_false] at hf
    rcases hf with rfl | rfl | rfl | rfl | rfl | rfl | rfl
    · exact ⟨_, _, (ok_nodeQ T).imp fun vs H Q E h => .inl h, T.F_node_count.kp, T.b_node_count⟩
    · exact ⟨_, _, (ok_stepQ T).imp fun vs H Q E h => .inl h, T.F_step_count.kp, T.b_step_count⟩
    · exact ⟨_, _, ok_emptyQ T, T.F_is_empty.kp, T.b_is_empty⟩
    · exact ⟨_, _, (ok_netQ T).imp fun vs H Q E h => .inl h, T.F_net.kp, T.b_net⟩
    · exact ⟨_, _, (ok_lowestQ T).imp fun vs H Q E h => .inl h, T.F_lowest.kp, T.b_lowest⟩
    · exact ⟨_, _, ok_mirrorQ T, T.F_mirror.kp, T.b_mirror⟩
    · exact ⟨_, _, ok_tidyQ T, T.F_tidy.kp, T.b_tidy⟩
  refine T.F__law_told.ok sc__law_told (fun vs H Q E h => ?_) (fun cdv A outer s H vs Q E hr h => ?_)
  · obtain ⟨n, v, p, d, rfl, _⟩ := h
    rfl
  obtain ⟨n, v, p, d, rfl, hn, hd, ez, q⟩ := h
  refine ⟨_, (pss_cons (ps_tryA rfl rfl sc__law_told.nd takes0 (fun W pn xe tk _ => (pss_one (ps_expr (pe_callP hS (hr.mono (by omega)) tk (pe_ix (r := rIxL K) ix_list (pe_lst (pa_cons (pe_glob (v := .ref T.f_node_count) rfl T.m_node_count rfl) (pa_cons (pe_glob (v := .ref T.f_step_count) rfl T.m_step_count rfl) (pa_cons (pe_glob (v := .ref T.f_is_empty) rfl T.m_is_empty rfl) (pa_cons (pe_glob (v := .ref T.f_net) rfl T.m_net rfl) (pa_cons (pe_glob (v := .ref T.f_lowest) rfl T.m_lowest rfl) (pa_cons (pe_glob (v := .ref T.f_mirror) rfl T.m_mirror rfl) (pa_cons (pe_glob (v := .ref T.f_tidy) rfl T.m_tidy rfl) pa_nil)))))))) (pv 0) (fun _ _ => rfl)) (pa_cons (pv 1) pa_nil))))) (.named (i := 2) rfl rfl ⟨rfl, by decide, .inl T.g_JobError⟩ (fun a oe cls d pn hz hf => (pss_one (ps_ret (pe_callE (E := fun _ => E0) g__law_word (L2H.roomH_of (hr.mono (by omega))) hz hf rfl T.m__law_word T.F__law_word.kp T.b__law_word passE0 (pa_cons (pv 2) pa_nil))))) (.named (i := 2) rfl rfl ⟨rfl, by decide, .inl T.g_TooMany⟩ (fun a oe cls d pn hz hf => (pss_one (ps_ret (pe_callE (E := fun _ => E0) g__law_word (L2H.roomH_of (hr.mono (by omega))) hz hf rfl T.m__law_word T.F__law_word.kp T.b__law_word passE0 (pa_cons (pv 2) pa_nil))))) .nil)))
      (pss_one (ps_ret pe_str))), ?_⟩
  refine ⟨(by show 7 ≤ sizeLine; decide), fun l1 h1 => ?_⟩
  have s1 : Same H (upd H l1 (.lst [.ref T.f_node_count, .ref T.f_step_count, .ref T.f_is_empty, .ref T.f_net, .ref T.f_lowest, .ref T.f_mirror, .ref T.f_tidy])) := same_new h1
  have e1 : upd H l1 (.lst [.ref T.f_node_count, .ref T.f_step_count, .ref T.f_is_empty, .ref T.f_net, .ref T.f_lowest, .ref T.f_mirror, .ref T.f_tidy]) l1 = some (.lst [.ref T.f_node_count, .ref T.f_step_count, .ref T.f_is_empty, .ref T.f_net, .ref T.f_lowest, .ref T.f_mirror, .ref T.f_tidy]) := upd_same
  generalize (upd H l1 (.lst [.ref T.f_node_count, .ref T.f_step_count, .ref T.f_is_empty, .ref T.f_net, .ref T.f_lowest, .ref T.f_mirror, .ref T.f_tidy])) = H1 at s1 e1 ⊢
  obtain ⟨f, hf, hfm⟩ : ∃ f, atI [V.ref T.f_node_count, .ref T.f_step_count, .ref T.f_is_empty, .ref T.f_net, .ref T.f_lowest, .ref T.f_mirror, .ref T.f_tidy] (n : Int) = some (.ref f) ∧ f ∈ [T.f_node_count, T.f_step_count, T.f_is_empty, T.f_net, T.f_lowest, T.f_mirror, T.f_tidy] := by
    have : n = 0 ∨ n = 1 ∨ n = 2 ∨ n = 3 ∨ n = 4 ∨ n = 5 ∨ n = 6 := by omega
    rcases this with rfl | rfl | rfl | rfl | rfl | rfl | rfl <;> exact ⟨_, rfl, by simp⟩
  refine ⟨_, rfl, l1, _, _, _, rfl, rfl, SqL.of e1, hf, f, _, rfl, ⟨rfl, hfm⟩, ?_⟩
  refine ⟨_, rfl, v, p, d, rfl, hd.keep (Same.kp s1), ez, fun H2 s2 => ?_⟩
  refine ⟨true, T.e_InvalidJob_JobError, fun _ a ha => ?_, fun z => by cases z⟩
  exact ⟨_, rfl, rfl, rfl, rfl, fun H3 s3 => q _ (s1.trans (s2.trans s3))⟩
end
/-! block Pot: _law_pot, _law_take, _law_step -/
/-- a pot at p: what is left of the cell, the mixed number, how many were taken (at most n) -/
def Pot (H : Hp) (p : Addr) (n : Nat) : Prop := ∃ a b c : Int, H p = some (.lst [.int a, .int b, .int c]) ∧ (0 ≤ a ∧ a.natAbs < 2 ^ 3000) ∧ (0 ≤ b ∧ b < 2305843009213693951) ∧ (0 ≤ c ∧ c ≤ (n : Int))
theorem Pot.lst {H : Hp} {p : Addr} {n : Nat} (h : Pot H p n) : ∃ l, H p = some (.lst l) := by
  obtain ⟨a, b, c, h, _⟩ := h
  exact ⟨_, h⟩
theorem Pot.mono {H : Hp} {p : Addr} {n m : Nat} (h : Pot H p n) (e : n ≤ m) : Pot H p m := by
  obtain ⟨a, b, c, h1, h2, h3, h4⟩ := h
  exact ⟨a, b, c, h1, h2, h3, h4.1, by omega⟩
theorem Pot.same {H H' : Hp} {p : Addr} {n : Nat} (h : Pot H p n) (s : Same H H') : Pot H' p n := by
  obtain ⟨a, b, c, h1, h2⟩ := h
  exact ⟨a, b, c, s _ _ h1, h2⟩
def spPot (K : PySem.W.Frag) : Sp := fun vs H Q _ => ∃ (a : Addr) (ns : List Int) (k : Int), vs = [.ref a, .int k] ∧ SqL K H a (ns.map V.int) ∧ ns.length ≤ 1000 ∧ 0 ≤ k ∧ k ≤ 1000 ∧
  ∀ (H' : Hp) (p : Addr), Same H H' → H p = none → Pot H' p 0 → Q (.ref p) H'
def spTake : Sp := fun vs H Q _ => ∃ (p : Addr) (n : Nat) (m : Int), vs = [.ref p, .int m] ∧ Pot H p n ∧ n ≤ 1099511627776 ∧ 0 < m ∧ m.natAbs < 2 ^ 200 ∧
  ∀ (H' : Hp) (r : Int), Sx p H H' → Pot H' p (n + 1) → 0 ≤ r → r < m → Q (.int r) H'
def spStep : Sp := fun vs H Q _ => ∃ (p : Addr) (n : Nat), vs = [.ref p] ∧ Pot H p n ∧ n + 4 ≤ 1099511627776 ∧
  ∀ (H' : Hp) (r : Int), Sx p H H' → Pot H' p (n + 4) → -M30 ≤ r → r ≤ M30 → Q (.int r) H'
theorem natAbs_lt {i : Int} {B : Nat} (h0 : 0 ≤ i) (h : i < (B : Int)) : i.natAbs < B := by omega
theorem big14 : ((((10 : Int) ^ (60 : Int).toNat) ^ (14 : Int).toNat)).natAbs < 2 ^ 3000 := by decide +kernel
theorem pos14 : 0 < ((10 : Int) ^ (60 : Int).toNat) ^ (14 : Int).toNat := by decide +kernel
theorem mod_big {z m : Int} {B : Nat} (hm : 0 < m) (hB : m.natAbs < B) : 0 ≤ z % m ∧ (z % m).natAbs < B := by
  have h1 := Int.emod_nonneg z (Int.ne_of_gt hm)
  have h2 := Int.emod_lt_of_pos z hm
  exact ⟨h1, by omega⟩
section
variable {P : Program} {w : World} {K : PySem.W.Frag} {mg : Str → Option Value} {base : Heap}
theorem ok_pot (T : Txt K mg) : FnOk P w K mg base CX0 1 T.f__law_pot T.d__law_pot ["_law_script", "_law_k"] (spPot K) := by
  refine T.F__law_pot.ok sc__law_pot (fun vs H Q E h => ?_) (fun cdv A outer s H vs Q E hr h => ?_)
  · obtain ⟨a, ns, k, rfl, _⟩ := h
    rfl
  obtain ⟨a, ns, k, rfl, hS, hlen, hk0, hk1, q⟩ := h
  refine ⟨_, (pss_cons (ps_set (i := 2) sc__law_pot.nd rfl (Or.inl rfl) pe_int)
      (C8.pss_cut (ps_if (pt_cmpR op_lt (pv 1) (pe_callB (r := rLenS K) call_lenS (by rfl) T.n_len (by decide +kernel) (pa_cons (pv 0) pa_nil)) (nomark _)) (pss_one (ps_set (i := 2) sc__law_pot.nd rfl (Or.inl rfl) (pe_op op_mod (pe_callB call_abs (by rfl) T.n_abs (by decide +kernel) (pa_cons (pe_ix (r := rIxL K) ix_list (pv 0) (pv 1) (fun _ _ => rfl)) pa_nil)) (pe_op op_powW (pe_op op_powW pe_int pe_int) pe_int)))) pss_nil)
      (pss_cons (ps_set (i := 3) sc__law_pot.nd rfl (Or.inl rfl) (pe_op op_mod (pe_op op_powW (pe_op op_add (pe_op op_add (pe_op op_mod (pv 2) pe_int) (pe_op op_mulW pe_int (pv 1))) pe_int) pe_int) pe_int))
      (pss_one (ps_ret (pe_lst (pa_cons (pe_op op_mulW (pv 2) (pe_callTy call_int1 (by rfl) T.n_int (by decide +kernel) (pa_cons (pe_cmpR op_ge (pv 2) (pe_op op_powW pe_int pe_int) (nomark _)) pa_nil))) (pa_cons (pv 3) (pa_cons pe_int pa_nil))))))))), ?_⟩
  refine ⟨fun σ' H' => ∃ cell : Int, σ' = [some (.ref a), some (.int k), some (.int cell), none] ∧ H' = H ∧ 0 ≤ cell ∧ cell.natAbs < 2 ^ 3000, ?_, ?_⟩
  · refine ⟨_, rfl, _, rfl, a, _, rfl, .inl hS, _, _, rfl, rfl, _, rfl, ?_⟩
    refine ite2 (fun c => ?_) (fun c => ?_)
    · have c' := of_decide_eq_true c
      rw [List.length_map] at c'
      obtain ⟨z, _, hz⟩ := atI_int (ns := ns) hk0 c'
      refine ⟨_, rfl, _, rfl, _, _, _, _, rfl, rfl, hS, hz, _, rfl, _, _, rfl, rfl, powW_of 4 (by decide) (by decide) (by decide), _, _, rfl, rfl, powW_of 200 (by decide) (by decide +kernel) (by decide), _, _, rfl, rfl, pos14, ?_⟩
      have hb := mod_big (z := if z < 0 then -z else z) pos14 big14
      exact ⟨_, rfl, rfl, hb⟩
    · exact ⟨0, rfl, rfl, by decide, by decide⟩
  · rintro σ' H' ⟨cell, rfl, rfl, hc0, hc1⟩
    walk_at "rd"
    refine ⟨(by show (0 : Int) < 2147483587; decide), ?_⟩
    walk_at "rd"
    refine ⟨wide_mul (a := 64) (b := 64) (by decide) (by omega) (by decide) (by decide) (by decide), ?_⟩
    walk_at "rd"
    refine ⟨powW_of 64 (by decide) (by omega) (by decide), ?_⟩
    walk_at "rd"
    refine ⟨(by show (0 : Int) < 2305843009213693951; decide), ?_⟩
    dsimp only
    generalize (cell % 2147483587 + 6151 * k + 3) ^ (5 : Int).toNat = pw
    have hm0 : 0 ≤ pw % 2305843009213693951 := by omega
    have hm1 : pw % 2305843009213693951 < 2305843009213693951 := by omega
    generalize pw % 2305843009213693951 = mixed at hm0 hm1 ⊢
    walk_at "rd"
    refine ⟨powW_of 4 (by decide) (by decide) (by decide), ?_⟩
    walk_at "rd"
    refine .inr ⟨_, rfl, ?_⟩
    walk_at "rd"
    refine ⟨wide_mul (a := 3000) (b := 1) hc1 (by split <;> decide) (by decide) (by decide) (by decide), ?_⟩
    dsimp only
    have hk : 0 ≤ cell * (if decide ((10 : Int) ^ (18 : Int).toNat ≤ cell) = true then 1 else 0) ∧ (cell * (if decide ((10 : Int) ^ (18 : Int).toNat ≤ cell) = true then 1 else 0)).natAbs < 2 ^ 3000 := by
      split
      · rw [Int.mul_one]
        exact ⟨hc0, hc1⟩
      · rw [Int.mul_zero]
        exact ⟨Int.le_refl _, by decide⟩
    generalize cell * (if decide ((10 : Int) ^ (18 : Int).toNat ≤ cell) = true then 1 else 0) = c2 at hk ⊢
    walk_at "rd"
    refine ⟨(by show 3 ≤ sizeLine; decide), fun p hp => ?_⟩
    exact q _ p (same_new hp) hp ⟨_, _, _, upd_same, hk, ⟨hm0, hm1⟩, by decide, by decide⟩
theorem ok_take (T : Txt K mg) : FnOk P w K mg base CX0 1 T.f__law_take T.d__law_take ["_law_pot_here", "_law_many"] spTake := by
  refine T.F__law_take.ok sc__law_take (fun vs H Q E h => ?_) (fun cdv A outer s H vs Q E hr h => ?_)
  · obtain ⟨p, n, m, rfl, _⟩ := h
    rfl
  obtain ⟨p, n, m, rfl, ⟨a, b, c, hp, ⟨a0, a1⟩, ⟨b0, b1⟩, c0, c1⟩, hn, hm, hm2, q⟩ := h
  refine ⟨_, (pss_cons (ps_if (pt_cmpR op_gt (pe_ix (r := rIxL K) ix_list (pv 0) pe_int (fun _ _ => rfl)) pe_int (nomark _)) (pss_cons (ps_set (i := 2) sc__law_take.nd rfl (Or.inl rfl) (pe_op op_mod (pe_ix (r := rIxL K) ix_list (pv 0) pe_int (fun _ _ => rfl)) (pv 1)))
        (pss_cons (ps_asg (pe_op op_fdivW (pe_ix (r := rIxL K) ix_list (pv 0) pe_int (fun _ _ => rfl)) (pv 1)) (pg_sub (pv 0) pe_int set_list))
        (pss_one (ps_ret (pv 2))))) pss_nil)
      (pss_cons (ps_asg (pe_op op_add (pe_ix (r := rIxL K) ix_list (pv 0) pe_int (fun _ _ => rfl)) pe_int) (pg_sub (pv 0) pe_int set_list))
      (pss_cons (ps_set (i := 3) sc__law_take.nd rfl (Or.inl rfl) (pe_op op_mod (pe_op op_powW (pe_op op_add (pe_ix (r := rIxL K) ix_list (pv 0) pe_int (fun _ _ => rfl)) (pe_op op_mulW pe_int (pe_ix (r := rIxL K) ix_list (pv 0) pe_int (fun _ _ => rfl)))) pe_int) pe_int))
      (pss_cons (ps_set (i := 4) sc__law_take.nd rfl (Or.inl rfl) (pe_op op_mod (pe_op op_powW (pe_op op_add (pe_op op_add (pv 3) (pe_op op_mod (pe_ix (r := rIxL K) ix_list (pv 0) pe_int (fun _ _ => rfl)) pe_int)) (pe_op op_mulW pe_int (pe_ix (r := rIxL K) ix_list (pv 0) pe_int (fun _ _ => rfl)))) pe_int) pe_int))
      (pss_one (ps_ret (pe_op op_mod (pe_op op_fdivW (pv 4) pe_int) (pv 1)))))))), ?_⟩
  refine ⟨_, rfl, _, _, _, _, rfl, rfl, SqL.of hp, rfl, _, _, rfl, rfl, _, rfl, ?_⟩
  refine ite2 (fun g => ?_) (fun g => ?_)
  · refine ⟨_, rfl, _, _, _, _, rfl, rfl, SqL.of hp, rfl, _, rfl, _, _, rfl, rfl, hm, ?_⟩
    refine ⟨_, rfl, _, _, _, _, rfl, rfl, SqL.of hp, rfl, _, rfl, _, _, rfl, rfl, wide_div hm hm2 (by decide) (by decide), ?_⟩
    refine ⟨_, rfl, _, _, _, _, rfl, rfl, hp, rfl, ?_⟩
    refine ⟨_, rfl, ?_⟩
    have d0 : 0 ≤ a / m := Int.ediv_nonneg a0 (by omega)
    have d1 : a / m ≤ a := Int.ediv_le_self m a0
    exact q _ _ sx_upd ⟨_, _, _, upd_same, ⟨d0, Nat.lt_of_le_of_lt (by omega) a1⟩, ⟨b0, b1⟩, c0, by omega⟩ (Int.emod_nonneg _ (by omega)) (Int.emod_lt_of_pos _ hm)
  · refine ⟨_, rfl, _, _, _, _, rfl, rfl, SqL.of hp, rfl, _, _, rfl, rfl, ?_⟩
    refine ⟨_, rfl, _, _, _, _, rfl, rfl, hp, rfl, ?_⟩
    dsimp only
    have hq : (upd H p (.lst [.int a, .int b, .int (c + 1)])) p = some (.lst [.int a, .int b, .int (c + 1)]) := upd_same
    refine ⟨_, rfl, _, _, _, _, rfl, rfl, SqL.of hq, rfl, _, rfl, _, _, _, _, rfl, rfl, SqL.of hq, rfl, _, _, rfl, rfl, wide_mul (a := 64) (b := 64) (by decide) (by omega) (by decide) (by decide) (by decide), ?_⟩
    walk_at "rd"
    refine ⟨powW_of 64 (by decide) (by omega) (by decide), ?_⟩
    walk_at "rd"
    refine ⟨(by show (0 : Int) < 2305843009213693921; decide), ?_⟩
    dsimp only
    generalize (b + 98317 * (c + 1)) ^ (3 : Int).toNat = pw
    have o0 : 0 ≤ pw % 2305843009213693921 := by omega
    have o1 : pw % 2305843009213693921 < 2305843009213693921 := by omega
    generalize pw % 2305843009213693921 = one at o0 o1 ⊢
    refine ⟨_, rfl, _, rfl, _, _, _, _, rfl, rfl, SqL.of hq, rfl, _, _, rfl, rfl, (by show (0 : Int) < 65521; decide), _, _, rfl, rfl, _, rfl, _, _, _, _, rfl, rfl, SqL.of hq, rfl, _, _, rfl, rfl, wide_mul (a := 64) (b := 64) (by decide) (by omega) (by decide) (by decide) (by decide), ?_⟩
    walk_at "rd"
    refine ⟨powW_of 64 (by decide) (by omega) (by decide), ?_⟩
    walk_at "rd"
    refine ⟨(by show (0 : Int) < 2305843009213693907; decide), ?_⟩
    dsimp only
    generalize (one + b % 65521 + 37 * (c + 1)) ^ (5 : Int).toNat % 2305843009213693907 = two
    walk_at "rd"
    refine ⟨wide_div (b := 12) (by decide) (by decide) (by decide) (by decide), ?_⟩
    walk_at "rd"
    refine ⟨hm, ?_⟩
    exact q _ _ sx_upd ⟨_, _, _, upd_same, ⟨a0, a1⟩, ⟨b0, b1⟩, by omega, by omega⟩ (Int.emod_nonneg _ (by omega)) (Int.emod_lt_of_pos _ hm)
theorem ok_step (T : Txt K mg) : FnOk P w K mg base CX0 2 T.f__law_step T.d__law_step ["_law_pot_here"] spStep := by
  have g__law_take : FnOk P w K mg base CX0 1 T.f__law_take T.d__law_take ["_law_pot_here", "_law_many"] spTake := ok_take T
  refine T.F__law_step.ok sc__law_step (fun vs H Q E h => ?_) (fun cdv A outer s H vs Q E hr h => ?_)
  · obtain ⟨p, n, rfl, _⟩ := h
    rfl
  obtain ⟨p, n, rfl, hp, hn, q⟩ := h
  refine ⟨_, (pss_cons (ps_set (i := 1) sc__law_step.nd rfl (Or.inl rfl) (pe_call g__law_take (hr.mono (by omega)) rfl T.m__law_take T.F__law_take.kp T.b__law_take .nil pass0 (pa_cons (pv 0) (pa_cons pe_int pa_nil))))
      (pss_cons (ps_if (pt_cmpR op_eq (pv 1) pe_int (nomark _)) (pss_one (ps_ret pe_int)) pss_nil)
      (pss_cons (ps_if (pt_cmpR op_eq (pv 1) pe_int (nomark _)) (pss_cons (ps_set (i := 2) sc__law_step.nd rfl (Or.inl rfl) (pe_op op_add (pe_op op_mulW (pe_call g__law_take (hr.mono (by omega)) rfl T.m__law_take T.F__law_take.kp T.b__law_take .nil pass0 (pa_cons (pv 0) (pa_cons (pe_op op_powW pe_int pe_int) pa_nil))) (pe_op op_powW pe_int pe_int)) (pe_call g__law_take (hr.mono (by omega)) rfl T.m__law_take T.F__law_take.kp T.b__law_take .nil pass0 (pa_cons (pv 0) (pa_cons (pe_op op_powW pe_int pe_int) pa_nil)))))
        (pss_one (ps_ret (pe_ix (r := rIxL K) ix_list (pe_lst (pa_cons (pv 2) (pa_cons (pe_op op_sub pe_int (pv 2)) (pa_cons (pe_op op_powW pe_int pe_int) (pa_cons (pe_op op_sub pe_int (pe_op op_powW pe_int pe_int)) pa_nil))))) (pe_call g__law_take (hr.mono (by omega)) rfl T.m__law_take T.F__law_take.kp T.b__law_take .nil pass0 (pa_cons (pv 0) (pa_cons pe_int pa_nil))) (fun _ _ => rfl))))) pss_nil)
      (pss_one (ps_ret (pe_op op_sub (pe_call g__law_take (hr.mono (by omega)) rfl T.m__law_take T.F__law_take.kp T.b__law_take .nil pass0 (pa_cons (pv 0) (pa_cons pe_int pa_nil))) pe_int)))))), ?_⟩
  refine ⟨_, rfl, p, n, 14, rfl, hp, by omega, by decide, by decide, fun H1 r1 s1 hp1 h0 h1 => ?_⟩
  refine ⟨_, rfl, rfl, _, rfl, ?_⟩
  refine ite2 (fun g => ?_) (fun g => ?_)
  · exact q _ _ s1 (hp1.mono (by omega)) (by decide) (by decide)
  refine ⟨_, rfl, rfl, _, rfl, ?_⟩
  refine ite2 (fun g => ?_) (fun g => ?_)
  · refine ⟨_, rfl, _, _, rfl, rfl, powW_of 4 (by decide) (by decide) (by decide), p, n + 1, _, rfl, hp1, by omega, by decide, by decide, fun H2 r2 s2 hp2 k0 k1 => ?_⟩
    walk_at "rd"
    refine ⟨powW_of 4 (by decide) (by decide) (by decide), ?_⟩
    have k1' : r2 < 1000000000000000 := k1
    refine ⟨_, _, rfl, rfl, wide_mul (a := 64) (b := 64) (by omega) (by decide) (by decide) (by decide) (by decide), ?_⟩
    refine ⟨_, rfl, _, _, rfl, rfl, powW_of 4 (by decide) (by decide) (by decide), p, n + 2, _, rfl, hp2, by omega, by decide, by decide, fun H3 r3 s3 hp3 j0 j1 => ?_⟩
    have j1' : r3 < 1000000000000000 := j1
    walk_at "rd"
    dsimp only
    have e15 : (10 : Int) ^ (15 : Int).toNat = 1000000000000000 := by decide
    rw [e15]
    have b0 : 0 ≤ r2 * 1000000000000000 + r3 := by omega
    have b1 : r2 * 1000000000000000 + r3 < M30 := by
      show _ < (1000000000000000000000000000000 : Int)
      omega
    generalize r2 * 1000000000000000 + r3 = great at b0 b1 ⊢
    walk_at "rd"
    refine ⟨powW_of 4 (by decide) (by decide) (by decide), ?_⟩
    walk_at "rd"
    refine ⟨powW_of 4 (by decide) (by decide) (by decide), ?_⟩
    walk_at "rd"
    have e30 : (10 : Int) ^ (30 : Int).toNat = M30 := by decide
    dsimp only
    rw [e30]
    refine ⟨(by show 4 ≤ sizeLine; decide), fun l hl => ?_⟩
    have hp4 := hp3.same (same_new (o := .lst [.int great, .int (0 - great), .int M30, .int (0 - M30)]) hl)
    refine ⟨_, rfl, p, n + 3, _, rfl, hp4, by omega, by decide, by decide, fun H4 r4 s4 hp5 i0 i1 => ?_⟩
    obtain ⟨z, hz, ez⟩ := atI_int (ns := [great, 0 - great, M30, 0 - M30]) i0 i1
    obtain ⟨lp, hlp⟩ := hp3.lst
    have nlp : l ≠ p := fun e => by rw [e, hlp] at hl; cases hl
    refine ⟨_, _, _, _, rfl, rfl, SqL.of (s4 l _ nlp upd_same), ez, ?_⟩
    refine q _ _ (s1.trans (s2.trans (s3.trans ((sx_new hl).trans s4)))) hp5 ?_ ?_
    · simp only [List.mem_cons, List.not_mem_nil, or_false] at hz
      rcases hz with rfl | rfl | rfl | rfl <;> (try simp only [M30] at *) <;> omega
    · simp only [List.mem_cons, List.not_mem_nil, or_false] at hz
      rcases hz with rfl | rfl | rfl | rfl <;> (try simp only [M30] at *) <;> omega
  · refine ⟨_, rfl, p, n + 1, _, rfl, hp1, by omega, by decide, by decide, fun H2 r2 s2 hp2 k0 k1 => ?_⟩
    walk_at "rd"
    refine q _ _ (s1.trans s2) (hp2.mono (by omega)) ?_ ?_
    · show -(1000000000000000000000000000000 : Int) ≤ _
      omega
    · show _ ≤ (1000000000000000000000000000000 : Int)
      omega
end
/-! block Job: _law_job, the drawn jobs -/
def TB : Nat → Nat
  | 0 => 20
  | n + 1 => 20 + 3 * TB n
def NB : Nat → Int
  | 0 => 1
  | 1 => 1
  | 2 => 5
  | n + 3 => 1 + 3 * NB (n + 2)
mutual
/-- all numbers in bounds, few parts -/
def J.small : J → Prop
  | .st i => -M30 ≤ i ∧ i ≤ M30
  | .ps _ xs => xs.length ≤ 4 ∧ J.smallL xs
  | .rn _ n x => (0 ≤ n ∧ n ≤ M30) ∧ x.small
def J.smallL : List J → Prop
  | [] => True
  | x :: xs => x.small ∧ J.smallL xs
end
mutual
/-- all numbers of rounds and copies are among these -/
def J.cin (cs : List Int) : J → Prop
  | .st _ => True
  | .ps _ xs => J.cinL cs xs
  | .rn _ n x => n ∈ cs ∧ J.cin cs x
def J.cinL (cs : List Int) : List J → Prop
  | [] => True
  | x :: xs => J.cin cs x ∧ J.cinL cs xs
end
theorem J.cinL_app (cs : List Int) : ∀ xs ys : List J, J.cinL cs (xs ++ ys) ↔ J.cinL cs xs ∧ J.cinL cs ys
  | [], ys => by simp [J.cinL]
  | x :: xs, ys => by simp only [List.cons_append, J.cinL, J.cinL_app cs xs ys, and_assoc]
structure GenOk (cs : List Int) (n : Nat) (j : J) : Prop where
  cin : j.cin cs
  deep : j.deep ≤ max n 1
  nodes : j.nodes ≤ NB n
  small : j.small
structure GensOk (cs : List Int) (n : Nat) (js : List J) : Prop where
  cin : J.cinL cs js
  deep : J.deepL js ≤ max n 1
  nodes : J.nodesL js ≤ js.length * NB n
  small : J.smallL js
theorem NB_pos : ∀ n, 1 ≤ NB n
  | 0 => by decide
  | 1 => by decide
  | 2 => by decide
  | n + 3 => by
    have := NB_pos (n + 2)
    simp only [NB]
    omega
theorem J.deepL_app : ∀ xs ys : List J, J.deepL (xs ++ ys) = max (J.deepL xs) (J.deepL ys)
  | [], ys => by simp [J.deepL]
  | x :: xs, ys => by simp only [List.cons_append, J.deepL, J.deepL_app xs ys]; omega
theorem J.nodesL_app : ∀ xs ys : List J, J.nodesL (xs ++ ys) = J.nodesL xs + J.nodesL ys
  | [], ys => by simp [J.nodesL]
  | x :: xs, ys => by simp only [List.cons_append, J.nodesL, J.nodesL_app xs ys]; omega
theorem J.smallL_app : ∀ xs ys : List J, J.smallL (xs ++ ys) ↔ J.smallL xs ∧ J.smallL ys
  | [], ys => by simp [J.smallL]
  | x :: xs, ys => by simp only [List.cons_append, J.smallL, J.smallL_app xs ys, and_assoc]
theorem J.toDs_app : ∀ xs ys : List J, J.toDs (xs ++ ys) = J.toDs xs ++ J.toDs ys
  | [], ys => by simp [J.toDs]
  | x :: xs, ys => by simp only [List.cons_append, J.toDs, J.toDs_app xs ys]
theorem GensOk.nil {cs : List Int} {n : Nat} : GensOk cs n [] := ⟨trivial, by simp [J.deepL], by simp [J.nodesL], trivial⟩
theorem GensOk.snoc {cs : List Int} {n : Nat} {js : List J} {j : J} (h : GensOk cs n js) (g : GenOk cs n j) : GensOk cs n (js ++ [j]) := by
  refine ⟨(J.cinL_app _ _ _).mpr ⟨h.cin, g.cin, trivial⟩, ?_, ?_, ?_⟩
  · rw [J.deepL_app]
    have := h.deep
    have := g.deep
    simp only [J.deepL]
    omega
  · rw [J.nodesL_app, List.length_append, List.length_singleton]
    have h1 := h.nodes
    have h2 := g.nodes
    simp only [J.nodesL]
    have e : (((js.length + 1 : Nat) : Int)) * NB n = js.length * NB n + NB n := by
      rw [Int.natCast_add, Int.add_mul]
      simp
    rw [e]
    omega
  · rw [J.smallL_app]
    exact ⟨h.small, g.small, trivial⟩
theorem GenOk.step {cs : List Int} {n : Nat} {i : Int} (h1 : -M30 ≤ i) (h2 : i ≤ M30) : GenOk cs n (.st i) := by
  refine ⟨trivial, ?_, ?_, ?_⟩
  · simp only [J.deep]
    omega
  · simp only [J.nodes]
    exact NB_pos n
  · simp only [J.small]
    exact ⟨h1, h2⟩
/-- up to four steps in a row -/
theorem GenOk.row {cs : List Int} {n : Nat} {js : List J} (h : GensOk cs 1 js) (hl : js.length ≤ 4) : GenOk cs (n + 2) (.ps false js) := by
  have h1 := h.deep
  have h2 := h.nodes
  refine ⟨h.cin, ?_, ?_, ?_⟩
  · simp only [J.deep]
    omega
  · simp only [J.nodes]
    have e : NB 1 = 1 := rfl
    rw [e] at h2
    have : 5 ≤ NB (n + 2) := by
      cases n with
      | zero => decide
      | succ n =>
        have : ∀ n, 5 ≤ NB (n + 2) := by
          intro n
          induction n with
          | zero => decide
          | succ n ih => simp only [NB] at *; omega
        exact this _
    omega
  · simp only [J.small]
    exact ⟨hl, h.small⟩
theorem GenOk.parts {cs : List Int} {n : Nat} {k : Bool} {js : List J} (h : GensOk cs (n + 1) js) (hl : js.length ≤ 3) : GenOk cs (n + 2) (.ps k js) := by
  have h1 := h.deep
  have h2 := h.nodes
  refine ⟨h.cin, ?_, ?_, ?_⟩
  · simp only [J.deep]
    omega
  · simp only [J.nodes]
    have p := NB_pos (n + 1)
    have b : (js.length : Int) * NB (n + 1) ≤ 3 * NB (n + 1) := Int.mul_le_mul_of_nonneg_right (by omega) (by omega)
    cases n with
    | zero => simp only [NB] at *; omega
    | succ n =>
      have e : NB (n + 1 + 1) = NB (n + 2) := rfl
      rw [e] at *
      simp only [NB]
      omega
  · simp only [J.small]
    exact ⟨by omega, h.small⟩
theorem GenOk.rounds {cs : List Int} {n : Nat} {k : Bool} {c : Int} {x : J} (h : GenOk cs (n + 1) x) (h0 : 0 ≤ c) (h1 : c ≤ M30) (hc : c ∈ cs) : GenOk cs (n + 2) (.rn k c x) := by
  have h2 := h.deep
  have h3 := h.nodes
  refine ⟨⟨hc, h.cin⟩, ?_, ?_, ?_⟩
  · simp only [J.deep]
    omega
  · simp only [J.nodes]
    have p := NB_pos (n + 1)
    cases n with
    | zero => simp only [NB] at *; omega
    | succ n =>
      have e : NB (n + 1 + 1) = NB (n + 2) := rfl
      rw [e] at *
      simp only [NB]
      omega
  · simp only [J.small]
    exact ⟨⟨h0, h1⟩, h.small⟩
theorem pick2 {r : Int} (f : Bool → Str) (h0 : 0 ≤ r) (h1 : r < 2) : ∃ b : Bool, atI [V.str (f false), V.str (f true)] r = some (.str (f b)) := by
  have : r = 0 ∨ r = 1 := by omega
  rcases this with rfl | rfl
  · exact ⟨false, rfl⟩
  · exact ⟨true, rfl⟩
theorem dp_ps {K : PySem.W.Frag} {H : Hp} {t : Addr} {k : Bool} {v : V} {js : List J} (h : H t = some (.tup [.str (kwP k), v])) (d : Dp K H v (.tuple (J.toDs js))) : Dp K H (.ref t) (J.ps k js).toD := by
  rw [J.toD]
  exact .tup (.inl (.inl h)) (.cons (.str _) (.cons d .nil))
theorem dp_rn {K : PySem.W.Frag} {H : Hp} {t : Addr} {k : Bool} {n : Int} {v : V} {j : J} (h : H t = some (.tup [.str (kwR k), .int n, v])) (d : Dp K H v j.toD) : Dp K H (.ref t) (J.rn k n j).toD := by
  rw [J.toD]
  exact .tup (.inl (.inl h)) (.cons (.str _) (.cons (.int _) (.cons d .nil)))
def spJob (K : PySem.W.Frag) (n : Nat) : Sp := fun vs H Q _ => ∃ (p a : Addr) (m : Nat) (cs : List Int), vs = [.ref p, .int (n : Int), .ref a] ∧ Pot H p m ∧ m + TB n ≤ 1099511627776 ∧ H a = some (.lst (cs.map V.int)) ∧ a ≠ p ∧
  0 < cs.length ∧ cs.length ≤ 100 ∧ (∀ c ∈ cs, 0 ≤ c ∧ c ≤ M30) ∧
  ∀ (H' : Hp) (r : V) (j : J), Sx p H H' → Pot H' p (m + TB n) → Dp K H' r j.toD → GenOk cs n j → Q r H'
section
variable {P : Program} {w : World} {K : PySem.W.Frag} {mg : Str → Option Value} {base : Heap}
/-- the list that a comprehension fills beside a pot: what its turns keep -/
structure Row (K : PySem.W.Frag) (cs : List Int) (H0 : Hp) (p D : Addr) (n m : Nat) (js : List J) (H : Hp) : Prop where
  sx : Sx p H0 H
  pot : Pot H p m
  gen : GensOk cs n js
  lst : ∃ vs, H D = some (.lst vs) ∧ DpAll K H vs (J.toDs js)
theorem Row.snoc {cs : List Int} {H0 H H' : Hp} {p D : Addr} {n m m' : Nat} {js : List J} {r : V} {j : J} (R : Row K cs H0 p D n m js H) (d0 : H0 D = none) (nDp : D ≠ p) (s : Sx p H H') (hp : Pot H' p m') (hd : Dp K H' r j.toD) (g : GenOk cs n j) :
    ∃ acc, H' D = some (.lst acc) ∧ acc.length = js.length ∧ Row K cs H0 p D n m' (js ++ [j]) (upd H' D (.lst (acc ++ [r]))) := by
  obtain ⟨vs, h1, h2⟩ := R.lst
  obtain ⟨l, hl⟩ := R.pot.lst
  have h3 : H' D = some (.lst vs) := s D _ nDp h1
  refine ⟨vs, h3, ?_, ?_, ?_, R.gen.snoc g, _, upd_same, ?_⟩
  · rw [dpAll_length h2, J.toDs_eq, List.length_map]
  · intro b o nb hb
    have nbD : b ≠ D := fun e => by rw [e, d0] at hb; cases hb
    rw [upd_ne nbD]
    exact s b o nb (R.sx b o nb hb)
  · obtain ⟨a, b, c, z1, z2⟩ := hp
    exact ⟨a, b, c, by rw [upd_ne nDp.symm]; exact z1, z2⟩
  · have k1 : ∀ a xs, SqT K H a xs → SqT K H' a xs := fun a xs z => s.sqT hl z
    have k2 : ∀ a xs, SqT K H' a xs → SqT K (upd H' D (.lst (vs ++ [r]))) a xs := fun a xs z => (sx_upd (p := D)).sqT h3 z
    rw [J.toDs_app]
    exact dpAll_append (dpAll_keep k2 (J.noLs _) (dpAll_keep k1 (J.noLs _) h2)) (dpAll_one (dp_keep k2 j.noL hd))
/-- the jobs drawn with a smaller depth than n -/
def spJobs (K : PySem.W.Frag) (n : Nat) : Sp := fun vs H Q E => ∃ d, d < n ∧ spJob K d vs H Q E
theorem ok_job_next (T : Txt K mg) {n : Nat} (g__law_job : FnOk P w K mg base CX0 (n + 2) T.f__law_job T.d__law_job ["_law_pot_here", "_law_deep", "_law_counts"] (spJobs K n)) :
    FnOk P w K mg base CX0 (n + 3) T.f__law_job T.d__law_job ["_law_pot_here", "_law_deep", "_law_counts"] (spJobs K (n + 1)) := by
  have g__law_take : FnOk P w K mg base CX0 1 T.f__law_take T.d__law_take ["_law_pot_here", "_law_many"] spTake := ok_take T
  have g__law_step : FnOk P w K mg base CX0 2 T.f__law_step T.d__law_step ["_law_pot_here"] spStep := ok_step T
  refine T.F__law_job.ok sc__law_job (fun vs H Q E h => ?_) (fun cdv A outer s H vs Q E hr h => ?_)
  · obtain ⟨d, _, p, a, m, cs, rfl, _⟩ := h
    rfl
  obtain ⟨d, hd, p, a, m, cs, rfl, hp, hm, ha, nap, c0, c1, hcs, q⟩ := h
  refine ⟨_, (pss_cons (ps_set (i := 3) sc__law_job.nd rfl (Or.inl rfl) (pe_call g__law_take (hr.mono (by omega)) rfl T.m__law_take T.F__law_take.kp T.b__law_take .nil pass0 (pa_cons (pv 0) (pa_cons pe_int pa_nil))))
      (pss_cons (ps_if (PW.pt (pw_or (pt_cmpR op_lt (pv 1) pe_int (nomark _)) (pw_or1 (pt_cmpR op_eq (pv 3) pe_int (nomark _))))) (pss_one (ps_ret (pe_call g__law_step (hr.mono (by omega)) rfl T.m__law_step T.F__law_step.kp T.b__law_step .nil pass0 (pa_cons (pv 0) pa_nil)))) pss_nil)
      (pss_cons (ps_if (pt_cmpR op_lt (pv 3) pe_int (nomark _)) (pss_cons (ps_set (i := 4) sc__law_job.nd rfl (Or.inl rfl) (pe_ix (r := rIxL K) ix_list (pe_lst (pa_cons pe_int (pa_cons pe_int (pa_cons pe_int (pa_cons pe_int pa_nil))))) (pe_call g__law_take (hr.mono (by omega)) rfl T.m__law_take T.F__law_take.kp T.b__law_take .nil pass0 (pa_cons (pv 0) (pa_cons pe_int pa_nil))) (fun _ _ => rfl)))
        (pss_one (ps_ret (pe_tup (pa_cons pe_str (pa_cons (pe_callTy (r := rTupS K) call_tupS (by rfl) T.n_tuple (by decide +kernel) (pa_cons (pe_lc (own := [("_law_turn", 5)]) (g := (gName 5)) (by rfl) sc__law_job.nd (pi_range1 rfl T.n_range (pa_cons (pv 4) pa_nil)) (blkOk_by (N := N__law_job) (sc := (defScope s__law_job)) (by decide +kernel)) (fun _ _ _ _ _ => (pg_name (i := 5) sc__law_job.nd rfl (Or.inl rfl))) (fun _ _ _ _ _ => pts_nil) (fun _ _ _ _ _ => (pe_call g__law_step (hr.mono (by omega)) rfl T.m__law_step T.F__law_step.kp T.b__law_step .nil pass0 (pa_cons (pv 0) pa_nil)))) pa_nil)) pa_nil)))))) pss_nil)
      (pss_cons (ps_if (pt_cmpR op_lt (pv 3) pe_int (nomark _)) (pss_cons (ps_set (i := 4) sc__law_job.nd rfl (Or.inl rfl) (pe_ix (r := rIxL K) ix_list (pe_lst (pa_cons pe_int (pa_cons pe_int (pa_cons pe_int (pa_cons pe_int (pa_cons pe_int (pa_cons pe_int pa_nil))))))) (pe_call g__law_take (hr.mono (by omega)) rfl T.m__law_take T.F__law_take.kp T.b__law_take .nil pass0 (pa_cons (pv 0) (pa_cons pe_int pa_nil))) (fun _ _ => rfl)))
        (pss_one (ps_ret (pe_tup (pa_cons (pe_ix (r := rIxL K) ix_list (pe_lst (pa_cons pe_str (pa_cons pe_str pa_nil))) (pe_op op_mod (pv 3) pe_int) (fun _ _ => rfl)) (pa_cons (pe_callTy (r := rTupS K) call_tupS (by rfl) T.n_tuple (by decide +kernel) (pa_cons (pe_lc (own := [("_law_turn", 5)]) (g := (gName 5)) (by rfl) sc__law_job.nd (pi_range1 rfl T.n_range (pa_cons (pv 4) pa_nil)) (blkOk_by (N := N__law_job) (sc := (defScope s__law_job)) (by decide +kernel)) (fun _ _ _ _ _ => (pg_name (i := 5) sc__law_job.nd rfl (Or.inl rfl))) (fun _ _ _ _ _ => pts_nil) (fun _ _ _ _ _ => (pe_call g__law_job (hr.mono (by omega)) rfl T.m__law_job T.F__law_job.kp T.b__law_job .nil pass0 (pa_cons (pv 0) (pa_cons (pe_op op_sub (pv 1) pe_int) (pa_cons (pv 2) pa_nil)))))) pa_nil)) pa_nil)))))) pss_nil)
      (pss_one (ps_ret (pe_tup (pa_cons (pe_ix (r := rIxL K) ix_list (pe_lst (pa_cons pe_str (pa_cons pe_str pa_nil))) (pe_op op_mod (pv 3) pe_int) (fun _ _ => rfl)) (pa_cons (pe_ix (r := rIxL K) ix_list (pv 2) (pe_call g__law_take (hr.mono (by omega)) rfl T.m__law_take T.F__law_take.kp T.b__law_take .nil pass0 (pa_cons (pv 0) (pa_cons (pe_callB (r := rLenS K) call_lenS (by rfl) T.n_len (by decide +kernel) (pa_cons (pv 2) pa_nil)) pa_nil))) (fun _ _ => rfl)) (pa_cons (pe_call g__law_job (hr.mono (by omega)) rfl T.m__law_job T.F__law_job.kp T.b__law_job .nil pass0 (pa_cons (pv 0) (pa_cons (pe_op op_sub (pv 1) pe_int) (pa_cons (pv 2) pa_nil)))) pa_nil)))))))))), ?_⟩
  have tb : 20 ≤ TB d := by cases d <;> simp only [TB] <;> omega
  refine ⟨_, rfl, p, m, 9, rfl, hp, by omega, by decide, by decide, fun H1 r1 s1 hp1 h0 h1 => ?_⟩
  have ha1 := s1 a _ nap ha
  refine ⟨_, rfl, _, _, rfl, rfl, _, rfl, ?_⟩
  -- one step
  have one : ∀ (R : V → Hp → Prop), R = Q → spStep [.ref p] H1 R E0 := by
    rintro R rfl
    exact ⟨p, m + 1, rfl, hp1, by omega, fun H2 r2 s2 hp2 k0 k1 => q _ _ (.st r2) (s1.trans s2) (hp2.mono (by omega)) (.int _) (.step k0 k1)⟩
  refine ite2 (fun g => ?_) (fun g => ?_)
  · refine iteT ⟨_, rfl, ?_⟩
    exact one _ rfl
  have d2 : 2 ≤ d := by
    have g' : ¬ ((d : Int) < 2) := fun z => g (decide_eq_true z)
    omega
  obtain ⟨e, rfl⟩ : ∃ e, d = e + 2 := ⟨d - 2, by omega⟩
  refine ⟨_, rfl, rfl, _, rfl, ?_⟩
  refine ite2 (fun g => ?_) (fun g => ?_)
  · refine ⟨_, rfl, ?_⟩
    exact one _ rfl
  refine ⟨_, rfl, _, _, rfl, rfl, _, rfl, ?_⟩
  have etb : TB (e + 2) = 20 + 3 * TB (e + 1) := rfl
  have tb1 : 20 ≤ TB (e + 1) := by simp only [TB]; omega
  refine ite2 (fun g => ?_) (fun g => ?_)
  · -- a row of steps
    refine ⟨(by show 4 ≤ sizeLine; decide), fun l hl => ?_⟩
    obtain ⟨lp, hlp⟩ := hp1.lst
    have nlp : l ≠ p := fun z => by rw [z, hlp] at hl; cases hl
    refine ⟨_, rfl, p, m + 1, _, rfl, hp1.same (same_new hl), by omega, by decide, by decide, fun H2 r2 s2 hp2 k0 k1 => ?_⟩
    obtain ⟨z, hz, ez⟩ := atI_int (ns := [3, 2, 4, 0]) k0 k1
    have hz4 : 0 ≤ z ∧ z ≤ 4 := by
      simp only [List.mem_cons, List.not_mem_nil, or_false] at hz
      omega
    refine ⟨_, _, _, _, rfl, rfl, SqL.of (s2 l _ nlp upd_same), ez, ?_⟩
    have s02 : Sx p H H2 := s1.trans ((sx_new hl).trans s2)
    have h2n : m + 1 + 1 + 4 * z.toNat ≤ m + TB (e + 2) := by omega
    refine ⟨_, rfl, z, rfl, by omega, by omega, fun D hD => ?_⟩
    have nDp : D ≠ p := fun y => by
      obtain ⟨_, y2⟩ := hp2.lst
      rw [y, y2] at hD
      cases hD
    refine lc_range (lo := 0) (n := z.toNat) (fun i H' => ∃ js, js.length = i ∧ Row K cs H2 p D 1 (m + 1 + 1 + 4 * i) js H') ?_ ?_ ?_
    · exact ⟨[], rfl, fun b o nb hb => by rw [upd_ne (ne_of_none hb hD)]; exact hb, (hp2.same (same_new hD)), .nil, [], upd_same, .nil⟩
    · rintro i H' hi ⟨js, ejs, R⟩
      refine ⟨rfl, ?_⟩
      unfold tYes
      refine iteT ?_
      refine ⟨_, rfl, p, m + 1 + 1 + 4 * i, rfl, R.pot, by omega, fun H4 r4 s4 hp4 j0 j1 => ?_⟩
      obtain ⟨acc, x1, x2, x3⟩ := R.snoc hD nDp s4 hp4 (.int _) (GenOk.step (cs := cs) (n := 1) j0 j1)
      exact ⟨acc, x1, small1000 (by omega), _, by rw [List.length_append, List.length_singleton, ejs], x3⟩
    · rintro H' ⟨js, ejs, R⟩
      obtain ⟨vs, y1, y2⟩ := R.lst
      refine ⟨D, vs, rfl, .inl ⟨SqL.of y1, fun t ht => ?_⟩⟩
      refine ⟨(by show 2 ≤ sizeLine; decide), fun u hu => ?_⟩
      have st : Same H' (upd (upd H' t (.tup vs)) u (.tup [.str "seq", .ref t])) := (same_new ht).trans (same_new hu)
      refine q _ _ (.ps false js) (s02.trans (R.sx.trans (Same.sx st))) ((R.pot.same st).mono (by omega)) ?_ (GenOk.row R.gen (by omega))
      refine dp_ps (k := false) (v := .ref t) upd_same (.tup (.inl (.inl ?_)) (dpAll_same st y2))
      exact same_new hu _ _ upd_same
  refine ⟨_, rfl, _, _, rfl, rfl, _, rfl, ?_⟩
  refine ite2 (fun g => ?_) (fun g => ?_)
  · -- parts
    refine ⟨(by show 6 ≤ sizeLine; decide), fun l hl => ?_⟩
    obtain ⟨lp, hlp⟩ := hp1.lst
    have nlp : l ≠ p := fun z => by rw [z, hlp] at hl; cases hl
    refine ⟨_, rfl, p, m + 1, _, rfl, hp1.same (same_new hl), by omega, by decide, by decide, fun H2 r2 s2 hp2 k0 k1 => ?_⟩
    obtain ⟨z, hz, ez⟩ := atI_int (ns := [2, 3, 2, 1, 3, 0]) k0 k1
    have hz4 : 0 ≤ z ∧ z ≤ 3 := by
      simp only [List.mem_cons, List.not_mem_nil, or_false] at hz
      omega
    refine ⟨_, _, _, _, rfl, rfl, SqL.of (s2 l _ nlp upd_same), ez, ?_⟩
    have s02 : Sx p H H2 := s1.trans ((sx_new hl).trans s2)
    -- the kind
    refine ⟨(by show 2 ≤ sizeLine; decide), fun l2 hl2 => ?_⟩
    obtain ⟨lp2, hlp2⟩ := hp2.lst
    refine ⟨_, rfl, _, _, rfl, rfl, (by show (0 : Int) < 2; decide), ?_⟩
    obtain ⟨kb, ekb⟩ := pick2 kwP (r := r1 % 2) (by omega) (by omega)
    refine ⟨_, _, _, _, rfl, rfl, SqL.of upd_same, ekb, ?_⟩
    have s03 : Sx p H (upd H2 l2 (.lst [.str "seq", .str "par"])) := s02.trans (sx_new hl2)
    have hp3 := hp2.same (same_new (o := .lst [.str "seq", .str "par"]) hl2)
    generalize (upd H2 l2 (.lst [.str "seq", .str "par"])) = H3 at s03 hp3 ⊢
    refine ⟨_, rfl, z, rfl, by omega, by omega, fun D hD => ?_⟩
    have nDp : D ≠ p := fun y => by
      obtain ⟨_, y2⟩ := hp3.lst
      rw [y, y2] at hD
      cases hD
    refine lc_range (lo := 0) (n := z.toNat) (fun i H' => ∃ js, js.length = i ∧ Row K cs H3 p D (e + 1) (m + 1 + 1 + TB (e + 1) * i) js H') ?_ ?_ ?_
    · exact ⟨[], rfl, fun b o nb hb => by rw [upd_ne (ne_of_none hb hD)]; exact hb, (hp3.same (same_new hD)), .nil, [], upd_same, .nil⟩
    · rintro i H' hi ⟨js, ejs, R⟩
      have hi3 : i ≤ 2 := by omega
      have hmul : TB (e + 1) * i ≤ TB (e + 1) * 2 := Nat.mul_le_mul_left _ hi3
      have hmul2 : TB (e + 1) * (i + 1) = TB (e + 1) * i + TB (e + 1) := Nat.mul_succ _ _
      refine ⟨rfl, ?_⟩
      unfold tYes
      refine iteT ?_
      refine ⟨_, rfl, _, rfl, _, _, rfl, rfl, _, rfl, e + 1, by omega, p, a, m + 1 + 1 + TB (e + 1) * i, cs, ?_, R.pot, by omega, R.sx a _ nap (s03 a _ nap ha), nap, c0, c1, hcs, fun H4 r4 j4 s4 hp4 d4 g4 => ?_⟩
      · have ee : ((e + 2 : Nat) : Int) - 1 = ((e + 1 : Nat) : Int) := by omega
        rw [← ee]
        rfl
      obtain ⟨acc, x1, x2, x3⟩ := R.snoc hD nDp s4 hp4 d4 g4
      rw [Nat.add_assoc _ (TB (e + 1) * i), ← hmul2] at x3
      exact ⟨acc, x1, small1000 (by omega), _, by rw [List.length_append, List.length_singleton, ejs], x3⟩
    · rintro H' ⟨js, ejs, R⟩
      obtain ⟨vs, y1, y2⟩ := R.lst
      refine ⟨D, vs, rfl, .inl ⟨SqL.of y1, fun t ht => ?_⟩⟩
      refine ⟨(by show 2 ≤ sizeLine; decide), fun u hu => ?_⟩
      have st : Same H' (upd (upd H' t (.tup vs)) u (.tup [.str (kwP kb), .ref t])) := (same_new ht).trans (same_new hu)
      have hz3 : z.toNat ≤ 3 := by omega
      have hmul : TB (e + 1) * z.toNat ≤ TB (e + 1) * 3 := Nat.mul_le_mul_left _ hz3
      refine q _ _ (.ps kb js) (s03.trans (R.sx.trans (Same.sx st))) ((R.pot.same st).mono (by omega)) ?_ (GenOk.parts R.gen (by omega))
      refine dp_ps (k := kb) (v := .ref t) upd_same (.tup (.inl (.inl ?_)) (dpAll_same st y2))
      exact same_new hu _ _ upd_same
  -- rounds, copies
  refine ⟨(by show 2 ≤ sizeLine; decide), fun l hl => ?_⟩
  refine ⟨_, rfl, _, _, rfl, rfl, (by show (0 : Int) < 2; decide), ?_⟩
  obtain ⟨kb, ekb⟩ := pick2 kwR (r := r1 % 2) (by omega) (by omega)
  refine ⟨_, _, _, _, rfl, rfl, SqL.of upd_same, ekb, ?_⟩
  have s02 : Sx p H (upd H1 l (.lst [.str "repeat", .str "copies"])) := s1.trans (sx_new hl)
  have hp2 := hp1.same (same_new (o := .lst [.str "repeat", .str "copies"]) hl)
  generalize (upd H1 l (.lst [.str "repeat", .str "copies"])) = H2 at s02 hp2 ⊢
  have ha2 := s02 a _ nap ha
  refine ⟨_, rfl, _, rfl, _, rfl, a, _, rfl, .inl (SqL.of ha2), p, m + 1, _, rfl, hp2, by omega, ?_, ?_, fun H3 r3 s3 hp3 k0 k1 => ?_⟩
  · show (0 : Int) < ((cs.map V.int).length : Int)
    rw [List.length_map]
    omega
  · show (((cs.map V.int).length : Int)).natAbs < 2 ^ 200
    rw [List.length_map]
    exact Nat.lt_of_le_of_lt (show ((cs.length : Int)).natAbs ≤ 100 by omega) (by decide)
  rw [List.length_map] at k1
  obtain ⟨z, hz, ez⟩ := atI_int (ns := cs) k0 k1
  have ha3 := s3 a _ nap ha2
  refine ⟨_, _, _, _, rfl, rfl, SqL.of ha3, ez, ?_⟩
  refine ⟨_, rfl, _, rfl, _, _, rfl, rfl, _, rfl, e + 1, by omega, p, a, m + 1 + 1, cs, ?_, hp3, by omega, ha3, nap, c0, c1, hcs, fun H4 r4 j4 s4 hp4 d4 g4 => ?_⟩
  · have ee : ((e + 2 : Nat) : Int) - 1 = ((e + 1 : Nat) : Int) := by omega
    rw [← ee]
    rfl
  refine ⟨(by show 3 ≤ sizeLine; decide), fun u hu => ?_⟩
  have st : Same H4 (upd H4 u (.tup [.str (kwR kb), .int z, r4])) := same_new hu
  have hcz := hcs z hz
  exact q _ _ (.rn kb z j4) (s02.trans (s3.trans (s4.trans (Same.sx st)))) ((hp4.same st).mono (by omega)) (dp_rn upd_same (dp_same st d4)) (GenOk.rounds g4 hcz.1 hcz.2 hz)
theorem ok_jobs (T : Txt K mg) : ∀ n : Nat, FnOk P w K mg base CX0 (n + 2) T.f__law_job T.d__law_job ["_law_pot_here", "_law_deep", "_law_counts"] (spJobs K n)
  | 0 => ⟨fun vs H Q E h => (nomatch h.choose_spec.1), fun A outer s H args us vs Q E _ _ _ _ h => (nomatch h.choose_spec.1)⟩
  | n + 1 => ok_job_next T (ok_jobs T n)
theorem ok_job (T : Txt K mg) (n : Nat) : FnOk P w K mg base CX0 (n + 3) T.f__law_job T.d__law_job ["_law_pot_here", "_law_deep", "_law_counts"] (spJob K n) :=
  (ok_jobs T (n + 1)).imp fun vs H Q E h => ⟨n, Nat.lt_succ_self n, h⟩
end
/-! block Acc: chains of new objects, data of bounded size (behind Rq) -/
theorem _root_.Rp.DqAll.at {K : PySem.W.Frag} {p : Addr} {H : Hp} {vs : List V} {ds : List PyData} (h : DqAll K p H vs ds) (i : Nat) {v : V} {d : PyData} (hv : vs[i]? = some v) (hd : ds[i]? = some d) : Dq K p H v d := by
  obtain ⟨e, h1, h2⟩ := dqAll_get h hv
  rw [hd] at h1
  cases h1
  exact h2
structure Acc (K : PySem.W.Frag) (p : Addr) (H0 H : Hp) (vs : List V) (ds : List PyData) : Prop where
  s : Same H0 H
  f : DqAll K p H vs ds
theorem Acc.tup {K : PySem.W.Frag} {p t : Addr} {H0 H : Hp} {vs xs : List V} {ds es : List PyData} (A : Acc K p H0 H vs ds) (ht : H t = none) (h : DqAll K p H xs es) : Acc K p H0 (upd H t (.tup xs)) (.ref t :: vs) (.tuple es :: ds) :=
  ⟨A.s.trans (same_new ht), .cons (.tup (SqT.of upd_same) (h.keep (Same.kp (same_new ht)))) (A.f.keep (Same.kp (same_new ht)))⟩
theorem Acc.lst {K : PySem.W.Frag} {p t : Addr} {H0 H : Hp} {l : List V} {vs xs : List V} {ds es : List PyData} (A : Acc K p H0 H vs ds) (hp : H0 p = some (.lst l)) (ht : H t = none) (h : DqAll K p H xs es) : Acc K p H0 (upd H t (.lst xs)) (.ref t :: vs) (.list es :: ds) :=
  ⟨A.s.trans (same_new ht), .cons (.lst (fun z => by rw [z, A.s _ _ hp] at ht; cases ht) upd_same (h.keep (Same.kp (same_new ht)))) (A.f.keep (Same.kp (same_new ht)))⟩
theorem Acc.dct {K : PySem.W.Frag} {p t : Addr} {H0 H : Hp} {l : List V} {vs : List V} {ds : List PyData} (A : Acc K p H0 H vs ds) (hp : H0 p = some (.lst l)) (ht : H t = none) : Acc K p H0 (upd H t (.dK [])) (.ref t :: vs) (.dict [] :: ds) :=
  ⟨A.s.trans (same_new ht), .cons (.dct (fun z => by rw [z, A.s _ _ hp] at ht; cases ht) upd_same (fun _ => rfl)) (A.f.keep (Same.kp (same_new ht)))⟩
theorem dqAll_some {K : PySem.W.Frag} {p : Addr} {H : Hp} : ∀ {vs : List V} {ds : List PyData} {i : Nat} {v : V}, DqAll K p H vs ds → vs[i]? = some v → ∃ d, d ∈ ds ∧ ds[i]? = some d ∧ Dq K p H v d := by
  intro vs ds i v h e
  obtain ⟨d, h1, h2⟩ := dqAll_get h e
  exact ⟨d, List.mem_of_getElem? h1, h1, h2⟩
theorem pick {vs : List V} {r : Int} (h0 : 0 ≤ r) (h1 : r < (vs.length : Int)) : ∃ v, vs[r.toNat]? = some v ∧ atI vs r = some v := by
  have hk : r.toNat < vs.length := by omega
  exact ⟨vs[r.toNat], List.getElem?_eq_getElem hk, atI_at (j := r.toNat) (by omega) (List.getElem?_eq_getElem hk)⟩
structure Sd (b e : Nat) (d : PyData) : Prop where
  fine : fineQ d
  bulk : d.bulk ≤ b
  depth : d.depth ≤ e
structure Sds (b e : Nat) (ds : List PyData) : Prop where
  fine : finesQ ds
  bulk : PyData.bulkAll ds ≤ b
  depth : PyData.depthAll ds ≤ e
theorem Sds.nil : Sds 0 0 [] := ⟨by simp [finesQ], by simp [PyData.bulkAll], by simp [PyData.depthAll]⟩
theorem Sds.cons {b e b' e' : Nat} {d : PyData} {ds : List PyData} (h : Sd b e d) (t : Sds b' e' ds) : Sds (1 + b + b') (max e e') (d :: ds) := by
  have h1 := h.bulk
  have h2 := t.bulk
  have h3 := h.depth
  have h4 := t.depth
  refine ⟨?_, ?_, ?_⟩
  · simp only [finesQ]
    exact ⟨h.fine, t.fine⟩
  · simp only [PyData.bulkAll]
    omega
  · simp only [PyData.depthAll]
    omega
theorem Sd.tup {b e : Nat} {ds : List PyData} (h : Sds b e ds) : Sd b (e + 1) (.tuple ds) := by
  have h1 := h.bulk
  have h2 := h.depth
  exact ⟨by simp only [fineQ]; exact h.fine, by simp only [PyData.bulk]; omega, by simp only [PyData.depth]; omega⟩
theorem Sd.lst {b e : Nat} {ds : List PyData} (h : Sds b e ds) : Sd b (e + 1) (.list ds) := by
  have h1 := h.bulk
  have h2 := h.depth
  exact ⟨by simp only [fineQ]; exact h.fine, by simp only [PyData.bulk]; omega, by simp only [PyData.depth]; omega⟩
theorem Sd.mono {b e b' e' : Nat} {d : PyData} (h : Sd b e d) (h1 : b ≤ b') (h2 : e ≤ e') : Sd b' e' d := ⟨h.fine, Nat.le_trans h.bulk h1, Nat.le_trans h.depth h2⟩
theorem finesQ_app : ∀ xs ys : List PyData, finesQ xs → finesQ ys → finesQ (xs ++ ys)
  | [], ys, _, h => h
  | x :: xs, ys, h1, h2 => by
    simp only [finesQ, List.cons_append] at *
    exact ⟨h1.1, finesQ_app xs ys h1.2 h2⟩
theorem bulkAll_app : ∀ xs ys : List PyData, PyData.bulkAll (xs ++ ys) = PyData.bulkAll xs + PyData.bulkAll ys
  | [], ys => by simp [PyData.bulkAll]
  | x :: xs, ys => by simp only [List.cons_append, PyData.bulkAll, bulkAll_app xs ys]; omega
theorem depthAll_app : ∀ xs ys : List PyData, PyData.depthAll (xs ++ ys) = max (PyData.depthAll xs) (PyData.depthAll ys)
  | [], ys => by simp [PyData.depthAll]
  | x :: xs, ys => by simp only [List.cons_append, PyData.depthAll, depthAll_app xs ys]; omega
theorem Sds.app {b e b' e' : Nat} {xs ys : List PyData} (h : Sds b e xs) (t : Sds b' e' ys) : Sds (b + b') (max e e') (xs ++ ys) := by
  have h1 := h.bulk
  have h2 := t.bulk
  have h3 := h.depth
  have h4 := t.depth
  refine ⟨finesQ_app _ _ h.fine t.fine, ?_, ?_⟩
  · rw [bulkAll_app]
    omega
  · rw [depthAll_app]
    omega
theorem finesQ_left : ∀ xs ys : List PyData, finesQ (xs ++ ys) → finesQ xs
  | [], ys, _ => by simp [finesQ]
  | x :: xs, ys, h => by
    simp only [finesQ, List.cons_append] at *
    exact ⟨h.1, finesQ_left xs ys h.2⟩
theorem finesQ_right : ∀ xs ys : List PyData, finesQ (xs ++ ys) → finesQ ys
  | [], ys, h => h
  | x :: xs, ys, h => by
    simp only [finesQ, List.cons_append] at h
    exact finesQ_right xs ys h.2
theorem Acc.more {K : PySem.W.Frag} {p : Addr} {H0 H H' : Hp} {vs : List V} {ds : List PyData} {v : V} {d : PyData} (A : Acc K p H0 H vs ds) (s : Same H H') (h : Dq K p H' v d) : Acc K p H0 H' (v :: vs) (d :: ds) :=
  ⟨A.s.trans s, .cons h (A.f.keep (Same.kp s))⟩
theorem rCatA_q {K : PySem.W.Frag} {H : Hp} {Q : VK} {a b : Addr} {xs ys : List V} (h1 : SqT K H a xs) (h2 : SqT K H b ys) (hl : xs.length + ys.length ≤ sizeLine)
    (h : ∀ (H' : Hp) (t : Addr), Same H H' → SqT K H' t (xs ++ ys) → Q (.ref t) H') : rCatA K (.ref a) (.ref b) H Q := by
  refine ⟨a, b, xs, ys, rfl, rfl, h1, h2, hl, fun z => ?_, fun _ z => ?_, fun _ _ p hp => ?_⟩
  · subst z
    exact h H b (Same.refl _) h2
  · subst z
    exact h H a (Same.refl _) (by simpa using h1)
  · exact h _ p (same_new hp) (SqT.of upd_same)
theorem rSlA_q {K : PySem.W.Frag} {H : Hp} {Q : VK} {a : Addr} {xs : List V} {lo hi : Option Int} (h1 : SqT K H a xs)
    (h : ∀ (H' : Hp) (t : Addr), Same H H' → SqT K H' t (cutV xs lo hi) → Q (.ref t) H') : rSlA K (.ref a) lo hi H Q := by
  refine ⟨a, xs, rfl, h1, fun z => ?_, fun _ p hp => ?_⟩
  · refine h H a (Same.refl _) ?_
    have e : cutV xs lo hi = xs := by
      unfold cutV
      rw [z.1, z.2]
      simp
    rw [e]
    exact h1
  · exact h _ p (same_new hp) (SqT.of upd_same)
theorem iteKeep {c : Bool} {A B : Prop} (hA : A) (hB : ¬ c = true → A → B) : if c = true then A else B := by
  cases c with
  | true => exact hA
  | false => exact hB (by decide) hA
theorem cut_take {us : List V} {i : Int} (h0 : 0 ≤ i) (h1 : i < (us.length : Int)) : cutV us none (some i) = us.take i.toNat := by
  unfold cutV HT.sIx
  dsimp only
  rw [if_neg (by omega)]
  simp only [Nat.sub_zero, List.drop_zero]
  rw [Nat.min_eq_left (by omega)]
theorem cut_drop {us : List V} {i : Int} (h0 : 0 ≤ i) (h1 : i < (us.length : Int)) : cutV us (some (i + 1)) none = us.drop (i.toNat + 1) := by
  unfold cutV HT.sIx
  dsimp only
  rw [if_neg (by omega), Nat.min_eq_left (by omega)]
  have e : (i + 1).toNat = i.toNat + 1 := by omega
  rw [e, List.take_of_length_le (by rw [List.length_drop]; omega)]
/-! block Bent (behind bAcc): _law_bent, a job with something in it otherwise -/
/-! how great the data is -/
mutual
theorem J.fineQ : ∀ j : J, j.small → Rp.fineQ j.toD
  | .st i, h => by
    simp only [J.small, M30] at h
    simp only [J.toD, Rp.fineQ]
    exact lt180 (by simp only [M60]; omega) (by simp only [M60]; omega)
  | .ps k xs, h => by
    simp only [J.small] at h
    simp only [J.toD, Rp.fineQ, Rp.finesQ, and_true]
    exact ⟨by cases k <;> decide, J.finesQ xs h.2⟩
  | .rn k n x, h => by
    simp only [J.small, M30] at h
    simp only [J.toD, Rp.fineQ, Rp.finesQ, and_true]
    exact ⟨by cases k <;> decide, lt180 (by simp only [M60]; omega) (by simp only [M60]; omega), J.fineQ x h.2⟩
theorem J.finesQ : ∀ xs : List J, J.smallL xs → Rp.finesQ (J.toDs xs)
  | [], _ => by simp [J.toDs, Rp.finesQ]
  | x :: xs, h => by
    simp only [J.smallL] at h
    simp only [J.toDs, Rp.finesQ]
    exact ⟨J.fineQ x h.1, J.finesQ xs h.2⟩
end
theorem J.smallL_mem : ∀ {l : List J} {y : J}, J.smallL l → y ∈ l → y.small
  | z :: r, y, o, h => by
    simp only [J.smallL] at o
    rcases List.mem_cons.mp h with rfl | h
    · exact o.1
    · exact J.smallL_mem o.2 h
theorem J.deepL_mem : ∀ {l : List J} {y : J}, y ∈ l → y.deep ≤ J.deepL l
  | z :: r, y, h => by
    simp only [J.deepL]
    rcases List.mem_cons.mp h with rfl | h
    · omega
    · have := J.deepL_mem h
      omega
def oddDs : List PyData := [.none, .bool true, .bool false, .str "5", .tuple [], .list [], .dict [], .tuple [.str "seq"], .int (10 ^ (30 : Int).toNat), .int (10 ^ (30 : Int).toNat + 1), .int (0 - 10 ^ (30 : Int).toNat - 1), .tuple [.str "seq", .tuple []], .int 7]
def wordDs : List PyData := [.str "seq", .str "par", .str "repeat", .str "copies", .str "row", .str "SEQ", .str "", .none, .list [], .dict [], .tuple [.list []]]
theorem odd_ok {d : PyData} (h : d ∈ oddDs) : Sd 10 3 d := by
  simp only [oddDs, List.mem_cons, List.not_mem_nil, or_false] at h
  rcases h with rfl | rfl | rfl | rfl | rfl | rfl | rfl | rfl | rfl | rfl | rfl | rfl | rfl <;>
    refine ⟨?_, by decide +kernel, by decide +kernel⟩ <;> simp only [fineQ, finesQ, and_true, true_and] <;> first | trivial | decide +kernel
theorem word_ok {d : PyData} (h : d ∈ wordDs) : Sd 10 3 d := by
  simp only [wordDs, List.mem_cons, List.not_mem_nil, or_false] at h
  rcases h with rfl | rfl | rfl | rfl | rfl | rfl | rfl | rfl | rfl | rfl | rfl <;>
    refine ⟨?_, by decide +kernel, by decide +kernel⟩ <;> simp only [fineQ, finesQ, and_true, true_and] <;> first | trivial | decide +kernel
def BentOk (j : J) (d : PyData) : Prop := Sd (j.toD.bulk + 60) (j.toD.depth + 5) d
def spBent (K : PySem.W.Frag) (n : Nat) : Sp := fun vs H Q _ => ∃ (p : Addr) (m : Nat) (v : V) (j : J), vs = [.ref p, v, .int (n : Int)] ∧ Pot H p m ∧ m + 5 * (n + 1) ≤ 1099511627776 ∧ Dp K H v j.toD ∧ j.small ∧ j.deep ≤ 30 ∧
  ∀ (H' : Hp) (r : V) (d : PyData), Sx p H H' → Pot H' p (m + 5 * (n + 1)) → Dq K p H' r d → BentOk j d → Q r H'
def spBentP (K : PySem.W.Frag) (n : Nat) : Sp := fun vs H Q E => ∃ m, n = m + 1 ∧ spBent K m vs H Q E
theorem kwP_in (k : Bool) : inV (.str (kwP k)) [.str "seq", .str "par"] = true := by cases k <;> decide +kernel
theorem kwR_in (k : Bool) : inV (.str (kwR k)) [.str "seq", .str "par"] = false := by cases k <;> decide +kernel
theorem parts_shaped {k : Bool} {xs : List J} (h : (J.ps k xs).deep ≤ 30) : SeqAt.shaped (.tuple (J.toDs xs)) = true := by
  have h1 := J.canLay (.ps k xs)
  have h2 := J.depth (.ps k xs)
  simp only [J.toD, PyData.canLay0, PyData.canLayAll0, Bool.and_true, Bool.and_eq_true] at h1
  simp only [J.toD, PyData.depth, PyData.depthAll] at h2
  have e : (PyData.tuple (J.toDs xs)).depth ≤ 64 := by
    simp only [PyData.depth]
    omega
  unfold SeqAt.shaped
  rw [decide_eq_true e]
  simp only [PyData.canLay0, h1.2, Bool.and_self]
/-- one of the seven -/
theorem seven {K : PySem.W.Frag} {p : Addr} {H : Hp} {vs : List V} {ds : List PyData} {b e : Nat} {r : Int} (h : DqAll K p H vs ds) (hl : vs.length = 7) (h0 : 0 ≤ r) (h7 : r < 7) (hs : ∀ d ∈ ds, Sd b e d) :
    ∃ v d, atI vs r = some v ∧ Dq K p H v d ∧ Sd b e d := by
  obtain ⟨v, e1, e2⟩ := pick (vs := vs) h0 (by rw [hl]; exact h7)
  obtain ⟨d, md, _, hd⟩ := dqAll_some h e1
  exact ⟨v, d, e2, hd, hs d md⟩
theorem seven_ps {kw : Str} {ps : List PyData} {dl dw : PyData} (hk : fineQ (.str kw)) (hps : finesQ ps) (hl : Sd 10 3 dl) (hw : Sd 10 3 dw) :
    ∀ d ∈ [PyData.list [.str kw, .tuple ps], .tuple [dw, .tuple ps], .tuple [.str kw], .tuple [.str kw, .tuple ps, dl], .tuple [.str kw, .list ps], .tuple [.str kw, .tuple (ps ++ [dl])], .tuple [.str kw, dl]],
      Sd ((PyData.tuple [.str kw, .tuple ps]).bulk + 60) ((PyData.tuple [.str kw, .tuple ps]).depth + 5) d := by
  have k1 : Sd (PyData.str kw).bulk 0 (.str kw) := ⟨hk, Nat.le_refl _, by simp [PyData.depth]⟩
  have p0 : Sds (PyData.bulkAll ps) (PyData.depthAll ps) ps := ⟨hps, Nat.le_refl _, Nat.le_refl _⟩
  have eB : (PyData.tuple [.str kw, .tuple ps]).bulk = 1 + (PyData.str kw).bulk + (1 + PyData.bulkAll ps) := by
    simp only [PyData.bulk, PyData.bulkAll]
    omega
  have eE : PyData.depthAll ps + 2 ≤ (PyData.tuple [.str kw, .tuple ps]).depth := by
    simp only [PyData.depth, PyData.depthAll]
    omega
  rw [eB]
  intro d hd
  simp only [List.mem_cons, List.not_mem_nil, or_false] at hd
  rcases hd with rfl | rfl | rfl | rfl | rfl | rfl | rfl
  · exact (Sd.lst (.cons k1 (.cons (Sd.tup p0) .nil))).mono (by omega) (by omega)
  · exact (Sd.tup (.cons hw (.cons (Sd.tup p0) .nil))).mono (by omega) (by omega)
  · exact (Sd.tup (.cons k1 .nil)).mono (by omega) (by omega)
  · exact (Sd.tup (.cons k1 (.cons (Sd.tup p0) (.cons hl .nil)))).mono (by omega) (by omega)
  · exact (Sd.tup (.cons k1 (.cons (Sd.lst p0) .nil))).mono (by omega) (by omega)
  · exact (Sd.tup (.cons k1 (.cons (Sd.tup (p0.app (.cons hl .nil))) .nil))).mono (by omega) (by omega)
  · exact (Sd.tup (.cons k1 (.cons hl .nil))).mono (by omega) (by omega)
theorem seven_rn {kw : Str} {c : Int} {x dl dw : PyData} (hk : fineQ (.str kw)) (hc : fineQ (.int c)) (hx : fineQ x) (hl : Sd 10 3 dl) (hw : Sd 10 3 dw) :
    ∀ d ∈ [PyData.list [.str kw, .int c, x], .tuple [dw, .int c, x], .tuple [.str kw, .int c], .tuple [.str kw, .int c, x, dl], .tuple [.str kw, dl, x], .tuple [.str kw, x, .int c], .tuple [.str kw, .int c, dl]],
      Sd ((PyData.tuple [.str kw, .int c, x]).bulk + 60) ((PyData.tuple [.str kw, .int c, x]).depth + 5) d := by
  have k1 : Sd (PyData.str kw).bulk 0 (.str kw) := ⟨hk, Nat.le_refl _, by simp [PyData.depth]⟩
  have c1 : Sd 0 0 (.int c) := ⟨hc, by simp [PyData.bulk], by simp [PyData.depth]⟩
  have p0 : Sd x.bulk x.depth x := ⟨hx, Nat.le_refl _, Nat.le_refl _⟩
  have eB : (PyData.tuple [.str kw, .int c, x]).bulk = 1 + (PyData.str kw).bulk + (1 + (1 + x.bulk)) := by
    simp only [PyData.bulk, PyData.bulkAll]
    omega
  have eE : x.depth + 1 ≤ (PyData.tuple [.str kw, .int c, x]).depth := by
    simp only [PyData.depth, PyData.depthAll]
    omega
  rw [eB]
  intro d hd
  simp only [List.mem_cons, List.not_mem_nil, or_false] at hd
  rcases hd with rfl | rfl | rfl | rfl | rfl | rfl | rfl
  · exact (Sd.lst (.cons k1 (.cons c1 (.cons p0 .nil)))).mono (by omega) (by omega)
  · exact (Sd.tup (.cons hw (.cons c1 (.cons p0 .nil)))).mono (by omega) (by omega)
  · exact (Sd.tup (.cons k1 (.cons c1 .nil))).mono (by omega) (by omega)
  · exact (Sd.tup (.cons k1 (.cons c1 (.cons p0 (.cons hl .nil))))).mono (by omega) (by omega)
  · exact (Sd.tup (.cons k1 (.cons hl (.cons p0 .nil)))).mono (by omega) (by omega)
  · exact (Sd.tup (.cons k1 (.cons p0 (.cons c1 .nil)))).mono (by omega) (by omega)
  · exact (Sd.tup (.cons k1 (.cons c1 (.cons hl .nil)))).mono (by omega) (by omega)
theorem part_at' {K : PySem.W.Frag} {H : Hp} {xs : List J} {vs : List V} {i : Nat} {x : V} (hall : DpAll K H vs (J.toDs xs)) (hi : vs[i]? = some x) : ∃ j, (J.toDs xs)[i]? = some j.toD ∧ j ∈ xs ∧ Dp K H x j.toD := by
  obtain ⟨d, ed, hd⟩ := dpAll_get hall hi
  have ed' := ed
  rw [J.toDs_eq, List.getElem?_map] at ed
  cases e : xs[i]? with
  | none =>
    rw [e] at ed
    cases ed
  | some j =>
    rw [e] at ed
    obtain rfl := (Option.some.inj ed).symm
    exact ⟨j, ed', List.mem_of_getElem? e, hd⟩
theorem bent_ps {kw : Str} {ps : List PyData} {i : Nat} {part d : PyData} (hk : fineQ (.str kw)) (hps : finesQ ps) (e : ps[i]? = some part) (hd : Sd (part.bulk + 60) (part.depth + 5) d) :
    Sd ((PyData.tuple [.str kw, .tuple ps]).bulk + 60) ((PyData.tuple [.str kw, .tuple ps]).depth + 5) (.tuple [.str kw, .tuple ((ps.take i ++ [d]) ++ ps.drop (i + 1))]) := by
  have hi : i < ps.length := (List.getElem?_eq_some_iff.mp e).1
  have e2 : ps = ps.take i ++ (part :: ps.drop (i + 1)) := by
    have h1 := List.take_append_drop i ps
    rw [List.drop_eq_getElem_cons hi] at h1
    rw [List.getElem?_eq_getElem hi] at e
    rw [Option.some.inj e] at h1
    exact h1.symm
  have k1 : Sd (PyData.str kw).bulk 0 (.str kw) := ⟨hk, Nat.le_refl _, by simp [PyData.depth]⟩
  have f1 : finesQ (ps.take i) := finesQ_left _ (part :: ps.drop (i + 1)) (e2 ▸ hps)
  have f2 : finesQ (part :: ps.drop (i + 1)) := finesQ_right (ps.take i) _ (e2 ▸ hps)
  simp only [finesQ] at f2
  have b1 : PyData.bulkAll ps = PyData.bulkAll (ps.take i) + (1 + part.bulk + PyData.bulkAll (ps.drop (i + 1))) := by
    conv =>
      lhs
      rw [e2]
    rw [bulkAll_app]
    simp only [PyData.bulkAll]
    omega
  have b2 : PyData.depthAll ps = max (PyData.depthAll (ps.take i)) (max part.depth (PyData.depthAll (ps.drop (i + 1)))) := by
    conv =>
      lhs
      rw [e2]
    rw [depthAll_app]
    simp only [PyData.depthAll]
  have eB : (PyData.tuple [.str kw, .tuple ps]).bulk = 1 + (PyData.str kw).bulk + (1 + PyData.bulkAll ps) := by
    simp only [PyData.bulk, PyData.bulkAll]
    omega
  have eE : PyData.depthAll ps + 2 ≤ (PyData.tuple [.str kw, .tuple ps]).depth := by
    simp only [PyData.depth, PyData.depthAll]
    omega
  have t1 : Sds (PyData.bulkAll (ps.take i)) (PyData.depthAll (ps.take i)) (ps.take i) := ⟨f1, Nat.le_refl _, Nat.le_refl _⟩
  have t2 : Sds (PyData.bulkAll (ps.drop (i + 1))) (PyData.depthAll (ps.drop (i + 1))) (ps.drop (i + 1)) := ⟨f2.2, Nat.le_refl _, Nat.le_refl _⟩
  rw [eB]
  exact (Sd.tup (.cons k1 (.cons (Sd.tup ((t1.app (.cons hd .nil)).app t2)) .nil))).mono (by omega) (by omega)
theorem bent_rn {kw : Str} {c : Int} {x d : PyData} (hk : fineQ (.str kw)) (hc : fineQ (.int c)) (hd : Sd (x.bulk + 60) (x.depth + 5) d) :
    Sd ((PyData.tuple [.str kw, .int c, x]).bulk + 60) ((PyData.tuple [.str kw, .int c, x]).depth + 5) (.tuple [.str kw, .int c, d]) := by
  have k1 : Sd (PyData.str kw).bulk 0 (.str kw) := ⟨hk, Nat.le_refl _, by simp [PyData.depth]⟩
  have c1 : Sd 0 0 (.int c) := ⟨hc, by simp [PyData.bulk], by simp [PyData.depth]⟩
  have eB : (PyData.tuple [.str kw, .int c, x]).bulk = 1 + (PyData.str kw).bulk + (1 + (1 + x.bulk)) := by
    simp only [PyData.bulk, PyData.bulkAll]
    omega
  have eE : x.depth + 1 ≤ (PyData.tuple [.str kw, .int c, x]).depth := by
    simp only [PyData.depth, PyData.depthAll]
    omega
  rw [eB]
  exact (Sd.tup (.cons k1 (.cons c1 (.cons hd .nil)))).mono (by omega) (by omega)
section
variable {P : Program} {w : World} {K : PySem.W.Frag} {mg : Str → Option Value} {base : Heap}
theorem ok_bent_next (T : Txt K mg) {n : Nat} (g__law_bent : FnOk P w K mg base CX0 (n + 2) T.f__law_bent T.d__law_bent ["_law_pot_here", "_law_job_here", "_law_deep"] (spBentP K n)) :
    FnOk P w K mg base CX0 (n + 3) T.f__law_bent T.d__law_bent ["_law_pot_here", "_law_job_here", "_law_deep"] (spBent K n) := by
  have g__law_take : FnOk P w K mg base CX0 1 T.f__law_take T.d__law_take ["_law_pot_here", "_law_many"] spTake := ok_take T
  refine T.F__law_bent.ok sc__law_bent (fun vs H Q E h => ?_) (fun cdv A outer s H vs Q E hr h => ?_)
  · obtain ⟨p, m, v, j, rfl, _⟩ := h
    rfl
  obtain ⟨p, m, v, j, rfl, hp, hm, hd, hsm, hdp, q⟩ := h
  refine ⟨_, (pss_cons (ps_set (i := 3) sc__law_bent.nd rfl (Or.inl rfl) (pe_lst (pa_cons pe_str (pa_cons pe_str (pa_cons pe_str (pa_cons pe_str (pa_cons pe_str (pa_cons pe_str (pa_cons pe_str (pa_cons pe_non (pa_cons (pe_lst pa_nil) (pa_cons pe_dnewK (pa_cons (pe_tup (pa_cons (pe_lst pa_nil) pa_nil)) pa_nil)))))))))))))
      (pss_cons (ps_set (i := 4) sc__law_bent.nd rfl (Or.inl rfl) (pe_lst (pa_cons pe_non (pa_cons pe_bl (pa_cons pe_bl (pa_cons pe_str (pa_cons (pe_tup pa_nil) (pa_cons (pe_lst pa_nil) (pa_cons pe_dnewK (pa_cons (pe_tup (pa_cons pe_str pa_nil)) (pa_cons (pe_op op_powW pe_int pe_int) (pa_cons (pe_op op_add (pe_op op_powW pe_int pe_int) pe_int) (pa_cons (pe_op op_sub (pe_op op_sub pe_int (pe_op op_powW pe_int pe_int)) pe_int) (pa_cons (pe_tup (pa_cons pe_str (pa_cons (pe_tup pa_nil) pa_nil))) (pa_cons pe_int pa_nil)))))))))))))))
      (pss_cons (ps_set (i := 5) sc__law_bent.nd rfl (Or.inl rfl) (pe_ix (r := rIxL K) ix_list (pv 4) (pe_call g__law_take (hr.mono (by omega)) rfl T.m__law_take T.F__law_take.kp T.b__law_take .nil pass0 (pa_cons (pv 0) (pa_cons (pe_callB (r := rLenS K) call_lenS (by rfl) T.n_len (by decide +kernel) (pa_cons (pv 4) pa_nil)) pa_nil))) (fun _ _ => rfl)))
      (pss_cons (ps_if (PW.pt (pw_or (pt_not (pt_val (pe_callB (r := rIsD K) call_isD (by rfl) T.n_isinstance (by decide +kernel) (pa_cons (pv 1) (pa_cons (pe_bltn (v := .ty "tuple") (by rfl) T.n_tuple (by decide +kernel) rfl) pa_nil))))) (pw_or1 (pt_cmpR op_eq (pe_call g__law_take (hr.mono (by omega)) rfl T.m__law_take T.F__law_take.kp T.b__law_take .nil pass0 (pa_cons (pv 0) (pa_cons pe_int pa_nil))) pe_int (nomark _))))) (pss_one (ps_ret (pv 5))) pss_nil)
      (pss_cons (ps_par (i := 6) (j := 7) (by rfl) sc__law_bent.nd rfl rfl (by decide) rfl rfl (pa_cons (pe_ix (r := rIxL K) ix_list (pv 3) (pe_call g__law_take (hr.mono (by omega)) rfl T.m__law_take T.F__law_take.kp T.b__law_take .nil pass0 (pa_cons (pv 0) (pa_cons pe_int pa_nil))) (fun _ _ => rfl)) (pa_cons (pe_call g__law_take (hr.mono (by omega)) rfl T.m__law_take T.F__law_take.kp T.b__law_take .nil pass0 (pa_cons (pv 0) (pa_cons pe_int pa_nil))) pa_nil)) (by rfl))
      (pss_cons (ps_if (pt_cmpR (r := rIn K false) op_in_seq (pe_ix (r := rIxT K) ix_tup (pv 1) pe_int (fun _ _ => rfl)) (pe_tup (pa_cons pe_str (pa_cons pe_str pa_nil))) (by rfl)) (pss_cons (ps_if (PW.pt (pw_or (pt_cmpR (r := rEqD K) (op_eqD hr.units) (pe_ix (r := rIxT K) ix_tup (pv 1) pe_int (fun _ _ => rfl)) (pe_tup pa_nil) (nomark _)) (pw_or (pt_cmpR op_eq (pv 2) pe_int (nomark _)) (pw_or1 (pt_cmpR op_lt (pv 7) pe_int (nomark _)))))) (pss_cons (ps_set (i := 8) sc__law_bent.nd rfl (Or.inl rfl) (pe_lst (pa_cons (pe_callTy (r := rListS K) call_listS (by rfl) T.n_list (by decide +kernel) (pa_cons (pv 1) pa_nil)) (pa_cons (pe_op (r := rCatA K) op_catA (pe_tup (pa_cons (pv 6) pa_nil)) (pe_slice (r := rSlA K) sl_tupA (pv 1) (po_some pe_int) po_none)) (pa_cons (pe_slice (r := rSlA K) sl_tupA (pv 1) po_none (po_some pe_int)) (pa_cons (pe_op (r := rCatA K) op_catA (pv 1) (pe_tup (pa_cons (pv 5) pa_nil))) (pa_cons (pe_tup (pa_cons (pe_ix (r := rIxT K) ix_tup (pv 1) pe_int (fun _ _ => rfl)) (pa_cons (pe_callTy (r := rListS K) call_listS (by rfl) T.n_list (by decide +kernel) (pa_cons (pe_ix (r := rIxT K) ix_tup (pv 1) pe_int (fun _ _ => rfl)) pa_nil)) pa_nil))) pa_nil)))))))
          (pss_one (ps_ret (pe_ix (r := rIxL K) ix_list (pe_op op_cat (pv 8) (pe_lst (pa_cons (pe_tup (pa_cons (pe_ix (r := rIxT K) ix_tup (pv 1) pe_int (fun _ _ => rfl)) (pa_cons (pe_op (r := rCatA K) op_catA (pe_ix (r := rIxT K) ix_tup (pv 1) pe_int (fun _ _ => rfl)) (pe_tup (pa_cons (pv 5) pa_nil))) pa_nil))) (pa_cons (pe_tup (pa_cons (pe_ix (r := rIxT K) ix_tup (pv 1) pe_int (fun _ _ => rfl)) (pa_cons (pv 5) pa_nil))) pa_nil)))) (pv 7) (fun _ _ => rfl))))) pss_nil)
        (pss_cons (ps_set (i := 9) sc__law_bent.nd rfl (Or.inl rfl) (pe_call g__law_take (hr.mono (by omega)) rfl T.m__law_take T.F__law_take.kp T.b__law_take .nil pass0 (pa_cons (pv 0) (pa_cons (pe_callB (r := rLenS K) call_lenS (by rfl) T.n_len (by decide +kernel) (pa_cons (pe_ix (r := rIxT K) ix_tup (pv 1) pe_int (fun _ _ => rfl)) pa_nil)) pa_nil))))
        (pss_one (ps_ret (pe_tup (pa_cons (pe_ix (r := rIxT K) ix_tup (pv 1) pe_int (fun _ _ => rfl)) (pa_cons (pe_op (r := rCatA K) op_catA (pe_op (r := rCatA K) op_catA (pe_slice (r := rSlA K) sl_tupA (pe_ix (r := rIxT K) ix_tup (pv 1) pe_int (fun _ _ => rfl)) po_none (po_some (pv 9))) (pe_tup (pa_cons (pe_call g__law_bent (hr.mono (by omega)) rfl T.m__law_bent T.F__law_bent.kp T.b__law_bent .nil pass0 (pa_cons (pv 0) (pa_cons (pe_ix (r := rIxT K) ix_tup (pe_ix (r := rIxT K) ix_tup (pv 1) pe_int (fun _ _ => rfl)) (pv 9) (fun _ _ => rfl)) (pa_cons (pe_op op_sub (pv 2) pe_int) pa_nil)))) pa_nil))) (pe_slice (r := rSlA K) sl_tupA (pe_ix (r := rIxT K) ix_tup (pv 1) pe_int (fun _ _ => rfl)) (po_some (pe_op op_add (pv 9) pe_int)) po_none)) pa_nil))))))) pss_nil)
      (pss_cons (ps_if (PW.pt (pw_or (pt_cmpR op_eq (pv 2) pe_int (nomark _)) (pw_or1 (pt_cmpR op_lt (pv 7) pe_int (nomark _))))) (pss_cons (ps_set (i := 8) sc__law_bent.nd rfl (Or.inl rfl) (pe_lst (pa_cons (pe_callTy (r := rListS K) call_listS (by rfl) T.n_list (by decide +kernel) (pa_cons (pv 1) pa_nil)) (pa_cons (pe_op (r := rCatA K) op_catA (pe_tup (pa_cons (pv 6) pa_nil)) (pe_slice (r := rSlA K) sl_tupA (pv 1) (po_some pe_int) po_none)) (pa_cons (pe_slice (r := rSlA K) sl_tupA (pv 1) po_none (po_some pe_int)) (pa_cons (pe_op (r := rCatA K) op_catA (pv 1) (pe_tup (pa_cons (pv 5) pa_nil))) (pa_cons (pe_tup (pa_cons (pe_ix (r := rIxT K) ix_tup (pv 1) pe_int (fun _ _ => rfl)) (pa_cons (pv 5) (pa_cons (pe_ix (r := rIxT K) ix_tup (pv 1) pe_int (fun _ _ => rfl)) pa_nil)))) pa_nil)))))))
        (pss_one (ps_ret (pe_ix (r := rIxL K) ix_list (pe_op op_cat (pv 8) (pe_lst (pa_cons (pe_tup (pa_cons (pe_ix (r := rIxT K) ix_tup (pv 1) pe_int (fun _ _ => rfl)) (pa_cons (pe_ix (r := rIxT K) ix_tup (pv 1) pe_int (fun _ _ => rfl)) (pa_cons (pe_ix (r := rIxT K) ix_tup (pv 1) pe_int (fun _ _ => rfl)) pa_nil)))) (pa_cons (pe_tup (pa_cons (pe_ix (r := rIxT K) ix_tup (pv 1) pe_int (fun _ _ => rfl)) (pa_cons (pe_ix (r := rIxT K) ix_tup (pv 1) pe_int (fun _ _ => rfl)) (pa_cons (pv 5) pa_nil)))) pa_nil)))) (pv 7) (fun _ _ => rfl))))) pss_nil)
      (pss_one (ps_ret (pe_tup (pa_cons (pe_ix (r := rIxT K) ix_tup (pv 1) pe_int (fun _ _ => rfl)) (pa_cons (pe_ix (r := rIxT K) ix_tup (pv 1) pe_int (fun _ _ => rfl)) (pa_cons (pe_call g__law_bent (hr.mono (by omega)) rfl T.m__law_bent T.F__law_bent.kp T.b__law_bent .nil pass0 (pa_cons (pv 0) (pa_cons (pe_ix (r := rIxT K) ix_tup (pv 1) pe_int (fun _ _ => rfl)) (pa_cons (pe_op op_sub (pv 2) pe_int) pa_nil)))) pa_nil))))))))))))), ?_⟩
  obtain ⟨lp, hlp⟩ := hp.lst
  have pw : (10 : Int) ^ (30 : Int).toNat = 1000000000000000000000000000000 := by decide
  have cp : CPowW 10 30 := powW_of 4 (by decide) (by decide) (by decide)
  have A0 : Acc K p H H [] [] := ⟨Same.refl _, .nil⟩
  -- words
  refine ⟨(by show 0 ≤ sizeLine; decide), fun l1 h1 => ?_⟩
  have A1 := A0.lst hlp h1 .nil
  generalize (upd H l1 (.lst [])) = H1 at A1 ⊢
  intro l2 h2
  have A2 := A1.dct hlp h2
  generalize (upd H1 l2 (.dK [])) = H2 at A2 ⊢
  refine ⟨(by show 0 ≤ sizeLine; decide), fun l3 h3 => ?_⟩
  have A3 := A2.lst hlp h3 .nil
  generalize (upd H2 l3 (.lst [])) = H3 at A3 ⊢
  refine ⟨(by show 1 ≤ sizeLine; decide), fun l4 h4 => ?_⟩
  have A4 := A3.tup h4 (.cons (A3.f.at 0 rfl rfl) .nil)
  generalize (upd H3 l4 _) = H4 at A4 ⊢
  refine ⟨(by show 11 ≤ sizeLine; decide), fun lw hw => ?_⟩
  have W : DqAll K p H4 [.str "seq", .str "par", .str "repeat", .str "copies", .str "row", .str "SEQ", .str "", .non, .ref l1, .ref l2, .ref l4] wordDs :=
    .cons (.str _) (.cons (.str _) (.cons (.str _) (.cons (.str _) (.cons (.str _) (.cons (.str _) (.cons (.str _) (.cons .non (.cons (A4.f.at 3 rfl rfl) (.cons (A4.f.at 2 rfl rfl) (.cons (A4.f.at 0 rfl rfl) .nil))))))))))
  have lwp : lw ≠ p := fun z => by rw [z, A4.s _ _ hlp] at hw; cases hw
  have sw : Same H4 (upd H4 lw (.lst [.str "seq", .str "par", .str "repeat", .str "copies", .str "row", .str "SEQ", .str "", .non, .ref l1, .ref l2, .ref l4])) := same_new hw
  have W' := W.keep (Same.kp sw)
  have S5 := A4.s.trans sw
  have hwl : (upd H4 lw (.lst [.str "seq", .str "par", .str "repeat", .str "copies", .str "row", .str "SEQ", .str "", .non, .ref l1, .ref l2, .ref l4])) lw = some (.lst [.str "seq", .str "par", .str "repeat", .str "copies", .str "row", .str "SEQ", .str "", .non, .ref l1, .ref l2, .ref l4]) := upd_same
  generalize eW : ([.str "seq", .str "par", .str "repeat", .str "copies", .str "row", .str "SEQ", .str "", .non, .ref l1, .ref l2, .ref l4] : List V) = ws at W W' S5 hwl ⊢
  have wlen : ws.length = 11 := by rw [← eW]; rfl
  generalize (upd H4 lw (.lst ws)) = H5 at W' S5 hwl ⊢
  have hlp5 := S5 _ _ hlp
  have B0 : Acc K p H5 H5 [] [] := ⟨Same.refl _, .nil⟩
  clear A1 A2 A3 A4 W sw h1 h2 h3 h4 hw
  -- odd values
  refine ⟨(by show 0 ≤ sizeLine; decide), fun m1 h1 => ?_⟩
  have B1 := B0.tup h1 .nil
  generalize (upd H5 m1 _) = H6 at B1 ⊢
  refine ⟨(by show 0 ≤ sizeLine; decide), fun m2 h2 => ?_⟩
  have B2 := B1.lst hlp5 h2 .nil
  generalize (upd H6 m2 _) = H7 at B2 ⊢
  intro m3 h3
  have B3 := B2.dct hlp5 h3
  generalize (upd H7 m3 _) = H8 at B3 ⊢
  refine ⟨(by show 1 ≤ sizeLine; decide), fun m4 h4 => ?_⟩
  have B4 := B3.tup h4 (.cons (.str "seq") .nil)
  generalize (upd H8 m4 _) = H9 at B4 ⊢
  refine ⟨_, _, rfl, rfl, cp, _, _, rfl, rfl, cp, _, _, rfl, rfl, _, _, rfl, rfl, cp, _, _, rfl, rfl, _, _, rfl, rfl, (by show 0 ≤ sizeLine; decide), fun m5 h5 => ?_⟩
  have B5 := B4.tup h5 .nil
  generalize (upd H9 m5 _) = H10 at B5 ⊢
  refine ⟨(by show 2 ≤ sizeLine; decide), fun m6 h6 => ?_⟩
  have B6 := B5.tup h6 (.cons (.str "seq") (.cons (B5.f.at 0 rfl rfl) .nil))
  generalize (upd H10 m6 _) = H11 at B6 ⊢
  refine ⟨(by show 13 ≤ sizeLine; decide), fun lo ho => ?_⟩
  have O : DqAll K p H11 [.non, .bl true, .bl false, .str "5", .ref m1, .ref m2, .ref m3, .ref m4, .int (10 ^ (30 : Int).toNat), .int (10 ^ (30 : Int).toNat + 1), .int (0 - 10 ^ (30 : Int).toNat - 1), .ref m6, .int 7] oddDs :=
    .cons .non (.cons (.bl _) (.cons (.bl _) (.cons (.str _) (.cons (B6.f.at 5 rfl rfl) (.cons (B6.f.at 4 rfl rfl) (.cons (B6.f.at 3 rfl rfl) (.cons (B6.f.at 2 rfl rfl) (.cons (.int _) (.cons (.int _) (.cons (.int _) (.cons (B6.f.at 0 rfl rfl) (.cons (.int _) .nil))))))))))))
  generalize eO : ([.non, .bl true, .bl false, .str "5", .ref m1, .ref m2, .ref m3, .ref m4, .int (10 ^ (30 : Int).toNat), .int (10 ^ (30 : Int).toNat + 1), .int (0 - 10 ^ (30 : Int).toNat - 1), .ref m6, .int 7] : List V) = os at O ⊢
  have olen : os.length = 13 := by rw [← eO]; rfl
  have lop : lo ≠ p := fun z => by rw [z, B6.s _ _ hlp5] at ho; cases ho
  have so : Same H11 (upd H11 lo (.lst os)) := same_new ho
  have O' := O.keep (Same.kp so)
  have S12 := B6.s.trans so
  have hol : upd H11 lo (.lst os) lo = some (.lst os) := upd_same
  show tSeq _ _ _ _ (upd H11 lo (.lst os))
  generalize (upd H11 lo (.lst os)) = H12 at O' S12 hol ⊢
  have W12 := W'.keep (Same.kp S12)
  have hwl12 := S12 _ _ hwl
  have S := S5.trans S12
  have hp12 := hp.same S
  have hd12 := dp_same S hd
  have hlp12 := S _ _ hlp
  clear B1 B2 B3 B4 B5 B6 h1 h2 h3 h4 h5 h6 ho so O W' S12 hwl hlp5 B0
  -- the lone value
  refine ⟨_, rfl, _, rfl, _, rfl, lo, os, rfl, .inl (SqL.of hol), p, m, _, rfl, hp12, by omega, by rw [olen]; decide, by rw [olen]; decide, fun H13 r1 s13 hp13 k0 k1 => ?_⟩
  obtain ⟨vl, e1, e2⟩ := pick k0 k1
  refine ⟨_, _, _, _, rfl, rfl, SqL.of (s13 lo _ lop hol), e2, ?_⟩
  have k13 : Kp K p H12 H13 := s13.kp hlp12
  obtain ⟨dl, md, ed, hl13⟩ := dqAll_some (O'.keep k13) e1
  have sdl := odd_ok md
  have W13 := W12.keep k13
  have hwl13 := s13 lw _ lwp hwl12
  have hd13 : Dp K H13 v j.toD := s13.dp hlp12 j.noL hd12
  obtain ⟨lp13, hlp13⟩ := hp13.lst
  have X13 : Sx p H H13 := (Same.sx S).trans s13
  clear O' W12 hwl12 hd12 k13 e1 e2
  have lone : ∀ (R : V → Hp → Prop), R = Q → ∀ (Hc : Hp) (c : Nat), Sx p H13 Hc → Pot Hc p c → c ≤ m + 5 * (n + 1) → R vl Hc := by
    rintro R rfl Hc c sc hpc hc
    exact q _ _ dl (X13.trans sc) (hpc.mono hc) (hl13.keep (sc.kp hlp13)) (sdl.mono (by omega) (by omega))
  refine ⟨_, rfl, _, _, _, _, rfl, hd13, kit_tuple _, _, rfl, ?_⟩
  cases ej : isTup j.toD with
  | false =>
    refine iteT ?_
    refine iteT ?_
    exact ⟨_, rfl, lone _ rfl _ _ (Sx.refl) hp13 (by omega)⟩
  | true =>
  refine iteF ?_
  refine ⟨_, rfl, p, m + 1, 6, rfl, hp13, by omega, by decide, by decide, fun H14 r2 s14 hp14 k0 k1 => ?_⟩
  refine ⟨rfl, _, rfl, ?_⟩
  refine ite2 (fun g => ?_) (fun g => ?_)
  · exact ⟨_, rfl, lone _ rfl _ _ s14 hp14 (by omega)⟩
  clear lone
  obtain ⟨lp14, hlp14⟩ := hp14.lst
  have hwl14 := s14 lw _ lwp hwl13
  have W14 := W13.keep (s14.kp hlp13)
  have hl14 := hl13.keep (s14.kp hlp13)
  have hd14 : Dp K H14 v j.toD := s14.dp hlp13 j.noL hd13
  refine ⟨_, rfl, _, rfl, p, m + 1 + 1, 11, rfl, hp14, by omega, by decide, by decide, fun H15 r3 s15 hp15 k0 k1 => ?_⟩
  obtain ⟨vw, e1, e2⟩ := pick (vs := ws) k0 (by rw [wlen]; exact k1)
  have hwl15 := s15 lw _ lwp hwl14
  refine ⟨_, _, _, _, rfl, rfl, SqL.of hwl15, e2, ?_⟩
  obtain ⟨lp15, hlp15⟩ := hp15.lst
  obtain ⟨dw, mdw, edw, hw15⟩ := dqAll_some (W14.keep (s15.kp hlp14)) e1
  have sdw := word_ok mdw
  have hl15 := hl14.keep (s15.kp hlp14)
  have hd15 : Dp K H15 v j.toD := s15.dp hlp14 j.noL hd14
  refine ⟨_, rfl, p, m + 1 + 1 + 1, 7, rfl, hp15, by omega, by decide, by decide, fun H16 way s16 hp16 w0 w7 => ?_⟩
  obtain ⟨lp16, hlp16⟩ := hp16.lst
  have hl := hl15.keep (s16.kp hlp15)
  have hw := hw15.keep (s16.kp hlp15)
  have hd16 : Dp K H16 v j.toD := s16.dp hlp15 j.noL hd15
  have X16 : Sx p H H16 := X13.trans (s14.trans (s15.trans s16))
  clear hwl13 hwl14 hwl15 W13 W14 hl13 hl14 hl15 hw15 hd13 hd14 hd15 e1 e2 hp12 hp13 hp14 hp15 s13 s14 s15 s16 hlp12 hlp13 hlp14 hlp15 hol
  refine ⟨_, _, rfl, ?_⟩
  cases j with
  | st i => cases ej
  | ps k xs =>
    have hxs := hsm
    simp only [J.small] at hxs
    rw [J.toD] at hd16
    obtain ⟨a, ys, rfl, hys, hall⟩ := dp_tup_inv hd16
    cases hall with
    | cons e1 hall =>
    obtain rfl := dp_str_inv e1
    cases hall with
    | cons e2 hall =>
    cases hall
    obtain ⟨b, us, rfl, hus, hall2⟩ := dp_tup_inv e2
    have ulen : us.length = xs.length := by rw [dpAll_length hall2, J.toDs_eq, List.length_map]
    refine ⟨_, rfl, _, _, _, _, rfl, rfl, hys, rfl, (by show 2 ≤ sizeLine; decide), fun t ht => ?_⟩
    refine ⟨t, _, rfl, .inr (SqT.of upd_same), rfl, rfl, _, rfl, ?_⟩
    have s1 : Same H16 (upd H16 t (.tup [.str "seq", .str "par"])) := same_new ht
    show if inV (.str (kwP k)) [.str "seq", .str "par"] = true then _ else _
    rw [kwP_in]
    refine iteT ?_
    generalize (upd H16 t (.tup [.str "seq", .str "par"])) = H17 at s1 ⊢
    refine ⟨_, rfl, _, _, _, _, rfl, rfl, same_sqT s1 hys, rfl, (by show 0 ≤ sizeLine; decide), fun t2 ht2 => ?_⟩
    have s2 : Same H16 (upd H17 t2 (.tup [])) := s1.trans (same_new ht2)
    have q2 : SqT K (upd H17 t2 (.tup [])) t2 [] := SqT.of upd_same
    generalize (upd H17 t2 (.tup [])) = Hb at s2 q2 ⊢
    refine ⟨_, _, dp_same s2 e2, .tup q2 .nil, parts_shaped hdp, by decide, _, rfl, ?_⟩
    have hysb := same_sqT s2 hys
    have husb := same_sqT s2 hus
    have hpb := s2 _ _ hlp16
    have hpotb := hp16.same s2
    have us17 : DqAll K p Hb us (J.toDs xs) := dqAll_of (J.noLs xs) (dpAll_same s2 hall2)
    have C0 : Acc K p Hb Hb [vl, vw, .ref a, .ref b] [dl, dw, .tuple [.str (kwP k), .tuple (J.toDs xs)], .tuple (J.toDs xs)] :=
      ⟨Same.refl _, .cons (hl.keep (Same.kp s2)) (.cons (hw.keep (Same.kp s2)) (.cons (.tup hysb (.cons (.str _) (.cons (.tup husb us17) .nil))) (.cons (.tup husb us17) .nil)))⟩
    have Xb : Sx p H Hb := X16.trans (Same.sx s2)
    refine iteKeep ?body (fun g1 keep => ?rest)
    case body =>
      refine iteT ?_
      refine ⟨_, rfl, a, _, rfl, .inr hysb, fun t1 h1 => ?_⟩
      have C1 := C0.lst hpb h1 (.cons (.str (kwP k)) (.cons (C0.f.at 3 rfl rfl) .nil))
      generalize (upd Hb t1 _) = G1 at C1 ⊢
      refine ⟨_, rfl, (by show 1 ≤ sizeLine; decide), fun t2 h2 => ?_⟩
      have C2 := C1.tup h2 (.cons (C1.f.at 2 rfl rfl) .nil)
      have q2 : SqT K (upd G1 t2 (.tup [vw])) t2 [vw] := SqT.of upd_same
      generalize (upd G1 t2 _) = G2 at C2 q2 ⊢
      refine ⟨_, rfl, _, rfl, ?_⟩
      try unfold tNoPart
      dsimp only
      refine rSlA_q (xs := [.str (kwP k), .ref b]) (same_sqT C2.s hysb) (fun G3 t3 s3 h3 => ?_)
      have C3 : Acc K p Hb G3 (.ref t3 :: _) (.tuple [.tuple (J.toDs xs)] :: _) := C2.more s3 (.tup (xs := [.ref b]) h3 (.cons ((C2.f.at 5 rfl rfl).keep (Same.kp s3)) .nil))
      refine rCatA_q (xs := [vw]) (ys := [.ref b]) (same_sqT s3 q2) h3 (by show 2 ≤ sizeLine; decide) (fun G4 t4 s4 h4 => ?_)
      have C4 : Acc K p Hb G4 (.ref t4 :: _) (.tuple [dw, .tuple (J.toDs xs)] :: _) := C3.more s4 (.tup (xs := [vw, .ref b]) h4 (.cons ((C3.f.at 4 rfl rfl).keep (Same.kp s4)) (.cons ((C3.f.at 6 rfl rfl).keep (Same.kp s4)) .nil)))
      refine ⟨_, rfl, _, rfl, ?_⟩
      try unfold tNoPart
      dsimp only
      refine rSlA_q (xs := [.str (kwP k), .ref b]) (same_sqT C4.s hysb) (fun G5 t5 s5 h5 => ?_)
      have C5 : Acc K p Hb G5 (.ref t5 :: _) (.tuple [.str (kwP k)] :: _) := C4.more s5 (.tup (xs := [.str (kwP k)]) h5 (.cons (.str _) .nil))
      refine ⟨_, rfl, _, rfl, (by show 1 ≤ sizeLine; decide), fun t6 h6 => ?_⟩
      have C6 := C5.tup h6 (.cons (C5.f.at 5 rfl rfl) .nil)
      have q6 : SqT K (upd G5 t6 (.tup [vl])) t6 [vl] := SqT.of upd_same
      generalize (upd G5 t6 _) = G6 at C6 q6 ⊢
      refine rCatA_q (xs := [.str (kwP k), .ref b]) (ys := [vl]) (same_sqT C6.s hysb) q6 (by show 3 ≤ sizeLine; decide) (fun G7 t7 s7 h7 => ?_)
      have C7 : Acc K p Hb G7 (.ref t7 :: _) (.tuple [.str (kwP k), .tuple (J.toDs xs), dl] :: _) := C6.more s7 (.tup (xs := [.str (kwP k), .ref b, vl]) h7 (.cons (.str _) (.cons ((C6.f.at 9 rfl rfl).keep (Same.kp s7)) (.cons ((C6.f.at 6 rfl rfl).keep (Same.kp s7)) .nil))))
      refine ⟨_, rfl, _, _, _, _, rfl, rfl, same_sqT C7.s hysb, rfl, _, rfl, _, _, _, _, rfl, rfl, same_sqT C7.s hysb, rfl, b, us, rfl, .inr (same_sqT C7.s husb), fun t8 h8 => ?_⟩
      have C8 := C7.lst hpb h8 (us17.keep (Same.kp C7.s))
      generalize (upd G7 t8 _) = G8 at C8 ⊢
      refine ⟨(by show 2 ≤ sizeLine; decide), fun t9 h9 => ?_⟩
      have C9 := C8.tup h9 (.cons (.str (kwP k)) (.cons (C8.f.at 0 rfl rfl) .nil))
      generalize (upd G8 t9 _) = G9 at C9 ⊢
      refine ⟨(by show 5 ≤ sizeLine; decide), fun t10 h10 => ?_⟩
      have s10 : Same G9 (upd G9 t10 (.lst [.ref t1, .ref t4, .ref t5, .ref t7, .ref t9])) := same_new h10
      have e10 : (upd G9 t10 (.lst [.ref t1, .ref t4, .ref t5, .ref t7, .ref t9])) t10 = some (.lst [.ref t1, .ref t4, .ref t5, .ref t7, .ref t9]) := upd_same
      have D0 : Acc K p _ _ _ _ := ⟨Same.refl _, C9.f.keep (Same.kp s10)⟩
      have S10 := C9.s.trans s10
      show tSeq _ _ _ _ (upd G9 t10 (.lst [.ref t1, .ref t4, .ref t5, .ref t7, .ref t9]))
      generalize (upd G9 t10 (.lst [.ref t1, .ref t4, .ref t5, .ref t7, .ref t9])) = G10 at D0 e10 S10 ⊢
      have hysc := same_sqT S10 hysb
      have husc := same_sqT S10 husb
      have hpc := S10 _ _ hpb
      refine ⟨_, rfl, _, rfl, _, _, _, _, rfl, rfl, hysc, rfl, _, rfl, _, _, _, _, rfl, rfl, hysc, rfl, _, rfl, (by show 1 ≤ sizeLine; decide), fun t11 h11 => ?_⟩
      have D1 := D0.tup h11 (.cons (D0.f.at 9 rfl rfl) .nil)
      have q11 : SqT K (upd G10 t11 (.tup [vl])) t11 [vl] := SqT.of upd_same
      generalize (upd G10 t11 _) = G11 at D1 q11 ⊢
      refine rCatA_q (xs := us) (ys := [vl]) (same_sqT D1.s husc) q11 (small (by simp only [List.length_singleton]; omega)) (fun G12 t12 s12 h12 => ?_)
      have D2 : Acc K p G10 G12 (.ref t12 :: _) (.tuple (J.toDs xs ++ [dl]) :: _) := D1.more s12 (.tup h12 (dqAll_append (us17.keep (Same.kp (S10.trans (D1.s.trans s12)))) (.cons ((D1.f.at 10 rfl rfl).keep (Same.kp s12)) .nil)))
      refine ⟨(by show 2 ≤ sizeLine; decide), fun t13 h13 => ?_⟩
      have D3 := D2.tup h13 (.cons (.str (kwP k)) (.cons (D2.f.at 0 rfl rfl) .nil))
      generalize (upd G12 t13 _) = G13 at D3 ⊢
      refine ⟨_, rfl, _, _, _, _, rfl, rfl, same_sqT D3.s hysc, rfl, _, rfl, (by show 2 ≤ sizeLine; decide), fun t14 h14 => ?_⟩
      have D4 := D3.tup h14 (.cons (.str (kwP k)) (.cons (D3.f.at 12 rfl rfl) .nil))
      generalize (upd G13 t14 _) = G14 at D4 ⊢
      refine ⟨(by show 2 ≤ sizeLine; decide), fun t15 h15 => ?_⟩
      have s15 : Same G14 (upd G14 t15 (.lst [.ref t13, .ref t14])) := same_new h15
      have e15 : (upd G14 t15 (.lst [.ref t13, .ref t14])) t15 = some (.lst [.ref t13, .ref t14]) := upd_same
      refine ⟨t10, t15, _, _, rfl, rfl, (D4.s.trans s15) _ _ e10, e15, (by show 7 ≤ sizeLine; decide), fun t16 h16 => ?_⟩
      have s16 : Same G14 (upd (upd G14 t15 (.lst [.ref t13, .ref t14])) t16 (.lst ([.ref t1, .ref t4, .ref t5, .ref t7, .ref t9] ++ [.ref t13, .ref t14]))) := s15.trans (same_new h16)
      have L : DqAll K p _ [.ref t1, .ref t4, .ref t5, .ref t7, .ref t9, .ref t13, .ref t14] [PyData.list [.str (kwP k), .tuple (J.toDs xs)], .tuple [dw, .tuple (J.toDs xs)], .tuple [.str (kwP k)], .tuple [.str (kwP k), .tuple (J.toDs xs), dl], .tuple [.str (kwP k), .list (J.toDs xs)], .tuple [.str (kwP k), .tuple (J.toDs xs ++ [dl])], .tuple [.str (kwP k), dl]] :=
        DqAll.keep (Same.kp s16) (.cons (D4.f.at 12 rfl rfl) (.cons (D4.f.at 9 rfl rfl) (.cons (D4.f.at 8 rfl rfl) (.cons (D4.f.at 6 rfl rfl) (.cons (D4.f.at 4 rfl rfl) (.cons (D4.f.at 1 rfl rfl) (.cons (D4.f.at 0 rfl rfl) .nil)))))))
      have hf := J.fineQ _ hsm
      simp only [J.toD, fineQ, finesQ, and_true] at hf
      obtain ⟨vr, dr, er, hr1, hr2⟩ := seven L rfl w0 w7 (seven_ps (by simpa only [fineQ] using hf.1) hf.2 sdl sdw)
      refine ⟨_, rfl, _, _, _, _, rfl, rfl, SqL.of upd_same, er, ?_⟩
      refine q _ vr dr (Xb.trans (Same.sx (S10.trans (D4.s.trans s16)))) ((hpotb.same (S10.trans (D4.s.trans s16))).mono (by omega)) hr1 ?_
      unfold BentOk
      rw [J.toD]
      exact hr2
    case rest =>
      refine ⟨_, rfl, rfl, _, rfl, ?_⟩
      refine ite2 (fun g => keep) (fun g2 => ?_)
      refine ⟨_, rfl, _, _, rfl, rfl, _, rfl, ?_⟩
      refine ite2 (fun g => keep) (fun g3 => ?_)
      clear keep
      have n0 : ¬ (n : Int) = 0 := fun z => g2 (decide_eq_true (congrArg V.int z))
      obtain ⟨n', rfl⟩ : ∃ n', n = n' + 1 := ⟨n - 1, by omega⟩
      have xs0 : 0 < us.length := by
        cases hx : xs with
        | nil =>
          exfalso
          apply g1
          rw [hx]
          decide +kernel
        | cons y ys =>
          rw [ulen, hx]
          simp
      refine ⟨_, rfl, _, rfl, _, _, _, _, rfl, rfl, hysb, rfl, b, us, rfl, .inr husb, p, m + 1 + 1 + 1 + 1, _, rfl, hpotb, by omega, by omega, ?_, fun H20 at_ s20 hp20 k0 k1 => ?_⟩
      · exact Nat.lt_of_le_of_lt (show ((us.length : Int)).natAbs ≤ 100 by omega) (by decide)
      have hysd := s20.sqT hpb hysb
      have husd := s20.sqT hpb husb
      obtain ⟨y, ey, eat⟩ := pick k0 k1
      obtain ⟨j', ej', mj, hy⟩ := part_at' (dpAll_same s2 hall2) ey
      have us20 := us17.keep (s20.kp hpb)
      have hy20 : Dp K H20 y j'.toD := s20.dp hpb j'.noL hy
      obtain ⟨lp20, hlp20⟩ := hp20.lst
      have en : ((n' + 1 : Nat) : Int) - 1 = (n' : Int) := by omega
      have hdeep : j'.deep ≤ 30 := by
        have h1 := J.deepL_mem mj
        simp only [J.deep] at hdp
        omega
      refine ⟨_, rfl, _, _, _, _, rfl, rfl, hysd, rfl, _, rfl, _, _, _, _, rfl, rfl, hysd, rfl, _, rfl, _, rfl, ?_⟩
      try unfold tNoPart
      dsimp only
      refine rSlA_q (xs := us) husd (fun G1 t1 s1 h1 => ?_)
      refine ⟨_, rfl, _, rfl, _, _, _, _, rfl, rfl, same_sqT s1 hysd, rfl, _, rfl, _, _, _, _, rfl, rfl, same_sqT s1 husd, eat, _, rfl, _, _, rfl, rfl, n', rfl, p, m + 1 + 1 + 1 + 1 + 1, y, j', ?_, hp20.same s1, by omega, dp_same s1 hy20, J.smallL_mem hxs.2 mj, hdeep, fun G2 r d s2 hp2 hd2 ok2 => ?_⟩
      · rw [← en]
        rfl
      have hp1 := s1 _ _ hlp20
      refine ⟨(by show 1 ≤ sizeLine; decide), fun t3 h3 => ?_⟩
      have s3 : Same G2 (upd G2 t3 (.tup [r])) := same_new h3
      have q3 : SqT K (upd G2 t3 (.tup [r])) t3 [r] := SqT.of upd_same
      generalize (upd G2 t3 (.tup [r])) = G3 at s3 q3 ⊢
      have kk : Kp K p H20 G3 := (Same.kp s1).trans ((s2.kp hp1).trans (Same.kp s3))
      refine rCatA_q (xs := cutV us none (some at_)) (ys := [r]) (same_sqT s3 (s2.sqT hp1 h1)) q3 ?_ (fun G4 t4 s4 h4 => ?_)
      · rw [cut_take k0 k1, List.length_take]
        exact small (by simp only [List.length_singleton]; omega)
      refine ⟨_, rfl, _, _, _, _, rfl, rfl, same_sqT s4 (kk.tp _ _ hysd), rfl, _, rfl, _, _, rfl, rfl, _, rfl, ?_⟩
      try unfold tNoPart
      dsimp only
      refine rSlA_q (xs := us) (same_sqT s4 (kk.tp _ _ husd)) (fun G5 t5 s5 h5 => ?_)
      refine rCatA_q (same_sqT s5 h4) h5 ?_ (fun G6 t6 s6 h6 => ?_)
      · rw [cut_take k0 k1, cut_drop k0 k1, List.length_append, List.length_take, List.length_drop]
        exact small (by simp only [List.length_singleton]; omega)
      refine ⟨(by show 2 ≤ sizeLine; decide), fun t7 h7 => ?_⟩
      have s7 : Same G6 (upd G6 t7 (.tup [.str (kwP k), .ref t6])) := same_new h7
      have sall : Same G3 (upd G6 t7 (.tup [.str (kwP k), .ref t6])) := s4.trans (s5.trans (s6.trans s7))
      have ki : Kp K p H20 (upd G6 t7 (.tup [.str (kwP k), .ref t6])) := kk.trans (Same.kp sall)
      rw [cut_take k0 k1, cut_drop k0 k1] at h6
      have items : DqAll K p (upd G6 t7 (.tup [.str (kwP k), .ref t6])) ((us.take at_.toNat ++ [r]) ++ us.drop (at_.toNat + 1)) (((J.toDs xs).take at_.toNat ++ [d]) ++ (J.toDs xs).drop (at_.toNat + 1)) :=
        dqAll_append (dqAll_append (dqAll_take _ (us20.keep ki)) (.cons (hd2.keep (Same.kp (s3.trans sall))) .nil)) (dqAll_drop _ (us20.keep ki))
      have hf := J.fineQ _ hsm
      simp only [J.toD, fineQ, finesQ, and_true] at hf
      refine q _ _ (.tuple [.str (kwP k), .tuple (((J.toDs xs).take at_.toNat ++ [d]) ++ (J.toDs xs).drop (at_.toNat + 1))]) (Xb.trans (s20.trans ki.sx)) ?_ (.tup (SqT.of upd_same) (.cons (.str _) (.cons (.tup (same_sqT s7 h6) items) .nil))) ?_
      · have := hp2.same (s3.trans sall)
        exact this.mono (by omega)
      · unfold BentOk
        rw [J.toD]
        exact bent_ps (by simpa only [fineQ] using hf.1) hf.2 ej' ok2
  | rn k c x =>
    have hxs := hsm
    simp only [J.small] at hxs
    have hf := J.fineQ _ hsm
    simp only [J.toD, fineQ, finesQ, and_true] at hf
    rw [J.toD] at hd16
    obtain ⟨a, ys, rfl, hys, hall⟩ := dp_tup_inv hd16
    cases hall with
    | cons e1 hall =>
    obtain rfl := dp_str_inv e1
    cases hall with
    | cons e2 hall =>
    obtain rfl := dp_int_inv e2
    cases hall with
    | cons e3 hall =>
    cases hall
    rename_i vx
    refine ⟨_, rfl, _, _, _, _, rfl, rfl, hys, rfl, (by show 2 ≤ sizeLine; decide), fun t ht => ?_⟩
    refine ⟨t, _, rfl, .inr (SqT.of upd_same), rfl, rfl, _, rfl, ?_⟩
    have s2 : Same H16 (upd H16 t (.tup [.str "seq", .str "par"])) := same_new ht
    show if inV (.str (kwR k)) [.str "seq", .str "par"] = true then _ else _
    rw [kwR_in]
    refine iteF ?_
    generalize (upd H16 t (.tup [.str "seq", .str "par"])) = Hb at s2 ⊢
    have hysb := same_sqT s2 hys
    have hpb := s2 _ _ hlp16
    have hpotb := hp16.same s2
    have x17 : Dq K p Hb vx x.toD := dq_of x.noL (dp_same s2 e3)
    have hxb : Dp K Hb vx x.toD := dp_same s2 e3
    have C0 : Acc K p Hb Hb [vl, vw, .ref a, vx] [dl, dw, .tuple [.str (kwR k), .int c, x.toD], x.toD] :=
      ⟨Same.refl _, .cons (hl.keep (Same.kp s2)) (.cons (hw.keep (Same.kp s2)) (.cons (.tup hysb (.cons (.str _) (.cons (.int _) (.cons x17 .nil)))) (.cons x17 .nil)))⟩
    have Xb : Sx p H Hb := X16.trans (Same.sx s2)
    refine ⟨_, rfl, rfl, _, rfl, ?_⟩
    refine iteKeep ?body (fun g2 keep => ?rest)
    case body =>
      refine iteT ?_
      refine ⟨_, rfl, a, _, rfl, .inr hysb, fun t1 h1 => ?_⟩
      have C1 := C0.lst hpb h1 (.cons (.str (kwR k)) (.cons (.int c) (.cons (C0.f.at 3 rfl rfl) .nil)))
      generalize (upd Hb t1 _) = G1 at C1 ⊢
      refine ⟨_, rfl, (by show 1 ≤ sizeLine; decide), fun t2 h2 => ?_⟩
      have C2 := C1.tup h2 (.cons (C1.f.at 2 rfl rfl) .nil)
      have q2 : SqT K (upd G1 t2 (.tup [vw])) t2 [vw] := SqT.of upd_same
      generalize (upd G1 t2 _) = G2 at C2 q2 ⊢
      refine ⟨_, rfl, _, rfl, ?_⟩
      try unfold tNoPart
      dsimp only
      refine rSlA_q (xs := [.str (kwR k), .int c, vx]) (same_sqT C2.s hysb) (fun G3 t3 s3 h3 => ?_)
      have C3 : Acc K p Hb G3 (.ref t3 :: _) (.tuple [.int c, x.toD] :: _) := C2.more s3 (.tup (xs := [.int c, vx]) h3 (.cons (.int _) (.cons ((C2.f.at 5 rfl rfl).keep (Same.kp s3)) .nil)))
      refine rCatA_q (xs := [vw]) (ys := [.int c, vx]) (same_sqT s3 q2) h3 (by show 3 ≤ sizeLine; decide) (fun G4 t4 s4 h4 => ?_)
      have C4 : Acc K p Hb G4 (.ref t4 :: _) (.tuple [dw, .int c, x.toD] :: _) := C3.more s4 (.tup (xs := [vw, .int c, vx]) h4 (.cons ((C3.f.at 4 rfl rfl).keep (Same.kp s4)) (.cons (.int _) (.cons ((C3.f.at 6 rfl rfl).keep (Same.kp s4)) .nil))))
      refine ⟨_, rfl, _, rfl, ?_⟩
      try unfold tNoPart
      dsimp only
      refine rSlA_q (xs := [.str (kwR k), .int c, vx]) (same_sqT C4.s hysb) (fun G5 t5 s5 h5 => ?_)
      have C5 : Acc K p Hb G5 (.ref t5 :: _) (.tuple [.str (kwR k), .int c] :: _) := C4.more s5 (.tup (xs := [.str (kwR k), .int c]) h5 (.cons (.str _) (.cons (.int _) .nil)))
      refine ⟨_, rfl, _, rfl, (by show 1 ≤ sizeLine; decide), fun t6 h6 => ?_⟩
      have C6 := C5.tup h6 (.cons (C5.f.at 5 rfl rfl) .nil)
      have q6 : SqT K (upd G5 t6 (.tup [vl])) t6 [vl] := SqT.of upd_same
      generalize (upd G5 t6 _) = G6 at C6 q6 ⊢
      refine rCatA_q (xs := [.str (kwR k), .int c, vx]) (ys := [vl]) (same_sqT C6.s hysb) q6 (by show 4 ≤ sizeLine; decide) (fun G7 t7 s7 h7 => ?_)
      have C7 : Acc K p Hb G7 (.ref t7 :: _) (.tuple [.str (kwR k), .int c, x.toD, dl] :: _) := C6.more s7 (.tup (xs := [.str (kwR k), .int c, vx, vl]) h7 (.cons (.str _) (.cons (.int _) (.cons ((C6.f.at 9 rfl rfl).keep (Same.kp s7)) (.cons ((C6.f.at 6 rfl rfl).keep (Same.kp s7)) .nil)))))
      refine ⟨_, rfl, _, _, _, _, rfl, rfl, same_sqT C7.s hysb, rfl, _, rfl, _, rfl, _, _, _, _, rfl, rfl, same_sqT C7.s hysb, rfl, ?_⟩
      refine ⟨(by show 3 ≤ sizeLine; decide), fun t9 h9 => ?_⟩
      have C9 := C7.tup h9 (.cons (.str (kwR k)) (.cons (C7.f.at 7 rfl rfl) (.cons (C7.f.at 10 rfl rfl) .nil)))
      generalize (upd G7 t9 _) = G9 at C9 ⊢
      refine ⟨(by show 5 ≤ sizeLine; decide), fun t10 h10 => ?_⟩
      have s10 : Same G9 (upd G9 t10 (.lst [.ref t1, .ref t4, .ref t5, .ref t7, .ref t9])) := same_new h10
      have e10 : (upd G9 t10 (.lst [.ref t1, .ref t4, .ref t5, .ref t7, .ref t9])) t10 = some (.lst [.ref t1, .ref t4, .ref t5, .ref t7, .ref t9]) := upd_same
      have D0 : Acc K p _ _ _ _ := ⟨Same.refl _, C9.f.keep (Same.kp s10)⟩
      have S10 := C9.s.trans s10
      show tSeq _ _ _ _ (upd G9 t10 (.lst [.ref t1, .ref t4, .ref t5, .ref t7, .ref t9]))
      generalize (upd G9 t10 (.lst [.ref t1, .ref t4, .ref t5, .ref t7, .ref t9])) = G10 at D0 e10 S10 ⊢
      have hysc := same_sqT S10 hysb
      have hpc := S10 _ _ hpb
      refine ⟨_, rfl, _, rfl, _, _, _, _, rfl, rfl, hysc, rfl, _, rfl, _, _, _, _, rfl, rfl, hysc, rfl, _, rfl, _, _, _, _, rfl, rfl, hysc, rfl, (by show 3 ≤ sizeLine; decide), fun t13 h13 => ?_⟩
      have D3 := D0.tup h13 (.cons (.str (kwR k)) (.cons (D0.f.at 11 rfl rfl) (.cons (.int c) .nil)))
      generalize (upd G10 t13 _) = G13 at D3 ⊢
      refine ⟨_, rfl, _, _, _, _, rfl, rfl, same_sqT D3.s hysc, rfl, _, rfl, _, _, _, _, rfl, rfl, same_sqT D3.s hysc, rfl, _, rfl, (by show 3 ≤ sizeLine; decide), fun t14 h14 => ?_⟩
      have D4 := D3.tup h14 (.cons (.str (kwR k)) (.cons (.int c) (.cons (D3.f.at 9 rfl rfl) .nil)))
      generalize (upd G13 t14 _) = G14 at D4 ⊢
      refine ⟨(by show 2 ≤ sizeLine; decide), fun t15 h15 => ?_⟩
      have s15 : Same G14 (upd G14 t15 (.lst [.ref t13, .ref t14])) := same_new h15
      have e15 : (upd G14 t15 (.lst [.ref t13, .ref t14])) t15 = some (.lst [.ref t13, .ref t14]) := upd_same
      refine ⟨t10, t15, _, _, rfl, rfl, (D4.s.trans s15) _ _ e10, e15, (by show 7 ≤ sizeLine; decide), fun t16 h16 => ?_⟩
      have s16 : Same G14 (upd (upd G14 t15 (.lst [.ref t13, .ref t14])) t16 (.lst ([.ref t1, .ref t4, .ref t5, .ref t7, .ref t9] ++ [.ref t13, .ref t14]))) := s15.trans (same_new h16)
      have L : DqAll K p _ [.ref t1, .ref t4, .ref t5, .ref t7, .ref t9, .ref t13, .ref t14] [PyData.list [.str (kwR k), .int c, x.toD], .tuple [dw, .int c, x.toD], .tuple [.str (kwR k), .int c], .tuple [.str (kwR k), .int c, x.toD, dl], .tuple [.str (kwR k), dl, x.toD], .tuple [.str (kwR k), x.toD, .int c], .tuple [.str (kwR k), .int c, dl]] :=
        DqAll.keep (Same.kp s16) (.cons (D4.f.at 9 rfl rfl) (.cons (D4.f.at 6 rfl rfl) (.cons (D4.f.at 5 rfl rfl) (.cons (D4.f.at 3 rfl rfl) (.cons (D4.f.at 2 rfl rfl) (.cons (D4.f.at 1 rfl rfl) (.cons (D4.f.at 0 rfl rfl) .nil)))))))
      obtain ⟨vr, dr, er, hr1, hr2⟩ := seven L rfl w0 w7 (seven_rn (by simpa only [fineQ] using hf.1) (by simpa only [fineQ] using hf.2.1) hf.2.2 sdl sdw)
      refine ⟨_, rfl, _, _, _, _, rfl, rfl, SqL.of upd_same, er, ?_⟩
      refine q _ vr dr (Xb.trans (Same.sx (S10.trans (D4.s.trans s16)))) ((hpotb.same (S10.trans (D4.s.trans s16))).mono (by omega)) hr1 ?_
      unfold BentOk
      rw [J.toD]
      exact hr2
    case rest =>
      refine ⟨_, rfl, _, _, rfl, rfl, _, rfl, ?_⟩
      refine ite2 (fun g => keep) (fun g3 => ?_)
      clear keep
      have n0 : ¬ (n : Int) = 0 := fun z => g2 (decide_eq_true (congrArg V.int z))
      obtain ⟨n', rfl⟩ : ∃ n', n = n' + 1 := ⟨n - 1, by omega⟩
      have en : ((n' + 1 : Nat) : Int) - 1 = (n' : Int) := by omega
      have hdeep : x.deep ≤ 30 := by
        simp only [J.deep] at hdp
        omega
      refine ⟨_, rfl, _, _, _, _, rfl, rfl, hysb, rfl, _, rfl, _, _, _, _, rfl, rfl, hysb, rfl, _, rfl, _, rfl, _, _, _, _, rfl, rfl, hysb, rfl, _, rfl, _, _, rfl, rfl, n', rfl, p, m + 1 + 1 + 1 + 1, vx, x, ?_, hpotb, by omega, hxb, hxs.2, hdeep, fun G2 r d sg hp2 hd2 ok2 => ?_⟩
      · rw [← en]
        rfl
      refine ⟨(by show 3 ≤ sizeLine; decide), fun t3 h3 => ?_⟩
      have s3 : Same G2 (upd G2 t3 (.tup [.str (kwR k), .int c, r])) := same_new h3
      refine q _ _ (.tuple [.str (kwR k), .int c, d]) (Xb.trans (sg.trans (Same.sx s3))) ((hp2.same s3).mono (by omega)) (.tup (SqT.of upd_same) (.cons (.str _) (.cons (.int _) (.cons (hd2.keep (Same.kp s3)) .nil)))) ?_
      unfold BentOk
      rw [J.toD]
      exact bent_rn (by simpa only [fineQ] using hf.1) (by simpa only [fineQ] using hf.2.1) ok2
theorem ok_bent (T : Txt K mg) : ∀ n : Nat, FnOk P w K mg base CX0 (n + 3) T.f__law_bent T.d__law_bent ["_law_pot_here", "_law_job_here", "_law_deep"] (spBent K n)
  | 0 => ok_bent_next T ⟨fun vs H Q E h => absurd h.choose_spec.1 (by omega), fun A outer s H args us vs Q E _ _ _ _ h => absurd h.choose_spec.1 (by omega)⟩
  | n + 1 => ok_bent_next T ((ok_bent T n).imp fun vs H Q E h => by
      obtain ⟨m, e, h⟩ := h
      obtain rfl : n = m := by omega
      exact h)
end
/-! block Law06 (behind bTold06, bBent, bJob) -/
abbrev jF : J := .ps false [.st 3, .st (-4), .st 2]
theorem ok_F : jF.ok := by
  simp only [J.ok, J.okL, J.steps, J.stepsL, M30, List.length_cons, List.length_nil]
  decide
theorem sz_F : szF 13 jF.toD 400 = some (4, 3) := by
  simp only [J.toD, J.toDs]
  decide +kernel
def someDs : List PyData := [.none, .bool true, .str "seq", .tuple [.str "seq"], .list [.str "seq", .tuple []], .int (10 ^ (30 : Int).toNat + 1), .dict [], .tuple [.str "seq", .tuple [.int 1], .int 2], .tuple [.str "repeat", .int 2], .tuple [.str "par", .int 3]] ++ [.tuple [.list [], .tuple [.int 1, .int 2]], .tuple [.dict [], .int 1, .int 2], .tuple [.str "seq", .tuple [.tuple [.list [], .tuple []]]]]
theorem some_ok {d : PyData} (h : d ∈ someDs) : szF 13 d 400 = none ∧ Sd 20 5 d := by
  simp only [someDs, List.cons_append, List.nil_append, List.mem_cons, List.not_mem_nil, or_false] at h
  rcases h with rfl | rfl | rfl | rfl | rfl | rfl | rfl | rfl | rfl | rfl | rfl | rfl | rfl <;>
    refine ⟨by decide +kernel, ?_, by decide +kernel, by decide +kernel⟩ <;> simp only [fineQ, finesQ, and_true, true_and] <;> first | trivial | decide +kernel
def spLaw (K : PySem.W.Frag) : Sp := fun vs H Q _ => ∃ (a : Addr) (ns : List Int), vs = [.ref a] ∧ Only H ∧ SqL K H a (ns.map V.int) ∧ ns.length ≤ 63 ∧ ∀ H', Q (.bl true) H'
section
variable {P : Program} {w : World} {K : PySem.W.Frag} {mg : Str → Option Value} {base : Heap}
theorem ok_law {f : Addr} {fd : FuncData} (F : Fun K "law" "law" s_law f fd) (T : Txt K mg) (hs : Sys base) : FnG P w K mg base CX0 60 f fd ["_law_script"] (spLaw K) := by
  have g__law_pot := ok_pot (P := P) (w := w) (base := base) T
  have g__law_take := ok_take (P := P) (w := w) (base := base) T
  have g__law_job := ok_job (P := P) (w := w) (base := base) T 4
  have g__law_bent := ok_bent (P := P) (w := w) (base := base) T 4
  have g_is_job := ok_isjob (P := P) (w := w) (base := base) T
  have g__law_told := ok_told (P := P) (w := w) (base := base) T
  have g_net := ok_netQ (P := P) (w := w) (base := base) T
  have g_lowest := ok_lowestQ (P := P) (w := w) (base := base) T
  have g_step_count := ok_stepQ (P := P) (w := w) (base := base) T
  have g_node_count := ok_nodeQ (P := P) (w := w) (base := base) T
  refine okG F sc_law (fun vs H Q E h => ?_) (fun cdv A outer s H vs Q E hr gd h => ?_)
  · obtain ⟨a, ns, rfl, _⟩ := h
    rfl
  obtain ⟨a, ns, rfl, hO, hS, hlen, q⟩ := h
  have hsc := Scr.of hO hS
  have c30 : CPowW 10 30 := powW_of 4 (by decide) (by decide) (by decide)
  have c12 : CPowW 10 12 := powW_of 4 (by decide) (by decide) (by decide)
  refine ⟨_, (pss_cons (ps_set (i := 1) sc_law.nd rfl (Or.inl rfl) (pe_tup (pa_cons pe_str (pa_cons (pe_tup (pa_cons pe_int (pa_cons (pe_un un_neg pe_int) (pa_cons pe_int pa_nil)))) pa_nil))))
      (pss_cons (ps_for PassesOwn.never rfl (pi_range1 rfl T.n_range (pa_cons (pe_callB (call_max2 rfl) (by rfl) T.n_max (by decide +kernel) (pa_cons pe_int (pa_cons (pe_callB (call_min2 rfl) (by rfl) T.n_min (by decide +kernel) (pa_cons pe_int (pa_cons (pe_callB (r := rLenS K) call_lenS (by rfl) T.n_len (by decide +kernel) (pa_cons (pv 0) pa_nil)) pa_nil))) pa_nil))) pa_nil)) (pg_name (i := 2) sc_law.nd rfl (Or.inl rfl))
        (pss_cons (ps_set (i := 3) sc_law.nd rfl (Or.inl rfl) (pe_call g__law_pot (hr.mono (by omega)) rfl T.m__law_pot T.F__law_pot.kp T.b__law_pot .nil pass0 (pa_cons (pv 0) (pa_cons (pv 2) pa_nil))))
        (pss_cons (ps_set (i := 4) sc_law.nd rfl (Or.inl rfl) (pe_call g__law_bent (hr.mono (by omega)) rfl T.m__law_bent T.F__law_bent.kp T.b__law_bent .nil pass0 (pa_cons (pv 3) (pa_cons (pe_call g__law_job (hr.mono (by omega)) rfl T.m__law_job T.F__law_job.kp T.b__law_job .nil pass0 (pa_cons (pv 3) (pa_cons pe_int (pa_cons (pe_lst (pa_cons pe_int (pa_cons pe_int (pa_cons pe_int (pa_cons (pe_op op_powW pe_int pe_int) (pa_cons (pe_op op_powW pe_int pe_int) pa_nil)))))) pa_nil)))) (pa_cons pe_int pa_nil)))))
        (pss_cons (ps_set (i := 5) sc_law.nd rfl (Or.inl rfl) (pe_lst (pa_cons pe_non (pa_cons pe_bl (pa_cons pe_str (pa_cons (pe_tup (pa_cons pe_str pa_nil)) (pa_cons (pe_lst (pa_cons pe_str (pa_cons (pe_tup pa_nil) pa_nil))) (pa_cons (pe_op op_add (pe_op op_powW pe_int pe_int) pe_int) (pa_cons pe_dnewK (pa_cons (pe_tup (pa_cons pe_str (pa_cons (pe_tup (pa_cons pe_int pa_nil)) (pa_cons pe_int pa_nil)))) (pa_cons (pe_tup (pa_cons pe_str (pa_cons pe_int pa_nil))) (pa_cons (pe_tup (pa_cons pe_str (pa_cons pe_int pa_nil))) pa_nil))))))))))))
        (pss_cons (ps_set (i := 5) sc_law.nd rfl (Or.inl rfl) (pe_op op_cat (pv 5) (pe_lst (pa_cons (pe_tup (pa_cons (pe_lst pa_nil) (pa_cons (pe_tup (pa_cons pe_int (pa_cons pe_int pa_nil))) pa_nil))) (pa_cons (pe_tup (pa_cons pe_dnewK (pa_cons pe_int (pa_cons pe_int pa_nil)))) (pa_cons (pe_tup (pa_cons pe_str (pa_cons (pe_tup (pa_cons (pe_tup (pa_cons (pe_lst pa_nil) (pa_cons (pe_tup pa_nil) pa_nil))) pa_nil)) pa_nil))) pa_nil))))))
        (pss_cons (ps_set (i := 6) sc_law.nd rfl (Or.inl rfl) (pe_ix (r := rIxL K) ix_list (pv 5) (pe_call g__law_take (hr.mono (by omega)) rfl T.m__law_take T.F__law_take.kp T.b__law_take .nil pass0 (pa_cons (pv 3) (pa_cons pe_int pa_nil))) (fun _ _ => rfl)))
        (C8.pss_cut (ps_if (pt_val (pe_call g_is_job (hr.mono (by omega)) rfl T.m_is_job T.F_is_job.kp T.b_is_job .nil pass0 (pa_cons (pv 4) pa_nil))) (pss_one (ps_set (i := 4) sc_law.nd rfl (Or.inl rfl) (pv 6))) pss_nil)
        (pss_cons (ps_set (i := 7) sc_law.nd rfl (Or.inl rfl) (pe_callB (r := rReprQ K) (call_reprQ hs gd (room66 hr)) (by rfl) T.n_repr (by decide +kernel) (pa_cons (pv 4) pa_nil)))
        (pss_cons (ps_for PassesOwn.never rfl (pi_range1 rfl T.n_range (pa_cons pe_int pa_nil)) (pg_name (i := 8) sc_law.nd rfl (Or.inl rfl))
          (pss_one (ps_if (PW.pt (pw_or (pt_cmpR op_ne (pe_call g__law_told (hr.mono (by omega)) rfl T.m__law_told T.F__law_told.kp T.b__law_told .nil pass0 (pa_cons (pv 8) (pa_cons (pv 4) pa_nil))) pe_str (nomark _)) (pw_or1 (pt_cmpR op_ne (pe_callB (r := rReprQ K) (call_reprQ hs gd (room66 hr)) (by rfl) T.n_repr (by decide +kernel) (pa_cons (pv 4) pa_nil)) (pv 7) (nomark _))))) (pss_one (ps_ret pe_bl)) pss_nil)))
        (pss_one (ps_if (pt_cmpR (r := rNeD K) (op_neD hr.units) (pe_lst (pa_cons (pe_call g_net (hr.mono (by omega)) rfl T.m_net T.F_net.kp T.b_net .nil passN (pa_cons (pv 1) pa_nil)) (pa_cons (pe_call g_lowest (hr.mono (by omega)) rfl T.m_lowest T.F_lowest.kp T.b_lowest .nil passN (pa_cons (pv 1) pa_nil)) (pa_cons (pe_call g_step_count (hr.mono (by omega)) rfl T.m_step_count T.F_step_count.kp T.b_step_count .nil passN (pa_cons (pv 1) pa_nil)) (pa_cons (pe_call g_node_count (hr.mono (by omega)) rfl T.m_node_count T.F_node_count.kp T.b_node_count .nil passN (pa_cons (pv 1) pa_nil)) pa_nil))))) (pe_lst (pa_cons pe_int (pa_cons (pe_un un_neg pe_int) (pa_cons pe_int (pa_cons pe_int pa_nil))))) (nomark _)) (pss_one (ps_ret pe_bl)) pss_nil)))))))))))
      (pss_one (ps_ret pe_bl)))), ?_⟩
  -- the job that is measured
  refine ⟨_, rfl, (by show 3 ≤ sizeLine; decide), fun t1 h1 => ?_⟩
  obtain ⟨u1, d1⟩ := tup_fresh (K := K) (ds := [.int 3, .int (-4), .int 2]) h1 (.cons (.int _) (.cons (.int _) (.cons (.int _) .nil)))
  generalize (upd H t1 _) = F1 at u1 d1 ⊢
  refine ⟨(by show 2 ≤ sizeLine; decide), fun t2 h2 => ?_⟩
  obtain ⟨u2, d2⟩ := tup_fresh (K := K) (ds := [.str "seq", .tuple [.int 3, .int (-4), .int 2]]) h2 (.cons (.str _) (.cons d1 .nil))
  generalize (upd F1 t2 _) = F2 at u2 d2 ⊢
  have uH : Same H F2 := u1.trans u2
  have dF : Dp K F2 (.ref t2) jF.toD := by
    simp only [J.toD, J.toDs]
    exact d2
  clear d1 d2 u1 u2 h1 h2
  refine ⟨_, rfl, a, _, rfl, .inl (hsc.same uH).sq, _, _, rfl, _, _, rfl, _, rfl, ?_, ?_, ?_⟩
  · show -(2 ^ 62) ≤ (if (if (((ns.map V.int).length : Nat) : Int) < 6 then (((ns.map V.int).length : Nat) : Int) else 6) > 1 then (if (((ns.map V.int).length : Nat) : Int) < 6 then (((ns.map V.int).length : Nat) : Int) else 6) else 1)
    split <;> (try split) <;> omega
  · show (if (if (((ns.map V.int).length : Nat) : Int) < 6 then (((ns.map V.int).length : Nat) : Int) else 6) > 1 then (if (((ns.map V.int).length : Nat) : Int) < 6 then (((ns.map V.int).length : Nat) : Int) else 6) else 1) < 2 ^ 62
    split <;> (try split) <;> omega
  have hturns : (if (if (((ns.map V.int).length : Nat) : Int) < 6 then (((ns.map V.int).length : Nat) : Int) else 6) > 1 then (if (((ns.map V.int).length : Nat) : Int) < 6 then (((ns.map V.int).length : Nat) : Int) else 6) else 1).toNat ≤ 6 := by
    split <;> (try split) <;> omega
  generalize (if (if (((ns.map V.int).length : Nat) : Int) < 6 then (((ns.map V.int).length : Nat) : Int) else 6) > 1 then (if (((ns.map V.int).length : Nat) : Int) < 6 then (((ns.map V.int).length : Nat) : Int) else 6) else 1) = turns at hturns ⊢
  refine for_range (lo := 0) (n := turns.toNat) (fun i σ H' => ∃ y2 y3 y4 y5 y6 y7 y8 : Option V, σ = [some (.ref a), some (.ref t2), y2, y3, y4, y5, y6, y7, y8] ∧ Same H H' ∧ Dp K H' (.ref t2) jF.toD) ⟨none, none, none, none, none, none, none, rfl, uH, dF⟩ ?_ ?_
  · rintro i σ H' hi ⟨y2, y3, y4, y5, y6, y7, y8, rfl, t, dF'⟩
    have hs0 := hsc.same t
    refine ⟨_, rfl, _, rfl, a, ns, 0 + (i : Int), rfl, hs0.sq, by omega, by omega, by omega, fun G1 p s1 hpn hp => ?_⟩
    refine ⟨_, rfl, _, rfl, _, _, rfl, rfl, c30, _, _, rfl, rfl, c12, (by show 5 ≤ sizeLine; decide), fun l hl => ?_⟩
    obtain ⟨lp, hlp⟩ := hp.lst
    have nlp : l ≠ p := fun z => by rw [z, hlp] at hl; cases hl
    refine ⟨p, l, 0, [0, 1, 2, 10 ^ (30 : Int).toNat, 10 ^ (12 : Int).toNat], rfl, hp.same (same_new hl), by decide, upd_same, nlp, by decide, by decide, ?_, fun G2 v j s2 hp2 dj gj => ?_⟩
    · have e30 : (10 : Int) ^ (30 : Int).toNat = 1000000000000000000000000000000 := by decide
      have e12 : (10 : Int) ^ (12 : Int).toNat = 1000000000000 := by decide
      simp only [List.mem_cons, List.not_mem_nil, or_false, M30, e30, e12]
      rintro c (rfl | rfl | rfl | rfl | rfl) <;> omega
    have t1 : Same H' G1 := s1
    have hpH : H' p = none := hpn
    have g4 : j.deep ≤ 4 := Nat.le_trans gj.deep (by decide)
    refine ⟨p, 0 + TB 4, v, j, rfl, hp2, by decide, dj, gj.small, by omega, fun G3 r d s3 hp3 hdq bok => ?_⟩
    have t3 : Same H' G3 := Same.sx_free t1 hpH (((Same.sx (same_new hl)).trans s2).trans s3)
    clear dj hp2 s2 s3 hl
    obtain ⟨lp3, hlp3⟩ := hp3.lst
    have A0 : Acc K p G3 G3 [] [] := ⟨Same.refl _, .nil⟩
    -- the odd values
    refine ⟨(by show 1 ≤ sizeLine; decide), fun m1 h1 => ?_⟩
    have A1 := A0.tup h1 (.cons (.str "seq") .nil)
    generalize (upd G3 m1 _) = E1 at A1 ⊢
    refine ⟨(by show 0 ≤ sizeLine; decide), fun m2 h2 => ?_⟩
    have A2 := A1.tup h2 .nil
    generalize (upd E1 m2 _) = E2 at A2 ⊢
    refine ⟨(by show 2 ≤ sizeLine; decide), fun m3 h3 => ?_⟩
    have A3 := A2.lst hlp3 h3 (.cons (.str "seq") (.cons (A2.f.at 0 rfl rfl) .nil))
    generalize (upd E2 m3 _) = E3 at A3 ⊢
    refine ⟨_, _, rfl, rfl, c30, _, _, rfl, rfl, ?_⟩
    intro m4 h4
    have A4 := A3.dct hlp3 h4
    generalize (upd E3 m4 _) = E4 at A4 ⊢
    refine ⟨(by show 1 ≤ sizeLine; decide), fun m5 h5 => ?_⟩
    have A5 := A4.tup h5 (.cons (.int 1) .nil)
    generalize (upd E4 m5 _) = E5 at A5 ⊢
    refine ⟨(by show 3 ≤ sizeLine; decide), fun m6 h6 => ?_⟩
    have A6 := A5.tup h6 (.cons (.str "seq") (.cons (A5.f.at 0 rfl rfl) (.cons (.int 2) .nil)))
    generalize (upd E5 m6 _) = E6 at A6 ⊢
    refine ⟨(by show 2 ≤ sizeLine; decide), fun m7 h7 => ?_⟩
    have A7 := A6.tup h7 (.cons (.str "repeat") (.cons (.int 2) .nil))
    generalize (upd E6 m7 _) = E7 at A7 ⊢
    refine ⟨(by show 2 ≤ sizeLine; decide), fun m8 h8 => ?_⟩
    have A8 := A7.tup h8 (.cons (.str "par") (.cons (.int 3) .nil))
    generalize (upd E7 m8 _) = E8 at A8 ⊢
    refine ⟨(by show 10 ≤ sizeLine; decide), fun la ha => ?_⟩
    have O1 : DqAll K p E8 [.non, .bl true, .str "seq", .ref m1, .ref m3, .int (10 ^ (30 : Int).toNat + 1), .ref m4, .ref m6, .ref m7, .ref m8] (someDs.take 10) :=
      .cons .non (.cons (.bl _) (.cons (.str _) (.cons (A8.f.at 7 rfl rfl) (.cons (A8.f.at 5 rfl rfl) (.cons (.int _) (.cons (A8.f.at 4 rfl rfl) (.cons (A8.f.at 2 rfl rfl) (.cons (A8.f.at 1 rfl rfl) (.cons (A8.f.at 0 rfl rfl) .nil)))))))))
    generalize eV : ([.non, .bl true, .str "seq", .ref m1, .ref m3, .int (10 ^ (30 : Int).toNat + 1), .ref m4, .ref m6, .ref m7, .ref m8] : List V) = va at O1 ⊢
    have vlen : va.length = 10 := by rw [← eV]; rfl
    have sa : Same E8 (upd E8 la (.lst va)) := same_new ha
    have O2 := O1.keep (Same.kp sa)
    have S9 := A8.s.trans sa
    have hla : upd E8 la (.lst va) la = some (.lst va) := upd_same
    show gName 5 (.ref la) _ (upd E8 la (.lst va)) _
    generalize (upd E8 la (.lst va)) = E9 at O2 S9 hla ⊢
    have hlp9 := S9 _ _ hlp3
    clear A0 A1 A2 A3 A4 A5 A6 A7 A8 h1 h2 h3 h4 h5 h6 h7 h8 ha sa O1 eV
    have B0 : Acc K p E9 E9 [] [] := ⟨Same.refl _, .nil⟩
    refine ⟨_, rfl, (by show 0 ≤ sizeLine; decide), fun k1 h1 => ?_⟩
    have B1 := B0.lst hlp9 h1 .nil
    generalize (upd E9 k1 _) = D1 at B1 ⊢
    refine ⟨(by show 2 ≤ sizeLine; decide), fun k2 h2 => ?_⟩
    have B2 := B1.tup h2 (.cons (.int 1) (.cons (.int 2) .nil))
    generalize (upd D1 k2 _) = D2 at B2 ⊢
    refine ⟨(by show 2 ≤ sizeLine; decide), fun k3 h3 => ?_⟩
    have B3 := B2.tup h3 (.cons (B2.f.at 1 rfl rfl) (.cons (B2.f.at 0 rfl rfl) .nil))
    generalize (upd D2 k3 _) = D3 at B3 ⊢
    intro k4 h4
    have B4 := B3.dct hlp9 h4
    generalize (upd D3 k4 _) = D4 at B4 ⊢
    refine ⟨(by show 3 ≤ sizeLine; decide), fun k5 h5 => ?_⟩
    have B5 := B4.tup h5 (.cons (B4.f.at 0 rfl rfl) (.cons (.int 1) (.cons (.int 2) .nil)))
    generalize (upd D4 k5 _) = D5 at B5 ⊢
    refine ⟨(by show 0 ≤ sizeLine; decide), fun k6 h6 => ?_⟩
    have B6 := B5.lst hlp9 h6 .nil
    generalize (upd D5 k6 _) = D6 at B6 ⊢
    refine ⟨(by show 0 ≤ sizeLine; decide), fun k7 h7 => ?_⟩
    have B7 := B6.tup h7 .nil
    generalize (upd D6 k7 _) = D7 at B7 ⊢
    refine ⟨(by show 2 ≤ sizeLine; decide), fun k7b h7b => ?_⟩
    have B7b := B7.tup h7b (.cons (B7.f.at 1 rfl rfl) (.cons (B7.f.at 0 rfl rfl) .nil))
    generalize (upd D7 k7b _) = D7b at B7b ⊢
    refine ⟨(by show 1 ≤ sizeLine; decide), fun k8 h8 => ?_⟩
    have B8 := B7b.tup h8 (.cons (B7b.f.at 0 rfl rfl) .nil)
    generalize (upd D7b k8 _) = D8 at B8 ⊢
    refine ⟨(by show 2 ≤ sizeLine; decide), fun k9 h9 => ?_⟩
    have B9 := B8.tup h9 (.cons (.str "seq") (.cons (B8.f.at 0 rfl rfl) .nil))
    generalize (upd D8 k9 _) = D9 at B9 ⊢
    refine ⟨(by show 3 ≤ sizeLine; decide), fun lb hb => ?_⟩
    have P1 : DqAll K p D9 [.ref k3, .ref k5, .ref k9] (someDs.drop 10) := .cons (B9.f.at 7 rfl rfl) (.cons (B9.f.at 5 rfl rfl) (.cons (B9.f.at 0 rfl rfl) .nil))
    generalize eW : ([.ref k3, .ref k5, .ref k9] : List V) = vb at P1 ⊢
    have wlen : vb.length = 3 := by rw [← eW]; rfl
    have sb : Same D9 (upd D9 lb (.lst vb)) := same_new hb
    have P2 := P1.keep (Same.kp sb)
    have S10 := B9.s.trans sb
    have hlb : upd D9 lb (.lst vb) lb = some (.lst vb) := upd_same
    generalize (upd D9 lb (.lst vb)) = E10 at P2 S10 hlb ⊢
    have O3 := O2.keep (Same.kp S10)
    have hla10 := S10 _ _ hla
    have hlp10 := S10 _ _ hlp9
    have S310 := S9.trans S10
    clear B0 B1 B2 B3 B4 B5 B6 B7 B7b B8 B9 h1 h2 h3 h4 h5 h6 h7 h7b h8 h9 hb sb P1 eW O2
    refine ⟨la, lb, va, vb, rfl, rfl, hla10, hlb, by rw [vlen, wlen]; decide, fun lc hc => ?_⟩
    have sc : Same E10 (upd E10 lc (.lst (va ++ vb))) := same_new hc
    have ncp : lc ≠ p := fun z => by rw [z, hlp10] at hc; cases hc
    have hlc : upd E10 lc (.lst (va ++ vb)) lc = some (.lst (va ++ vb)) := upd_same
    have O4 : DqAll K p (upd E10 lc (.lst (va ++ vb))) (va ++ vb) someDs := by
      have e := dqAll_append (O3.keep (Same.kp sc)) (P2.keep (Same.kp sc))
      rw [List.take_append_drop] at e
      exact e
    generalize (upd E10 lc (.lst (va ++ vb))) = E11 at sc hlc O4 ⊢
    have S11 := S310.trans sc
    have plen : (va ++ vb).length = 13 := by rw [List.length_append, vlen, wlen]
    refine ⟨_, rfl, _, rfl, p, _, 13, rfl, hp3.same S11, by decide, by decide, by decide, fun G4 i4 s4 hp4 k0 k1 => ?_⟩
    obtain ⟨vl, e1, e2⟩ := pick (vs := va ++ vb) k0 (by rw [plen]; exact k1)
    refine ⟨_, _, _, _, rfl, rfl, SqL.of (s4 lc _ ncp hlc), e2, ?_⟩
    have kp11 : Kp K p E11 G4 := s4.kp (S11 _ _ hlp3)
    obtain ⟨dl, md, ed, hl4⟩ := dqAll_some (O4.keep kp11) e1
    obtain ⟨szl, sdl⟩ := some_ok md
    have hr4 : Dq K p G4 r d := (hdq.keep (Same.kp S11)).keep kp11
    have t4 : Same H' G4 := Same.sx_free (t3.trans S11) hpH s4
    obtain ⟨lp4, hlp4⟩ := hp4.lst
    clear O4 O3 P2 hla10 hlb hlc sc S310 S10 S9 hla hc kp11 e1 e2
    -- a value that is no job
    have hb1 := J.depth j
    have hb2 := J.bulk j
    have hb3 : j.nodes ≤ 49 := gj.nodes
    refine ⟨fun σ G => ∃ (v : V) (d : PyData), σ = [some (.ref a), some (.ref t2), some (.int (0 + (i : Int))), some (.ref p), some v, some (.ref lc), some vl, y7, y8] ∧ Same H' G ∧ (∃ lp, G p = some (.lst lp)) ∧ Dq K p G v d ∧ szF 13 d 400 = none ∧ fineQ d ∧ d.depth ≤ 64 ∧ d.bulk ≤ 80000, ?_, ?_⟩
    · refine ⟨_, rfl, r, p, d, rfl, hr4, fun G5 s5 => ?_⟩
      have hl5 := s5 _ _ hlp4
      have t5 := t4.trans s5
      refine ⟨_, rfl, ?_⟩
      cases ez : szF 13 d 400 with
      | none =>
        refine iteF ?_
        have b1 := bok.bulk
        have b2 := bok.depth
        exact ⟨r, d, rfl, t5, ⟨_, hl5⟩, hr4.keep (Same.kp s5), ez, bok.fine, by omega, by omega⟩
      | some ab =>
        refine iteT ?_
        have b1 := sdl.bulk
        have b2 := sdl.depth
        exact ⟨_, rfl, vl, dl, rfl, t5, ⟨_, hl5⟩, hl4.keep (Same.kp s5), szl, sdl.fine, by omega, by omega⟩
    clear hr4 hl4 t4 t3 hlp4 hlp3 hp3 hp4 hdq bok
    rintro σ G5 ⟨v, d, rfl, t5, ⟨lp5, hlp5⟩, hd5, ez, f1, f2, f3⟩
    refine ⟨_, rfl, p, v, d, rfl, hd5, f1, f2, f3, ?_⟩
    refine ⟨_, rfl, by decide, by decide, ?_⟩
    refine for_range (lo := 0) (n := (7 : Int).toNat) (fun k σ H3 => ∃ y8 : Option V, σ = [some (.ref a), some (.ref t2), some (.int (0 + (i : Int))), some (.ref p), some v, some (.ref lc), some vl, some (.str d.shown), y8] ∧ Same G5 H3) ⟨y8, rfl, Same.refl _⟩ ?_ ?_
    · rintro k σ G6 hk ⟨z8, rfl, s6⟩
      have hk7 : k < 7 := hk
      have hd6 := hd5.keep (Same.kp s6)
      refine ⟨_, rfl, _, rfl, k, v, p, d, by simp, hk7, hd6, ez, fun G7 s7 => ?_⟩
      refine ⟨rfl, _, rfl, ?_⟩
      refine iteNS rfl ?_
      refine ⟨_, rfl, p, v, d, rfl, hd6.keep (Same.kp s7), f1, f2, f3, _, rfl, rfl, _, rfl, ?_⟩
      refine iteNS rfl ?_
      exact ⟨_, rfl, s6.trans s7⟩
    · rintro σ G6 ⟨z8, rfl, s6⟩
      have t6 := t5.trans s6
      have n1 : jF.nodes = 4 := by simp only [J.nodes, J.nodesL]; decide
      have n2 : jF.steps = 3 := by simp only [J.steps, J.stepsL]; decide
      have n3 : jF.net = 1 := by simp only [J.net, J.netL]; decide
      have n4 : jF.low = -1 := by simp only [J.low, J.lowS, J.net, J.netL]; decide
      have n5 : jF.deep ≤ 20 := by simp only [J.deep, J.deepL]; decide
      have d6 := dp_same t6 dF'
      refine ⟨_, rfl, .inr ⟨.ref t2, jF, 4, 3, rfl, d6, n5, ok_F, sz_F, n1.symm, n2.symm, fun G7 s7 => ?_⟩⟩
      refine ⟨_, rfl, .inr ⟨.ref t2, jF, 4, 3, rfl, dp_same s7 d6, n5, ok_F, sz_F, n1.symm, n2.symm, fun G8 s8 => ?_⟩⟩
      have s78 := s7.trans s8
      refine ⟨_, rfl, .inr ⟨.ref t2, jF, 4, 3, rfl, dp_same s78 d6, n5, ok_F, sz_F, n1.symm, n2.symm, fun G9 s9 => ?_⟩⟩
      have s79 := s78.trans s9
      refine ⟨_, rfl, .inr ⟨.ref t2, jF, 4, 3, rfl, dp_same s79 d6, n5, ok_F, sz_F, n1.symm, n2.symm, fun Ga sa => ?_⟩⟩
      have s7a := s79.trans sa
      rw [n1, n2, n3, n4]
      refine ⟨(by show 4 ≤ sizeLine; decide), fun l1 h1 => ?_⟩
      have u1 : Same Ga (upd Ga l1 (.lst [.int 1, .int (-1), .int 3, .int 4])) := same_new h1
      have w1 : upd Ga l1 (.lst [.int 1, .int (-1), .int 3, .int 4]) l1 = some (.lst [.int 1, .int (-1), .int 3, .int 4]) := upd_same
      show (tLst _) _ (upd Ga l1 (.lst [.int 1, .int (-1), .int 3, .int 4])) _
      generalize (upd Ga l1 (.lst [.int 1, .int (-1), .int 3, .int 4])) = Gb at u1 w1 ⊢
      refine ⟨_, rfl, (by show 4 ≤ sizeLine; decide), fun l2 h2 => ?_⟩
      have u2 : Same Gb (upd Gb l2 (.lst [.int 1, .int (-1), .int 3, .int 4])) := same_new h2
      have w2 : upd Gb l2 (.lst [.int 1, .int (-1), .int 3, .int 4]) l2 = some (.lst [.int 1, .int (-1), .int 3, .int 4]) := upd_same
      have D : ∀ (G : Hp) (l : Addr), G l = some (.lst [.int 1, .int (-1), .int 3, .int 4]) → Dp K G (.ref l) (.list [.int 1, .int (-1), .int 3, .int 4]) := fun G l e => .lst (SqL.of e) (.cons (.int _) (.cons (.int _) (.cons (.int _) (.cons (.int _) .nil))))
      refine ⟨_, _, D _ _ (u2 _ _ w1), D _ _ w2, by decide +kernel, by decide +kernel, _, rfl, ?_⟩
      refine iteF ?_
      have tt := t6.trans (s7a.trans (u1.trans u2))
      exact ⟨_, _, _, _, _, _, _, rfl, t.trans tt, dp_same tt dF'⟩
  · rintro σ H' ⟨y2, y3, y4, y5, y6, y7, y8, rfl, t, dF'⟩
    exact q _
end
theorem all_mk {l : PySem.W.OpenLaw} {w : World} {K : PySem.W.Frag} {h : Heap} {mg : Str → Option Value} {fa : Addr} (X : K.In h) (G : h.Ns mainGlobals mg) (hfa : mg "law" = some (.ref fa))
    {od0 an0 : Option Addr} {sl0 : Array (Option Value)} {oc0 kV0 dc0 pm0 cd0 ct0 : Value} {f0 : Addr}
    {od1 an1 : Option Addr} {sl1 : Array (Option Value)} {oc1 kV1 dc1 pm1 cd1 ct1 : Value} {f1 : Addr}
    {od2 an2 : Option Addr} {sl2 : Array (Option Value)} {oc2 kV2 dc2 pm2 cd2 ct2 : Value} {f2 : Addr}
    {od3 an3 : Option Addr} {sl3 : Array (Option Value)} {oc3 kV3 dc3 pm3 cd3 ct3 : Value} {f3 : Addr}
    {od4 an4 : Option Addr} {sl4 : Array (Option Value)} {oc4 kV4 dc4 pm4 cd4 ct4 : Value} {f4 : Addr}
    {od5 an5 : Option Addr} {sl5 : Array (Option Value)} {oc5 kV5 dc5 pm5 cd5 ct5 : Value} {f5 : Addr}
    {od6 an6 : Option Addr} {sl6 : Array (Option Value)} {oc6 kV6 dc6 pm6 cd6 ct6 : Value} {f6 : Addr}
    {od7 an7 : Option Addr} {sl7 : Array (Option Value)} {oc7 kV7 dc7 pm7 cd7 ct7 : Value} {f7 : Addr}
    {od8 an8 : Option Addr} {sl8 : Array (Option Value)} {oc8 kV8 dc8 pm8 cd8 ct8 : Value} {f8 : Addr}
    {od9 an9 : Option Addr} {sl9 : Array (Option Value)} {oc9 kV9 dc9 pm9 cd9 ct9 : Value} {f9 : Addr}
    {od10 an10 : Option Addr} {sl10 : Array (Option Value)} {oc10 kV10 dc10 pm10 cd10 ct10 : Value} {f10 : Addr}
    {od11 an11 : Option Addr} {sl11 : Array (Option Value)} {oc11 kV11 dc11 pm11 cd11 ct11 : Value} {f11 : Addr}
    {od12 an12 : Option Addr} {sl12 : Array (Option Value)} {oc12 kV12 dc12 pm12 cd12 ct12 : Value} {f12 : Addr}
    {od13 an13 : Option Addr} {sl13 : Array (Option Value)} {oc13 kV13 dc13 pm13 cd13 ct13 : Value} {f13 : Addr}
    {od14 an14 : Option Addr} {sl14 : Array (Option Value)} {oc14 kV14 dc14 pm14 cd14 ct14 : Value} {f14 : Addr}
    {od15 an15 : Option Addr} {sl15 : Array (Option Value)} {oc15 kV15 dc15 pm15 cd15 ct15 : Value} {f15 : Addr}
    {od16 an16 : Option Addr} {sl16 : Array (Option Value)} {oc16 kV16 dc16 pm16 cd16 ct16 : Value} {f16 : Addr}
    {od17 an17 : Option Addr} {sl17 : Array (Option Value)} {oc17 kV17 dc17 pm17 cd17 ct17 : Value} {f17 : Addr}
    {od18 an18 : Option Addr} {sl18 : Array (Option Value)} {oc18 kV18 dc18 pm18 cd18 ct18 : Value} {f18 : Addr}
    {od19 an19 : Option Addr} {sl19 : Array (Option Value)} {oc19 kV19 dc19 pm19 cd19 ct19 : Value} {f19 : Addr}
    {od20 an20 : Option Addr} {sl20 : Array (Option Value)} {oc20 kV20 dc20 pm20 cd20 ct20 : Value} {f20 : Addr}
    {od21 an21 : Option Addr} {sl21 : Array (Option Value)} {oc21 kV21 dc21 pm21 cd21 ct21 : Value} {f21 : Addr}
    {od22 an22 : Option Addr} {sl22 : Array (Option Value)} {oc22 kV22 dc22 pm22 cd22 ct22 : Value} {f22 : Addr}
    {od23 an23 : Option Addr} {sl23 : Array (Option Value)} {oc23 kV23 dc23 pm23 cd23 ct23 : Value} {f23 : Addr}
    {od24 an24 : Option Addr} {sl24 : Array (Option Value)} {oc24 kV24 dc24 pm24 cd24 ct24 : Value} {f24 : Addr}
    {od25 an25 : Option Addr} {sl25 : Array (Option Value)} {oc25 kV25 dc25 pm25 cd25 ct25 : Value} {f25 : Addr}
    {od26 an26 : Option Addr} {sl26 : Array (Option Value)} {oc26 kV26 dc26 pm26 cd26 ct26 : Value} {f26 : Addr}
    {od27 an27 : Option Addr} {sl27 : Array (Option Value)} {oc27 kV27 dc27 pm27 cd27 ct27 : Value} {f27 : Addr}
    {od28 an28 : Option Addr} {sl28 : Array (Option Value)} {oc28 kV28 dc28 pm28 cd28 ct28 : Value} {f28 : Addr}
    {od29 an29 : Option Addr} {sl29 : Array (Option Value)} {oc29 kV29 dc29 pm29 cd29 ct29 : Value} {f29 : Addr}
    {od30 an30 : Option Addr} {sl30 : Array (Option Value)} {oc30 kV30 dc30 pm30 cd30 ct30 : Value} {f30 : Addr}
    {od31 an31 : Option Addr} {sl31 : Array (Option Value)} {oc31 kV31 dc31 pm31 cd31 ct31 : Value} {f31 : Addr}
    {od32 an32 : Option Addr} {sl32 : Array (Option Value)} {oc32 kV32 dc32 pm32 cd32 ct32 : Value} {f32 : Addr}
    {tk0 : Tok}
    {tk1 : Tok}
    {tk2 : Tok}
    {tk3 : Tok}
    {tk4 : Tok}
    {x0c : Addr}
    {x1c : Addr}
    {v0c : Addr}
    {v1c : Addr}
    {v2c : Addr}
    {v3c : Addr}
    (a0 : PySem.W.nsIn K mainGlobals "is_integer" = some (some (.ref f0)))
    (l0 : K.lookup f0 = some ⟨oc0, od0, .func (PySem.W.fnOf "is_integer" "is_integer" (defArgs s_is_integer) (defBody s_is_integer) (defScope s_is_integer) .none kV0 dc0 pm0 an0 cd0 ct0), sl0⟩)
    (c0 : PySem.W.codeIn K cd0 "is_integer" = true) (k0 : PySem.W.keepIn K (.ref f0) = true)
    (a1 : PySem.W.nsIn K mainGlobals "is_within" = some (some (.ref f1)))
    (l1 : K.lookup f1 = some ⟨oc1, od1, .func (PySem.W.fnOf "is_within" "is_within" (defArgs s_is_within) (defBody s_is_within) (defScope s_is_within) .none kV1 dc1 pm1 an1 cd1 ct1), sl1⟩)
    (c1 : PySem.W.codeIn K cd1 "is_within" = true) (k1 : PySem.W.keepIn K (.ref f1) = true)
    (a2 : PySem.W.nsIn K mainGlobals "is_job" = some (some (.ref f2)))
    (l2 : K.lookup f2 = some ⟨oc2, od2, .func (PySem.W.fnOf "is_job" "is_job" (defArgs s_is_job) (defBody s_is_job) (defScope s_is_job) .none kV2 dc2 pm2 an2 cd2 ct2), sl2⟩)
    (c2 : PySem.W.codeIn K cd2 "is_job" = true) (k2 : PySem.W.keepIn K (.ref f2) = true)
    (a3 : PySem.W.nsIn K mainGlobals "node_count" = some (some (.ref f3)))
    (l3 : K.lookup f3 = some ⟨oc3, od3, .func (PySem.W.fnOf "node_count" "node_count" (defArgs s_node_count) (defBody s_node_count) (defScope s_node_count) .none kV3 dc3 pm3 an3 cd3 ct3), sl3⟩)
    (c3 : PySem.W.codeIn K cd3 "node_count" = true) (k3 : PySem.W.keepIn K (.ref f3) = true)
    (a4 : PySem.W.nsIn K mainGlobals "step_count" = some (some (.ref f4)))
    (l4 : K.lookup f4 = some ⟨oc4, od4, .func (PySem.W.fnOf "step_count" "step_count" (defArgs s_step_count) (defBody s_step_count) (defScope s_step_count) .none kV4 dc4 pm4 an4 cd4 ct4), sl4⟩)
    (c4 : PySem.W.codeIn K cd4 "step_count" = true) (k4 : PySem.W.keepIn K (.ref f4) = true)
    (a5 : PySem.W.nsIn K mainGlobals "is_empty" = some (some (.ref f5)))
    (l5 : K.lookup f5 = some ⟨oc5, od5, .func (PySem.W.fnOf "is_empty" "is_empty" (defArgs s_is_empty) (defBody s_is_empty) (defScope s_is_empty) .none kV5 dc5 pm5 an5 cd5 ct5), sl5⟩)
    (c5 : PySem.W.codeIn K cd5 "is_empty" = true) (k5 : PySem.W.keepIn K (.ref f5) = true)
    (a6 : PySem.W.nsIn K mainGlobals "net" = some (some (.ref f6)))
    (l6 : K.lookup f6 = some ⟨oc6, od6, .func (PySem.W.fnOf "net" "net" (defArgs s_net) (defBody s_net) (defScope s_net) .none kV6 dc6 pm6 an6 cd6 ct6), sl6⟩)
    (c6 : PySem.W.codeIn K cd6 "net" = true) (k6 : PySem.W.keepIn K (.ref f6) = true)
    (a7 : PySem.W.nsIn K mainGlobals "lowest" = some (some (.ref f7)))
    (l7 : K.lookup f7 = some ⟨oc7, od7, .func (PySem.W.fnOf "lowest" "lowest" (defArgs s_lowest) (defBody s_lowest) (defScope s_lowest) .none kV7 dc7 pm7 an7 cd7 ct7), sl7⟩)
    (c7 : PySem.W.codeIn K cd7 "lowest" = true) (k7 : PySem.W.keepIn K (.ref f7) = true)
    (a8 : PySem.W.nsIn K mainGlobals "mirror" = some (some (.ref f8)))
    (l8 : K.lookup f8 = some ⟨oc8, od8, .func (PySem.W.fnOf "mirror" "mirror" (defArgs s_mirror) (defBody s_mirror) (defScope s_mirror) .none kV8 dc8 pm8 an8 cd8 ct8), sl8⟩)
    (c8 : PySem.W.codeIn K cd8 "mirror" = true) (k8 : PySem.W.keepIn K (.ref f8) = true)
    (a9 : PySem.W.nsIn K mainGlobals "tidy" = some (some (.ref f9)))
    (l9 : K.lookup f9 = some ⟨oc9, od9, .func (PySem.W.fnOf "tidy" "tidy" (defArgs s_tidy) (defBody s_tidy) (defScope s_tidy) .none kV9 dc9 pm9 an9 cd9 ct9), sl9⟩)
    (c9 : PySem.W.codeIn K cd9 "tidy" = true) (k9 : PySem.W.keepIn K (.ref f9) = true)
    (a10 : PySem.W.nsIn K mainGlobals "checked_sizes" = some (some (.ref f10)))
    (l10 : K.lookup f10 = some ⟨oc10, od10, .func (PySem.W.fnOf "checked_sizes" "checked_sizes" (defArgs s_checked_sizes) (defBody s_checked_sizes) (defScope s_checked_sizes) .none kV10 dc10 pm10 an10 cd10 ct10), sl10⟩)
    (c10 : PySem.W.codeIn K cd10 "checked_sizes" = true) (k10 : PySem.W.keepIn K (.ref f10) = true)
    (a11 : PySem.W.nsIn K mainGlobals "steps_of_leaf" = some (some (.ref f11)))
    (l11 : K.lookup f11 = some ⟨oc11, od11, .func (PySem.W.fnOf "steps_of_leaf" "steps_of_leaf" (defArgs s_steps_of_leaf) (defBody s_steps_of_leaf) (defScope s_steps_of_leaf) .none kV11 dc11 pm11 an11 cd11 ct11), sl11⟩)
    (c11 : PySem.W.codeIn K cd11 "steps_of_leaf" = true) (k11 : PySem.W.keepIn K (.ref f11) = true)
    (a12 : PySem.W.nsIn K mainGlobals "sizes_of" = some (some (.ref f12)))
    (l12 : K.lookup f12 = some ⟨oc12, od12, .func (PySem.W.fnOf "sizes_of" "sizes_of" (defArgs s_sizes_of) (defBody s_sizes_of) (defScope s_sizes_of) .none kV12 dc12 pm12 an12 cd12 ct12), sl12⟩)
    (c12 : PySem.W.codeIn K cd12 "sizes_of" = true) (k12 : PySem.W.keepIn K (.ref f12) = true)
    (a13 : PySem.W.nsIn K mainGlobals "_sizes" = some (some (.ref f13)))
    (l13 : K.lookup f13 = some ⟨oc13, od13, .func (PySem.W.fnOf "_sizes" "_sizes" (defArgs s__sizes) (defBody s__sizes) (defScope s__sizes) .none kV13 dc13 pm13 an13 cd13 ct13), sl13⟩)
    (c13 : PySem.W.codeIn K cd13 "_sizes" = true) (k13 : PySem.W.keepIn K (.ref f13) = true)
    (a14 : PySem.W.nsIn K mainGlobals "_sizes_of_parts" = some (some (.ref f14)))
    (l14 : K.lookup f14 = some ⟨oc14, od14, .func (PySem.W.fnOf "_sizes_of_parts" "_sizes_of_parts" (defArgs s__sizes_of_parts) (defBody s__sizes_of_parts) (defScope s__sizes_of_parts) .none kV14 dc14 pm14 an14 cd14 ct14), sl14⟩)
    (c14 : PySem.W.codeIn K cd14 "_sizes_of_parts" = true) (k14 : PySem.W.keepIn K (.ref f14) = true)
    (a15 : PySem.W.nsIn K mainGlobals "_sizes_of_rounds" = some (some (.ref f15)))
    (l15 : K.lookup f15 = some ⟨oc15, od15, .func (PySem.W.fnOf "_sizes_of_rounds" "_sizes_of_rounds" (defArgs s__sizes_of_rounds) (defBody s__sizes_of_rounds) (defScope s__sizes_of_rounds) .none kV15 dc15 pm15 an15 cd15 ct15), sl15⟩)
    (c15 : PySem.W.codeIn K cd15 "_sizes_of_rounds" = true) (k15 : PySem.W.keepIn K (.ref f15) = true)
    (a16 : PySem.W.nsIn K mainGlobals "_within_count" = some (some (.ref f16)))
    (l16 : K.lookup f16 = some ⟨oc16, od16, .func (PySem.W.fnOf "_within_count" "_within_count" (defArgs s__within_count) (defBody s__within_count) (defScope s__within_count) .none kV16 dc16 pm16 an16 cd16 ct16), sl16⟩)
    (c16 : PySem.W.codeIn K cd16 "_within_count" = true) (k16 : PySem.W.keepIn K (.ref f16) = true)
    (a17 : PySem.W.nsIn K mainGlobals "_net_and_lowest" = some (some (.ref f17)))
    (l17 : K.lookup f17 = some ⟨oc17, od17, .func (PySem.W.fnOf "_net_and_lowest" "_net_and_lowest" (defArgs s__net_and_lowest) (defBody s__net_and_lowest) (defScope s__net_and_lowest) .none kV17 dc17 pm17 an17 cd17 ct17), sl17⟩)
    (c17 : PySem.W.codeIn K cd17 "_net_and_lowest" = true) (k17 : PySem.W.keepIn K (.ref f17) = true)
    (a18 : PySem.W.nsIn K mainGlobals "_net_and_lowest_of_seq" = some (some (.ref f18)))
    (l18 : K.lookup f18 = some ⟨oc18, od18, .func (PySem.W.fnOf "_net_and_lowest_of_seq" "_net_and_lowest_of_seq" (defArgs s__net_and_lowest_of_seq) (defBody s__net_and_lowest_of_seq) (defScope s__net_and_lowest_of_seq) .none kV18 dc18 pm18 an18 cd18 ct18), sl18⟩)
    (c18 : PySem.W.codeIn K cd18 "_net_and_lowest_of_seq" = true) (k18 : PySem.W.keepIn K (.ref f18) = true)
    (a19 : PySem.W.nsIn K mainGlobals "mirrored" = some (some (.ref f19)))
    (l19 : K.lookup f19 = some ⟨oc19, od19, .func (PySem.W.fnOf "mirrored" "mirrored" (defArgs s_mirrored) (defBody s_mirrored) (defScope s_mirrored) .none kV19 dc19 pm19 an19 cd19 ct19), sl19⟩)
    (c19 : PySem.W.codeIn K cd19 "mirrored" = true) (k19 : PySem.W.keepIn K (.ref f19) = true)
    (a20 : PySem.W.nsIn K mainGlobals "tidied" = some (some (.ref f20)))
    (l20 : K.lookup f20 = some ⟨oc20, od20, .func (PySem.W.fnOf "tidied" "tidied" (defArgs s_tidied) (defBody s_tidied) (defScope s_tidied) .none kV20 dc20 pm20 an20 cd20 ct20), sl20⟩)
    (c20 : PySem.W.codeIn K cd20 "tidied" = true) (k20 : PySem.W.keepIn K (.ref f20) = true)
    (a21 : PySem.W.nsIn K mainGlobals "_tidied_parts" = some (some (.ref f21)))
    (l21 : K.lookup f21 = some ⟨oc21, od21, .func (PySem.W.fnOf "_tidied_parts" "_tidied_parts" (defArgs s__tidied_parts) (defBody s__tidied_parts) (defScope s__tidied_parts) .none kV21 dc21 pm21 an21 cd21 ct21), sl21⟩)
    (c21 : PySem.W.codeIn K cd21 "_tidied_parts" = true) (k21 : PySem.W.keepIn K (.ref f21) = true)
    (a22 : PySem.W.nsIn K mainGlobals "_grouped" = some (some (.ref f22)))
    (l22 : K.lookup f22 = some ⟨oc22, od22, .func (PySem.W.fnOf "_grouped" "_grouped" (defArgs s__grouped) (defBody s__grouped) (defScope s__grouped) .none kV22 dc22 pm22 an22 cd22 ct22), sl22⟩)
    (c22 : PySem.W.codeIn K cd22 "_grouped" = true) (k22 : PySem.W.keepIn K (.ref f22) = true)
    (a23 : PySem.W.nsIn K mainGlobals "_tidied_rounds" = some (some (.ref f23)))
    (l23 : K.lookup f23 = some ⟨oc23, od23, .func (PySem.W.fnOf "_tidied_rounds" "_tidied_rounds" (defArgs s__tidied_rounds) (defBody s__tidied_rounds) (defScope s__tidied_rounds) .none kV23 dc23 pm23 an23 cd23 ct23), sl23⟩)
    (c23 : PySem.W.codeIn K cd23 "_tidied_rounds" = true) (k23 : PySem.W.keepIn K (.ref f23) = true)
    (a24 : PySem.W.nsIn K mainGlobals "_has_kind" = some (some (.ref f24)))
    (l24 : K.lookup f24 = some ⟨oc24, od24, .func (PySem.W.fnOf "_has_kind" "_has_kind" (defArgs s__has_kind) (defBody s__has_kind) (defScope s__has_kind) .none kV24 dc24 pm24 an24 cd24 ct24), sl24⟩)
    (c24 : PySem.W.codeIn K cd24 "_has_kind" = true) (k24 : PySem.W.keepIn K (.ref f24) = true)
    (a25 : PySem.W.nsIn K mainGlobals "_law_pot" = some (some (.ref f25)))
    (l25 : K.lookup f25 = some ⟨oc25, od25, .func (PySem.W.fnOf "_law_pot" "_law_pot" (defArgs s__law_pot) (defBody s__law_pot) (defScope s__law_pot) .none kV25 dc25 pm25 an25 cd25 ct25), sl25⟩)
    (c25 : PySem.W.codeIn K cd25 "_law_pot" = true) (k25 : PySem.W.keepIn K (.ref f25) = true)
    (a26 : PySem.W.nsIn K mainGlobals "_law_take" = some (some (.ref f26)))
    (l26 : K.lookup f26 = some ⟨oc26, od26, .func (PySem.W.fnOf "_law_take" "_law_take" (defArgs s__law_take) (defBody s__law_take) (defScope s__law_take) .none kV26 dc26 pm26 an26 cd26 ct26), sl26⟩)
    (c26 : PySem.W.codeIn K cd26 "_law_take" = true) (k26 : PySem.W.keepIn K (.ref f26) = true)
    (a27 : PySem.W.nsIn K mainGlobals "_law_step" = some (some (.ref f27)))
    (l27 : K.lookup f27 = some ⟨oc27, od27, .func (PySem.W.fnOf "_law_step" "_law_step" (defArgs s__law_step) (defBody s__law_step) (defScope s__law_step) .none kV27 dc27 pm27 an27 cd27 ct27), sl27⟩)
    (c27 : PySem.W.codeIn K cd27 "_law_step" = true) (k27 : PySem.W.keepIn K (.ref f27) = true)
    (a28 : PySem.W.nsIn K mainGlobals "_law_job" = some (some (.ref f28)))
    (l28 : K.lookup f28 = some ⟨oc28, od28, .func (PySem.W.fnOf "_law_job" "_law_job" (defArgs s__law_job) (defBody s__law_job) (defScope s__law_job) .none kV28 dc28 pm28 an28 cd28 ct28), sl28⟩)
    (c28 : PySem.W.codeIn K cd28 "_law_job" = true) (k28 : PySem.W.keepIn K (.ref f28) = true)
    (a29 : PySem.W.nsIn K mainGlobals "_law_bent" = some (some (.ref f29)))
    (l29 : K.lookup f29 = some ⟨oc29, od29, .func (PySem.W.fnOf "_law_bent" "_law_bent" (defArgs s__law_bent) (defBody s__law_bent) (defScope s__law_bent) .none kV29 dc29 pm29 an29 cd29 ct29), sl29⟩)
    (c29 : PySem.W.codeIn K cd29 "_law_bent" = true) (k29 : PySem.W.keepIn K (.ref f29) = true)
    (a30 : PySem.W.nsIn K mainGlobals "_law_word" = some (some (.ref f30)))
    (l30 : K.lookup f30 = some ⟨oc30, od30, .func (PySem.W.fnOf "_law_word" "_law_word" (defArgs s__law_word) (defBody s__law_word) (defScope s__law_word) .none kV30 dc30 pm30 an30 cd30 ct30), sl30⟩)
    (c30 : PySem.W.codeIn K cd30 "_law_word" = true) (k30 : PySem.W.keepIn K (.ref f30) = true)
    (a31 : PySem.W.nsIn K mainGlobals "_law_told" = some (some (.ref f31)))
    (l31 : K.lookup f31 = some ⟨oc31, od31, .func (PySem.W.fnOf "_law_told" "_law_told" (defArgs s__law_told) (defBody s__law_told) (defScope s__law_told) .none kV31 dc31 pm31 an31 cd31 ct31), sl31⟩)
    (c31 : PySem.W.codeIn K cd31 "_law_told" = true) (k31 : PySem.W.keepIn K (.ref f31) = true)
    (a32 : PySem.W.nsIn K mainGlobals "law" = some (some (.ref f32)))
    (l32 : K.lookup f32 = some ⟨oc32, od32, .func (PySem.W.fnOf "law" "law" (defArgs s_law) (defBody s_law) (defScope s_law) .none kV32 dc32 pm32 an32 cd32 ct32), sl32⟩)
    (c32 : PySem.W.codeIn K cd32 "law" = true) (k32 : PySem.W.keepIn K (.ref f32) = true)
    (gc0 : PySem.W.nsIn K mainGlobals "MAX_STEP" = some (some (.int 1000000000000000000000000000000 tk0)))
    (gc1 : PySem.W.nsIn K mainGlobals "MAX_COUNT" = some (some (.int 1000000000000000000000000000000 tk1)))
    (gc2 : PySem.W.nsIn K mainGlobals "MAX_PARTS" = some (some (.int 400 tk2)))
    (gc3 : PySem.W.nsIn K mainGlobals "MAX_NODES" = some (some (.int 400 tk3)))
    (gc4 : PySem.W.nsIn K mainGlobals "MAX_DEPTH" = some (some (.int 13 tk4)))
    (x0g : PySem.W.nsIn K mainGlobals "InvalidJob" = some (some (.ref x0c))) (x0x : PySem.W.excIn K x0c [.type "ValueError", .type "Exception", .type "BaseException", .type "object"] "ValueError.__new__" = true) (x0k : PySem.W.keepIn K (.ref x0c) = true) (x0b : PySem.W.subIn K (.ref x0c) (.type "BaseException") = some true) (x0t : PySem.W.typeIn K (.ref x0c) = some (.type "type")) (x0i : PySem.W.isClsIn K x0c = true)
    (x1g : PySem.W.nsIn K mainGlobals "JobError" = some (some (.ref x1c))) (x1x : PySem.W.excIn K x1c [.type "ValueError", .type "Exception", .type "BaseException", .type "object"] "ValueError.__new__" = true) (x1k : PySem.W.keepIn K (.ref x1c) = true) (x1b : PySem.W.subIn K (.ref x1c) (.type "BaseException") = some true) (x1t : PySem.W.typeIn K (.ref x1c) = some (.type "type")) (x1i : PySem.W.isClsIn K x1c = true)
    (y0_1 : PySem.W.subIn K (.ref x0c) (.ref x1c) = some true)
    (v0g : PySem.W.nsIn K mainGlobals "InvalidAddress" = some (some (.ref v0c))) (v0i : PySem.W.isClsIn K v0c = true) (v0t : PySem.W.typeIn K (.ref v0c) = some (.type "type"))
    (v1g : PySem.W.nsIn K mainGlobals "InvalidState" = some (some (.ref v1c))) (v1i : PySem.W.isClsIn K v1c = true) (v1t : PySem.W.typeIn K (.ref v1c) = some (.type "type"))
    (v2g : PySem.W.nsIn K mainGlobals "InvalidNumber" = some (some (.ref v2c))) (v2i : PySem.W.isClsIn K v2c = true) (v2t : PySem.W.typeIn K (.ref v2c) = some (.type "type"))
    (v3g : PySem.W.nsIn K mainGlobals "TooMany" = some (some (.ref v3c))) (v3i : PySem.W.isClsIn K v3c = true) (v3t : PySem.W.typeIn K (.ref v3c) = some (.type "type"))
    (r0hg : PySem.W.findIn K (.ref x0c) "__getattribute__" = some (some (.builtin "BaseException.__getattribute__")))
    (r0hk : PySem.W.findIn K (.ref x0c) "__getattr__" = some none)
    (r0hs : PySem.W.subIn K (.ref x0c) (.type "BaseException") = some true)
    (r0hd : PySem.W.hasDictIn K x0c = true)
    (r0ha : PySem.W.findIn K (.ref x0c) "__class__" = some (some (.builtin "object.__class__")))
    (r0hn : PySem.W.specialIn K (.builtin "object.__class__") "__get__" = some (some (.builtin "getset_descriptor.__get__")))
    (r0ht : PySem.W.takesIn K (.builtin "object.__class__") = some true)
    (r0hm : PySem.W.mroIn K x0c (.type "object") = some true)
    (q0 : PySem.W.subIn K (.ref x0c) (.ref x0c) = some true)
    (q1 : PySem.W.subIn K (.ref x0c) (.ref v0c) = some false)
    (q2 : PySem.W.subIn K (.ref x0c) (.ref v1c) = some false)
    (q3 : PySem.W.subIn K (.ref x0c) (.ref v2c) = some false)
    (q4 : PySem.W.subIn K (.ref x0c) (.ref v3c) = some false)
    (q5 : PySem.W.subIn K (.ref x0c) (.ref x1c) = some true)
    (z0 : PySem.W.nsIn K mainGlobals "abs" = some none)
    (z1 : PySem.W.nsIn K mainGlobals "bool" = some none)
    (z2 : PySem.W.nsIn K mainGlobals "int" = some none)
    (z3 : PySem.W.nsIn K mainGlobals "isinstance" = some none)
    (z4 : PySem.W.nsIn K mainGlobals "len" = some none)
    (z5 : PySem.W.nsIn K mainGlobals "list" = some none)
    (z6 : PySem.W.nsIn K mainGlobals "max" = some none)
    (z7 : PySem.W.nsIn K mainGlobals "min" = some none)
    (z8 : PySem.W.nsIn K mainGlobals "range" = some none)
    (z9 : PySem.W.nsIn K mainGlobals "repr" = some none)
    (z10 : PySem.W.nsIn K mainGlobals "sum" = some none)
    (z11 : PySem.W.nsIn K mainGlobals "tuple" = some none)
    (z12 : PySem.W.nsIn K mainGlobals "zip" = some none) :
    ∃ fd : FuncData, (∀ (s : Shared) (v : Value), BindsTo s fd ⟨[v], []⟩ [("_law_script", v)]) ∧ ∀ base : Heap, K.In base → base.Ns mainGlobals mg → Rp.Sys base → FnG l.prog w K mg base CX0 60 fa fd ["_law_script"] (spLaw K) := by
  have e := hfa.symm.trans (PySem.W.mg_of X G a32)
  cases e
  have T : Txt K mg := by
    have F0 := fun_mk (st := s_is_integer) l0 c0 k0
    have F1 := fun_mk (st := s_is_within) l1 c1 k1
    have F2 := fun_mk (st := s_is_job) l2 c2 k2
    have F3 := fun_mk (st := s_node_count) l3 c3 k3
    have F4 := fun_mk (st := s_step_count) l4 c4 k4
    have F5 := fun_mk (st := s_is_empty) l5 c5 k5
    have F6 := fun_mk (st := s_net) l6 c6 k6
    have F7 := fun_mk (st := s_lowest) l7 c7 k7
    have F8 := fun_mk (st := s_mirror) l8 c8 k8
    have F9 := fun_mk (st := s_tidy) l9 c9 k9
    have F10 := fun_mk (st := s_checked_sizes) l10 c10 k10
    have F11 := fun_mk (st := s_steps_of_leaf) l11 c11 k11
    have F12 := fun_mk (st := s_sizes_of) l12 c12 k12
    have F13 := fun_mk (st := s__sizes) l13 c13 k13
    have F14 := fun_mk (st := s__sizes_of_parts) l14 c14 k14
    have F15 := fun_mk (st := s__sizes_of_rounds) l15 c15 k15
    have F16 := fun_mk (st := s__within_count) l16 c16 k16
    have F17 := fun_mk (st := s__net_and_lowest) l17 c17 k17
    have F18 := fun_mk (st := s__net_and_lowest_of_seq) l18 c18 k18
    have F19 := fun_mk (st := s_mirrored) l19 c19 k19
    have F20 := fun_mk (st := s_tidied) l20 c20 k20
    have F21 := fun_mk (st := s__tidied_parts) l21 c21 k21
    have F22 := fun_mk (st := s__grouped) l22 c22 k22
    have F23 := fun_mk (st := s__tidied_rounds) l23 c23 k23
    have F24 := fun_mk (st := s__has_kind) l24 c24 k24
    have F25 := fun_mk (st := s__law_pot) l25 c25 k25
    have F26 := fun_mk (st := s__law_take) l26 c26 k26
    have F27 := fun_mk (st := s__law_step) l27 c27 k27
    have F28 := fun_mk (st := s__law_job) l28 c28 k28
    have F29 := fun_mk (st := s__law_bent) l29 c29 k29
    have F30 := fun_mk (st := s__law_word) l30 c30 k30
    have F31 := fun_mk (st := s__law_told) l31 c31 k31
    have B0 := F0.binds (ps := ["value"]) fun _ _ _ _ _ _ us hl => match us, hl with | [_], _ => rfl
    have B1 := F1.binds (ps := ["value", "least", "greatest"]) fun _ _ _ _ _ _ us hl => match us, hl with | [_, _, _], _ => rfl
    have B2 := F2.binds (ps := ["value"]) fun _ _ _ _ _ _ us hl => match us, hl with | [_], _ => rfl
    have B3 := F3.binds (ps := ["job"]) fun _ _ _ _ _ _ us hl => match us, hl with | [_], _ => rfl
    have B4 := F4.binds (ps := ["job"]) fun _ _ _ _ _ _ us hl => match us, hl with | [_], _ => rfl
    have B5 := F5.binds (ps := ["job"]) fun _ _ _ _ _ _ us hl => match us, hl with | [_], _ => rfl
    have B6 := F6.binds (ps := ["job"]) fun _ _ _ _ _ _ us hl => match us, hl with | [_], _ => rfl
    have B7 := F7.binds (ps := ["job"]) fun _ _ _ _ _ _ us hl => match us, hl with | [_], _ => rfl
    have B8 := F8.binds (ps := ["job"]) fun _ _ _ _ _ _ us hl => match us, hl with | [_], _ => rfl
    have B9 := F9.binds (ps := ["job"]) fun _ _ _ _ _ _ us hl => match us, hl with | [_], _ => rfl
    have B10 := F10.binds (ps := ["job"]) fun _ _ _ _ _ _ us hl => match us, hl with | [_], _ => rfl
    have B11 := F11.binds (ps := ["value"]) fun _ _ _ _ _ _ us hl => match us, hl with | [_], _ => rfl
    have B12 := F12.binds (ps := ["value", "leaf_steps"]) fun _ _ _ _ _ _ us hl => match us, hl with | [_, _], _ => rfl
    have B13 := F13.binds (ps := ["value", "leaf_steps", "room", "levels"]) fun _ _ _ _ _ _ us hl => match us, hl with | [_, _, _, _], _ => rfl
    have B14 := F14.binds (ps := ["parts", "leaf_steps", "room", "levels"]) fun _ _ _ _ _ _ us hl => match us, hl with | [_, _, _, _], _ => rfl
    have B15 := F15.binds (ps := ["n", "inner", "leaf_steps", "room", "levels"]) fun _ _ _ _ _ _ us hl => match us, hl with | [_, _, _, _, _], _ => rfl
    have B16 := F16.binds (ps := ["nodes", "steps"]) fun _ _ _ _ _ _ us hl => match us, hl with | [_, _], _ => rfl
    have B17 := F17.binds (ps := ["job"]) fun _ _ _ _ _ _ us hl => match us, hl with | [_], _ => rfl
    have B18 := F18.binds (ps := ["parts"]) fun _ _ _ _ _ _ us hl => match us, hl with | [_], _ => rfl
    have B19 := F19.binds (ps := ["job"]) fun _ _ _ _ _ _ us hl => match us, hl with | [_], _ => rfl
    have B20 := F20.binds (ps := ["job"]) fun _ _ _ _ _ _ us hl => match us, hl with | [_], _ => rfl
    have B21 := F21.binds (ps := ["kind", "tidy_parts"]) fun _ _ _ _ _ _ us hl => match us, hl with | [_, _], _ => rfl
    have B22 := F22.binds (ps := ["parts"]) fun _ _ _ _ _ _ us hl => match us, hl with | [_], _ => rfl
    have B23 := F23.binds (ps := ["kind", "n", "inner"]) fun _ _ _ _ _ _ us hl => match us, hl with | [_, _, _], _ => rfl
    have B24 := F24.binds (ps := ["job", "kind"]) fun _ _ _ _ _ _ us hl => match us, hl with | [_, _], _ => rfl
    have B25 := F25.binds (ps := ["_law_script", "_law_k"]) fun _ _ _ _ _ _ us hl => match us, hl with | [_, _], _ => rfl
    have B26 := F26.binds (ps := ["_law_pot_here", "_law_many"]) fun _ _ _ _ _ _ us hl => match us, hl with | [_, _], _ => rfl
    have B27 := F27.binds (ps := ["_law_pot_here"]) fun _ _ _ _ _ _ us hl => match us, hl with | [_], _ => rfl
    have B28 := F28.binds (ps := ["_law_pot_here", "_law_deep", "_law_counts"]) fun _ _ _ _ _ _ us hl => match us, hl with | [_, _, _], _ => rfl
    have B29 := F29.binds (ps := ["_law_pot_here", "_law_job_here", "_law_deep"]) fun _ _ _ _ _ _ us hl => match us, hl with | [_, _, _], _ => rfl
    have B30 := F30.binds (ps := ["_law_caught"]) fun _ _ _ _ _ _ us hl => match us, hl with | [_], _ => rfl
    have B31 := F31.binds (ps := ["_law_way", "_law_value"]) fun _ _ _ _ _ _ us hl => match us, hl with | [_, _], _ => rfl
    exact {
      f_is_integer := f0, d_is_integer := _, F_is_integer := F0, b_is_integer := B0, m_is_integer := PySem.W.mg_of X G a0,
      f_is_within := f1, d_is_within := _, F_is_within := F1, b_is_within := B1, m_is_within := PySem.W.mg_of X G a1,
      f_is_job := f2, d_is_job := _, F_is_job := F2, b_is_job := B2, m_is_job := PySem.W.mg_of X G a2,
      f_node_count := f3, d_node_count := _, F_node_count := F3, b_node_count := B3, m_node_count := PySem.W.mg_of X G a3,
      f_step_count := f4, d_step_count := _, F_step_count := F4, b_step_count := B4, m_step_count := PySem.W.mg_of X G a4,
      f_is_empty := f5, d_is_empty := _, F_is_empty := F5, b_is_empty := B5, m_is_empty := PySem.W.mg_of X G a5,
      f_net := f6, d_net := _, F_net := F6, b_net := B6, m_net := PySem.W.mg_of X G a6,
      f_lowest := f7, d_lowest := _, F_lowest := F7, b_lowest := B7, m_lowest := PySem.W.mg_of X G a7,
      f_mirror := f8, d_mirror := _, F_mirror := F8, b_mirror := B8, m_mirror := PySem.W.mg_of X G a8,
      f_tidy := f9, d_tidy := _, F_tidy := F9, b_tidy := B9, m_tidy := PySem.W.mg_of X G a9,
      f_checked_sizes := f10, d_checked_sizes := _, F_checked_sizes := F10, b_checked_sizes := B10, m_checked_sizes := PySem.W.mg_of X G a10,
      f_steps_of_leaf := f11, d_steps_of_leaf := _, F_steps_of_leaf := F11, b_steps_of_leaf := B11, m_steps_of_leaf := PySem.W.mg_of X G a11,
      f_sizes_of := f12, d_sizes_of := _, F_sizes_of := F12, b_sizes_of := B12, m_sizes_of := PySem.W.mg_of X G a12,
      f__sizes := f13, d__sizes := _, F__sizes := F13, b__sizes := B13, m__sizes := PySem.W.mg_of X G a13,
      f__sizes_of_parts := f14, d__sizes_of_parts := _, F__sizes_of_parts := F14, b__sizes_of_parts := B14, m__sizes_of_parts := PySem.W.mg_of X G a14,
      f__sizes_of_rounds := f15, d__sizes_of_rounds := _, F__sizes_of_rounds := F15, b__sizes_of_rounds := B15, m__sizes_of_rounds := PySem.W.mg_of X G a15,
      f__within_count := f16, d__within_count := _, F__within_count := F16, b__within_count := B16, m__within_count := PySem.W.mg_of X G a16,
      f__net_and_lowest := f17, d__net_and_lowest := _, F__net_and_lowest := F17, b__net_and_lowest := B17, m__net_and_lowest := PySem.W.mg_of X G a17,
      f__net_and_lowest_of_seq := f18, d__net_and_lowest_of_seq := _, F__net_and_lowest_of_seq := F18, b__net_and_lowest_of_seq := B18, m__net_and_lowest_of_seq := PySem.W.mg_of X G a18,
      f_mirrored := f19, d_mirrored := _, F_mirrored := F19, b_mirrored := B19, m_mirrored := PySem.W.mg_of X G a19,
      f_tidied := f20, d_tidied := _, F_tidied := F20, b_tidied := B20, m_tidied := PySem.W.mg_of X G a20,
      f__tidied_parts := f21, d__tidied_parts := _, F__tidied_parts := F21, b__tidied_parts := B21, m__tidied_parts := PySem.W.mg_of X G a21,
      f__grouped := f22, d__grouped := _, F__grouped := F22, b__grouped := B22, m__grouped := PySem.W.mg_of X G a22,
      f__tidied_rounds := f23, d__tidied_rounds := _, F__tidied_rounds := F23, b__tidied_rounds := B23, m__tidied_rounds := PySem.W.mg_of X G a23,
      f__has_kind := f24, d__has_kind := _, F__has_kind := F24, b__has_kind := B24, m__has_kind := PySem.W.mg_of X G a24,
      f__law_pot := f25, d__law_pot := _, F__law_pot := F25, b__law_pot := B25, m__law_pot := PySem.W.mg_of X G a25,
      f__law_take := f26, d__law_take := _, F__law_take := F26, b__law_take := B26, m__law_take := PySem.W.mg_of X G a26,
      f__law_step := f27, d__law_step := _, F__law_step := F27, b__law_step := B27, m__law_step := PySem.W.mg_of X G a27,
      f__law_job := f28, d__law_job := _, F__law_job := F28, b__law_job := B28, m__law_job := PySem.W.mg_of X G a28,
      f__law_bent := f29, d__law_bent := _, F__law_bent := F29, b__law_bent := B29, m__law_bent := PySem.W.mg_of X G a29,
      f__law_word := f30, d__law_word := _, F__law_word := F30, b__law_word := B30, m__law_word := PySem.W.mg_of X G a30,
      f__law_told := f31, d__law_told := _, F__law_told := F31, b__law_told := B31, m__law_told := PySem.W.mg_of X G a31,
      t_MAX_STEP := tk0, g_MAX_STEP := PySem.W.mg_of X G gc0,
      t_MAX_COUNT := tk1, g_MAX_COUNT := PySem.W.mg_of X G gc1,
      t_MAX_PARTS := tk2, g_MAX_PARTS := PySem.W.mg_of X G gc2,
      t_MAX_NODES := tk3, g_MAX_NODES := PySem.W.mg_of X G gc3,
      t_MAX_DEPTH := tk4, g_MAX_DEPTH := PySem.W.mg_of X G gc4,
      c_InvalidJob := x0c, g_InvalidJob := PySem.W.mg_of X G x0g, x_InvalidJob := x0x, k_InvalidJob := x0k, bb_InvalidJob := x0b, tt_InvalidJob := x0t,
      c_JobError := x1c, g_JobError := PySem.W.mg_of X G x1g, x_JobError := x1x, k_JobError := x1k, bb_JobError := x1b, tt_JobError := x1t,
      e_InvalidJob_JobError := exm_sub x1b x1i x1t y0_1,
      c_InvalidAddress := v0c, g_InvalidAddress := PySem.W.mg_of X G v0g,
      c_InvalidState := v1c, g_InvalidState := PySem.W.mg_of X G v1g,
      c_InvalidNumber := v2c, g_InvalidNumber := PySem.W.mg_of X G v2g,
      c_TooMany := v3c, g_TooMany := PySem.W.mg_of X G v3g,
      xc_InvalidJob := ⟨r0hg, r0hk, r0hs, r0hd, r0ha, r0hn, r0ht, r0hm⟩,
      q_InvalidJob_InvalidJob := kit_of q0 q0 x0i x0t,
      q_InvalidJob_InvalidAddress := kit_of q1 q0 v0i v0t,
      q_InvalidJob_InvalidState := kit_of q2 q0 v1i v1t,
      q_InvalidJob_InvalidNumber := kit_of q3 q0 v2i v2t,
      q_InvalidJob_TooMany := kit_of q4 q0 v3i v3t,
      q_InvalidJob_JobError := kit_of q5 q0 x1i x1t,
      n_abs := PySem.W.mg_none_of X G z0,
      n_bool := PySem.W.mg_none_of X G z1,
      n_int := PySem.W.mg_none_of X G z2,
      n_isinstance := PySem.W.mg_none_of X G z3,
      n_len := PySem.W.mg_none_of X G z4,
      n_list := PySem.W.mg_none_of X G z5,
      n_max := PySem.W.mg_none_of X G z6,
      n_min := PySem.W.mg_none_of X G z7,
      n_range := PySem.W.mg_none_of X G z8,
      n_repr := PySem.W.mg_none_of X G z9,
      n_sum := PySem.W.mg_none_of X G z10,
      n_tuple := PySem.W.mg_none_of X G z11,
      n_zip := PySem.W.mg_none_of X G z12 }
  exact ⟨PySem.W.fnOf "law" "law" (defArgs s_law) (defBody s_law) (defScope s_law) .none kV32 dc32 pm32 an32 cd32 ct32, fun s v => .of_eq rfl, fun base _ _ hs => ok_law (fun_mk (st := s_law) l32 c32 k32) T hs⟩
end Lw

open PySem PySem.W PyProof.Rows
set_option maxRecDepth 100000 in
set_option maxHeartbeats 0 in
theorem PySem.Challenge.cw_roomprofile_k06_jobs_refused_holds : PySem.Challenge.rw_roomprofile_k06_jobs_refused.Holds := by
  w_on; o_law; k_head; (case hw => w_witness2)
  k_fill
  refine Rp.law_endS (l := PySem.Challenge.rw_roomprofile_k06_jobs_refused) (n := 63) (k := 60) (x := "_law_script") (sp := Lw.spLaw) rfl (by decide) rfl ⟨rfl, by decide, by decide⟩ (by rfl) (fun w h Y => PySem.W.kIn_of Y) ?F (fun K H a ns hl hO hS => ⟨a, ns, rfl, hO, hS, hl, fun _ => rfl⟩)
  case F =>
    intro w mg fa h KX G hmg
    refine' Lw.all_mk KX G hmg ?a0 ?l0 ?c0 ?k0 ?a1 ?l1 ?c1 ?k1 ?a2 ?l2 ?c2 ?k2 ?a3 ?l3 ?c3 ?k3 ?a4 ?l4 ?c4 ?k4 ?a5 ?l5 ?c5 ?k5 ?a6 ?l6 ?c6 ?k6 ?a7 ?l7 ?c7 ?k7 ?a8 ?l8 ?c8 ?k8 ?a9 ?l9 ?c9 ?k9 ?a10 ?l10 ?c10 ?k10 ?a11 ?l11 ?c11 ?k11 ?a12 ?l12 ?c12 ?k12 ?a13 ?l13 ?c13 ?k13 ?a14 ?l14 ?c14 ?k14 ?a15 ?l15 ?c15 ?k15 ?a16 ?l16 ?c16 ?k16 ?a17 ?l17 ?c17 ?k17 ?a18 ?l18 ?c18 ?k18 ?a19 ?l19 ?c19 ?k19 ?a20 ?l20 ?c20 ?k20 ?a21 ?l21 ?c21 ?k21 ?a22 ?l22 ?c22 ?k22 ?a23 ?l23 ?c23 ?k23 ?a24 ?l24 ?c24 ?k24 ?a25 ?l25 ?c25 ?k25 ?a26 ?l26 ?c26 ?k26 ?a27 ?l27 ?c27 ?k27 ?a28 ?l28 ?c28 ?k28 ?a29 ?l29 ?c29 ?k29 ?a30 ?l30 ?c30 ?k30 ?a31 ?l31 ?c31 ?k31 ?a32 ?l32 ?c32 ?k32 ?gc0 ?gc1 ?gc2 ?gc3 ?gc4 ?x0g ?x0x ?x0k ?x0b ?x0t ?x0i ?x1g ?x1x ?x1k ?x1b ?x1t ?x1i ?y0_1 ?v0g ?v0i ?v0t ?v1g ?v1i ?v1t ?v2g ?v2i ?v2t ?v3g ?v3i ?v3t ?r0hg ?r0hk ?r0hs ?r0hd ?r0ha ?r0hn ?r0ht ?r0hm ?q0 ?q1 ?q2 ?q3 ?q4 ?q5 ?z0 ?z1 ?z2 ?z3 ?z4 ?z5 ?z6 ?z7 ?z8 ?z9 ?z10 ?z11 ?z12
    (case a0 => k_is)
    (case l0 => k_is)
    (case c0 => k_is)
    (case k0 => k_is)
    (case a1 => k_is)
    (case l1 => k_is)
    (case c1 => k_is)
    (case k1 => k_is)
    (case a2 => k_is)
    (case l2 => k_is)
    (case c2 => k_is)
    (case k2 => k_is)
    (case a3 => k_is)
    (case l3 => k_is)
    (case c3 => k_is)
    (case k3 => k_is)
    (case a4 => k_is)
    (case l4 => k_is)
    (case c4 => k_is)
    (case k4 => k_is)
    (case a5 => k_is)
    (case l5 => k_is)
    (case c5 => k_is)
    (case k5 => k_is)
    (case a6 => k_is)
    (case l6 => k_is)
    (case c6 => k_is)
    (case k6 => k_is)
    (case a7 => k_is)
    (case l7 => k_is)
    (case c7 => k_is)
    (case k7 => k_is)
    (case a8 => k_is)
    (case l8 => k_is)
    (case c8 => k_is)
    (case k8 => k_is)
    (case a9 => k_is)
    (case l9 => k_is)
    (case c9 => k_is)
    (case k9 => k_is)
    (case a10 => k_is)
    (case l10 => k_is)
    (case c10 => k_is)
    (case k10 => k_is)
    (case a11 => k_is)
    (case l11 => k_is)
    (case c11 => k_is)
    (case k11 => k_is)
    (case a12 => k_is)
    (case l12 => k_is)
    (case c12 => k_is)
    (case k12 => k_is)
    (case a13 => k_is)
    (case l13 => k_is)
    (case c13 => k_is)
    (case k13 => k_is)
    (case a14 => k_is)
    (case l14 => k_is)
    (case c14 => k_is)
    (case k14 => k_is)
    (case a15 => k_is)
    (case l15 => k_is)
    (case c15 => k_is)
    (case k15 => k_is)
    (case a16 => k_is)
    (case l16 => k_is)
    (case c16 => k_is)
    (case k16 => k_is)
    (case a17 => k_is)
    (case l17 => k_is)
    (case c17 => k_is)
    (case k17 => k_is)
    (case a18 => k_is)
    (case l18 => k_is)
    (case c18 => k_is)
    (case k18 => k_is)
    (case a19 => k_is)
    (case l19 => k_is)
    (case c19 => k_is)
    (case k19 => k_is)
    (case a20 => k_is)
    (case l20 => k_is)
    (case c20 => k_is)
    (case k20 => k_is)
    (case a21 => k_is)
    (case l21 => k_is)
    (case c21 => k_is)
    (case k21 => k_is)
    (case a22 => k_is)
    (case l22 => k_is)
    (case c22 => k_is)
    (case k22 => k_is)
    (case a23 => k_is)
    (case l23 => k_is)
    (case c23 => k_is)
    (case k23 => k_is)
    (case a24 => k_is)
    (case l24 => k_is)
    (case c24 => k_is)
    (case k24 => k_is)
    (case a25 => k_is)
    (case l25 => k_is)
    (case c25 => k_is)
    (case k25 => k_is)
    (case a26 => k_is)
    (case l26 => k_is)
    (case c26 => k_is)
    (case k26 => k_is)
    (case a27 => k_is)
    (case l27 => k_is)
    (case c27 => k_is)
    (case k27 => k_is)
    (case a28 => k_is)
    (case l28 => k_is)
    (case c28 => k_is)
    (case k28 => k_is)
    (case a29 => k_is)
    (case l29 => k_is)
    (case c29 => k_is)
    (case k29 => k_is)
    (case a30 => k_is)
    (case l30 => k_is)
    (case c30 => k_is)
    (case k30 => k_is)
    (case a31 => k_is)
    (case l31 => k_is)
    (case c31 => k_is)
    (case k31 => k_is)
    (case a32 => k_is)
    (case l32 => k_is)
    (case c32 => k_is)
    (case k32 => k_is)
    (case gc0 => k_is)
    (case gc1 => k_is)
    (case gc2 => k_is)
    (case gc3 => k_is)
    (case gc4 => k_is)
    (case x0g => k_is)
    (case x0x => k_exc)
    (case x0k => k_is)
    (case x0b => k_is)
    (case x0t => k_is)
    (case x0i => k_is)
    (case x1g => k_is)
    (case x1x => k_exc)
    (case x1k => k_is)
    (case x1b => k_is)
    (case x1t => k_is)
    (case x1i => k_is)
    (case y0_1 => first | rfl | k_is)
    (case v0g => k_is)
    (case v0i => k_is)
    (case v0t => k_is)
    (case v1g => k_is)
    (case v1i => k_is)
    (case v1t => k_is)
    (case v2g => k_is)
    (case v2i => k_is)
    (case v2t => k_is)
    (case v3g => k_is)
    (case v3i => k_is)
    (case v3t => k_is)
    (case r0hg => k_is)
    (case r0hk => k_is)
    (case r0hs => k_is)
    (case r0hd => k_is)
    (case r0ha => k_is)
    (case r0hn => k_is)
    (case r0ht => k_is)
    (case r0hm => k_is)
    (case q0 => first | rfl | k_is)
    (case q1 => first | rfl | k_is)
    (case q2 => first | rfl | k_is)
    (case q3 => first | rfl | k_is)
    (case q4 => first | rfl | k_is)
    (case q5 => first | rfl | k_is)
    (case z0 => k_is)
    (case z1 => k_is)
    (case z2 => k_is)
    (case z3 => k_is)
    (case z4 => k_is)
    (case z5 => k_is)
    (case z6 => k_is)
    (case z7 => k_is)
    (case z8 => k_is)
    (case z9 => k_is)
    (case z10 => k_is)
    (case z11 => k_is)
    (case z12 => k_is)
