import PyProof.Rows.All
import Wide.All
import OpenK.AllK
import Wide.FinOn
import HandS.ForMost
import HandS.IsInst
import HandS.TupAny
import HandS.Wide
import HandS.Codes
import HandS.Style
import PyProof.ReprRoads
import PyProof.ReprLen
import PyProof.ReprBulk
import PyProof.FitsInt
import HandS.Defaults
import HandS.MakeKwOnly
import HandS.TryOnly
import HandS.ForExc
import HandS.TryMany
import HandS.Zip
import HandS.Walk
import HandS.TupSets
import HandS.NamedTupSort
import HandS.SortOrd
import HandS.SortRule
import PyProof.TupleOfSeq
import HandS.Strs
import HandS.ExcIs
import HandS.ExcField
import HandS.HotCalls
import HandS.SetFor
import HandS.ExcInit
import KE.KExcInit
import KE.KExcIs
import PyProof.AutoSeq1
import HandS.TupMul
import PyProof.MaxThree
import HandS.Rev
import HandS.Lambda
import KE.KNest
import HandS.Deep
import HandS.CallLocal
import KE.KExcLine
import HandS.Star
import PySem.Challenge.RW_roomprofile_k21_least_of_two_valleys
set_option Elab.async false
set_option linter.all false
set_option maxRecDepth 100000
set_option maxHeartbeats 4000000
/-! Rp: what the proofs of the laws over roomprofile share: powers, data, repr, isinstance, heaps. -/
namespace Rp
open PySem L2

/-! ### powers of great ints -/
def CPowW (i j : Int) : Prop := 0 ≤ j ∧ (Builtin.Int.intBits i : Int) * j ≤ 2 ^ 27
theorem bits_le {i : Int} {b : Nat} (hi : i.natAbs < 2 ^ b) : Builtin.Int.intBits i ≤ b := by
  unfold Builtin.Int.intBits
  split
  · exact Nat.zero_le _
  · rename_i hne
    have h0 : i.natAbs ≠ 0 := by
      intro z
      apply hne
      have : i = 0 := by omega
      subst this
      rfl
    have := (Nat.log2_lt h0).mpr hi
    omega
theorem powW_of {i j : Int} (b : Nat) (h0 : 0 ≤ j) (hi : i.natAbs < 2 ^ b) (hb : (b : Int) * j ≤ 2 ^ 27) : CPowW i j := by
  refine ⟨h0, Int.le_trans ?_ hb⟩
  have := bits_le hi
  exact Int.mul_le_mul_of_nonneg_right (by omega) h0
section
variable {X : Cx}
theorem op_powW : OpR X (binaryOp .Pow) (rI CPowW fun i j => .int (i ^ j.toNat)) := opI fun _ _ _ _ _ _ _ hc q => PyProof.Rows.pow_int hc.1 hc.2 q
end

/-! ### data -/
def tyN : PyData → String
  | .none => "NoneType"
  | .bool _ => "bool"
  | .int _ => "int"
  | .str _ => "str"
  | .list _ => "list"
  | .tuple _ => "tuple"
  | .dict _ => "dict"
theorem dp_ty {K : PySem.W.Frag} {H : Hp} {v : V} {d : PyData} (h : Dp K H v d) : TyX K H v (.type (tyN d)) := by
  cases h with
  | non => exact .base .non
  | bl b => exact .base (.bl b)
  | int i => exact .base (.int i)
  | str x => exact .base (.str x)
  | lst hs ha =>
    rcases hs with (e | ⟨o, e⟩) | ⟨o, its, n, hk, hc, _⟩
    · exact .base (.lst e)
    · exact .base (.frz e)
    · exact .kList hk hc
  | tup hs ha =>
    rcases hs with (e | ⟨o, e⟩) | ⟨o, its, n, hk, hc, _⟩
    · exact .base (.tup e)
    · exact .fTuple e
    · exact .kTuple hk hc
def isInt : PyData → Bool
  | .int _ => true
  | .bool _ => true
  | _ => false
def isBoo : PyData → Bool
  | .bool _ => true
  | _ => false
def isTup : PyData → Bool
  | .tuple _ => true
  | _ => false
def isStr : PyData → Bool
  | .str _ => true
  | _ => false
def isLst : PyData → Bool
  | .list _ => true
  | _ => false
theorem kit_int (d : PyData) : kitB (tyN d) "int" = some (isInt d) := by cases d <;> (simp only [tyN, isInt]; decide +kernel)
theorem kit_bool (d : PyData) : kitB (tyN d) "bool" = some (isBoo d) := by cases d <;> (simp only [tyN, isBoo]; decide +kernel)
theorem kit_tuple (d : PyData) : kitB (tyN d) "tuple" = some (isTup d) := by cases d <;> (simp only [tyN, isTup]; decide +kernel)
theorem kit_str (d : PyData) : kitB (tyN d) "str" = some (isStr d) := by cases d <;> (simp only [tyN, isStr]; decide +kernel)
theorem kit_list (d : PyData) : kitB (tyN d) "list" = some (isLst d) := by cases d <;> (simp only [tyN, isLst]; decide +kernel)
section
variable {X : Cx}
def rIsD (K : PySem.W.Frag) : List V → Hp → VK → Prop := fun xs H Q => ∃ (v : V) (n : String) (d : PyData) (b : Bool), xs = [v, .ty n] ∧ Dp K H v d ∧ kitB (tyN d) n = some b ∧ Q (.bl b) H
theorem call_isD : CallR X (.builtin "isinstance") (rIsD X.K) := by
  intro pins s σ H xs us Q I r h
  obtain ⟨v, n, d, b, e, hd, hk, q⟩ := h
  exact call_isi pins s σ H xs us Q I r ⟨v, .ty n, _, _, _, e, .ty n, dp_ty hd, kit_ty hk, q⟩
end

/-! ### len, list(..), tuple(..) by names -/
section
variable {X : Cx}
def rLenS (K : PySem.W.Frag) : List V → Hp → VK → Prop := fun xs H Q => ∃ (p : Addr) (ys : List V), xs = [.ref p] ∧ (SqL K H p ys ∨ SqT K H p ys) ∧ Q (.int ys.length) H
theorem call_lenS : CallR X (.builtin "len") (rLenS X.K) := call_len_seq
def rListS (K : PySem.W.Frag) : List V → Hp → VK → Prop := fun xs H Q => ∃ (p : Addr) (ys : List V), xs = [.ref p] ∧ (SqL K H p ys ∨ SqT K H p ys) ∧ ∀ l, H l = none → Q (.ref l) (upd H l (.lst ys))
theorem call_listS : CallR X (.type "list") (rListS X.K) := call_list_of
def rTupS (K : PySem.W.Frag) : List V → Hp → VK → Prop := fun xs H Q => ∃ (p : Addr) (ys : List V), xs = [.ref p] ∧ ((SqL K H p ys ∧ ∀ l, H l = none → Q (.ref l) (upd H l (.tup ys))) ∨ (SqT K H p ys ∧ Q (.ref p) H))
theorem call_tupS : CallR X (.type "tuple") (rTupS X.K) := call_tuple_of
end

/-! ### repr of data -/
mutual
/-- data whose text is made without trouble: no dicts, ints of at most 180 digits, signs below 16 ^ 8 -/
def fine : PyData → Prop
  | .int i => i.natAbs < 10 ^ 180
  | .str x => (x.cps.toList.all fun c => decide (c < 16 ^ 8)) = true
  | .list xs => fines xs
  | .tuple xs => fines xs
  | .dict _ => False
  | _ => True
def fines : List PyData → Prop
  | [] => True
  | x :: xs => fine x ∧ fines xs
end
theorem int_log {i : Int} (h : i.natAbs < 10 ^ 180) : i.natAbs.log2 < 1920 := by
  by_cases z : i.natAbs = 0
  · rw [z]
    decide
  · exact (Nat.log2_lt z).mpr (Nat.lt_trans h (by decide +kernel))
theorem shown_int {i : Int} (h : i.natAbs < 10 ^ 180) : (PyData.shown (.int i)).length ≤ 200 := by
  have e := int_text_length_le10 (k := 180) (by decide) h
  show (Str.ofString (toString i)).length ≤ 200
  rw [ofString_length]
  omega
mutual
theorem fine_ok : ∀ d : PyData, fine d → d.showable = true ∧ d.leavesShort 200 = true ∧ d.hasDict = false
  | .none, _ => by simp [PyData.showable, PyData.leavesShort, PyData.hasDict]
  | .bool _, _ => by simp [PyData.showable, PyData.leavesShort, PyData.hasDict]
  | .int i, h => by
    simp only [fine] at h
    simp only [PyData.showable, PyData.leavesShort, PyData.hasDict, decide_eq_true_eq, and_true]
    exact ⟨int_log h, shown_int h⟩
  | .str x, h => by
    simp only [fine] at h
    simp only [PyData.showable, PyData.leavesShort, PyData.hasDict, and_true, true_and]
    exact h
  | .list xs, h => by
    simp only [fine] at h
    simp only [PyData.showable, PyData.leavesShort, PyData.hasDict]
    exact fines_ok xs h
  | .tuple xs, h => by
    simp only [fine] at h
    simp only [PyData.showable, PyData.leavesShort, PyData.hasDict]
    exact fines_ok xs h
  | .dict _, h => by simp only [fine] at h
theorem fines_ok : ∀ xs : List PyData, fines xs → PyData.showableAll xs = true ∧ PyData.leavesShortAll 200 xs = true ∧ PyData.hasDictAll xs = false
  | [], _ => by simp [PyData.showableAll, PyData.leavesShortAll, PyData.hasDictAll]
  | x :: xs, h => by
    simp only [fines] at h
    obtain ⟨a1, a2, a3⟩ := fine_ok x h.1
    obtain ⟨b1, b2, b3⟩ := fines_ok xs h.2
    simp only [PyData.showableAll, PyData.leavesShortAll, PyData.hasDictAll, a1, a2, a3, b1, b2, b3, Bool.and_self, Bool.or_self, and_self]
end
section
variable {X : Cx}
def rRepr (K : PySem.W.Frag) : List V → Hp → VK → Prop := fun xs H Q => ∃ (v : V) (d : PyData), xs = [v] ∧ Dp K H v d ∧ fine d ∧ d.depth ≤ 64 ∧ d.bulk ≤ 80000 ∧ Q (.str d.shown) H
theorem call_reprD (hg : X.A.guards = some []) (hu : X.A.units + 66 < cLine) : CallR X (.builtin "repr") (rRepr X.K) := by
  intro pins s σ H xs us Q I r h
  obtain ⟨v, d, rfl, hd, hf, hdep, hw, q⟩ := h
  obtain ⟨hs, hl, hnd⟩ := fine_ok d hf
  have hz : d.shown.length ≤ sizeLine := by
    have := PyData.shown_le_bulk 200 (by decide) d hl
    rw [sizeLine_eq]
    omega
  obtain ⟨u, rfl, ru⟩ := vals1 r
  have hsm : ∀ as : List Addr, d.hasDict = true → sysModules ∉ as := fun as => PyData.noDict_hsm hnd
  obtain ⟨as, hr⟩ := Dp.reads I d v u hd ru
  cases hr with
  | none => exact P.repr_of_none ⟨.str _, H, I.tok _, ⟨_, rfl⟩, q⟩
  | bool b => exact P.repr_of_bool ⟨.str _, H, I.tok _, ⟨_, rfl⟩, q⟩
  | int i t => exact P.repr_of_int (by simpa [PyData.showable] using hs) ⟨.str _, H, I.tok _, ⟨_, rfl⟩, q⟩
  | str x t => exact P.repr_of_str ⟨.str _, H, I.tok _, ⟨_, rfl⟩, q⟩ (by simpa only [PyData.shown] using hz)
  | list h1 h2 h3 h4 =>
    refine repr_of_reads' (h₀ := s.heap) (.list h1 h2 h3 h4) hs (hsm _) hg (by omega) (fun _ _ e => e) (fun h' u' tk hk => ?_) hz
    exact ⟨.str _, H, I.kept hk, ⟨_, rfl⟩, q⟩
  | tuple h1 h2 h3 h4 =>
    refine repr_of_reads' (h₀ := s.heap) (.tuple h1 h2 h3 h4) hs (hsm _) hg (by omega) (fun _ _ e => e) (fun h' u' tk hk => ?_) hz
    exact ⟨.str _, H, I.kept hk, ⟨_, rfl⟩, q⟩
  | dict _ _ _ _ _ => exact absurd hnd (by simp [PyData.hasDict])
end

/-! ### what stays of the heap -/
theorem same_sqT {K : PySem.W.Frag} {H H' : Hp} {a : Addr} {xs : List V} (s : Same H H') (h : SqT K H a xs) : SqT K H' a xs := by
  rcases h with (h | ⟨o, h⟩) | h
  · exact .inl (.inl (s _ _ h))
  · exact .inl (.inr ⟨o, s _ _ h⟩)
  · exact .inr h
theorem same_new {H : Hp} {p : Addr} {o : HO} (h : H p = none) : Same H (upd H p o) := fun b u q => by rw [upd_ne (ne_of_none q h)]; exact q
mutual
theorem dp_same {K : PySem.W.Frag} {H H' : Hp} (s : Same H H') : ∀ {d : PyData} {v : V}, Dp K H v d → Dp K H' v d
  | .none, _, h => by cases h; exact .non
  | .bool _, _, h => by cases h; exact .bl _
  | .int _, _, h => by cases h; exact .int _
  | .str _, _, h => by cases h; exact .str _
  | .list ds, _, h => by
    cases h with
    | lst hs ha => exact .lst (s.seq hs) (dpAll_same s ha)
  | .tuple ds, _, h => by
    cases h with
    | tup hs ha => exact .tup (same_sqT s hs) (dpAll_same s ha)
  | .dict _, _, h => by cases h
theorem dpAll_same {K : PySem.W.Frag} {H H' : Hp} (s : Same H H') : ∀ {ds : List PyData} {vs : List V}, DpAll K H vs ds → DpAll K H' vs ds
  | [], _, h => by cases h; exact .nil
  | d :: ds, _, h => by
    cases h with
    | cons h1 h2 => exact .cons (dp_same s h1) (dpAll_same s h2)
end
/-- all but p stays -/
def Sx (p : Addr) (H H' : Hp) : Prop := ∀ b o, b ≠ p → H b = some o → H' b = some o
theorem Sx.refl {p : Addr} {H : Hp} : Sx p H H := fun _ _ _ h => h
theorem Sx.trans {p : Addr} {H H1 H2 : Hp} (a : Sx p H H1) (b : Sx p H1 H2) : Sx p H H2 := fun c o n h => b c o n (a c o n h)
theorem Same.sx {p : Addr} {H H' : Hp} (s : Same H H') : Sx p H H' := fun b o _ h => s b o h
theorem sx_upd {p : Addr} {H : Hp} {o : HO} : Sx p H (upd H p o) := fun b u n h => by rw [upd_ne n]; exact h
theorem sx_new {p q : Addr} {H : Hp} {o : HO} (h : H q = none) : Sx p H (upd H q o) := fun b u _ q => same_new h b u q
/-! data without lists and dicts -/
mutual
def noL : PyData → Bool
  | .list _ => false
  | .dict _ => false
  | .tuple ds => noLs ds
  | _ => true
def noLs : List PyData → Bool
  | [] => true
  | d :: ds => noL d && noLs ds
end
theorem Sx.sqT {K : PySem.W.Frag} {p a : Addr} {H H' : Hp} {l xs : List V} (s : Sx p H H') (hp : H p = some (.lst l)) (h : SqT K H a xs) : SqT K H' a xs := by
  rcases h with (h | ⟨o, h⟩) | h
  · exact .inl (.inl (s _ _ (ne_of h hp (by intro z; cases z)) h))
  · exact .inl (.inr ⟨o, s _ _ (ne_of h hp (by intro z; cases z)) h⟩)
  · exact .inr h
mutual
theorem dp_keep {K : PySem.W.Frag} {H H' : Hp} (s : ∀ a xs, SqT K H a xs → SqT K H' a xs) : ∀ {d : PyData} {v : V}, noL d = true → Dp K H v d → Dp K H' v d
  | .none, _, _, h => by cases h; exact .non
  | .bool _, _, _, h => by cases h; exact .bl _
  | .int _, _, _, h => by cases h; exact .int _
  | .str _, _, _, h => by cases h; exact .str _
  | .list ds, _, n, h => by simp [noL] at n
  | .tuple ds, _, n, h => by
    cases h with
    | tup hs ha => exact .tup (s _ _ hs) (dpAll_keep s (by simpa [noL] using n) ha)
  | .dict _, _, _, h => by cases h
theorem dpAll_keep {K : PySem.W.Frag} {H H' : Hp} (s : ∀ a xs, SqT K H a xs → SqT K H' a xs) : ∀ {ds : List PyData} {vs : List V}, noLs ds = true → DpAll K H vs ds → DpAll K H' vs ds
  | [], _, _, h => by cases h; exact .nil
  | d :: ds, _, n, h => by
    cases h with
    | cons h1 h2 =>
      have n' : noL d = true ∧ noLs ds = true := by simpa [noLs] using n
      exact .cons (dp_keep s n'.1 h1) (dpAll_keep s n'.2 h2)
end
theorem Sx.dp {K : PySem.W.Frag} {p : Addr} {H H' : Hp} {l : List V} {d : PyData} {v : V} (s : Sx p H H') (hp : H p = some (.lst l)) (n : noL d = true) (h : Dp K H v d) : Dp K H' v d :=
  dp_keep (fun _ _ z => s.sqT hp z) n h
theorem dpAll_length {K : PySem.W.Frag} {H : Hp} : ∀ {vs : List V} {ds : List PyData}, DpAll K H vs ds → vs.length = ds.length
  | _, _, .nil => rfl
  | _, _, .cons _ h => congrArg (· + 1) (dpAll_length h)
theorem dpAll_get {K : PySem.W.Frag} {H : Hp} : ∀ {vs : List V} {ds : List PyData} {i : Nat} {v : V}, DpAll K H vs ds → vs[i]? = some v → ∃ d, ds[i]? = some d ∧ Dp K H v d
  | _, _, _, _, .nil, e => by simp at e
  | _, _, 0, _, .cons h _, e => by
    simp at e
    subst e
    exact ⟨_, rfl, h⟩
  | _, _, i + 1, _, .cons _ t, e => by
    obtain ⟨d, e1, e2⟩ := dpAll_get (i := i) t (by simpa using e)
    exact ⟨d, by simpa using e1, e2⟩
theorem dpAll_append {K : PySem.W.Frag} {H : Hp} : ∀ {vs ws : List V} {ds es : List PyData}, DpAll K H vs ds → DpAll K H ws es → DpAll K H (vs ++ ws) (ds ++ es)
  | _, _, _, _, .nil, h => h
  | _, _, _, _, .cons h t, h' => .cons h (dpAll_append t h')
theorem dpAll_one {K : PySem.W.Frag} {H : Hp} {v : V} {d : PyData} (h : Dp K H v d) : DpAll K H [v] [d] := .cons h .nil
theorem dpAll_rev {K : PySem.W.Frag} {H : Hp} : ∀ {vs : List V} {ds : List PyData}, DpAll K H vs ds → DpAll K H vs.reverse ds.reverse
  | _, _, .nil => .nil
  | _, _, .cons h t => by
    rw [List.reverse_cons, List.reverse_cons]
    exact dpAll_append (dpAll_rev t) (.cons h .nil)
theorem dp_int_inv {K : PySem.W.Frag} {H : Hp} {v : V} {i : Int} (h : Dp K H v (.int i)) : v = .int i := by cases h; rfl
theorem dp_str_inv {K : PySem.W.Frag} {H : Hp} {v : V} {x : Str} (h : Dp K H v (.str x)) : v = .str x := by cases h; rfl
theorem dp_none_inv {K : PySem.W.Frag} {H : Hp} {v : V} (h : Dp K H v .none) : v = .non := by cases h; rfl
theorem dp_bool_inv {K : PySem.W.Frag} {H : Hp} {v : V} {b : Bool} (h : Dp K H v (.bool b)) : v = .bl b := by cases h; rfl
theorem dp_tup_inv {K : PySem.W.Frag} {H : Hp} {v : V} {ds : List PyData} (h : Dp K H v (.tuple ds)) : ∃ a xs, v = .ref a ∧ SqT K H a xs ∧ DpAll K H xs ds := by
  cases h with
  | tup h1 h2 => exact ⟨_, _, rfl, h1, h2⟩
theorem dp_lst_inv {K : PySem.W.Frag} {H : Hp} {v : V} {ds : List PyData} (h : Dp K H v (.list ds)) : ∃ a xs, v = .ref a ∧ SqL K H a xs ∧ DpAll K H xs ds := by
  cases h with
  | lst h1 h2 => exact ⟨_, _, rfl, h1, h2⟩
theorem tup_fresh {K : PySem.W.Frag} {H : Hp} {p : Addr} {xs : List V} {ds : List PyData} (hp : H p = none) (h : DpAll K H xs ds) : Same H (upd H p (.tup xs)) ∧ Dp K (upd H p (.tup xs)) (.ref p) (.tuple ds) :=
  ⟨same_new hp, .tup (.inl (.inl upd_same)) (dpAll_same (same_new hp) h)⟩
theorem lst_fresh {K : PySem.W.Frag} {H : Hp} {p : Addr} {xs : List V} {ds : List PyData} (hp : H p = none) (h : DpAll K H xs ds) : Same H (upd H p (.lst xs)) ∧ Dp K (upd H p (.lst xs)) (.ref p) (.list ds) :=
  ⟨same_new hp, .lst (.inl (.inl upd_same)) (dpAll_same (same_new hp) h)⟩
theorem Same.sx_free {H H1 H2 : Hp} {p : Addr} (s : Same H H1) (h : H p = none) (t : Sx p H1 H2) : Same H H2 := fun b o e =>
  t b o (ne_of_none e h) (s b o e)
theorem small {n : Nat} (h : n ≤ 1000) : n ≤ sizeLine := Nat.le_of_lt (small1000 h)
theorem small' {n : Nat} (h : n ≤ 1000000) : n ≤ sizeLine := by rw [sizeLine_eq]; omega

theorem atI_at {α : Type} {xs : List α} {k : Int} {j : Nat} {v : α} (e : k = (j : Int)) (h : xs[j]? = some v) : atI xs k = some v := by
  subst e
  exact atI_nat h
theorem atI_int {ns : List Int} {k : Int} (h0 : 0 ≤ k) (h : k < (ns.length : Int)) : ∃ z, z ∈ ns ∧ atI (ns.map V.int) k = some (.int z) := by
  have hk : k.toNat < ns.length := by omega
  refine ⟨ns[k.toNat], List.getElem_mem hk, atI_at (j := k.toNat) (by omega) ?_⟩
  rw [List.getElem?_map, List.getElem?_eq_getElem hk]
  rfl

/-! ### the script as the law gets it: it never changes -/
def Scr (K : PySem.W.Frag) (H : Hp) (a : Addr) (ns : List Int) : Prop := (∃ o, H a = some (.frz o (.lst (ns.map V.int)))) ∨
  ∃ (o : Obj) (its : Array Value) (n : Nat), K.lookup a = some o ∧ o.cls = .type "list" ∧ o.dict = none ∧ o.data = .seq its n ∧ its.size ≤ sizeLine ∧ Vals (ns.map V.int) its.toList
theorem Scr.sq {K : PySem.W.Frag} {H : Hp} {a : Addr} {ns : List Int} (h : Scr K H a ns) : SqL K H a (ns.map V.int) := by
  rcases h with ⟨o, h⟩ | h
  · exact .inl (.inr ⟨o, h⟩)
  · exact .inr h
theorem Scr.of {K : PySem.W.Frag} {H : Hp} {a : Addr} {ns : List Int} (hO : Only H) (h : SqL K H a (ns.map V.int)) : Scr K H a ns := by
  rcases h with (h | h) | h
  · rcases hO a with z | ⟨o, xs, z⟩
    · rw [h] at z; cases z
    · rw [h] at z; cases z
  · exact .inl h
  · exact .inr h
theorem Scr.same {K : PySem.W.Frag} {H H' : Hp} {a : Addr} {ns : List Int} (s : Same H H') (h : Scr K H a ns) : Scr K H' a ns := by
  rcases h with ⟨o, h⟩ | h
  · exact .inl ⟨o, s _ _ h⟩
  · exact .inr h
theorem Scr.sx {K : PySem.W.Frag} {H H' : Hp} {a p : Addr} {ns : List Int} {l : List V} (s : Sx p H H') (hp : H p = some (.lst l)) (h : Scr K H a ns) : Scr K H' a ns := by
  rcases h with ⟨o, h⟩ | h
  · exact .inl ⟨o, s _ _ (ne_of h hp (by intro z; cases z)) h⟩
  · exact .inr h
end Rp
/-! RpG: defs that say repr of made data: the layer's judgements where no repr is under way (guards known), and the law's end over them. -/
namespace Rp
open PySem L2 PyProof.Rows

structure FnG (P : Program) (w : World) (K : PySem.W.Frag) (mg : Str → Option Value) (base : Heap) (CX : CXT) (k : Nat) (f : Addr) (fd : FuncData) (ps : List Str) (sp : Sp) : Prop where
  len : ∀ vs H Q E, sp vs H Q E → vs.length = ps.length
  run : ∀ (A : Around) (outer : List Env) (s : Shared) (H : Hp) (args : Args) (us : List Value) (vs : List V) (Q : VK) (E : XK), Room k A → A.guards = some [] →
    Env0 P w K mg base A outer s H → BindsTo s fd args (ps.zip us) → Vals vs us → sp vs H Q E → codeAny (model P w) A (.call (.ref f) args) (CR CX outer P w H s Q E) s

theorem room66 {k : Nat} {A : Around} (hr : Room k A) : A.units + 66 < cLine := by
  have := hr.un
  omega
section
variable {P : Program} {w : World} {K : PySem.W.Frag} {mg : Str → Option Value} {base : Heap}
theorem okG {name qual : Str} {st : Stmt} {f : Addr} {fd : FuncData} {N ps : List Str} {k : Nat} {sp : Sp} (F : Fun K name qual st f fd) (S : FnScope N ps (defScope st))
    (hlen : ∀ vs H Q E, sp vs H Q E → vs.length = ps.length)
    (hb : ∀ (cdv : Value) (A : Around) (outer : List Env) (s : Shared) (H : Hp) (vs : List V) (Q : VK) (E : XK),
      Room k (A.deeper (envOfC qual (defScope st) s.heap.objs.size f cdv)) → A.guards = some [] → sp vs H Q E →
      ∃ t, PSs (cxOf CX0 P w K mg base N qual (defScope st) f cdv A outer s H E).nox (defBody st) t ∧
        t { nx := fun _ H' => Q .non H', rt := Q } (start N vs) H) : FnG P w K mg base CX0 (k + 1) f fd ps sp := by
  obtain ⟨oc, od, kV, doc, pm, an, cdv, ct, osl, rfl, lk, hcd⟩ := F.ex
  refine ⟨hlen, fun A outer s H args us vs Q E room gd en bd rv want => ?_⟩
  have kin : K.In s.heap := en.mod.kin.keeps fun b o z => (en.bs b o z).1
  have nolim : s.heap.NoLimit := en.mod.nolimit.keeps fun b o z => (en.bs b o z).1
  have hl := hlen _ _ _ _ want
  refine Att.call_fn kin nolim lk hcd room.depth bd ?_ (fun s1 ic => ?_) S.co S.gen S.kind
  · refine List.all_eq_true.mpr fun y hy => ?_
    obtain ⟨a, b⟩ := y
    rcases S.par a (List.of_mem_zip hy).1 with z | z
    · simp [z]
    · simp [z]
  · obtain ⟨t, ht, hq⟩ := hb cdv A outer s H vs Q E (room.deeper _) gd want
    have I := inv_start (CX := CX0) (P := P) (w := w) (K := K) (mg := mg) (base := base) (E := E) S room.hd en hl rv ic
    refine wpAny_mono (ht.nox.run [] s1 (start N vs) H _ I hq) (fun fl s' hs => ?_) (fun e s' hs => hs)
    cases fl with
    | ret u =>
      obtain ⟨v, σ', H', J, rr, q⟩ := hs
      exact ⟨v, H', J.os, J.bare, J.base, J.hok, rr, q⟩
    | next =>
      obtain ⟨σ', H', J, q⟩ := hs
      exact ⟨V.non, H', J.os, J.bare, J.base, J.hok, rfl, q⟩
    | brk =>
      obtain ⟨_, _, _, q⟩ := hs
      exact False.elim q
    | cont =>
      obtain ⟨_, _, _, q⟩ := hs
      exact False.elim q
end
section
variable {X : Cx} {k : Nat} {f : Addr} {fd : FuncData} {ps : List Str} {sp : Sp} {dvs : List V} {ds : List Value} {x : Str} {p pos : Pos} {e : Expr} {es : List Expr} {t : TA}
theorem runG {pins : List (Addr × Obj)} {σ : L2.St} {H : Hp} {s : Shared} {Q : VK} {us : List Value} {vs : List V} (F : FnG X.prog X.w X.K X.mg X.base CX0 k f fd ps sp) (room : Room k X.A) (gd : X.A.guards = some [])
    (bd : Binds X.K fd ps ds) (dv : Vals dvs ds) (I : Inv X pins σ H s) (rv : Vals vs us) (want : sp (vs ++ dvs) H Q E0) : wpAny (model X.prog X.w) X.A (call (.ref f) us) (EP X pins σ Q) X.xe s := by
  have rv2 : Vals (vs ++ dvs) (us ++ ds) := rv.append dv
  have hl : (us ++ ds).length = ps.length := by
    rw [← rv2.length]
    exact F.len _ _ _ _ want
  refine wpAny_call (codeAny_mono (F.run X.A X.stack s H ⟨us, []⟩ (us ++ ds) (vs ++ dvs) Q E0 room gd I.env0 (bd s us I.kIn hl) rv2 want) fun r s' hq => ?_)
  cases r with
  | error e => exact False.elim hq
  | ok fl =>
    cases fl with
    | ret u => exact I.after hq
    | next => exact False.elim hq
    | brk => exact False.elim hq
    | cont => exact False.elim hq
theorem pe_callG (F : FnG X.prog X.w X.K X.mg X.base CX0 k f fd ps sp) (room : Room k X.A) (gd : X.A.guards = some []) (gl : Gl X x) (hm : X.mg x = some (.ref f)) (kp : PySem.W.keepIn X.K (.ref f) = true)
    (bd : Binds X.K fd ps ds) (dv : Vals dvs ds) (ha : PA X (e :: es) t) (nodbg : (x == ("__debug__" : Str)) = false := by decide)
    (he : starEach (e :: es) X.env = (false, eval e X.env) :: starEach es X.env := by rfl) (hpl : (backTo pos (starEach es X.env)).any (·.1) = false := by rfl) :
    PE X (.Call (.Name x p) (e :: es) [] pos) (tCall sp dvs E0 t) := by
  constructor
  intro pins s σ H Q I want
  refine wpAny_Call_Name_kw (ld_glob I gl hm (PySem.W.callWith_K (h₀ := X.base) I.ok.mod.kin kp (thn (ha.run pos pins s σ H _ I want) ?_) he hpl) nodbg)
  rintro us s1 ⟨vs, H1, I1, rv, q⟩
  exact ⟨I1.kIn, runG F room gd bd dv I1 rv q⟩
theorem pe_callG0 (F : FnG X.prog X.w X.K X.mg X.base CX0 k f fd ps sp) (room : Room k X.A) (gd : X.A.guards = some []) (gl : Gl X x) (hm : X.mg x = some (.ref f)) (kp : PySem.W.keepIn X.K (.ref f) = true)
    (bd : Binds X.K fd ps ds) (dv : Vals dvs ds) (nodbg : (x == ("__debug__" : Str)) = false := by decide) : PE X (.Call (.Name x p) [] [] pos) (tCall sp dvs E0 tNil) := by
  constructor
  intro pins s σ H Q I want
  exact wpAny_Call_Name_kw (ld_glob I gl hm (PySem.W.callWith_K0 I.kIn kp (runG (us := []) F room gd bd dv I .nil want)) nodbg)
end

/-! ### the law's end -/
/-- a heap that tells of the script alone -/
theorem script_heap {P : Program} {w : World} {K : PySem.W.Frag} {h : Heap} {a : Addr} {vs : List Value} {ns : List Int} (kin : K.In h) (ha : h.get? a = some { cls := .type "list", data := .seq vs.toArray })
    (hi : IntsAre vs ns) (hl : ns.length ≤ sizeLine) :
    ∃ H : Hp, Only H ∧ SqL K H a (ns.map V.int) ∧ HOk P w H h ∧ (∀ b, H b ≠ none → b = a) ∧ (∀ b o, K.lookup b = some o → H b = none) := by
  have rv := vals_ints hi
  have len := hi.length
  cases hk : K.lookup a with
  | some o =>
    have eo := kin a o hk
    rw [ha] at eo
    cases eo
    refine ⟨fun _ => none, fun _ => .inl rfl, .inr ⟨_, vs.toArray, _, hk, rfl, rfl, rfl, ?_, by simpa using rv⟩, (fun b u z => nomatch z), (fun b z => absurd rfl z), fun _ _ _ => rfl⟩
    rw [List.size_toArray, len]
    exact hl
  | none =>
    let H : Hp := fun b => if b = a then some (.frz { cls := .type "list", data := .seq vs.toArray } (.lst (ns.map V.int))) else none
    have at_a : H a = some (.frz { cls := .type "list", data := .seq vs.toArray } (.lst (ns.map V.int))) := if_pos rfl
    have off : ∀ b, b ≠ a → H b = none := fun b z => if_neg z
    refine ⟨H, fun b => ?_, .inl (.inr ⟨_, at_a⟩), fun b u z => ?_, fun b z => ?_, fun b o z => off b ?_⟩
    · by_cases c : b = a
      · exact .inr ⟨_, _, c ▸ at_a⟩
      · exact .inl (off b c)
    · by_cases c : b = a
      · subst c
        rw [at_a] at z
        cases z
        refine ⟨ha, ?_, vs, _, rv, ha⟩
        rw [List.length_map]
        exact hl
      · rw [off b c] at z
        cases z
    · by_cases c : b = a
      · exact c
      · exact absurd (off b c) z
    · intro c
      rw [c, hk] at z
      cases z

theorem law_end {l : PySem.W.OpenLaw} {n k : Nat} {q : Program} {loose : List Str} {XP : (Str → Option Value) → Heap → Prop} {YP : World → Heap → Prop} {d : DefRec} {K : Params → PySem.W.Frag} {sp : PySem.W.Frag → Sp} {x : Str}
    (hn : l.most = some n) (hn2 : n ≤ sizeLine) (hdf : d.params.defaults = []) (hr : Room k callerA)
    (hY : ∀ (w : World) (h : Heap), YP w h → (K w.params).In h)
    (F : ∀ (w : World) (mg : Str → Option Value) (fa : Addr) (h : Heap), (K w.params).In h → h.Ns mainGlobals mg → mg d.name = some (.ref fa) →
      ∃ fd : FuncData, (∀ (s : Shared) (u : Value), BindsTo s fd ⟨[u], []⟩ [(x, u)]) ∧
        ∀ base : Heap, (K w.params).In base → base.Ns mainGlobals mg → FnG l.prog w (K w.params) mg base CX0 k fa fd [x] (sp (K w.params)))
    (hsp : ∀ (K : PySem.W.Frag) (H : Hp) (a : Addr) (ns : List Int), ns.length ≤ n → Only H → SqL K H a (ns.map V.int) → sp K [.ref a] H (fun v _ => v = .bl true) fun _ _ _ => False) :
    PySem.W.WalkO q loose XP YP l.row.toRowW d [] (fun f vs => PySem.call f vs) := by
  refine Att.attach_call hn hdf fun w s₀ s₁ mg mb fa o pm cd doc a vs ns G Y ho hd hcd hmg hobj hints hlen hgens => ?_
  have kin := hY w _ Y
  obtain ⟨fd, bd, FF⟩ := F w mg fa _ kin G.T.g hmg
  obtain ⟨H, hO, hS, hok, only, notK⟩ := script_heap (P := l.prog) (w := w) kin hobj hints (Nat.le_trans hlen hn2)
  have free : ∀ {b : Addr} {ob : Obj} {es : Array DictEntry} {ep : Nat}, s₁.heap.get? b = some ob → ob.data = .dict es ep → H b = none := by
    intro b ob es ep h1 h2
    cases c : H b with
    | none => rfl
    | some u =>
      have e : b = a := only b (by rw [c]; exact fun z => nomatch z)
      rw [e, hobj] at h1
      have h3 := congrArg Obj.data (Option.some.inj h1)
      rw [h2] at h3
      exact nomatch h3
  have ns' : ∀ {b : Addr} {m : Str → Option Value}, s₁.heap.Ns b m → (hidT s₁.heap H).Ns b m := by
    rintro b m ⟨ob, es, ep, h1, h2, h3⟩
    exact ⟨ob, es, ep, hidT_get h1 (free h1 h2), h2, h3⟩
  have kinB : (K w.params).In (hidT s₁.heap H) := fun b ob e => hidT_get (kin b ob e) (notK b ob e)
  have lim : (hidT s₁.heap H).NoLimit := by
    obtain ⟨mc, h1, h2⟩ := G.T.nolimit
    exact ⟨mc, ns' h1, h2⟩
  have en : Env0 l.prog w (K w.params) mg (hidT s₁.heap H) callerA [] s₁ H :=
    ⟨rfl, ⟨kinB, ns' G.T.g, ⟨mb, ns' G.T.b, G.T.builtins⟩, lim⟩, fun b ob e => of_hidT e, Nat.le_of_eq (hidT_size _ _), trivial, (fun b z => nomatch z), hok, .of_eq hgens⟩
  refine codeAny_mono ((FF _ kinB (ns' G.T.g)).run callerA [] s₁ H ⟨[.ref a], []⟩ [.ref a] [.ref a] _ _ hr rfl en (bd s₁ (.ref a)) (.cons rfl .nil) (hsp _ H a ns hlen hO hS)) fun r s' z => ?_
  cases r with
  | error e => exact False.elim z
  | ok fl =>
    cases fl with
    | next => exact False.elim z
    | brk => exact False.elim z
    | cont => exact False.elim z
    | ret u =>
      obtain ⟨v, H', os, bare, un, hok', rr, e⟩ := z
      have e' : v = .bl true := e
      subst e'
      obtain rfl : u = Value.bool true := rr
      refine ⟨rfl, OldK.of_keep fun b ob hb => ?_, os, bare⟩
      cases c : H b with
      | none => exact un.keep b ob hb c (fun z => nomatch z) (fun z => nomatch z)
      | some u =>
        rcases hO b with z | ⟨ox, xs, z⟩
        · rw [c] at z
          cases z
        · obtain ⟨e1, _⟩ := hok b _ z
          obtain ⟨e2, _⟩ := hok' b _ (un.frzs b ox _ z)
          rw [hb] at e1
          cases e1
          exact e2
end Rp
/-! Kw: a def with one keyword-only parameter whose default is None. -/
namespace Rp
open PySem L2
theorem kw_one {K : PySem.W.Frag} {x qual m : Str} {st : Stmt} {f D : Addr} {oc : Value} {od an : Option Addr} {osl : Array (Option Value)} {doc pm cdv ct : Value}
    (l : K.lookup f = some ⟨oc, od, .func (PySem.W.fnOf x qual (defArgs st) (defBody st) (defScope st) .none (.ref D) doc pm an cdv ct), osl⟩) (c : PySem.W.codeIn K cdv qual = true) (k : PySem.W.keepIn K (.ref f) = true)
    (hn : PySem.W.nsIn K D m = some (some .none)) : FunD K x qual (defArgs st) (defBody st) (defScope st) [] [(m, .non)] f (PySem.W.fnOf x qual (defArgs st) (defBody st) (defScope st) .none (.ref D) doc pm an cdv ct) :=
  ⟨⟨oc, od, .none, .ref D, doc, pm, an, cdv, ct, osl, rfl, l, c, .inl ⟨rfl, rfl⟩, .inr ⟨D, rfl, fun q hq => by
    rw [List.mem_singleton.mp hq]
    exact ⟨.none, hn, rfl⟩⟩⟩, k⟩
end Rp
namespace Rp
open PySem L2
theorem kw_ref {K : PySem.W.Frag} {x qual m : Str} {st : Stmt} {f D A : Addr} {oc : Value} {od an : Option Addr} {osl : Array (Option Value)} {doc pm cdv ct : Value}
    (l : K.lookup f = some ⟨oc, od, .func (PySem.W.fnOf x qual (defArgs st) (defBody st) (defScope st) .none (.ref D) doc pm an cdv ct), osl⟩) (c : PySem.W.codeIn K cdv qual = true) (k : PySem.W.keepIn K (.ref f) = true)
    (hn : PySem.W.nsIn K D m = some (some (.ref A))) : FunD K x qual (defArgs st) (defBody st) (defScope st) [] [(m, .ref A)] f (PySem.W.fnOf x qual (defArgs st) (defBody st) (defScope st) .none (.ref D) doc pm an cdv ct) :=
  ⟨⟨oc, od, .none, .ref D, doc, pm, an, cdv, ct, osl, rfl, l, c, .inl ⟨rfl, rfl⟩, .inr ⟨D, rfl, fun q hq => by
    rw [List.mem_singleton.mp hq]
    exact ⟨.ref A, hn, rfl⟩⟩⟩, k⟩
end Rp
namespace Rp
open PySem L2
/-- two values in the other order -/
def kwSwap {α : Type} : List α → List α
  | [a, b] => [b, a]
  | l => l
theorem kwSwap_rel {zs : List V} {ws : List Value} (h : Vals zs ws) : Vals (kwSwap zs) (kwSwap ws) := by
  cases h with
  | nil => exact .nil
  | cons r1 h =>
    cases h with
    | nil => exact .cons r1 .nil
    | cons r2 h =>
      cases h with
      | nil => exact .cons r2 (.cons r1 .nil)
      | cons r3 h => exact .cons r1 (.cons r2 (.cons r3 h))
theorem kw_two {K : PySem.W.Frag} {x qual m1 m2 : Str} {st : Stmt} {f D : Addr} {oc : Value} {od an : Option Addr} {osl : Array (Option Value)} {doc pm cdv ct : Value} {i1 i2 : Int} {t1 t2 : Tok}
    (l : K.lookup f = some ⟨oc, od, .func (PySem.W.fnOf x qual (defArgs st) (defBody st) (defScope st) .none (.ref D) doc pm an cdv ct), osl⟩) (c : PySem.W.codeIn K cdv qual = true) (k : PySem.W.keepIn K (.ref f) = true)
    (h1 : PySem.W.nsIn K D m1 = some (some (.int i1 t1))) (h2 : PySem.W.nsIn K D m2 = some (some (.int i2 t2))) :
    FunD K x qual (defArgs st) (defBody st) (defScope st) [] [(m1, .int i1), (m2, .int i2)] f (PySem.W.fnOf x qual (defArgs st) (defBody st) (defScope st) .none (.ref D) doc pm an cdv ct) := by
  refine ⟨⟨oc, od, .none, .ref D, doc, pm, an, cdv, ct, osl, rfl, l, c, .inl ⟨rfl, rfl⟩, .inr ⟨D, rfl, fun q hq => ?_⟩⟩, k⟩
  rcases List.mem_cons.mp hq with rfl | hq
  · exact ⟨_, h1, ⟨t1, rfl⟩⟩
  · rw [List.mem_singleton.mp hq]
    exact ⟨_, h2, ⟨t2, rfl⟩⟩
end Rp
/-! Jm: jobs as a type of trees, their data, sizes; what the pot holds. No Python here. -/
namespace Lw
open PySem L2 Rp

abbrev M30 : Int := 1000000000000000000000000000000
inductive J where
  | st (i : Int)
  | ps (par : Bool) (xs : List J)
  | rn (cop : Bool) (n : Int) (x : J)
def kwP (b : Bool) : Str := if b then "par" else "seq"
def kwR (b : Bool) : Str := if b then "copies" else "repeat"
mutual
def J.toD : J → PyData
  | .st i => .int i
  | .ps k xs => .tuple [.str (kwP k), .tuple (J.toDs xs)]
  | .rn k n x => .tuple [.str (kwR k), .int n, x.toD]
def J.toDs : List J → List PyData
  | [] => []
  | x :: xs => x.toD :: J.toDs xs
end
mutual
theorem J.noL : ∀ j : J, noL j.toD = true
  | .st _ => rfl
  | .ps _ xs => by
    have h := J.noLs xs
    simp [J.toD, Rp.noL, Rp.noLs, h]
  | .rn _ _ x => by
    have h := J.noL x
    simp [J.toD, Rp.noL, Rp.noLs, h]
theorem J.noLs : ∀ js : List J, noLs (J.toDs js) = true
  | [] => rfl
  | x :: xs => by
    have h1 := J.noL x
    have h2 := J.noLs xs
    simp [J.toDs, Rp.noLs, h1, h2]
end
theorem J.toDs_eq : ∀ xs : List J, J.toDs xs = xs.map J.toD
  | [] => rfl
  | x :: xs => by rw [J.toDs, J.toDs_eq xs]; rfl

/-! sizes as the program finds them -/
def within (nodes steps : Int) : Option (Int × Int) := if steps ≤ M30 then some (nodes, steps) else none
mutual
def szJ : J → Int → Int → Option (Int × Int)
  | .st i, room, lv => if room < 1 ∨ lv < 1 then none else if -M30 ≤ i ∧ i ≤ M30 then some (1, 1) else none
  | .ps _ xs, room, lv => if room < 1 ∨ lv < 1 then none else if (xs.length : Int) > 400 then none else szJs xs 1 0 room lv
  | .rn _ n x, room, lv => if room < 1 ∨ lv < 1 then none else if ¬ (0 ≤ n ∧ n ≤ M30) then none else
      match szJ x (room - 1) (lv - 1) with
      | none => none
      | some (a, b) => within (a + 1) (b * n)
def szJs : List J → Int → Int → Int → Int → Option (Int × Int)
  | [], nodes, steps, _, _ => within nodes steps
  | x :: xs, nodes, steps, room, lv =>
      match szJ x (room - nodes) (lv - 1) with
      | none => none
      | some (a, b) => szJs xs (nodes + a) (steps + b) room lv
end
mutual
def J.nodes : J → Int
  | .st _ => 1
  | .ps _ xs => 1 + J.nodesL xs
  | .rn _ _ x => x.nodes + 1
def J.nodesL : List J → Int
  | [] => 0
  | x :: xs => x.nodes + J.nodesL xs
end
mutual
def J.steps : J → Int
  | .st _ => 1
  | .ps _ xs => J.stepsL xs
  | .rn _ n x => x.steps * n
def J.stepsL : List J → Int
  | [] => 0
  | x :: xs => x.steps + J.stepsL xs
end
mutual
def J.deep : J → Nat
  | .st _ => 1
  | .ps _ xs => J.deepL xs + 1
  | .rn _ _ x => x.deep + 1
def J.deepL : List J → Nat
  | [] => 0
  | x :: xs => max x.deep (J.deepL xs)
end
mutual
/-- a job but for nodes and nesting -/
def J.ok : J → Prop
  | .st i => -M30 ≤ i ∧ i ≤ M30
  | .ps _ xs => (xs.length : Int) ≤ 400 ∧ J.okL xs ∧ J.stepsL xs ≤ M30
  | .rn _ n x => (0 ≤ n ∧ n ≤ M30) ∧ x.ok ∧ x.steps * n ≤ M30
def J.okL : List J → Prop
  | [] => True
  | x :: xs => x.ok ∧ J.okL xs
end
mutual
theorem J.nodes_pos : ∀ j : J, 1 ≤ j.nodes
  | .st _ => by simp [J.nodes]
  | .ps _ xs => by have := J.nodesL_pos xs; simp only [J.nodes]; omega
  | .rn _ _ x => by have := J.nodes_pos x; simp only [J.nodes]; omega
theorem J.nodesL_pos : ∀ xs : List J, 0 ≤ J.nodesL xs
  | [] => by simp [J.nodesL]
  | x :: xs => by have := J.nodes_pos x; have := J.nodesL_pos xs; simp only [J.nodesL]; omega
end
theorem J.deep_pos : ∀ j : J, 1 ≤ j.deep
  | .st _ => by simp [J.deep]
  | .ps _ xs => by simp only [J.deep]; omega
  | .rn _ _ x => by simp only [J.deep]; omega
mutual
theorem J.steps_nn : ∀ j : J, j.ok → 0 ≤ j.steps
  | .st _, _ => by simp [J.steps]
  | .ps _ xs, h => by
    simp only [J.ok] at h
    simp only [J.steps]
    exact J.stepsL_nn xs h.2.1
  | .rn _ n x, h => by
    simp only [J.ok] at h
    simp only [J.steps]
    exact Int.mul_nonneg (J.steps_nn x h.2.1) h.1.1
theorem J.stepsL_nn : ∀ xs : List J, J.okL xs → 0 ≤ J.stepsL xs
  | [], _ => by simp [J.stepsL]
  | x :: xs, h => by
    simp only [J.okL] at h
    have := J.steps_nn x h.1
    have := J.stepsL_nn xs h.2
    simp only [J.stepsL]
    omega
end
theorem J.steps_le (j : J) (h : j.ok) : j.steps ≤ M30 := by
  cases j with
  | st i => simp only [J.steps]; decide
  | ps k xs => simp only [J.ok] at h; simp only [J.steps]; exact h.2.2
  | rn k n x => simp only [J.ok] at h; simp only [J.steps]; exact h.2.2
/-! the closed form: is a job within room and levels, and then its sizes -/
mutual
theorem szJ_some : ∀ (j : J) (room lv : Int), j.ok → j.nodes ≤ room → (j.deep : Int) ≤ lv → szJ j room lv = some (j.nodes, j.steps)
  | .st i, room, lv, h, h1, h2 => by
    simp only [J.ok] at h
    simp only [J.nodes, J.deep] at h1 h2
    simp only [szJ, J.nodes, J.steps]
    rw [if_neg (by omega), if_pos h]
  | .ps k xs, room, lv, h, h1, h2 => by
    simp only [J.ok] at h
    simp only [J.nodes, J.deep] at h1 h2
    have hn := J.nodesL_pos xs
    simp only [szJ, J.nodes, J.steps]
    rw [if_neg (by omega), if_neg (by omega)]
    have := szJs_some xs 1 0 room lv h.2.1 (by omega) (by omega) (by omega) (by omega)
    rw [this, Int.zero_add]
  | .rn k n x, room, lv, h, h1, h2 => by
    simp only [J.ok] at h
    simp only [J.nodes, J.deep] at h1 h2
    have hn := J.nodes_pos x
    simp only [szJ, J.nodes, J.steps]
    rw [if_neg (by omega), if_neg (by omega), szJ_some x (room - 1) (lv - 1) h.2.1 (by omega) (by omega)]
    simp only [within]
    rw [if_pos h.2.2]
theorem szJs_some : ∀ (xs : List J) (nodes steps room lv : Int), J.okL xs → 1 ≤ nodes → nodes + J.nodesL xs ≤ room → (J.deepL xs : Int) ≤ lv - 1 → steps + J.stepsL xs ≤ M30 → szJs xs nodes steps room lv = some (nodes + J.nodesL xs, steps + J.stepsL xs)
  | [], nodes, steps, room, lv, _, _, _, _, h => by
    simp only [J.nodesL, J.stepsL, szJs, within, Int.add_zero] at *
    rw [if_pos h]
  | x :: xs, nodes, steps, room, lv, h, h0, h1, h2, h3 => by
    simp only [J.okL] at h
    simp only [J.nodesL, J.stepsL, J.deepL] at *
    have p1 := J.nodes_pos x
    have p2 := J.nodesL_pos xs
    have p3 := J.stepsL_nn xs h.2
    simp only [szJs]
    rw [szJ_some x (room - nodes) (lv - 1) h.1 (by omega) (by omega)]
    simp only
    rw [szJs_some xs (nodes + x.nodes) (steps + x.steps) room lv h.2 (by omega) (by omega) (by omega) (by omega)]
    rw [Int.add_assoc, Int.add_assoc]
end
mutual
theorem szJ_inv : ∀ (j : J) (room lv a b : Int), szJ j room lv = some (a, b) → j.ok ∧ j.nodes ≤ room ∧ (j.deep : Int) ≤ lv ∧ a = j.nodes ∧ b = j.steps
  | .st i, room, lv, a, b, h => by
    simp only [szJ] at h
    split at h
    · cases h
    · split at h
      · rename_i h1 h2
        cases h
        simp only [J.ok, J.nodes, J.deep, J.steps]
        refine ⟨h2, by omega, by omega, ?_, ?_⟩ <;> trivial
      · cases h
  | .ps k xs, room, lv, a, b, h => by
    simp only [szJ] at h
    split at h
    · cases h
    · split at h
      · cases h
      · rename_i h1 h2
        obtain ⟨q1, q2, q3, q4, q5, q6⟩ := szJs_inv xs 1 0 room lv a b h (by omega)
        simp only [J.ok, J.nodes, J.deep, J.steps]
        have q3' : (J.deepL xs : Int) ≤ lv - 1 := by
          rcases q3 with q3 | q3
          · exact q3
          · subst q3
            simp only [J.deepL]
            omega
        refine ⟨⟨by omega, q1, by omega⟩, by omega, by omega, by omega, by omega⟩
  | .rn k n x, room, lv, a, b, h => by
    simp only [szJ] at h
    split at h
    · cases h
    · split at h
      · cases h
      · rename_i h1 h2
        split at h
        · cases h
        · rename_i a1 b1 h3
          obtain ⟨q1, q2, q3, q4, q5⟩ := szJ_inv x (room - 1) (lv - 1) a1 b1 h3
          simp only [within] at h
          split at h
          · rename_i h4
            cases h
            subst q4 q5
            simp only [J.ok, J.nodes, J.deep, J.steps]
            refine ⟨⟨Decidable.not_not.mp h2, q1, h4⟩, by omega, by omega, ?_, ?_⟩ <;> trivial
          · cases h
theorem szJs_inv : ∀ (xs : List J) (nodes steps room lv a b : Int), szJs xs nodes steps room lv = some (a, b) → nodes ≤ room → J.okL xs ∧ nodes + J.nodesL xs ≤ room ∧ ((J.deepL xs : Int) ≤ lv - 1 ∨ xs = []) ∧ steps + J.stepsL xs ≤ M30 ∧ a = nodes + J.nodesL xs ∧ b = steps + J.stepsL xs
  | [], nodes, steps, room, lv, a, b, h, h0 => by
    simp only [szJs, within] at h
    split at h
    · rename_i h1
      cases h
      simp only [J.okL, J.nodesL, J.stepsL, Int.add_zero]
      refine ⟨trivial, h0, .inr ?_, h1, ?_, ?_⟩ <;> trivial
    · cases h
  | x :: xs, nodes, steps, room, lv, a, b, h, h0 => by
    simp only [szJs] at h
    split at h
    · cases h
    · rename_i a1 b1 h3
      obtain ⟨q1, q2, q3, q4, q5⟩ := szJ_inv x (room - nodes) (lv - 1) a1 b1 h3
      subst q4 q5
      obtain ⟨r1, r2, r3, r4, r5, r6⟩ := szJs_inv xs (nodes + x.nodes) (steps + x.steps) room lv a b h (by omega)
      have dp := J.deep_pos x
      simp only [J.okL, J.nodesL, J.stepsL, J.deepL]
      refine ⟨⟨q1, r1⟩, by omega, .inl ?_, by omega, by omega, by omega⟩
      rcases r3 with r3 | r3
      · omega
      · subst r3
        simp only [J.deepL]
        omega
end
end Lw
/-! Jn: nets, lowest usages and mirrors of jobs. No Python here. -/
namespace Lw
open PySem L2 Rp
mutual
def J.net : J → Int
  | .st i => i
  | .ps _ xs => J.netL xs
  | .rn _ n x => n * x.net
def J.netL : List J → Int
  | [] => 0
  | x :: xs => x.net + J.netL xs
end
mutual
def J.low : J → Int
  | .st i => min 0 i
  | .ps false xs => J.lowS xs
  | .ps true xs => J.lowL xs
  | .rn true n x => n * x.low
  | .rn false n x => if n = 0 then 0 else x.low + (n - 1) * min 0 x.net
/-- in sequence -/
def J.lowS : List J → Int
  | [] => 0
  | x :: xs => min x.low (x.net + J.lowS xs)
/-- side by side -/
def J.lowL : List J → Int
  | [] => 0
  | x :: xs => x.low + J.lowL xs
end
theorem mul_min_nonneg {a b : Int} (h : 0 ≤ a) : a * min 0 b ≤ 0 ∧ a * min 0 b ≤ a * b := by
  constructor
  · have : 0 ≤ a * (- min 0 b) := Int.mul_nonneg h (by omega)
    rw [Int.mul_neg] at this
    omega
  · exact Int.mul_le_mul_of_nonneg_left (by omega) h
mutual
/-- the lowest usage is at most 0 and at most the net -/
theorem J.low_le : ∀ j : J, j.ok → j.low ≤ 0 ∧ j.low ≤ j.net
  | .st i, _ => by simp only [J.low, J.net]; omega
  | .ps false xs, h => by
    simp only [J.ok] at h
    simp only [J.low, J.net]
    exact J.lowS_le xs h.2.1
  | .ps true xs, h => by
    simp only [J.ok] at h
    simp only [J.low, J.net]
    exact J.lowL_le xs h.2.1
  | .rn true n x, h => by
    simp only [J.ok] at h
    have ih := J.low_le x h.2.1
    simp only [J.low, J.net]
    constructor
    · have : 0 ≤ n * (- x.low) := Int.mul_nonneg h.1.1 (by omega)
      rw [Int.mul_neg] at this
      omega
    · exact Int.mul_le_mul_of_nonneg_left ih.2 h.1.1
  | .rn false n x, h => by
    simp only [J.ok] at h
    have ih := J.low_le x h.2.1
    simp only [J.low, J.net]
    split
    · rename_i e
      subst e
      omega
    · have p := mul_min_nonneg (a := n - 1) (b := x.net) (by omega)
      have e : n * x.net = (n - 1) * x.net + x.net := by rw [Int.sub_mul, Int.one_mul]; omega
      omega
theorem J.lowS_le : ∀ xs : List J, J.okL xs → J.lowS xs ≤ 0 ∧ J.lowS xs ≤ J.netL xs
  | [], _ => by simp only [J.lowS, J.netL]; omega
  | x :: xs, h => by
    simp only [J.okL] at h
    have h1 := J.low_le x h.1
    have h2 := J.lowS_le xs h.2
    simp only [J.lowS, J.netL]
    omega
theorem J.lowL_le : ∀ xs : List J, J.okL xs → J.lowL xs ≤ 0 ∧ J.lowL xs ≤ J.netL xs
  | [], _ => by simp only [J.lowL, J.netL]; omega
  | x :: xs, h => by
    simp only [J.okL] at h
    have h1 := J.low_le x h.1
    have h2 := J.lowL_le xs h.2
    simp only [J.lowL, J.netL]
    omega
end
/-! sizes: at most the steps times a step's greatest -/
theorem mul_natAbs_le {n b c : Int} (h0 : 0 ≤ n) (h : b.natAbs ≤ c.natAbs) : (n * b).natAbs ≤ (n * c).natAbs := by
  rw [Int.natAbs_mul, Int.natAbs_mul]
  exact Nat.mul_le_mul_left _ h
mutual
theorem J.net_big : ∀ j : J, j.ok → -(j.steps * M30) ≤ j.net ∧ j.net ≤ j.steps * M30
  | .st i, h => by
    simp only [J.ok, M30] at h
    simp only [J.net, J.steps, M30]
    omega
  | .ps _ xs, h => by
    simp only [J.ok] at h
    simp only [J.net, J.steps]
    exact J.netL_big xs h.2.1
  | .rn _ n x, h => by
    simp only [J.ok] at h
    have ih := J.net_big x h.2.1
    simp only [J.net, J.steps]
    have e : x.steps * n * M30 = n * (x.steps * M30) := by rw [Int.mul_comm x.steps n, Int.mul_assoc]
    rw [e]
    constructor
    · rw [← Int.mul_neg]
      exact Int.mul_le_mul_of_nonneg_left ih.1 h.1.1
    · exact Int.mul_le_mul_of_nonneg_left ih.2 h.1.1
theorem J.netL_big : ∀ xs : List J, J.okL xs → -(J.stepsL xs * M30) ≤ J.netL xs ∧ J.netL xs ≤ J.stepsL xs * M30
  | [], _ => by simp only [J.netL, J.stepsL]; omega
  | x :: xs, h => by
    simp only [J.okL] at h
    have h1 := J.net_big x h.1
    have h2 := J.netL_big xs h.2
    simp only [J.netL, J.stepsL, M30] at *
    omega
end
mutual
theorem J.low_big : ∀ j : J, j.ok → -(j.steps * M30) ≤ j.low
  | .st i, h => by
    simp only [J.ok, M30] at h
    simp only [J.low, J.steps, M30]
    omega
  | .ps false xs, h => by
    simp only [J.ok] at h
    simp only [J.low, J.steps]
    exact J.lowS_big xs h.2.1
  | .ps true xs, h => by
    simp only [J.ok] at h
    simp only [J.low, J.steps]
    exact J.lowL_big xs h.2.1
  | .rn true n x, h => by
    simp only [J.ok] at h
    have ih := J.low_big x h.2.1
    simp only [J.low, J.steps]
    have e : x.steps * n * M30 = n * (x.steps * M30) := by rw [Int.mul_comm x.steps n, Int.mul_assoc]
    rw [e, ← Int.mul_neg]
    exact Int.mul_le_mul_of_nonneg_left ih h.1.1
  | .rn false n x, h => by
    simp only [J.ok] at h
    have ih := J.low_big x h.2.1
    have ih2 := J.net_big x h.2.1
    have nn := J.steps_nn x h.2.1
    simp only [J.low, J.steps]
    have e : x.steps * n * M30 = n * (x.steps * M30) := by rw [Int.mul_comm x.steps n, Int.mul_assoc]
    rw [e]
    split
    · rename_i z
      subst z
      omega
    · have hm : -(x.steps * M30) ≤ min 0 x.net := by
        have : 0 ≤ x.steps * M30 := Int.mul_nonneg nn (by decide)
        omega
      have p : (n - 1) * (-(x.steps * M30)) ≤ (n - 1) * min 0 x.net := Int.mul_le_mul_of_nonneg_left hm (by omega)
      have e2 : (n - 1) * (-(x.steps * M30)) = -(n * (x.steps * M30)) + x.steps * M30 := by rw [Int.mul_neg, Int.sub_mul, Int.one_mul]; omega
      omega
theorem J.lowS_big : ∀ xs : List J, J.okL xs → -(J.stepsL xs * M30) ≤ J.lowS xs
  | [], _ => by simp only [J.lowS, J.stepsL]; omega
  | x :: xs, h => by
    simp only [J.okL] at h
    have h1 := J.low_big x h.1
    have h2 := J.lowS_big xs h.2
    have h3 := J.net_big x h.1
    have n1 := J.steps_nn x h.1
    have n2 := J.stepsL_nn xs h.2
    simp only [J.lowS, J.stepsL, M30] at *
    omega
theorem J.lowL_big : ∀ xs : List J, J.okL xs → -(J.stepsL xs * M30) ≤ J.lowL xs
  | [], _ => by simp only [J.lowL, J.stepsL]; omega
  | x :: xs, h => by
    simp only [J.okL] at h
    have h1 := J.low_big x h.1
    have h2 := J.lowL_big xs h.2
    simp only [J.lowL, J.stepsL, M30] at *
    omega
end
abbrev M60 : Int := 1000000000000000000000000000000000000000000000000000000000000
theorem J.net_60 (j : J) (h : j.ok) : -M60 ≤ j.net ∧ j.net ≤ M60 := by
  have h1 := J.net_big j h
  have h2 := J.steps_le j h
  simp only [M30, M60] at *
  omega
theorem J.low_60 (j : J) (h : j.ok) : -M60 ≤ j.low ∧ j.low ≤ 0 := by
  have h1 := J.low_big j h
  have h2 := J.steps_le j h
  have h3 := (J.low_le j h).1
  simp only [M30, M60] at *
  omega
/-! the mirror -/
mutual
def J.mir : J → J
  | .st i => .st (-i)
  | .ps false xs => .ps false (J.mirL xs).reverse
  | .ps true xs => .ps true (J.mirL xs)
  | .rn k n x => .rn k n x.mir
def J.mirL : List J → List J
  | [] => []
  | x :: xs => x.mir :: J.mirL xs
end
theorem J.mirL_eq : ∀ xs : List J, J.mirL xs = xs.map J.mir
  | [] => rfl
  | x :: xs => by rw [J.mirL, J.mirL_eq xs]; rfl
theorem J.mirL_rev (xs : List J) : J.mirL xs.reverse = (J.mirL xs).reverse := by rw [J.mirL_eq, J.mirL_eq, List.map_reverse]
mutual
theorem J.mir_mir : ∀ j : J, j.mir.mir = j
  | .st i => by simp [J.mir]
  | .ps false xs => by simp only [J.mir, J.mirL_rev, List.reverse_reverse, J.mirL_mirL xs]
  | .ps true xs => by simp only [J.mir, J.mirL_mirL xs]
  | .rn k n x => by simp only [J.mir, J.mir_mir x]
theorem J.mirL_mirL : ∀ xs : List J, J.mirL (J.mirL xs) = xs
  | [] => rfl
  | x :: xs => by simp only [J.mirL, J.mir_mir x, J.mirL_mirL xs]
end
theorem J.nodesL_rev (xs : List J) : J.nodesL xs.reverse = J.nodesL xs := by
  induction xs with
  | nil => rfl
  | cons x xs ih =>
    have app : ∀ xs ys : List J, J.nodesL (xs ++ ys) = J.nodesL xs + J.nodesL ys := by
      intro xs ys
      induction xs with
      | nil => simp [J.nodesL]
      | cons a l ih => simp only [List.cons_append, J.nodesL, ih]; omega
    rw [List.reverse_cons, app, ih]
    simp only [J.nodesL]
    omega
theorem J.stepsL_app (xs ys : List J) : J.stepsL (xs ++ ys) = J.stepsL xs + J.stepsL ys := by
  induction xs with
  | nil => simp [J.stepsL]
  | cons a l ih => simp only [List.cons_append, J.stepsL, ih]; omega
theorem J.stepsL_rev (xs : List J) : J.stepsL xs.reverse = J.stepsL xs := by
  induction xs with
  | nil => rfl
  | cons x xs ih =>
    rw [List.reverse_cons, J.stepsL_app, ih]
    simp only [J.stepsL]
    omega
theorem J.netL_app (xs ys : List J) : J.netL (xs ++ ys) = J.netL xs + J.netL ys := by
  induction xs with
  | nil => simp [J.netL]
  | cons a l ih => simp only [List.cons_append, J.netL, ih]; omega
theorem J.netL_rev (xs : List J) : J.netL xs.reverse = J.netL xs := by
  induction xs with
  | nil => rfl
  | cons x xs ih =>
    rw [List.reverse_cons, J.netL_app, ih]
    simp only [J.netL]
    omega
theorem J.deepL_rev (xs : List J) : J.deepL xs.reverse = J.deepL xs := by
  induction xs with
  | nil => rfl
  | cons x xs ih =>
    have app : ∀ xs ys : List J, J.deepL (xs ++ ys) = max (J.deepL xs) (J.deepL ys) := by
      intro xs ys
      induction xs with
      | nil => simp [J.deepL]
      | cons a l ih => simp only [List.cons_append, J.deepL, ih]; omega
    rw [List.reverse_cons, app, ih]
    simp only [J.deepL]
    omega
theorem J.okL_iff : ∀ xs : List J, J.okL xs ↔ ∀ x ∈ xs, x.ok
  | [] => by simp [J.okL]
  | x :: xs => by simp only [J.okL, J.okL_iff xs, List.forall_mem_cons]
theorem J.okL_rev (xs : List J) : J.okL xs.reverse ↔ J.okL xs := by
  rw [J.okL_iff, J.okL_iff]
  simp
theorem J.mirL_len (xs : List J) : (J.mirL xs).length = xs.length := by rw [J.mirL_eq, List.length_map]
mutual
theorem J.mir_same : ∀ j : J, j.mir.nodes = j.nodes ∧ j.mir.steps = j.steps ∧ j.mir.deep = j.deep ∧ j.mir.net = -j.net ∧ (j.ok → j.mir.ok)
  | .st i => by
    simp only [J.mir, J.nodes, J.steps, J.deep, J.net, J.ok, true_and]
    omega
  | .ps false xs => by
    obtain ⟨h1, h2, h3, h4, h5⟩ := J.mirL_same xs
    simp only [J.mir, J.nodes, J.steps, J.deep, J.net, J.ok, J.nodesL_rev, J.stepsL_rev, J.deepL_rev, J.netL_rev, J.okL_rev, List.length_reverse, J.mirL_len, h1, h2, h3, h4, true_and]
    exact fun z => ⟨z.1, h5 z.2.1, z.2.2⟩
  | .ps true xs => by
    obtain ⟨h1, h2, h3, h4, h5⟩ := J.mirL_same xs
    simp only [J.mir, J.nodes, J.steps, J.deep, J.net, J.ok, J.mirL_len, h1, h2, h3, h4, true_and]
    exact fun z => ⟨z.1, h5 z.2.1, z.2.2⟩
  | .rn k n x => by
    obtain ⟨h1, h2, h3, h4, h5⟩ := J.mir_same x
    simp only [J.mir, J.nodes, J.steps, J.deep, J.net, J.ok, h1, h2, h3, h4, true_and, Int.mul_neg]
    exact fun z => ⟨z.1, h5 z.2.1, z.2.2⟩
theorem J.mirL_same : ∀ xs : List J, J.nodesL (J.mirL xs) = J.nodesL xs ∧ J.stepsL (J.mirL xs) = J.stepsL xs ∧ J.deepL (J.mirL xs) = J.deepL xs ∧ J.netL (J.mirL xs) = -J.netL xs ∧ (J.okL xs → J.okL (J.mirL xs))
  | [] => by simp [J.mirL, J.nodesL, J.stepsL, J.deepL, J.netL, J.okL]
  | x :: xs => by
    obtain ⟨h1, h2, h3, h4, h5⟩ := J.mir_same x
    obtain ⟨k1, k2, k3, k4, k5⟩ := J.mirL_same xs
    simp only [J.mirL, J.nodesL, J.stepsL, J.deepL, J.netL, J.okL, h1, h2, h3, h4, k1, k2, k3, k4, true_and]
    refine ⟨by omega, fun z => ⟨h5 z.1, k5 z.2⟩⟩
end
theorem J.lowS_app (xs : List J) (y : J) (hy : y.ok) (hx : J.okL xs) : J.lowS (xs ++ [y]) = min (J.lowS xs) (J.netL xs + y.low) := by
  induction xs with
  | nil =>
    have := J.low_le y hy
    simp only [List.nil_append, J.lowS, J.netL]
    omega
  | cons x xs ih =>
    simp only [J.okL] at hx
    simp only [List.cons_append, J.lowS, J.netL, ih hx.2]
    omega
mutual
theorem J.mir_low : ∀ j : J, j.ok → j.mir.low = j.low - j.net
  | .st i, _ => by simp only [J.mir, J.low, J.net]; omega
  | .ps false xs, h => by
    simp only [J.ok] at h
    simp only [J.mir, J.low, J.net]
    exact J.mirL_lowS xs h.2.1
  | .ps true xs, h => by
    simp only [J.ok] at h
    simp only [J.mir, J.low, J.net]
    exact J.mirL_lowL xs h.2.1
  | .rn true n x, h => by
    simp only [J.ok] at h
    simp only [J.mir, J.low, J.net, J.mir_low x h.2.1, Int.mul_sub]
  | .rn false n x, h => by
    simp only [J.ok] at h
    obtain ⟨_, _, _, hn, _⟩ := J.mir_same x
    simp only [J.mir, J.low, J.net, J.mir_low x h.2.1, hn]
    split
    · rename_i e
      subst e
      omega
    · have e : min 0 (-x.net) = min 0 x.net - x.net := by omega
      have e1 : (n - 1) * (min 0 x.net - x.net) = (n - 1) * min 0 x.net - (n - 1) * x.net := Int.mul_sub _ _ _
      have e2 : (n - 1) * x.net = n * x.net - x.net := by rw [Int.sub_mul, Int.one_mul]
      rw [e, e1]
      omega
theorem J.mirL_lowS : ∀ xs : List J, J.okL xs → J.lowS (J.mirL xs).reverse = J.lowS xs - J.netL xs
  | [], _ => by simp only [J.mirL, List.reverse_nil, J.lowS, J.netL]; omega
  | x :: xs, h => by
    simp only [J.okL] at h
    obtain ⟨_, _, _, _, ho⟩ := J.mir_same x
    obtain ⟨_, _, _, hn, hos⟩ := J.mirL_same xs
    simp only [J.mirL, List.reverse_cons]
    rw [J.lowS_app _ _ (ho h.1) ((J.okL_rev _).mpr (hos h.2)), J.mirL_lowS xs h.2, J.mir_low x h.1, J.netL_rev, hn]
    simp only [J.lowS, J.netL]
    omega
theorem J.mirL_lowL : ∀ xs : List J, J.okL xs → J.lowL (J.mirL xs) = J.lowL xs - J.netL xs
  | [], _ => by simp only [J.mirL, J.lowL, J.netL]; omega
  | x :: xs, h => by
    simp only [J.okL] at h
    simp only [J.mirL, J.lowL, J.netL, J.mirL_lowL xs h.2, J.mir_low x h.1]
    omega
end
/-! a job's data at hand -/
theorem ps_inv {K : PySem.W.Frag} {H : Hp} {v : V} {k : Bool} {xs : List J} (h : Dp K H v (J.ps k xs).toD) : ∃ a b vs, v = .ref a ∧ SqT K H a [.str (kwP k), .ref b] ∧ SqT K H b vs ∧ DpAll K H vs (J.toDs xs) := by
  rw [J.toD] at h
  obtain ⟨a, ys, rfl, hys, hall⟩ := dp_tup_inv h
  cases hall with
  | cons e1 hall =>
    obtain rfl := dp_str_inv e1
    cases hall with
    | cons e2 hall =>
      cases hall
      obtain ⟨b, vs, rfl, hvs, hall2⟩ := dp_tup_inv e2
      exact ⟨a, b, vs, rfl, hys, hvs, hall2⟩
theorem rn_inv {K : PySem.W.Frag} {H : Hp} {v : V} {k : Bool} {n : Int} {x : J} (h : Dp K H v (J.rn k n x).toD) : ∃ a w, v = .ref a ∧ SqT K H a [.str (kwR k), .int n, w] ∧ Dp K H w x.toD := by
  rw [J.toD] at h
  obtain ⟨a, ys, rfl, hys, hall⟩ := dp_tup_inv h
  cases hall with
  | cons e1 hall =>
    obtain rfl := dp_str_inv e1
    cases hall with
    | cons e2 hall =>
      obtain rfl := dp_int_inv e2
      cases hall with
      | cons e3 hall =>
        cases hall
        exact ⟨a, _, rfl, hys, e3⟩
theorem parts_at {K : PySem.W.Frag} {H : Hp} {xs : List J} {vs : List V} {i : Nat} {x : V} (hall : DpAll K H vs (J.toDs xs)) (hi : vs[i]? = some x) : ∃ j, xs[i]? = some j ∧ j ∈ xs ∧ Dp K H x j.toD := by
  obtain ⟨d, ed, hd⟩ := dpAll_get hall hi
  rw [J.toDs_eq, List.getElem?_map] at ed
  cases e : xs[i]? with
  | none =>
    rw [e] at ed
    cases ed
  | some j =>
    rw [e] at ed
    obtain rfl := (Option.some.inj ed).symm
    exact ⟨j, rfl, List.mem_of_getElem? e, hd⟩
theorem parts_len {K : PySem.W.Frag} {H : Hp} {xs : List J} {vs : List V} (hall : DpAll K H vs (J.toDs xs)) : vs.length = xs.length := by
  rw [dpAll_length hall, J.toDs_eq, List.length_map]
theorem deep_mem : ∀ {l : List J} {y : J}, y ∈ l → y.deep ≤ J.deepL l
  | z :: r, y, h => by
    simp only [J.deepL]
    rcases List.mem_cons.mp h with rfl | h
    · omega
    · have := deep_mem h
      omega
theorem ok_mem {l : List J} {y : J} (o : J.okL l) (h : y ∈ l) : y.ok := (J.okL_iff l).mp o y h
theorem take_step {α β : Type} {xs : List α} {i : Nat} {j : α} (f : α → β) (e : xs[i]? = some j) : (xs.take (i + 1)).map f = (xs.take i).map f ++ [f j] := by
  rw [List.take_add_one, e, List.map_append]
  rfl
/-! words -/
theorem w_in_parts (k : Bool) : inV (.str (kwP k)) [.str "seq", .str "par"] = true := by cases k <;> decide +kernel
theorem w_in_parts_no (k : Bool) : inV (.str (kwR k)) [.str "seq", .str "par"] = false := by cases k <;> decide +kernel
theorem w_in_rounds (k : Bool) : inV (.str (kwR k)) [.str "repeat", .str "copies"] = true := by cases k <;> decide +kernel
theorem w_in_rounds_no (k : Bool) : inV (.str (kwP k)) [.str "repeat", .str "copies"] = false := by cases k <;> decide +kernel
theorem w_seq (k : Bool) : decide (V.str (kwP k) = V.str "seq") = !k := by cases k <;> decide +kernel
theorem w_par (k : Bool) : decide (V.str (kwP k) = V.str "par") = k := by cases k <;> decide +kernel
theorem w_seq_no (k : Bool) : decide (V.str (kwR k) = V.str "seq") = false := by cases k <;> decide +kernel
theorem w_par_no (k : Bool) : decide (V.str (kwR k) = V.str "par") = false := by cases k <;> decide +kernel
theorem w_copies (k : Bool) : decide (V.str (kwR k) = V.str "copies") = k := by cases k <;> decide +kernel
theorem w_dec_int {a b : Int} : decide (V.int a = V.int b) = decide (a = b) := by
  by_cases h : a = b
  · subst h
    simp
  · rw [decide_eq_false h, decide_eq_false (fun z => h (V.int.inj z))]
/-! the data of a job: fine to be shown, comparable -/
theorem kwP_fine (k : Bool) : fine (.str (kwP k)) := by cases k <;> (simp only [fine]; decide +kernel)
theorem kwR_fine (k : Bool) : fine (.str (kwR k)) := by cases k <;> (simp only [fine]; decide +kernel)
theorem kwP_bulk (k : Bool) : (PyData.str (kwP k)).bulk ≤ 10 := by cases k <;> (simp only [PyData.bulk]; decide +kernel)
theorem kwR_bulk (k : Bool) : (PyData.str (kwR k)).bulk ≤ 10 := by cases k <;> (simp only [PyData.bulk]; decide +kernel)
theorem lt180 {i : Int} (h0 : -M60 ≤ i) (h : i ≤ M60) : i.natAbs < 10 ^ 180 := by
  simp only [M60] at h0 h
  exact Nat.lt_of_le_of_lt (show i.natAbs ≤ 1000000000000000000000000000000000000000000000000000000000000 by omega) (by decide +kernel)
mutual
theorem J.fine : ∀ j : J, j.ok → fine j.toD
  | .st i, h => by
    simp only [J.ok, M30] at h
    simp only [J.toD, Rp.fine]
    exact lt180 (by simp only [M60]; omega) (by simp only [M60]; omega)
  | .ps k xs, h => by
    simp only [J.ok] at h
    have h1 := J.fines xs h.2.1
    have h2 := kwP_fine k
    simp only [J.toD, Rp.fine, fines] at *
    exact ⟨h2, h1, trivial⟩
  | .rn k n x, h => by
    simp only [J.ok, M30] at h
    have h1 := J.fine x h.2.1
    have h2 := kwR_fine k
    simp only [J.toD, Rp.fine, fines] at *
    exact ⟨h2, lt180 (by simp only [M60]; omega) (by simp only [M60]; omega), h1, trivial⟩
theorem J.fines : ∀ xs : List J, J.okL xs → fines (J.toDs xs)
  | [], _ => by simp [J.toDs, Rp.fines]
  | x :: xs, h => by
    simp only [J.okL] at h
    simp only [J.toDs, Rp.fines]
    exact ⟨J.fine x h.1, J.fines xs h.2⟩
end
mutual
theorem J.bulk : ∀ j : J, (j.toD.bulk : Int) ≤ 20 * j.nodes - 5
  | .st i => by simp only [J.toD, PyData.bulk, J.nodes]; omega
  | .ps k xs => by
    have h1 := J.bulks xs
    have h2 := kwP_bulk k
    simp only [J.toD, PyData.bulk, PyData.bulkAll, J.nodes] at *
    omega
  | .rn k n x => by
    have h1 := J.bulk x
    have h2 := kwR_bulk k
    simp only [J.toD, PyData.bulk, PyData.bulkAll, J.nodes] at *
    omega
theorem J.bulks : ∀ xs : List J, (PyData.bulkAll (J.toDs xs) : Int) ≤ 20 * J.nodesL xs
  | [] => by simp [J.toDs, PyData.bulkAll, J.nodesL]
  | x :: xs => by
    have h1 := J.bulk x
    have h2 := J.bulks xs
    simp only [J.toDs, PyData.bulkAll, J.nodesL, List.length_cons] at *
    omega
end
mutual
theorem J.depth : ∀ j : J, j.toD.depth ≤ 2 * j.deep
  | .st i => by simp [J.toD, PyData.depth]
  | .ps k xs => by
    have h1 := J.depths xs
    simp only [J.toD, PyData.depth, PyData.depthAll, J.deep]
    omega
  | .rn k n x => by
    have h1 := J.depth x
    simp only [J.toD, PyData.depth, PyData.depthAll, J.deep]
    omega
theorem J.depths : ∀ xs : List J, PyData.depthAll (J.toDs xs) ≤ 2 * J.deepL xs
  | [] => by simp [J.toDs, PyData.depthAll, J.deepL]
  | x :: xs => by
    have h1 := J.depth x
    have h2 := J.depths xs
    simp only [J.toDs, PyData.depthAll, J.deepL]
    omega
end
theorem kwP_strOk (k : Bool) : PyData.canLay0 (.str (kwP k)) = true := by cases k <;> (simp only [PyData.canLay0]; decide +kernel)
theorem kwR_strOk (k : Bool) : PyData.canLay0 (.str (kwR k)) = true := by cases k <;> (simp only [PyData.canLay0]; decide +kernel)
mutual
theorem J.canLay : ∀ j : J, j.toD.canLay0 = true
  | .st i => by simp [J.toD, PyData.canLay0]
  | .ps k xs => by
    have h1 := J.canLays xs
    have h2 := kwP_strOk k
    simp only [J.toD, PyData.canLay0, PyData.canLayAll0, h1, Bool.and_true, Bool.true_and] at *
    exact h2
  | .rn k n x => by
    have h1 := J.canLay x
    have h2 := kwR_strOk k
    simp only [J.toD, PyData.canLay0, PyData.canLayAll0, h1, Bool.and_true, Bool.true_and] at *
    exact h2
theorem J.canLays : ∀ xs : List J, PyData.canLayAll0 (J.toDs xs) = true
  | [] => rfl
  | x :: xs => by
    have h1 := J.canLay x
    have h2 := J.canLays xs
    simp only [J.toDs, PyData.canLayAll0, h1, h2, Bool.and_self]
end
theorem J.shaped (j : J) (h : j.deep ≤ 30) : SeqAt.shaped j.toD = true := by
  have h1 := J.canLay j
  have h2 := J.depth j
  unfold SeqAt.shaped
  rw [h1, decide_eq_true (by omega)]
  rfl
theorem J.eqv (j : J) : PyData.eqv j.toD j.toD = true := SeqAt.eqv_refl _ (J.canLay j)
end Lw
/-! Rq: data of any kind (lists that nobody changes, dicts), beside a pot at p: isinstance, in, repr. -/
namespace Rp
open PySem L2 PyProof.Rows

theorem str_eq_dict (b : Str) (u : Tok) (a : Addr) : Meets (Builtin.«str.__eq__» { pos := [Value.str b u, Value.ref a] }) fun _ R s => (∃ o es n, s.heap.get? a = some o ∧ o.data = Data.dict es n) ∧ R (.ok (.ret Value.notImplemented)) s := by
  rintro prog w A R s ⟨⟨o, es, n, h, hd⟩, q⟩
  have e : Builtin.«str.__eq__» { pos := [Value.str b u, Value.ref a] } = (do
      let o ← asStr? (Value.ref a)
      match o with
      | some o => ret (Value.bool (b.cps.toList == o.cps.toList))
      | none => do
          rule (toString "str." ++ toString "__eq__" ++ toString ".not-a-str")
          ret Value.notImplemented) := rfl
  rw [e]
  refine wpAny_bind ?_
  unfold asStr?
  refine wpAny_bind (wpAny_load h ?_)
  rw [hd]
  refine wpAny_pure ?_
  refine wpAny_bind (wpAny_rule ?_)
  exact wpAny_pure q
theorem dict_eq_str (b : Str) (u : Tok) (a : Addr) : Meets (Builtin.«dict.__eq__» { pos := [Value.ref a, Value.str b u] }) fun _ R s => R (.ok (.ret Value.notImplemented)) s := by
  rintro prog w A R s q
  have e : Builtin.«dict.__eq__» { pos := [Value.ref a, Value.str b u] } = (do
      let x ← isInstance (Value.str b u) (Value.type "dict")
      if (!x) = true then do
          rule (toString "dict." ++ toString "__eq__" ++ toString ".not-a-dict")
          ret Value.notImplemented
        else do
          let p ← Builtin.Dict.addrOf (Value.ref a)
          let q ← Builtin.Dict.addrOf (Value.str b u)
          let z ← Builtin.Dict.samePairs (toString "dict." ++ toString "__eq__") p q
          ret (Value.bool (z == true))) := rfl
  rw [e]
  refine wpAny_bind (wpAny_isInstance_val (b := false) (T := "str") rfl (by rfl) ?_)
  refine wpAny_bind (wpAny_rule ?_)
  exact wpAny_pure q
theorem rc_str_dict {A : Around} {s : Shared} {a : Addr} {o : Obj} {es : Array DictEntry} {n : Nat} (b : Str) (u : Tok) (h : s.heap.get? a = some o) (hc : o.cls = .type "dict") (hd : o.data = .dict es n) (room : A.units < cLine) : SeqAt.RcAt A s (.str b u) (.ref a) false := by
  intro prog w E Q q
  have ta : s.TypeIs (.str b u) "str" := by rfl
  have tb : s.TypeIs (.ref a) "dict" := ⟨o, h, hc⟩
  have e1 : ∀ Q' : Value → Shared → Prop, Q' Value.notImplemented s → wpAny (model prog w) A (call (Value.builtin "str.__eq__") [.str b u, .ref a]) Q' E s := fun Q' z =>
    call_meets PyProof.Rows.slot_str_eq ta F.entry_str_eq (F.args_str_eq_2 _ _) (str_eq_dict b u a) ⟨⟨o, es, n, h, hd⟩, z⟩
  have e2 : ∀ Q' : Value → Shared → Prop, Q' Value.notImplemented s → wpAny (model prog w) A (call (Value.builtin "dict.__eq__") [.ref a, .str b u]) Q' E s := fun Q' z =>
    call_meets F.slot_dict_eq tb F.entry_dict_eq (F.args_dict_eq_2 _ _) (dict_eq_str b u a) z
  exact SeqAt.rc_eq_decline_or (Ta := "str") (Tb := "dict") (k := false) ta tb (by decide) (by rfl) PyProof.Rows.slot_str_eq F.slot_dict_eq_refl e1 e2 (fun Q' z => wpAny_pure z) (.inr room) q
theorem eq_str_dict {A : Around} {s : Shared} {a : Addr} {o : Obj} {es : Array DictEntry} {n : Nat} (b : Str) (u : Tok) (h : s.heap.get? a = some o) (hc : o.cls = .type "dict") (hd : o.data = .dict es n) (room : A.units < cLine) : SeqAt.EqAt A s (.str b u) (.ref a) false := by
  intro prog w E Q q
  unfold eqBool
  refine wpAny_holding ?_
  have e : (Value.str b u == Value.ref a) = false := rfl
  simp only [e, Bool.false_eq_true, if_false]
  refine wpAny_bind (rc_str_dict b u h hc hd room prog w E _ ?_)
  exact wpAny_truthy_bool q

mutual
inductive Dq (K : PySem.W.Frag) (p : Addr) (H : Hp) : V → PyData → Prop
  | non : Dq K p H .non .none
  | bl (b : Bool) : Dq K p H (.bl b) (.bool b)
  | int (i : Int) : Dq K p H (.int i) (.int i)
  | str (x : Str) : Dq K p H (.str x) (.str x)
  | lst {a : Addr} {xs : List V} {ds : List PyData} : a ≠ p → H a = some (.lst xs) → DqAll K p H xs ds → Dq K p H (.ref a) (.list ds)
  | tup {a : Addr} {xs : List V} {ds : List PyData} : SqT K H a xs → DqAll K p H xs ds → Dq K p H (.ref a) (.tuple ds)
  | dct {a : Addr} {kvs : List (Key × V)} {ds : List (PyData × PyData)} : a ≠ p → H a = some (.dK kvs) → (ds = [] → kvs = []) → Dq K p H (.ref a) (.dict ds)
inductive DqAll (K : PySem.W.Frag) (p : Addr) (H : Hp) : List V → List PyData → Prop
  | nil : DqAll K p H [] []
  | cons {v : V} {d : PyData} {vs : List V} {ds : List PyData} : Dq K p H v d → DqAll K p H vs ds → DqAll K p H (v :: vs) (d :: ds)
end
mutual
theorem dq_of {K : PySem.W.Frag} {p : Addr} {H : Hp} : ∀ {d : PyData} {v : V}, noL d = true → Dp K H v d → Dq K p H v d
  | .none, _, _, h => by cases h; exact .non
  | .bool _, _, _, h => by cases h; exact .bl _
  | .int _, _, _, h => by cases h; exact .int _
  | .str _, _, _, h => by cases h; exact .str _
  | .list _, _, n, _ => by simp [noL] at n
  | .tuple ds, _, n, h => by
    cases h with
    | tup hs ha => exact .tup hs (dqAll_of (by simpa [noL] using n) ha)
  | .dict _, _, _, h => by cases h
theorem dqAll_of {K : PySem.W.Frag} {p : Addr} {H : Hp} : ∀ {ds : List PyData} {vs : List V}, noLs ds = true → DpAll K H vs ds → DqAll K p H vs ds
  | [], _, _, h => by cases h; exact .nil
  | d :: ds, _, n, h => by
    cases h with
    | cons h1 h2 =>
      have n' : noL d = true ∧ noLs ds = true := by simpa [noLs] using n
      exact .cons (dq_of n'.1 h1) (dqAll_of n'.2 h2)
end
/-- what keeps such data: tuples, and all but p -/
structure Kp (K : PySem.W.Frag) (p : Addr) (H H' : Hp) : Prop where
  sx : Sx p H H'
  tp : ∀ a xs, SqT K H a xs → SqT K H' a xs
theorem Kp.refl {K : PySem.W.Frag} {p : Addr} {H : Hp} : Kp K p H H := ⟨Sx.refl, fun _ _ h => h⟩
theorem Kp.trans {K : PySem.W.Frag} {p : Addr} {H H1 H2 : Hp} (a : Kp K p H H1) (b : Kp K p H1 H2) : Kp K p H H2 := ⟨a.sx.trans b.sx, fun x xs h => b.tp x xs (a.tp x xs h)⟩
theorem Same.kp {K : PySem.W.Frag} {p : Addr} {H H' : Hp} (s : Same H H') : Kp K p H H' := ⟨Same.sx s, fun _ _ h => same_sqT s h⟩
theorem Sx.kp {K : PySem.W.Frag} {p : Addr} {H H' : Hp} {l : List V} (s : Sx p H H') (hp : H p = some (.lst l)) : Kp K p H H' := ⟨s, fun _ _ h => s.sqT hp h⟩
mutual
theorem Dq.keep {K : PySem.W.Frag} {p : Addr} {H H' : Hp} (s : Kp K p H H') : ∀ {d : PyData} {v : V}, Dq K p H v d → Dq K p H' v d
  | .none, _, h => by cases h; exact .non
  | .bool _, _, h => by cases h; exact .bl _
  | .int _, _, h => by cases h; exact .int _
  | .str _, _, h => by cases h; exact .str _
  | .list ds, _, h => by
    cases h with
    | lst n e ha => exact .lst n (s.sx _ _ n e) (DqAll.keep s ha)
  | .tuple ds, _, h => by
    cases h with
    | tup hs ha => exact .tup (s.tp _ _ hs) (DqAll.keep s ha)
  | .dict _, _, h => by
    cases h with
    | dct n e z => exact .dct n (s.sx _ _ n e) z
theorem DqAll.keep {K : PySem.W.Frag} {p : Addr} {H H' : Hp} (s : Kp K p H H') : ∀ {ds : List PyData} {vs : List V}, DqAll K p H vs ds → DqAll K p H' vs ds
  | [], _, h => by cases h; exact .nil
  | d :: ds, _, h => by
    cases h with
    | cons h1 h2 => exact .cons (Dq.keep s h1) (DqAll.keep s h2)
end
theorem dqAll_length {K : PySem.W.Frag} {p : Addr} {H : Hp} : ∀ {vs : List V} {ds : List PyData}, DqAll K p H vs ds → vs.length = ds.length
  | _, _, .nil => rfl
  | _, _, .cons _ h => congrArg (· + 1) (dqAll_length h)
theorem dqAll_get {K : PySem.W.Frag} {p : Addr} {H : Hp} : ∀ {vs : List V} {ds : List PyData} {i : Nat} {v : V}, DqAll K p H vs ds → vs[i]? = some v → ∃ d, ds[i]? = some d ∧ Dq K p H v d
  | _, _, _, _, .nil, e => by simp at e
  | _, _, 0, _, .cons h _, e => by
    simp at e
    subst e
    exact ⟨_, rfl, h⟩
  | _, _, i + 1, _, .cons _ t, e => by
    obtain ⟨d, e1, e2⟩ := dqAll_get (i := i) t (by simpa using e)
    exact ⟨d, by simpa using e1, e2⟩
theorem dqAll_append {K : PySem.W.Frag} {p : Addr} {H : Hp} : ∀ {vs ws : List V} {ds es : List PyData}, DqAll K p H vs ds → DqAll K p H ws es → DqAll K p H (vs ++ ws) (ds ++ es)
  | _, _, _, _, .nil, h => h
  | _, _, _, _, .cons h t, h' => .cons h (dqAll_append t h')
theorem dqAll_take {K : PySem.W.Frag} {p : Addr} {H : Hp} : ∀ (n : Nat) {vs : List V} {ds : List PyData}, DqAll K p H vs ds → DqAll K p H (vs.take n) (ds.take n)
  | 0, _, _, _ => by simpa using .nil
  | n + 1, _, _, .nil => by simpa using .nil
  | n + 1, _, _, .cons h t => by simpa using .cons h (dqAll_take n t)
theorem dqAll_drop {K : PySem.W.Frag} {p : Addr} {H : Hp} : ∀ (n : Nat) {vs : List V} {ds : List PyData}, DqAll K p H vs ds → DqAll K p H (vs.drop n) (ds.drop n)
  | 0, _, _, h => by simpa using h
  | n + 1, _, _, .nil => by simpa using .nil
  | n + 1, _, _, .cons h t => by simpa using dqAll_drop n t
theorem dq_int_inv {K : PySem.W.Frag} {p : Addr} {H : Hp} {v : V} {i : Int} (h : Dq K p H v (.int i)) : v = .int i := by cases h; rfl
theorem dq_str_inv {K : PySem.W.Frag} {p : Addr} {H : Hp} {v : V} {x : Str} (h : Dq K p H v (.str x)) : v = .str x := by cases h; rfl
theorem dq_bool_inv {K : PySem.W.Frag} {p : Addr} {H : Hp} {v : V} {b : Bool} (h : Dq K p H v (.bool b)) : v = .bl b := by cases h; rfl
theorem dq_tup_inv {K : PySem.W.Frag} {p : Addr} {H : Hp} {v : V} {ds : List PyData} (h : Dq K p H v (.tuple ds)) : ∃ a xs, v = .ref a ∧ SqT K H a xs ∧ DqAll K p H xs ds := by
  cases h with
  | tup h1 h2 => exact ⟨_, _, rfl, h1, h2⟩
theorem tupq {K : PySem.W.Frag} {p q : Addr} {H : Hp} {xs : List V} {ds : List PyData} (hq : H q = none) (h : DqAll K p H xs ds) : Same H (upd H q (.tup xs)) ∧ Dq K p (upd H q (.tup xs)) (.ref q) (.tuple ds) :=
  ⟨same_new hq, .tup (.inl (.inl upd_same)) (h.keep (Same.kp (same_new hq)))⟩
theorem lstq {K : PySem.W.Frag} {p q : Addr} {H : Hp} {xs : List V} {ds : List PyData} (n : q ≠ p) (hq : H q = none) (h : DqAll K p H xs ds) : Same H (upd H q (.lst xs)) ∧ Dq K p (upd H q (.lst xs)) (.ref q) (.list ds) :=
  ⟨same_new hq, .lst n upd_same (h.keep (Same.kp (same_new hq)))⟩

mutual
def noD : PyData → Bool
  | .list ds => noDs ds
  | .tuple ds => noDs ds
  | .dict _ => false
  | _ => true
def noDs : List PyData → Bool
  | [] => true
  | d :: ds => noD d && noDs ds
end
mutual
theorem Dq.dp {K : PySem.W.Frag} {p : Addr} {H : Hp} : ∀ {d : PyData} {v : V}, noD d = true → Dq K p H v d → Dp K H v d
  | .none, _, _, h => by cases h; exact .non
  | .bool _, _, _, h => by cases h; exact .bl _
  | .int _, _, _, h => by cases h; exact .int _
  | .str _, _, _, h => by cases h; exact .str _
  | .list ds, _, n, h => by
    cases h with
    | lst _ e ha => exact .lst (SqL.of e) (DqAll.dp (by simpa [noD] using n) ha)
  | .tuple ds, _, n, h => by
    cases h with
    | tup hs ha => exact .tup hs (DqAll.dp (by simpa [noD] using n) ha)
  | .dict _, _, n, _ => by simp [noD] at n
theorem DqAll.dp {K : PySem.W.Frag} {p : Addr} {H : Hp} : ∀ {ds : List PyData} {vs : List V}, noDs ds = true → DqAll K p H vs ds → DpAll K H vs ds
  | [], _, _, h => by cases h; exact .nil
  | d :: ds, _, n, h => by
    cases h with
    | cons h1 h2 =>
      have n' : noD d = true ∧ noDs ds = true := by simpa [noDs] using n
      exact .cons (Dq.dp n'.1 h1) (DqAll.dp n'.2 h2)
end
theorem dq_ty {K : PySem.W.Frag} {p : Addr} {H : Hp} {v : V} {d : PyData} (h : Dq K p H v d) : TyX K H v (.type (tyN d)) := by
  cases h with
  | non => exact .base .non
  | bl b => exact .base (.bl b)
  | int i => exact .base (.int i)
  | str x => exact .base (.str x)
  | lst n hs ha => exact .base (.lst hs)
  | tup hs ha =>
    rcases hs with (e | ⟨o, e⟩) | ⟨o, its, n, hk, hc, _⟩
    · exact .base (.tup e)
    · exact .fTuple e
    · exact .kTuple hk hc
  | dct n e z => exact .base (.dK e)
section
variable {X : Cx}
def rIsQ (K : PySem.W.Frag) : List V → Hp → VK → Prop := fun xs H Q => ∃ (v : V) (n : String) (p : Addr) (d : PyData) (b : Bool), xs = [v, .ty n] ∧ Dq K p H v d ∧ kitB (tyN d) n = some b ∧ Q (.bl b) H
theorem call_isQ : CallR X (.builtin "isinstance") (rIsQ X.K) := by
  intro pins s σ H xs us Q I r h
  obtain ⟨v, n, p, d, b, e, hd, hk, q⟩ := h
  exact call_isi pins s σ H xs us Q I r ⟨v, .ty n, _, _, _, e, .ty n, dq_ty hd, kit_ty hk, q⟩
/-- is the data one of these texts -/
def inS (d : PyData) (ss : List Str) : Bool := match d with
  | .str x => ss.any (· == x)
  | _ => false
theorem isTuple_of {pins : List (Addr × Obj)} {σ : L2.St} {H : Hp} {s : Shared} {a : Addr} {xs : List V} (I : Inv X pins σ H s) (h : SqT X.K H a xs) : ∃ its : Array Value, Vals xs its.toList ∧ s.heap.IsTuple a its := by
  rcases h with h | ⟨o, its, n, hk, hc, hd, hz, hv⟩
  · obtain ⟨_, its, hv, ht⟩ := h.ok I.hok
    exact ⟨its.toArray, by simpa using hv, ht⟩
  · exact ⟨its, hv, o, I.kIn _ _ hk, hc, n, hd⟩
theorem vals_strs : ∀ {ss : List Str} {us : List Value}, Vals (ss.map V.str) us → ∃ ts : List (Str × Tok), us = ts.map (fun z => .str z.1 z.2) ∧ ts.map (·.1) = ss
  | [], us, h => by
    generalize e : ([] : List Str).map V.str = vs at h
    cases h with
    | nil => exact ⟨[], rfl, rfl⟩
    | cons r h => cases e
  | x :: ss, us, h => by
    generalize e : (x :: ss).map V.str = vs at h
    cases h with
    | nil => cases e
    | cons r h =>
      obtain ⟨rfl, rfl⟩ := List.cons.inj e
      obtain ⟨ts, rfl, rfl⟩ := vals_strs h
      obtain ⟨t, rfl⟩ := r
      exact ⟨(x, t) :: ts, rfl, rfl⟩
def rInQ (K : PySem.W.Frag) : R2 := fun x y H Q => ∃ (p a : Addr) (ss : List Str) (d : PyData), y = .ref a ∧ SqT K H a (ss.map V.str) ∧ Dq K p H x d ∧ Q (.bl (inS d ss)) H
theorem op_inQ (hu : X.A.units + 66 < cLine) : OpR X (compareOp .In) (rInQ X.K) := by
  rintro pins s σ H x y v u Q I rv ru ⟨p, a, ss, d, rfl, ht, hd, q⟩
  obtain rfl : u = .ref a := ru
  obtain ⟨its, hv, hit⟩ := isTuple_of I ht
  obtain ⟨ts, e1, e2⟩ := vals_strs hv
  have room : X.A.in1.units < cLine := by
    show X.A.units + 1 < cLine
    omega
  refine SeqAt.in_tupleAt (fun y => match y with | .str w _ => inS d [w] | _ => false) hit (fun y hy => ?_) ?_
  · have hy' : y ∈ its.toList := by simpa using hy
    rw [e1] at hy'
    obtain ⟨⟨w, t⟩, _, rfl⟩ := List.mem_map.mp hy'
    show SeqAt.EqAt X.A.in1 s (.str w t) v (inS d [w])
    cases hd with
    | non =>
      obtain rfl : v = .none := rv
      exact SeqAt.EqAt.str_none _ _
    | bl b =>
      obtain rfl : v = .bool b := rv
      exact SeqAt.EqAt.str_bool _ _ _
    | int i =>
      obtain ⟨t', rfl⟩ := rv
      exact SeqAt.EqAt.str_int _ _ _ _
    | str x =>
      obtain ⟨t', rfl⟩ := rv
      have e : inS (.str x) [w] = (w == x) := by simp [inS]
      rw [e]
      exact SeqAt.EqAt.str_str _ _ _ _
    | lst n e ha =>
      rename_i l xs ds
      obtain rfl : v = .ref l := rv
      obtain ⟨_, its', n', hv', ho⟩ := I.hok _ _ e
      exact SeqAt.EqAt.str_list (items := its'.toArray) _ _ ⟨_, ho, rfl, n', rfl⟩ room
    | tup hs ha =>
      rename_i l xs ds
      obtain rfl : v = .ref l := rv
      obtain ⟨its', hv', ho⟩ := isTuple_of I hs
      exact SeqAt.EqAt.str_tuple (items := its') _ _ ho room
    | dct n e z =>
      rename_i l kvs ds
      obtain rfl : v = .ref l := rv
      obtain ⟨_, _, vs, _, o, es, ep, h1, h2, h3, _⟩ := I.hok _ _ e
      exact eq_str_dict _ _ h1 h2.1 h3 room
  · refine ⟨.bl (inS d ss), H, I, ?_, q⟩
    show Value.bool _ = Value.bool _
    congr 1
    rw [← Array.any_toList, e1, ← e2, List.any_map]
    cases d <;> simp [inS, Function.comp_def]

mutual
/-- data whose text is made without trouble: only empty dicts -/
def fineQ : PyData → Prop
  | .int i => i.natAbs < 10 ^ 180
  | .str x => (x.cps.toList.all fun c => decide (c < 16 ^ 8)) = true
  | .list xs => finesQ xs
  | .tuple xs => finesQ xs
  | .dict ds => ds = []
  | _ => True
def finesQ : List PyData → Prop
  | [] => True
  | x :: xs => fineQ x ∧ finesQ xs
end
mutual
theorem fineQ_ok : ∀ d : PyData, fineQ d → d.showable = true ∧ d.leavesShort 200 = true
  | .none, _ => by simp [PyData.showable, PyData.leavesShort]
  | .bool _, _ => by simp [PyData.showable, PyData.leavesShort]
  | .int i, h => by
    simp only [fineQ] at h
    simp only [PyData.showable, PyData.leavesShort, decide_eq_true_eq]
    exact ⟨int_log h, shown_int h⟩
  | .str x, h => by
    simp only [fineQ] at h
    simp only [PyData.showable, PyData.leavesShort, true_and]
    exact h
  | .list xs, h => by
    simp only [fineQ] at h
    simp only [PyData.showable, PyData.leavesShort]
    exact finesQ_ok xs h
  | .tuple xs, h => by
    simp only [fineQ] at h
    simp only [PyData.showable, PyData.leavesShort]
    exact finesQ_ok xs h
  | .dict ds, h => by
    simp only [fineQ] at h
    subst h
    simp [PyData.showable, PyData.showableKv, PyData.leavesShort, PyData.leavesShortKv]
theorem finesQ_ok : ∀ xs : List PyData, finesQ xs → PyData.showableAll xs = true ∧ PyData.leavesShortAll 200 xs = true
  | [], _ => by simp [PyData.showableAll, PyData.leavesShortAll]
  | x :: xs, h => by
    simp only [finesQ] at h
    obtain ⟨a1, a2⟩ := fineQ_ok x h.1
    obtain ⟨b1, b2⟩ := finesQ_ok xs h.2
    simp only [PyData.showableAll, PyData.leavesShortAll, a1, a2, b1, b2, Bool.and_self, and_self]
end
mutual
theorem Dq.reads {p : Addr} {pins : List (Addr × Obj)} {σ : L2.St} {H : Hp} {s : Shared} (I : Inv X pins σ H s) (hs : H sysModules = none) : ∀ (d : PyData) (v : V) (u : Value), fineQ d → Dq X.K p H v d → RelV v u → ∃ as, Reads s.heap u d as ∧ sysModules ∉ as
  | .none, _, u, _, h, r => by
    cases h
    obtain rfl : u = .none := r
    exact ⟨_, .none, by simp⟩
  | .bool b, _, u, _, h, r => by
    cases h
    obtain rfl : u = .bool b := r
    exact ⟨_, .bool b, by simp⟩
  | .int i, _, u, _, h, r => by
    cases h
    obtain ⟨t, rfl⟩ := r
    exact ⟨_, .int i t, by simp⟩
  | .str x, _, u, _, h, r => by
    cases h
    obtain ⟨t, rfl⟩ := r
    exact ⟨_, .str x t, by simp⟩
  | .list ds, _, u, f, h, r => by
    cases h with
    | lst n e ha =>
      rename_i l xs
      obtain rfl : u = .ref l := r
      obtain ⟨_, its', n', hv', ho⟩ := I.hok _ _ e
      obtain ⟨as, ra, na⟩ := DqAll.reads I hs ds xs its' (by simpa only [fineQ] using f) ha hv'
      refine ⟨_, .list ho rfl rfl (by simpa using ra), ?_⟩
      intro z
      rcases List.mem_cons.mp z with z | z
      · rw [z, e] at hs
        cases hs
      · exact na z
  | .tuple ds, _, u, f, h, r => by
    cases h with
    | tup ht ha =>
      rename_i l xs
      obtain rfl : u = .ref l := r
      obtain ⟨its', hv', o, h1, h2, n, h3⟩ := isTuple_of I ht
      obtain ⟨as, ra, na⟩ := DqAll.reads I hs ds xs its'.toList (by simpa only [fineQ] using f) ha hv'
      exact ⟨_, .tuple h1 h2 h3 ra, na⟩
  | .dict ds, _, u, f, h, r => by
    cases h with
    | dct n e z =>
      rename_i l kvs
      obtain rfl : u = .ref l := r
      simp only [fineQ] at f
      subst f
      obtain rfl := z rfl
      obtain ⟨_, _, vs, kv, o, es, ep, h1, h2, h3, _, h4, _⟩ := I.hok _ _ e
      generalize ek : ([] : List (Key × V)) = kk at kv
      cases kv with
      | cons _ _ => cases ek
      | nil =>
        generalize ee : es.toList = el at h4
        cases h4
        have e0 : es = #[] := by
          apply Array.ext'
          simpa using ee
        subst e0
        refine ⟨_, .dict (as := []) (bs := []) h1 h2.1 h3 (by simpa using .nil) (by simpa using .nil), ?_⟩
        intro y
        have y' : sysModules = l := by simpa using y
        rw [y', e] at hs
        cases hs
theorem DqAll.reads {p : Addr} {pins : List (Addr × Obj)} {σ : L2.St} {H : Hp} {s : Shared} (I : Inv X pins σ H s) (hs : H sysModules = none) : ∀ (ds : List PyData) (vs : List V) (us : List Value), finesQ ds → DqAll X.K p H vs ds → Vals vs us → ∃ as, ReadsAll s.heap us ds as ∧ sysModules ∉ as
  | [], _, us, _, h, r => by
    cases h
    generalize e : ([] : List V) = l at r
    cases r with
    | nil => exact ⟨_, .nil, by simp⟩
    | cons _ _ => cases e
  | d :: ds, _, us, f, h, r => by
    cases h with
    | cons h1 h2 =>
      rename_i v vs
      generalize e : v :: vs = l at r
      cases r with
      | nil => cases e
      | cons r1 r2 =>
        obtain ⟨rfl, rfl⟩ := List.cons.inj e
        simp only [finesQ] at f
        obtain ⟨as, ra, na⟩ := Dq.reads I hs d _ _ f.1 h1 r1
        obtain ⟨bs, rb, nb⟩ := DqAll.reads I hs ds _ _ f.2 h2 r2
        exact ⟨_, .cons ra rb, by simp [na, nb]⟩
end
/-- the written part holds the table of modules -/
def Sys (base : Heap) : Prop := ∃ o, base.get? sysModules = some o
theorem Inv.nosys {pins : List (Addr × Obj)} {σ : L2.St} {H : Hp} {s : Shared} (I : Inv X pins σ H s) (hb : Sys X.base) : H sysModules = none := by
  obtain ⟨o, hb⟩ := hb
  obtain ⟨h1, h2⟩ := I.ok.bs _ _ hb
  exact I.base.free _ _ h1 h2 (I.ok.noex _ _ hb)
def rReprQ (K : PySem.W.Frag) : List V → Hp → VK → Prop := fun xs H Q => ∃ (p : Addr) (v : V) (d : PyData), xs = [v] ∧ Dq K p H v d ∧ fineQ d ∧ d.depth ≤ 64 ∧ d.bulk ≤ 80000 ∧ Q (.str d.shown) H
theorem call_reprQ (hb : Sys X.base) (hg : X.A.guards = some []) (hu : X.A.units + 66 < cLine) : CallR X (.builtin "repr") (rReprQ X.K) := by
  intro pins s σ H xs us Q I r h
  obtain ⟨p, v, d, rfl, hd, hf, hdep, hw, q⟩ := h
  obtain ⟨hs, hl⟩ := fineQ_ok d hf
  have hz : d.shown.length ≤ sizeLine := by
    have := PyData.shown_le_bulk 200 (by decide) d hl
    rw [sizeLine_eq]
    omega
  obtain ⟨u, rfl, ru⟩ := vals1 r
  obtain ⟨as, hr, hsm⟩ := Dq.reads I (Inv.nosys I hb) d v u hf hd ru
  cases hr with
  | none => exact P.repr_of_none ⟨.str _, H, I.tok _, ⟨_, rfl⟩, q⟩
  | bool b => exact P.repr_of_bool ⟨.str _, H, I.tok _, ⟨_, rfl⟩, q⟩
  | int i t => exact P.repr_of_int (by simpa [PyData.showable] using hs) ⟨.str _, H, I.tok _, ⟨_, rfl⟩, q⟩
  | str x t => exact P.repr_of_str ⟨.str _, H, I.tok _, ⟨_, rfl⟩, q⟩ (by simpa only [PyData.shown] using hz)
  | list h1 h2 h3 h4 =>
    refine repr_of_reads' (h₀ := s.heap) (.list h1 h2 h3 h4) hs (fun _ => hsm) hg (by omega) (fun _ _ e => e) (fun h' u' tk hk => ?_) hz
    exact ⟨.str _, H, I.kept hk, ⟨_, rfl⟩, q⟩
  | tuple h1 h2 h3 h4 =>
    refine repr_of_reads' (h₀ := s.heap) (.tuple h1 h2 h3 h4) hs (fun _ => hsm) hg (by omega) (fun _ _ e => e) (fun h' u' tk hk => ?_) hz
    exact ⟨.str _, H, I.kept hk, ⟨_, rfl⟩, q⟩
  | dict h1 h2 h3 h4 h5 =>
    refine repr_of_reads' (h₀ := s.heap) (.dict h1 h2 h3 h4 h5) hs (fun _ => hsm) hg (by omega) (fun _ _ e => e) (fun h' u' tk hk => ?_) hz
    exact ⟨.str _, H, I.kept hk, ⟨_, rfl⟩, q⟩

def rInLD (K : PySem.W.Frag) : R2 := fun x y H Q => ∃ (ds : List PyData) (d : PyData), Dp K H y (.list ds) ∧ Dp K H x d ∧ PyData.canLayAll0 ds = true ∧ d.canLay0 = true ∧ d.depth ≤ 60 ∧ Q (.bl (ds.any fun e => e.eqv d)) H
theorem op_inLD (hu : X.A.units + 66 < cLine) : OpR X (compareOp .In) (rInLD X.K) := by
  rintro pins s σ H x y v u Q I rv ru ⟨ds, d, hy, hx, c1, c2, c3, q⟩
  obtain ⟨as, r1⟩ := Dp.reads I _ _ _ hy ru
  obtain ⟨bs, r2⟩ := Dp.reads I _ _ _ hx rv
  refine SeqAt.in_list_reads r1 r2 c1 c2 ?_ ⟨.bl _, H, I, rfl, q⟩
  have : min (PyData.depthAll ds) d.depth ≤ 60 := Nat.le_trans (Nat.min_le_right _ _) c3
  omega

end
end Rp

namespace Rp
open PySem L2 PyProof.Rows
theorem law_endS {l : PySem.W.OpenLaw} {n k : Nat} {q : Program} {loose : List Str} {XP : (Str → Option Value) → Heap → Prop} {YP : World → Heap → Prop} {d : DefRec} {K : Params → PySem.W.Frag} {sp : PySem.W.Frag → Sp} {x : Str}
    (hn : l.most = some n) (hn2 : n ≤ sizeLine) (hdf : d.params.defaults = []) (hr : Room k callerA) (himp : importsNone q = true)
    (hY : ∀ (w : World) (h : Heap), YP w h → (K w.params).In h)
    (F : ∀ (w : World) (mg : Str → Option Value) (fa : Addr) (h : Heap), (K w.params).In h → h.Ns mainGlobals mg → mg d.name = some (.ref fa) →
      ∃ fd : FuncData, (∀ (s : Shared) (u : Value), BindsTo s fd ⟨[u], []⟩ [(x, u)]) ∧
        ∀ base : Heap, (K w.params).In base → base.Ns mainGlobals mg → Sys base → FnG l.prog w (K w.params) mg base CX0 k fa fd [x] (sp (K w.params)))
    (hsp : ∀ (K : PySem.W.Frag) (H : Hp) (a : Addr) (ns : List Int), ns.length ≤ n → Only H → SqL K H a (ns.map V.int) → sp K [.ref a] H (fun v _ => v = .bl true) fun _ _ _ => False) :
    PySem.W.WalkO q loose XP YP l.row.toRowW d [] (fun f vs => PySem.call f vs) := by
  refine Att.attach_call hn hdf fun w s₀ s₁ mg mb fa o pm cd doc a vs ns G Y ho hd hcd hmg hobj hints hlen hgens => ?_
  have kin := hY w _ Y
  obtain ⟨fd, bd, FF⟩ := F w mg fa _ kin G.T.g hmg
  obtain ⟨H, hO, hS, hok, only, notK⟩ := script_heap (P := l.prog) (w := w) kin hobj hints (Nat.le_trans hlen hn2)
  have free : ∀ {b : Addr} {ob : Obj} {es : Array DictEntry} {ep : Nat}, s₁.heap.get? b = some ob → ob.data = .dict es ep → H b = none := by
    intro b ob es ep h1 h2
    cases c : H b with
    | none => rfl
    | some u =>
      have e : b = a := only b (by rw [c]; exact fun z => nomatch z)
      rw [e, hobj] at h1
      have h3 := congrArg Obj.data (Option.some.inj h1)
      rw [h2] at h3
      exact nomatch h3
  have ns' : ∀ {b : Addr} {m : Str → Option Value}, s₁.heap.Ns b m → (hidT s₁.heap H).Ns b m := by
    rintro b m ⟨ob, es, ep, h1, h2, h3⟩
    exact ⟨ob, es, ep, hidT_get h1 (free h1 h2), h2, h3⟩
  have kinB : (K w.params).In (hidT s₁.heap H) := fun b ob e => hidT_get (kin b ob e) (notK b ob e)
  have lim : (hidT s₁.heap H).NoLimit := by
    obtain ⟨mc, h1, h2⟩ := G.T.nolimit
    exact ⟨mc, ns' h1, h2⟩
  have sys : Sys (hidT s₁.heap H) := by
    obtain ⟨mm, hm, _⟩ := (G.T.seer himp).mods
    obtain ⟨ob, es, ep, h1, _⟩ := ns' hm
    exact ⟨ob, h1⟩
  have en : Env0 l.prog w (K w.params) mg (hidT s₁.heap H) callerA [] s₁ H :=
    ⟨rfl, ⟨kinB, ns' G.T.g, ⟨mb, ns' G.T.b, G.T.builtins⟩, lim⟩, fun b ob e => of_hidT e, Nat.le_of_eq (hidT_size _ _), trivial, (fun b z => nomatch z), hok, .of_eq hgens⟩
  refine codeAny_mono ((FF _ kinB (ns' G.T.g) sys).run callerA [] s₁ H ⟨[.ref a], []⟩ [.ref a] [.ref a] _ _ hr rfl en (bd s₁ (.ref a)) (.cons rfl .nil) (hsp _ H a ns hlen hO hS)) fun r s' z => ?_
  cases r with
  | error e => exact False.elim z
  | ok fl =>
    cases fl with
    | next => exact False.elim z
    | brk => exact False.elim z
    | cont => exact False.elim z
    | ret u =>
      obtain ⟨v, H', os, bare, un, hok', rr, e⟩ := z
      have e' : v = .bl true := e
      subst e'
      obtain rfl : u = Value.bool true := rr
      refine ⟨rfl, OldK.of_keep fun b ob hb => ?_, os, bare⟩
      cases c : H b with
      | none => exact un.keep b ob hb c (fun z => nomatch z) (fun z => nomatch z)
      | some u =>
        rcases hO b with z | ⟨ox, xs, z⟩
        · rw [c] at z
          cases z
        · obtain ⟨e1, _⟩ := hok b _ z
          obtain ⟨e2, _⟩ := hok' b _ (un.frzs b ox _ z)
          rw [hb] at e1
          cases e1
          exact e2
end Rp
/-! Ex: errors: what a clause names, calls that raise nothing after all. -/
namespace Rp
open PySem L2 PyProof.Rows
/-- an error of the class S is what «except T» names, when S stands below T -/
theorem exm_sub {K : PySem.W.Frag} {S T : Addr} {b : Bool} (h1 : PySem.W.subIn K (.ref T) (.type "BaseException") = some true) (h2 : PySem.W.isClsIn K T = true) (h3 : PySem.W.typeIn K (.ref T) = some (.type "type")) (h4 : PySem.W.subIn K (.ref S) (.ref T) = some b) :
    PySem.W.exmOne K (.ref S) (.ref T) = some b := by
  have e1 : (PySem.W.subIn K (.ref T) (.type "BaseException") == some true) = true := by rw [h1] <;> rfl
  have e2 : ((PySem.W.clsIn K T).isSome && PySem.W.typeIn K (.ref T) == some (.type "type")) = true := by
    have h2' : (PySem.W.clsIn K T).isSome = true := h2
    rw [h2', h3] <;> rfl
  show (if (PySem.W.subIn K (.ref T) (.type "BaseException") == some true) = true then (if ((PySem.W.clsIn K T).isSome && PySem.W.typeIn K (.ref T) == some (.type "type")) = true then PySem.W.subIn K (.ref S) (.ref T) else none) else none) = some b
  rw [if_pos e1, if_pos e2]
  exact h4
/-- a def that may raise, called where it does not -/
theorem passN {X : Cx} : Passes (L2.CX X.prog X.w) X E0 := by
  rintro pins σ H s e s' _ ⟨_, _, _, _, _, _, _, _, _, _, _, _, h⟩
  exact h.elim
/-- the heap without what stands at L -/
def mask (H : Hp) (L : Addr) : Hp := fun b => if b = L then none else H b
theorem same_mask (H : Hp) (L : Addr) : Same (mask H L) H := fun b o h => by
  unfold mask at h
  split at h
  · cases h
  · exact h
theorem mask_new {H : Hp} {L : Addr} {o : HO} (h : H L = none) : Same H (mask (upd H L o) L) := fun b u e => by
  have n : b ≠ L := fun z => by rw [z, h] at e; cases e
  show (if b = L then none else upd H L o b) = some u
  rw [if_neg n, upd_ne n]
  exact e
theorem mask_upd {H : Hp} {L : Addr} {o : HO} : mask (upd H L o) L = mask H L := by
  funext b
  unfold mask
  split
  · rfl
  · rename_i n
    exact upd_ne n
theorem mask_mono {H H' : Hp} {L : Addr} (s : Same H H') : Same (mask H L) (mask H' L) := fun b o h => by
  unfold mask at h ⊢
  split at h
  · cases h
  · rename_i n
    rw [if_neg n]
    exact s b o h
theorem mask_at {H : Hp} {L b : Addr} {o : HO} (n : b ≠ L) (h : H b = some o) : mask H L b = some o := by
  unfold mask
  rw [if_neg n]
  exact h
theorem mask_none {H : Hp} {L : Addr} : mask H L L = none := by
  unfold mask
  rw [if_pos rfl]
theorem sx_mask {H : Hp} {L : Addr} : Sx L H (mask H L) := fun b o n h => mask_at n h
end Rp
/-! En: enumerate over a tuple. -/
namespace Rp
open PySem L2 PyProof.Rows
theorem both {M : Model} {A : Around} {α : Type} {Q : α → Shared → Prop} {E : Value → Shared → Prop} {s : Shared} {f : Bool → Sem α} {b : Bool} (h : ∀ b, wpAny M A (f b) Q E s) : wpAny M A (f b) Q E s := h b
theorem meets_enumerate_newT (l : Addr) (items : Array Value) : Meets (Builtin.«enumerate.__new__» { pos := [Value.type "enumerate", Value.ref l] }) fun _ R s => s.heap.IsTuple l items ∧
    R (.ok (.ret (.ref (s.heap.push { cls := .type "tuple_iterator", data := .fields #[.ref l, .int 0 0] }).objs.size)))
      { s with heap := (s.heap.push { cls := .type "tuple_iterator", data := .fields #[.ref l, .int 0 0] }).push { cls := .type "enumerate", data := .fields #[.none, .bool false, .ref s.heap.objs.size, rawInt 0, .none, .none] } } := by
  refine Meets.of_wp fun prog w A R s hh => ?_
  obtain ⟨hl, h⟩ := hh
  have hsub := sub_enumerate
  obtain ⟨hp, g, d, tk, os⟩ := s
  refine wpAny_bind ?_
  refine wpAny_bind (wpAny_pure ?_)
  refine wpAny_ite_false rfl ?_
  refine wpAny_bind (wpAny_of_eq hsub ?_)
  refine wpAny_ite_false rfl ?_
  refine wpAny_pure ?_
  refine wpAny_ite_true rfl ?_
  refine wpAny_bind ?_
  refine wpAny_bind (wpAny_stack_any fun st => ?_)
  refine wpAny_pure ?_
  have fin : wpAny (model prog w) A.in1 (do
              let __do_lift ← pyIter (Value.ref l)
              let __do_lift ←
                Builtin.SmallTypes.newRecord (Value.type "enumerate")
                    (Builtin.SmallTypes.ownedTupleFields ++ [__do_lift, rawInt 0, Value.none, Value.none])
              ret __do_lift) (fun fin s' => ∃ v, fin = Fin.done (Flow.ret v) ∧ R (Except.ok (Flow.ret v)) s') (fun e s' => R (Except.error e) s')
    { heap := hp, gens := g, drawn := d, toks := tk, os := os } := by
    refine wpAny_bind (wpAny_pyIter_tuple hl ?_)
    refine wpAny_bind ?_
    unfold Builtin.SmallTypes.newRecord
    refine wpAny_newObj_type ?_ (by show (6 : Nat) ≤ sizeLine + 2; decide)
    exact wpAny_pure ⟨_, rfl, h⟩
  split
  · generalize (_ == Value.type "enumerate") = short
    cases short with
    | true =>
      refine wpAny_ite_true rfl ?_
      refine wpAny_bind (wpAny_pure ?_)
      exact fin
    | false =>
      refine wpAny_ite_false rfl ?_
      refine wpAny_bind (wpAny_pure ?_)
      exact fin
  · refine wpAny_ite_false rfl ?_
    refine wpAny_bind (wpAny_pure ?_)
    exact fin
theorem call_enumerate_tup {prog : Program} {w : World} {A : Around} {E : Value → Shared → Prop} {s : Shared} {l : Addr} {items : Array Value} {Q : Value → Shared → Prop} (hl : s.heap.IsTuple l items)
    (h : ∀ h' : Heap, IsEnum h' (s.heap.objs.size + 1) s.heap.objs.size 0 .none → h'.IsTupleIter s.heap.objs.size l 0 → h'.objs.size = s.heap.objs.size + 2 → (∀ (b : Addr) (o : Obj), s.heap.get? b = some o → h'.get? b = some o) →
      Q (.ref (s.heap.objs.size + 1)) { s with heap := h' }) : wpAny (model prog w) A (call (.type "enumerate") [.ref l]) Q E s := by
  refine callType_new F.called_enumerate (by decide) (F.typeCall_enumerate_1 _) (F.newCall_enumerate_1 _) (fun _ => F.args_object_init_2 _ _) F.entry_enumerate_new (meets_enumerate_newT l items) ?_
  refine ⟨hl, ?_⟩
  have e1 : (s.heap.push { cls := .type "tuple_iterator", data := .fields #[.ref l, .int 0 0] }).objs.size = s.heap.objs.size + 1 := Heap.size_push ..
  have g1 := Heap.get?_push_size s.heap (o := { cls := .type "tuple_iterator", data := .fields #[.ref l, .int 0 0] }) rfl
  have g2 := Heap.get?_push_size (s.heap.push { cls := .type "tuple_iterator", data := .fields #[.ref l, .int 0 0] }) (o := { cls := .type "enumerate", data := .fields #[.none, .bool false, .ref s.heap.objs.size, rawInt 0, .none, .none] }) rfl
  rw [e1] at g2
  rw [e1]
  refine ⟨⟨_, g2, rfl⟩, h _ g2 ⟨_, Heap.get?_push_of_some _ g1, rfl, rfl⟩ ?_ fun b o e => Heap.get?_push_of_some _ (Heap.get?_push_of_some _ e)⟩
  rw [Heap.size_push, Heap.size_push]
theorem draws_tup {prog : Program} {w : World} {A : Around} (hh : A.handled = none) (it t : Addr) (hne : t ≠ it) (items : Array Value) :
    Draws prog w A it [it, t] items.size (fun i v => items[i]? = some v) (fun i h => h.IsTupleIter it t i ∧ h.IsTuple t items) where
  live := fun i h ⟨⟨o, ho, _⟩, _⟩ => ⟨o, ho⟩
  frame := fun i h h' ⟨⟨o, ho, h1⟩, ⟨o2, ho2, h2⟩⟩ k => ⟨⟨o, k it (by simp) o ho, h1⟩, ⟨o2, k t (by simp) o2 ho2, h2⟩⟩
  item := fun i s Q E hi ⟨h1, h2⟩ q => by
    obtain ⟨o2, ho2, h3⟩ := id h2
    refine RZ.nextOf_tuple_item h1 h2 (Array.getElem?_eq_getElem hi) fun h' h4 sb => ?_
    exact q _ h' s.toks (Array.getElem?_eq_getElem hi) ⟨h4, o2, (sb.2 t hne).trans ho2, h3⟩ sb
  done := fun s Q E ⟨h1, h2⟩ q => RZ.nextOf_tuple_end hh h1 h2 (Array.getElem?_eq_none (Nat.le_refl _)) fun h' e x k => q h' e x k
theorem draws_end {prog : Program} {w : World} {A : Around} (hh : A.handled = none) (it t : Addr) (items : Array Value) {i : Nat} (hi : items.size ≤ i) :
    Draws prog w A it [it, t] i (fun _ _ => False) (fun j h => j = i ∧ h.IsTupleIter it t i ∧ h.IsTuple t items) where
  live := fun _ h ⟨_, ⟨o, ho, _⟩, _⟩ => ⟨o, ho⟩
  frame := fun _ h h' ⟨e, ⟨o, ho, h1⟩, ⟨o2, ho2, h2⟩⟩ k => ⟨e, ⟨o, k it (by simp) o ho, h1⟩, ⟨o2, k t (by simp) o2 ho2, h2⟩⟩
  item := fun j s Q E hj ⟨e, _⟩ _ => absurd hj (by omega)
  done := fun s Q E ⟨_, h1, h2⟩ q => RZ.nextOf_tuple_end hh h1 h2 (Array.getElem?_eq_none hi) fun h' e x k => q h' e x k
def IteT (K : PySem.W.Frag) (a : Addr) : It where
  go := fun i H => ∃ xs x, SqT K H a xs ∧ xs[i]? = some x
  yld := fun i H v H' => ∃ T x, v = V.ref T ∧ H T = none ∧ H' = upd H T (.tup [.int (i : Nat), x]) ∧ ∀ xs : List V, SqT K H a xs → xs[i]? = some x
  stop := fun i H => ∃ xs, SqT K H a xs ∧ xs.length ≤ i
theorem turn_enumT {P : Program} {w : World} {K : PySem.W.Frag} {elts : List Expr} {kk : Nat} {tpos : Pos} (a e it : Addr) :
    Turn P w K (.Tuple elts kk tpos) (IteT K a) [e, it] e fun i h => (∃ old, IsEnum h e it (i : Nat) old) ∧ h.IsTupleIter it a i ∧ e ≠ it ∧ a ≠ it ∧ a ≠ e := by
  refine ⟨by simp, ?_, ?_, ?_, ?_, ?_⟩
  · rintro i h ⟨⟨old, he⟩, ⟨o, ho, h1, h2⟩, hne⟩ b hb
    simp only [List.mem_cons, List.not_mem_nil, or_false] at hb
    rcases hb with rfl | rfl
    · exact ⟨_, he, fun v z => by cases z⟩
    · exact ⟨o, ho, fun v z => by rw [h2] at z; cases z⟩
  · rintro i h h' ⟨⟨old, he⟩, ⟨o, ho, h1, h2⟩, hne⟩ k
    exact ⟨⟨old, k e (by simp) _ he⟩, ⟨o, k it (by simp) _ ho, h1, h2⟩, hne⟩
  · rintro X rfl rfl rfl hcalm i pins s σ H E I fp ⟨⟨old, he⟩, hit, hne, ha1, ha2⟩ ⟨xs, x, hx, hxi⟩
    obtain ⟨its, hvals, ht, hz⟩ := I.tuple hx
    have hh : X.A.handled = none := I.ok.hd hcalm
    have W := WalksT.enumerateD (prog := X.prog) (w := X.w) (A := X.A) (draws_tup (A := X.A.in1) hh it a ha1 its.toArray) e hne (by simp [hne, Ne.symm ha2]) (by simp)
    obtain ⟨u, hu, hru⟩ := hvals.get hxi
    have hlt : i < its.length := (List.getElem?_eq_some_iff.mp hu).1
    refine W.item i s _ E (by simpa using hlt) ⟨⟨old, he⟩, hit, ht⟩ (fun T vals h' tk hv hT hTup hMid fr => ⟨_, rfl, ?_⟩)
    refine W.go elts kk tpos i T _ _ E hMid (fun h'' hSt fr2 => ?_)
    obtain ⟨tt, y, hy, rfl⟩ := hv
    have hy' : its[i]? = some y := by simpa using hy
    rw [hu] at hy'
    obtain rfl := Option.some.inj hy'
    have hTn : ¬ T ∈ [e, it] := W.apart i T h' hMid
    obtain ⟨oT, g1, g2, n, g3⟩ := hTup
    have fT : H T = none := I.hok.fresh hT
    refine ⟨.ref T, upd H T (.tup [.int (i : Nat), x]), I.turnedNew (ch := [e, it]) (h' := h'') (fun b o hb ho => fr2 b o hb (fr b o hb ho)) fp hT ?_, rfl, ⟨T, x, rfl, fT, rfl, fun ys hys => by rw [I.tuple_inj hys hx]; exact hxi⟩, ⟨hSt.1, hSt.2.1, hne, ha1, ha2⟩, fun b hb => ?_⟩
    · exact ⟨(by show 2 ≤ sizeLine; decide), [_, _], .cons ⟨_, rfl⟩ (.cons hru .nil), oT, fr2 T oT hTn g1, g2, n, g3⟩
    · have nb : b ≠ T := fun z => hTn (z ▸ hb)
      rw [upd_ne nb]
      exact (fp b hb).1
  · rintro X rfl rfl rfl hcalm i pins s σ H E I fp ⟨⟨old, he⟩, hit, hne, ha1, ha2⟩ ⟨xs, hx, hxi⟩
    obtain ⟨its, hvals, ht, hz⟩ := I.tuple hx
    have hh : X.A.handled = none := I.ok.hd hcalm
    have hl : its.toArray.size ≤ i := by
      rw [List.size_toArray, ← hvals.length]
      exact hxi
    have W := WalksT.enumerateD (prog := X.prog) (w := X.w) (A := X.A) (draws_end (A := X.A.in1) hh it a its.toArray hl) e hne (by simp [hne, Ne.symm ha2]) (by simp)
    exact W.done s _ E ⟨⟨old, he⟩, rfl, hit, ht⟩ (fun h' tk fr => ⟨rfl, I.turnedL (ch := [e, it]) fr fp⟩)
  · rintro A i s Q E ⟨⟨old, he⟩, hit, hne⟩ q
    exact wpAny_pyIter_enum he q
section
variable {X : Cx}
def iEnumT (K : PySem.W.Frag) (ta : TA) : TI := fun σ H R => ta σ H fun vs H1 => ∃ a xs, vs = [V.ref a] ∧ SqT K H1 a xs ∧ R (IteT K a) H1
theorem pi_enumT {e : Expr} {ta : TA} {p pos tpos : Pos} {elts : List Expr} {kk : Nat} (hg : Gl X "enumerate") (hm : X.mg "enumerate" = none) (he : PA X [e] ta)
    (hs : starEach [e] X.env = [(false, eval e X.env)] := by rfl) : PI X (.Tuple elts kk tpos) (.Call (.Name "enumerate" p) [e] [] pos) (iEnumT X.K ta) := by
  refine ⟨fun pins s σ H R I h => ?_⟩
  refine Call_ (ld_blt I hg hm boot_enumerate (callWith_type1 (he := hs) (thn (he.run pos pins s σ H _ I h) fun us s1 x => ?_)))
  obtain ⟨vs, H1, I1, r1, a, xs, rfl, hq, q⟩ := x
  cases r1 with
  | cons r rr =>
  cases rr
  cases r
  obtain ⟨its, rv, p', hz⟩ := I1.tuple hq
  have hlt : a < s1.heap.objs.size := by
    obtain ⟨o, ho, _⟩ := p'
    exact Heap.lt_size ho
  refine call_enumerate_tup p' fun h' he hit hsz hk => wpAny_pyIter_enum he ?_
  have I2 := I1.kept (t' := s1.toks) hk
  refine ⟨s1.heap.objs.size + 1, [s1.heap.objs.size + 1, s1.heap.objs.size], _, IteT X.K a, H1, rfl, I2, turn_enumT a _ _, ⟨⟨_, he⟩, hit, Nat.succ_ne_self _, Nat.ne_of_lt hlt, Nat.ne_of_lt (Nat.lt_succ_of_lt hlt)⟩, fun b hb => ?_, q⟩
  have hb2 : s1.heap.objs.size ≤ b := by
    simp only [List.mem_cons, List.not_mem_nil, or_false] at hb
    rcases hb with rfl | rfl
    · exact Nat.le_succ _
    · exact Nat.le_refl _
  exact I1.fpOk hb2 (I1.hok.fresh hb2)
end
/-- a comprehension, a loop over it -/
theorem walk_enumT {K : PySem.W.Frag} {a : Addr} {xs : List V} : Walk (IteT K a) xs.length (fun H => SqT K H a xs) (YPair (fun i => some (.int (i : Nat))) (fun i => xs[i]?)) := by
  refine ⟨fun i H hi h => ⟨xs, _, h, List.getElem?_eq_getElem hi⟩, fun H h => ⟨xs, h, Nat.le_refl _⟩, fun i H x H' hi h y => ?_⟩
  obtain ⟨T, z, rfl, hT, rfl, f⟩ := y
  exact ⟨T, _, z, rfl, hT, rfl, rfl, f xs h⟩
end Rp
/-! Rv: a tuple read from its end, t[::-1]. -/
namespace Rp
open PySem L2 PyProof.Rows
theorem adjust_back (n : Nat) : Builtin.Slice.sliceAdjust none none (-1) (n : Int) = ((n : Int) - 1, -1) := by
  unfold Builtin.Slice.sliceAdjust
  simp
theorem places_back (n : Nat) : Builtin.Slice.slicePlaces ((n : Int) - 1) (-1) (-1) = n := by
  unfold Builtin.Slice.slicePlaces
  rw [if_neg (by decide)]
  by_cases h : (n : Int) - 1 > -1
  · rw [if_pos h]
    have : (- -1 : Int) = 1 := by decide
    rw [this, Int.ediv_one]
    omega
  · rw [if_neg h]
    omega
theorem sliceApplied_back {prog : Program} {w : World} {A : Around} {E : Value → Shared → Prop} {s : Shared} {sl : Addr} {vs : Value} {n : Nat} {Q : Int × Int × Nat → Shared → Prop}
    (hs : s.heap.IsSliceOf sl .none .none vs) (hv : IsPart vs (some (-1))) (h : Q ((n : Int) - 1, -1, n) s) : wpAny (model prog w) A (Builtin.Slice.sliceApplied (.ref sl) (pure (n : Int))) Q E s := by
  obtain ⟨os, hos, hcs, hds⟩ := hs
  unfold Builtin.Slice.sliceApplied Builtin.Slice.sliceFields
  refine wpAny_bind (wpAny_bind (wpAny_field hos hds rfl (wpAny_bind (wpAny_field hos hds rfl (wpAny_bind (wpAny_field hos hds rfl (wpAny_pure ?_)))))))
  refine wpAny_bind (HT.slicePart_ (o := some (-1)) hv ?_)
  refine wpAny_bind (HT.slicePart_ (o := none) .none ?_)
  refine wpAny_bind (HT.slicePart_ (o := none) .none ?_)
  refine wpAny_bind (wpAny_pure ?_)
  show wpAny _ _ (match Builtin.Slice.sliceAdjust none none (-1) (n : Int) with | (lo, hi) => pure (lo, -1, Builtin.Slice.slicePlaces lo hi (-1))) Q E s
  rw [adjust_back]
  show wpAny _ _ (pure ((n : Int) - 1, -1, Builtin.Slice.slicePlaces ((n : Int) - 1) (-1) (-1))) Q E s
  rw [places_back]
  exact wpAny_pure h
theorem filterMap_at {α : Type} (l : List α) : ∀ k : Nat, (List.range k).filterMap (fun m => l[m]?) = l.take k
  | 0 => by simp
  | k + 1 => by
    rw [List.range_succ, List.filterMap_append, filterMap_at l k, List.take_add_one]
    cases h : l[k]? <;> simp [h]
theorem filterMap_same {α β : Type} {f g : α → Option β} : ∀ {l : List α}, (∀ x ∈ l, f x = g x) → l.filterMap f = l.filterMap g
  | [], _ => rfl
  | x :: l, h => by
    rw [List.filterMap_cons, List.filterMap_cons, h x (List.mem_cons_self ..), filterMap_same fun y hy => h y (List.mem_cons_of_mem _ hy)]
theorem pick_back (xs : Array Value) : (List.filterMap (fun m : Nat => xs[(((xs.size : Int) - 1) + (m : Int) * (-1)).toNat]?) (List.range xs.size)).toArray = xs.toList.reverse.toArray := by
  congr 1
  have e : ∀ m ∈ List.range xs.size, xs[(((xs.size : Int) - 1) + (m : Int) * (-1)).toNat]? = xs.toList.reverse[m]? := by
    intro m hm
    have hm' := List.mem_range.mp hm
    have e1 : (((xs.size : Int) - 1) + (m : Int) * (-1)).toNat = xs.toList.length - 1 - m := by
      rw [Array.length_toList]
      omega
    rw [List.getElem?_reverse (by rw [Array.length_toList]; exact hm'), e1, Array.getElem?_toList]
  rw [filterMap_same e, filterMap_at, List.take_of_length_le]
  rw [List.length_reverse, Array.length_toList]
  exact Nat.le_refl _
theorem getItem_tuple_back {prog : Program} {w : World} {A : Around} {E : Value → Shared → Prop} {s : Shared} {t sl : Addr} {items : Array Value} {vs : Value} {Q : Value → Shared → Prop} (ht : IsTup s.heap t items) (hs : s.heap.IsSliceOf sl .none .none vs) (hv : IsPart vs (some (-1)))
    (h : Q (.ref s.heap.objs.size) { s with heap := s.heap.push { cls := .type "tuple", data := .seq items.toList.reverse.toArray } }) (hz : items.size ≤ sizeLine) : wpAny (model prog w) A (getItem (.ref t) (.ref sl)) Q E s := by
  obtain ⟨os, hos, hcs, hds⟩ := id hs
  have hTs : s.TypeIs (.ref sl) "slice" := ⟨os, hos, hcs⟩
  unfold getItem
  refine wpAny_holding ?_
  refine wpAny_bind (wpAny_sequenceKey ht.typeIs (by decide) ?_)
  refine wpAny_bind (wpAny_callSpecial?_slot ht.typeIs slot_tuple_getitem ?_)
  refine wpAny_call_entry slot_tuple_getitem ht.typeIs entry_tuple_getitem ?_ (args_tuple_getitem _ _)
  show wpAny _ _ (do
      let xs ← Builtin.Tuple.tupleItemsOf (.ref t)
      let __do_lift ← typeOf (.ref sl)
      if (__do_lift == Value.type "slice") = true then do
          let __x ← Builtin.Slice.sliceApplied (.ref sl) (pure ↑xs.size)
          match __x with
            | (lo, step, n) =>
              have __do_jp := fun __r => do
                let __do_lift ←
                  Builtin.Tuple.tupleExact
                      (List.filterMap (fun k => xs[(lo + ↑k * step).toNat]?) (List.range n)).toArray
                ret __do_lift;
              if (lo == 0 && step == 1 && n == xs.size) = true then do
                let __do_lift ← Builtin.Tuple.tupleIsExact (.ref t)
                if __do_lift = true then do
                    rule "tuple.getitem.whole"
                    ret (.ref t)
                  else __do_jp ()
              else __do_jp ()
        else _) _ _ _
  refine wpAny_bind (tupleItemsOf_ ht ?_)
  refine wpAny_bind (wpAny_typeOf hTs ?_)
  rw [if_pos (by decide)]
  refine wpAny_bind (sliceApplied_back hs hv ?_)
  have hno : ¬ ((((items.size : Int) - 1 == 0) && ((-1 : Int) == 1) && (items.size == items.size)) = true) := by
    rw [show ((-1 : Int) == 1) = false by decide, Bool.and_false, Bool.false_and]
    decide
  show wpAny _ _ (if (((items.size : Int) - 1 == 0) && ((-1 : Int) == 1) && (items.size == items.size)) = true then _ else _) _ _ _
  rw [if_neg hno]
  refine wpAny_bind ?_
  unfold Builtin.Tuple.tupleExact
  rw [pick_back]
  refine wpAny_newObj_type ?_ ?_
  · exact wpAny_pure ⟨_, rfl, wpAny_pure h⟩
  · show _ ≤ sizeLine
    rw [List.size_toArray, List.length_reverse, Array.length_toList]
    exact hz
section
variable {X : Cx}
def tRevT (K : PySem.W.Frag) (te : TE) : TE := fun σ H Q => te σ H fun x H1 => ∃ a xs, x = V.ref a ∧ SqT K H1 a xs ∧ ∀ p, H1 p = none → Q (.ref p) (upd H1 p (.tup xs.reverse))
theorem pe_revT {e : Expr} {te : TE} {k : Nat} {p1 p2 p3 pos : Pos} (he : PE X e te) : PE X (.Subscript e (.Slice none none (some (.UnaryOp .USub (.Constant (.int 1) k p1) p2)) p3) pos) (tRevT X.K te) := by
  refine ⟨fun pins s σ H Q I h => ?_⟩
  refine Subscript_ (thn (he.run pins s σ H _ I h) fun v s1 x => ?_)
  obtain ⟨x1, H1, I1, r1, a, xs, rfl, hx, q⟩ := x
  cases r1
  have hst : PO X (some (.UnaryOp .USub (.Constant (.int 1) k p1) p2)) _ := po_some (pe_un un_neg pe_int)
  refine wpAny_Slice (thn ((po_none (X := X)).run pins s1 σ H1 (fun o H2 => o = none ∧ H2 = H1) I1 ⟨rfl, rfl⟩) fun vl s2 x => ?_)
  obtain ⟨l, H2, I2, pl, rfl, rfl⟩ := x
  refine thn ((po_none (X := X)).run pins s2 σ H2 (fun o H3 => o = none ∧ H3 = H2) I2 ⟨rfl, rfl⟩) fun vu s3 x => ?_
  obtain ⟨u, H3, I3, pu, rfl, rfl⟩ := x
  refine thn (hst.run pins s3 σ H3 (fun o H4 => o = some (-1) ∧ H4 = H3) I3 ?_) fun vs s4 x => ?_
  · exact ⟨1, rfl, -1, rfl, rfl, rfl⟩
  obtain ⟨st, H4, I4, pst, rfl, rfl⟩ := x
  cases pl
  cases pu
  have I5 := I4.kept (h' := s4.heap.push { cls := Value.type "slice", data := Data.fields #[Value.none, Value.none, vs] }) (t' := s4.toks) (fun b u h => Heap.get?_push_of_some _ h)
  obtain ⟨its, hvals, ht, hz⟩ := I5.tuple hx
  have hlen : xs.length = its.length := hvals.length
  refine tail_any ht.typeIs slot_tuple_getitem.lookup (getItem_tuple_back ht (Heap.IsSliceOf.new ..) pst ?_ (by rw [List.size_toArray, ← hlen]; exact hz)) rfl
  refine ⟨.ref _, upd H4 _ (.tup xs.reverse), I5.laid (fun b u h => Heap.get?_push_of_some _ h) (Nat.le_refl _) ?_, rfl, q _ (I5.hok.fresh (Nat.le_refl _))⟩
  unfold ObjOk
  exact ⟨by rw [List.length_reverse]; exact hz, its.reverse, hvals.reverse, _, Heap.get?_push_size _ (o := { cls := Value.type "tuple", data := Data.seq its.toArray.toList.reverse.toArray }) rfl, rfl, _, rfl⟩
end
end Rp
/-! St: sorted of lists of tuples of ints, of any lengths above 0. -/
namespace Rp
open PySem L2 PyProof.Rows
/-- a tuple of these ints -/
def IsTI (h : Heap) (v : Value) (ns : List Int) : Prop := ∃ (a : Addr) (o : Obj) (its : List Value) (n : Nat), v = .ref a ∧ h.get? a = some o ∧ o.cls = .type "tuple" ∧ o.data = .seq its.toArray n ∧ Vals (ns.map V.int) its
theorem lex_go {prog : Program} {w : World} {A : Around} {s : Shared} {fin : Bool} {Q : Bool → Shared → Prop} : ∀ (xs ys : List Int) (us vs : List Value) (i : Nat), Vals (xs.map V.int) us → Vals (ys.map V.int) vs → fin = decide (xs.length < ys.length) → Q (HT.lexLt xs ys) s →
    W.KatLex prog w A true fin Q (us.zip vs) i s
  | [], [], us, vs, i, hu, hv, hf, q => by
    cases hu
    refine W.kat_nil ?_
    rw [hf]
    exact q
  | [], y :: ys, us, vs, i, hu, hv, hf, q => by
    cases hu
    refine W.kat_nil ?_
    rw [hf]
    exact q
  | x :: xs, [], us, vs, i, hu, hv, hf, q => by
    cases hv
    have e : us.zip ([] : List Value) = [] := by simp
    rw [e]
    refine W.kat_nil ?_
    rw [hf]
    exact q
  | x :: xs, y :: ys, us, vs, i, hu, hv, hf, q => by
    cases hu with
    | cons ru hu =>
    cases hv with
    | cons rv hv =>
    obtain ⟨t, rfl⟩ := ru
    obtain ⟨t', rfl⟩ := rv
    rw [List.zip_cons_cons]
    refine W.kat_cons ?_
    refine SeqAt.EqAt.int_int x t y t' prog w _ _ ?_
    refine W.kat_go (fun e => ?_) (fun e => ?_)
    · have exy : x = y := by simpa using e
      refine W.kat_yes (lex_go xs ys _ _ (i + 1) hu hv ?_ ?_)
      · rw [hf]
        simp
      · rw [HT.lexLt_cons, if_pos exy] at q
        exact q
    · have exy : ¬ x = y := by simpa using e
      rw [HT.lexLt_cons, if_neg exy] at q
      refine W.kat_no ?_
      cases i with
      | zero => exact oneLt_int q
      | succ i => exact W.kat_one _ _ (lt_int q)
theorem ti_cmp {prog : Program} {w : World} {A : Around} {s : Shared} {vs : List Value} {k : Value → List Int} (h : ∀ v ∈ vs, IsTI s.heap v (k v)) :
    SrtO.Cmp prog w A s (tuples' true) (fun p => p.fst ∈ vs) (SrtO.lt2 fun v u => HT.lexLt (k v) (k u)) := by
  intro p q hp hq
  obtain ⟨a, o, its, n, e, ho, hc, hd, hv⟩ := h p.fst hp
  obtain ⟨a', o', its', n', e', ho', hc', hd', hv'⟩ := h q.fst hq
  rw [e, e']
  refine W.kat_lt ho hd ho' hd' ?_
  refine lex_go (k p.fst) (k q.fst) _ _ 0 hv hv' ?_ ?_
  · have l1 := hv.length
    have l2 := hv'.length
    rw [List.length_map] at l1 l2
    rw [List.size_toArray, List.size_toArray, ← l1, ← l2]
  · refine ⟨rfl, ?_⟩
    show HT.lexLt (k p.fst) (k q.fst) = HT.lexLt (k p.fst) (k q.fst)
    rfl
theorem ti_tups {h : Heap} : ∀ {vs : List Value} {k : Value → List Int}, (∀ v ∈ vs, IsTI h v (k v) ∧ k v ≠ []) → ∃ fs, W.KatTups h vs fs ∧ fs.length = vs.length ∧ ∀ f ∈ fs, ∃ x t, f = Value.int x t
  | [], _, _ => ⟨[], trivial, rfl, fun f hf => by cases hf⟩
  | v :: vs, k, hh => by
    obtain ⟨fs, h1, h2, h3⟩ := ti_tups (vs := vs) (k := k) fun u hu => hh u (List.mem_cons_of_mem _ hu)
    obtain ⟨⟨a, o, its, n, rfl, ho, hc, hd, hv⟩, hne⟩ := hh v (List.mem_cons_self ..)
    cases ek : k (.ref a) with
    | nil => exact absurd ek hne
    | cons x xs =>
      rw [ek] at hv
      cases hv with
      | cons rx hv =>
      obtain ⟨t, rfl⟩ := rx
      refine ⟨.int x t :: fs, ?_, by rw [List.length_cons, h2, List.length_cons], fun f hf => ?_⟩
      · unfold W.KatTups
        exact ⟨⟨a, o, _, n, rfl, ho, hc, hd, rfl⟩, h1⟩
      · rcases List.mem_cons.mp hf with rfl | hf
        · exact ⟨x, t, rfl⟩
        · exact h3 f hf
theorem ti_keeps {h h' : Heap} {v : Value} {ns : List Int} (x : IsTI h v ns) (k : ∀ (b : Addr) (o : Obj), h.get? b = some o → o.cls = .type "tuple" → h'.get? b = some o) : IsTI h' v ns := by
  obtain ⟨a, o, its, n, rfl, ho, hc, hd, hv⟩ := x
  exact ⟨a, o, its, n, rfl, k a o ho hc, hc, hd, hv⟩
theorem ti_sortable {prog : Program} {w : World} {A : Around} {s : Shared} {a : Addr} {vs : List Value} {k : Value → List Int} (h0 : 0 < vs.length) (hp : ∀ v ∈ vs, IsTI s.heap v (k v) ∧ k v ≠ []) (ha : ∀ o, s.heap.get? a = some o → o.cls ≠ .type "tuple") :
    SrtO.SortableO prog w A s a vs fun v u => HT.lexLt (k v) (k u) := by
  intro h' keep
  have hp' : ∀ v ∈ vs, IsTI h' v (k v) ∧ k v ≠ [] := fun v hv => ⟨ti_keeps (hp v hv).1 fun b o e c => keep b o (fun z => ha o (z ▸ e) c) e, (hp v hv).2⟩
  obtain ⟨fs, h1, h2, h3⟩ := ti_tups hp'
  refine ⟨tuples' true, fun Q E hq => ?_, ti_cmp fun v hv => (hp' v hv).1⟩
  refine W.kat_kind (T := .type "int") h1 (by omega) (fun f hf => ?_) (by decide) ?_
  · obtain ⟨x, t, rfl⟩ := h3 f hf
    exact W.Looks.now
  · have e : (Value.type "int" != Value.type "tuple") = true := by decide
    rw [e]
    exact hq
section
variable {X : Cx}
def rSortTI (K : PySem.W.Frag) : List V → Hp → VK → Prop := fun vs H Q => ∃ (a : Addr) (xs : List V) (k : V → List Int), vs = [V.ref a] ∧ SqL K H a xs ∧ (∀ x ∈ xs, ∃ t, x = V.ref t ∧ SqT K H t ((k x).map V.int) ∧ k x ≠ []) ∧
  ∀ (ys : List V) (p : Addr), SrtO.Srtd (fun x y => HT.lexLt (k x) (k y)) ys → SrtO.Stb (fun x y => HT.lexLt (k x) (k y)) ys xs → H p = none → Q (.ref p) (upd H p (.lst ys))
theorem cr_sortTI : CallR X (.builtin "sorted") (rSortTI X.K) := by
  intro pins s σ H vs us Q I r h
  obtain ⟨a, xs, k, rfl, hs, hx, q⟩ := h
  obtain ⟨its, rv, hl, hz⟩ := I.list hs
  obtain ⟨u, rfl, ru⟩ := vals1 r
  cases ru
  obtain ⟨e1, e2⟩ := refs_back rv fun x m => let ⟨t, e, _⟩ := hx x m; ⟨t, e⟩
  have hlen : xs.length = its.length := rv.length
  have hti : ∀ v ∈ its, IsTI s.heap v (k (backV v)) ∧ k (backV v) ≠ [] := by
    intro v hv
    obtain ⟨t, rfl⟩ := e2 v hv
    have hm : V.ref t ∈ xs := by rw [e1]; exact List.mem_map.mpr ⟨_, hv, rfl⟩
    obtain ⟨t', e, ht, hne⟩ := hx _ hm
    cases e
    obtain ⟨is, rvs, ⟨o, ho, hc, n, hd⟩, _⟩ := I.tuple ht
    exact ⟨⟨t, o, is, n, rfl, ho, hc, hd, rvs⟩, hne⟩
  refine SrtO.sorted_ord (ltv := fun v u => HT.lexLt (k (backV v)) (k (backV u))) (NtL.swo_lexL _) hl.isList (by rw [← hlen]; exact hz) (fun h2 h₁ b hb hk => ?_) (fun out h1 h2 => ?_)
  · refine ti_sortable (by omega) (fun v hv => ⟨ti_keeps (hti v hv).1 fun c o e _ => (hk c o e).2, (hti v hv).2⟩) (fun o ho => ?_)
    rw [hb] at ho
    cases ho
    show (Value.type "list") ≠ Value.type "tuple"
    decide
  · have h3 : ∀ u ∈ out, ∃ t, u = Value.ref t := fun u hu => e2 u (h2.perm.mem_iff.mp hu)
    have hb : SrtO.Stb (fun x y => HT.lexLt (k x) (k y)) (out.map backV) xs := by
      rw [e1]
      exact SrtO.Stb.map (NtL.swo_lexL k) backV h2
    have hd : s.heap.objs.size ≤ s.heap.objs.size + 1 := Nat.le_succ _
    obtain ⟨e, he⟩ := sortedAll_at s.heap its out.toArray
    refine ⟨.ref _, upd H _ (.lst (out.map backV)), I.laid (fun b o hbo => sortedAll_old hbo) hd ?_, rfl, q _ _ (SrtO.srtd_map h1) hb (I.hok.fresh hd)⟩
    exact ⟨by rw [hb.len]; exact hz, out, e, vals_back h3, he⟩
end
end Rp
/-! Su: sorted of a list of non-empty tuples of ints that stand in order already. -/
namespace Rp
open PySem L2 PyProof.Rows
theorem ti_one : ∀ {ns ms : List Int} {its : List Value}, Vals (ns.map V.int) its → Vals (ms.map V.int) its → ns = ms
  | [], [], _, _, _ => rfl
  | [], m :: ms, _, h1, h2 => by
    cases h1
    cases h2
  | n :: ns, [], _, h1, h2 => by
    cases h2
    cases h1
  | n :: ns, m :: ms, _, h1, h2 => by
    cases h1 with
    | cons r1 h1 =>
    cases h2 with
    | cons r2 h2 =>
    obtain ⟨t, rfl⟩ := r1
    obtain ⟨t', e⟩ := r2
    cases e
    rw [ti_one h1 h2]
theorem isTI_one {h : Heap} {v : Value} {ns ms : List Int} (h1 : IsTI h v ns) (h2 : IsTI h v ms) : ns = ms := by
  obtain ⟨a, o, its, n, rfl, ho, _, hd, hv⟩ := h1
  obtain ⟨a', o', its', n', e, ho', _, hd', hv'⟩ := h2
  cases e
  rw [ho] at ho'
  cases ho'
  rw [hd] at hd'
  cases hd'
  exact ti_one hv hv'
open Classical in
/-- the ints of a tuple -/
noncomputable def keyTI (h : Heap) (v : Value) : List Int := if e : ∃ ns, IsTI h v ns then e.choose else []
theorem keyTI_of {h : Heap} {v : Value} {ns : List Int} (e : IsTI h v ns) : keyTI h v = ns := by
  have e' : ∃ ns, IsTI h v ns := ⟨ns, e⟩
  unfold keyTI
  rw [dif_pos e']
  exact isTI_one e'.choose_spec e
inductive KeysT (K : PySem.W.Frag) (H : Hp) : List V → List (List Int) → Prop
  | nil : KeysT K H [] []
  | cons {t : Addr} {ns : List Int} {xs : List V} {ks : List (List Int)} (h : SqT K H t (ns.map V.int)) (ne : ns ≠ []) (r : KeysT K H xs ks) : KeysT K H (.ref t :: xs) (ns :: ks)
section
variable {X : Cx}
def rSortTS (K : PySem.W.Frag) : List V → Hp → VK → Prop := fun vs H Q => ∃ (a : Addr) (xs : List V) (ks : List (List Int)), vs = [V.ref a] ∧ SqL K H a xs ∧ KeysT K H xs ks ∧ ks.Pairwise (fun x y => HT.lexLt y x = false) ∧
  ∀ (p : Addr), H p = none → Q (.ref p) (upd H p (.lst xs))
theorem keysT_vals {pins : List (Addr × Obj)} {σ : L2.St} {H : Hp} {s : Shared} (I : L2.Inv X pins σ H s) : ∀ {xs : List V} {ks : List (List Int)} {its : List Value}, KeysT X.K H xs ks → Vals xs its →
    its.map (keyTI s.heap) = ks ∧ (∀ v ∈ its, IsTI s.heap v (keyTI s.heap v) ∧ keyTI s.heap v ≠ []) ∧ its.map backV = xs ∧ ∀ v ∈ its, ∃ t, v = Value.ref t
  | [], _, _, .nil, .nil => by simp
  | _ :: xs, _ :: ks, _, .cons h ne r, .cons rv rs => by
    cases rv
    obtain ⟨e1, e2, e3, e4⟩ := keysT_vals I r rs
    obtain ⟨is, rvs, ⟨o, ho, hc, n, hd⟩, _⟩ := I.tuple h
    have ti : IsTI s.heap (.ref _) _ := ⟨_, o, is, n, rfl, ho, hc, hd, rvs⟩
    have ek := keyTI_of ti
    refine ⟨by rw [List.map_cons, e1, ek], fun v hv => ?_, by rw [List.map_cons, e3]; rfl, fun v hv => ?_⟩
    · rcases List.mem_cons.mp hv with rfl | hv
      · rw [ek]
        exact ⟨ti, ne⟩
      · exact e2 v hv
    · rcases List.mem_cons.mp hv with rfl | hv
      · exact ⟨_, rfl⟩
      · exact e4 v hv
theorem cr_sortTS : CallR X (.builtin "sorted") (rSortTS X.K) := by
  intro pins s σ H vs us Q I r h
  obtain ⟨a, xs, ks, rfl, hs, hx, hord, q⟩ := h
  obtain ⟨its, rv, hl, hz⟩ := I.list hs
  obtain ⟨u, rfl, ru⟩ := vals1 r
  cases ru
  obtain ⟨ek, hti, e1, e2⟩ := keysT_vals I hx rv
  have hlen : xs.length = its.length := rv.length
  refine SrtO.sorted_ord (ltv := fun v u => HT.lexLt (keyTI s.heap v) (keyTI s.heap u)) (NtL.swo_lexL _) hl.isList (by rw [← hlen]; exact hz) (fun h2 h₁ b hb hk => ?_) (fun out h1 h2 => ?_)
  · refine ti_sortable (by omega) (fun v hv => ⟨ti_keeps (hti v hv).1 fun c o e _ => (hk c o e).2, (hti v hv).2⟩) (fun o ho => ?_)
    rw [hb] at ho
    cases ho
    show (Value.type "list") ≠ Value.type "tuple"
    decide
  · have hso : SrtO.Srtd (fun v u => HT.lexLt (keyTI s.heap v) (keyTI s.heap u)) its := by
      rw [← ek] at hord
      exact List.pairwise_map.mp hord
    have eo : out = its := SrtO.stb_uniq (NtL.swo_lexL (keyTI s.heap)) h1 hso h2
    subst eo
    have hd : s.heap.objs.size ≤ s.heap.objs.size + 1 := Nat.le_succ _
    obtain ⟨e, he⟩ := sortedAll_at s.heap out out.toArray
    refine ⟨.ref _, upd H _ (.lst xs), I.laid (fun b o hbo => sortedAll_old hbo) hd ?_, rfl, q _ (I.hok.fresh hd)⟩
    exact ⟨hz, out, e, rv, he⟩
/-- sorted of a list of non-empty tuples of ints, known by position -/
def rSortTP (K : PySem.W.Frag) : List V → Hp → VK → Prop := fun vs H Q => ∃ (a : Addr) (xs : List V) (ks : List (List Int)), vs = [V.ref a] ∧ SqL K H a xs ∧ KeysT K H xs ks ∧
  ∀ (ys : List V) (ls : List (List Int)) (p : Addr), KeysT K H ys ls → ls.Pairwise (fun x y => HT.lexLt y x = false) → ls.Perm ks → H p = none → Q (.ref p) (upd H p (.lst ys))
theorem cr_sortTP : CallR X (.builtin "sorted") (rSortTP X.K) := by
  intro pins s σ H vs us Q I r h
  obtain ⟨a, xs, ks, rfl, hs, hx, q⟩ := h
  obtain ⟨its, rv, hl, hz⟩ := I.list hs
  obtain ⟨u, rfl, ru⟩ := vals1 r
  cases ru
  obtain ⟨ek, hti, e1, e2⟩ := keysT_vals I hx rv
  have hlen : xs.length = its.length := rv.length
  refine SrtO.sorted_ord (ltv := fun v u => HT.lexLt (keyTI s.heap v) (keyTI s.heap u)) (NtL.swo_lexL _) hl.isList (by rw [← hlen]; exact hz) (fun h2 h₁ b hb hk => ?_) (fun out h1 h2 => ?_)
  · refine ti_sortable (by omega) (fun v hv => ⟨ti_keeps (hti v hv).1 fun c o e _ => (hk c o e).2, (hti v hv).2⟩) (fun o ho => ?_)
    rw [hb] at ho
    cases ho
    show (Value.type "list") ≠ Value.type "tuple"
    decide
  · have h3 : ∀ u ∈ out, ∃ t, u = Value.ref t := fun u hu => e2 u (h2.perm.mem_iff.mp hu)
    have hd : s.heap.objs.size ≤ s.heap.objs.size + 1 := Nat.le_succ _
    obtain ⟨e, he⟩ := sortedAll_at s.heap its out.toArray
    have kk : KeysT X.K H (out.map backV) (out.map (keyTI s.heap)) := by
      have g : ∀ (l m : List Value), (∀ v ∈ l, v ∈ m) → (∀ v ∈ m, ∃ t, v = Value.ref t) → KeysT X.K H (m.map backV) (m.map (keyTI s.heap)) → KeysT X.K H (l.map backV) (l.map (keyTI s.heap)) := by
        intro l m hl hr hk
        have one : ∀ (m : List Value), (∀ v ∈ m, ∃ t, v = Value.ref t) → KeysT X.K H (m.map backV) (m.map (keyTI s.heap)) → ∀ v ∈ m, ∃ t, v = Value.ref t ∧ SqT X.K H t ((keyTI s.heap v).map V.int) ∧ keyTI s.heap v ≠ [] := by
          intro m
          induction m with
          | nil => intro _ _ v hv; cases hv
          | cons u m ih =>
            intro hr hk v hv
            obtain ⟨t, rfl⟩ := hr u (List.mem_cons_self ..)
            rw [List.map_cons, List.map_cons] at hk
            have hk' : KeysT X.K H (V.ref t :: m.map backV) (keyTI s.heap (.ref t) :: m.map (keyTI s.heap)) := hk
            cases hk' with
            | cons hh ne rr =>
              rcases List.mem_cons.mp hv with rfl | hv
              · exact ⟨t, rfl, hh, ne⟩
              · exact ih (fun v hv => hr v (List.mem_cons_of_mem _ hv)) rr v hv
        induction l with
        | nil => exact .nil
        | cons u l ih =>
          obtain ⟨t, rfl, hh, ne⟩ := one m hr hk u (hl u (List.mem_cons_self ..))
          exact .cons hh ne (ih fun v hv => hl v (List.mem_cons_of_mem _ hv))
      refine g out its (fun v hv => h2.perm.mem_iff.mp hv) e2 ?_
      rw [e1, ek]
      exact hx
    refine ⟨.ref _, upd H _ (.lst (out.map backV)), I.laid (fun b o hbo => sortedAll_old hbo) hd ?_, rfl, q _ _ _ kk (List.pairwise_map.mpr h1) ?_ (I.hok.fresh hd)⟩
    · exact ⟨by rw [List.length_map, h2.perm.length_eq, ← hlen]; exact hz, out, e, vals_back h3, he⟩
    · rw [← ek]
      exact h2.perm.map _
end
end Rp
/-! Ts: set of a tuple of tuples of ints, and such a set sorted whatever the lengths. -/
namespace Rp
open PySem PySem.Spec L2 PyProof.Rows
section
variable {P : Program} {w : World} {A : Around} {E : Value → Shared → Prop} {s : Shared}
/-- the object of an empty new set -/
abbrev setOb (w : World) : Obj := { cls := .type "set", dict := none, data := .set #[] 0 (.fresh 0 0 (!w.params.followText "set-order")) }
abbrev setHp (w : World) (s : Shared) : Heap := s.heap.push (setOb w)
theorem past_none {h : Heap} {b : Addr} (hb : h.objs.size ≤ b) : h.get? b = none := by
  cases q : h.get? b with
  | none => rfl
  | some o => exact absurd (Heap.lt_size q) (Nat.not_lt.mpr hb)
theorem set_tupT {l : Addr} {items : Array Value} (ks : List (Addr × List Int)) {Q : Value → Shared → Prop} (free : A.handled = none) (tupl : s.heap.IsTuple l items) (eit : items.toList = ks.map fun p => Value.ref p.1)
    (ek : ∀ p ∈ ks, IsT P w s.heap p.2 p.1) (few : ks.length < 64) (un : A.units + 3 < cLine)
    (out : ∀ (g : Heap) (tk : Nat) L es ep t, SetTR P w g s.heap.objs.size L es ep t → Got ks ks.length L → (∀ b o, s.heap.get? b = some o → g.get? b = some o) → Q (.ref s.heap.objs.size) { s with heap := g, toks := tk }) :
    wpAny (model P w) A (call (.type "set") [.ref l]) Q E s := by
  have esz : items.size = ks.length := by rw [← Array.length_toList, eit, List.length_map]
  obtain ⟨c, tl, mro1⟩ := F.called_set.mro
  have made1 := F.called_set.made
  have subm := F.called_set.sub
  refine wpAny_call (codeAny_of_tree (show wpAny _ _ (callAny (.type "set") _) _ _ _ from wpAny_pure ⟨Code.quiet_builtin _ (by decide +kernel), codeAny_builtin F.entry_type_call ?_⟩))
  rw [Around.under_plain (weight_type_call_type "set" [.ref l] []) rfl]
  have nty := F.called_set.notType
  have cancr := F.called_set.canCreate
  have tcall := F.typeCall_set_1 (.ref l)
  repeat (any_goals (first | assumption | wp_step))
  refine codeAny_mono (code_set_led1 (.ref l) (E := E) (Q₁ := fun x s1 => x = .ref s.heap.objs.size ∧ s1 = { s with heap := setHp w s }) ⟨rfl, rfl⟩) fun r s1 hr => ?_
  rcases r with e | fl
  · exact hr
  cases fl <;> first | exact hr.elim | skip
  rename_i made
  obtain ⟨rfl, rfl⟩ := hr
  have atS : (setHp w s).get? s.heap.objs.size = some (setOb w) := Heap.get?_push_size _ rfl
  have tyS : Shared.TypeIs { s with heap := setHp w s } (.ref s.heap.objs.size) "set" := ⟨_, atS, rfl⟩
  have lki := F.called_set.init.lookup
  have bdi := F.called_set.init.bind (.ref s.heap.objs.size)
  repeat (any_goals (first | assumption | wp_step))
  refine codeAny_mono (codeAny_call_builtin (R := wants (fun r s2 => r = .none ∧ ∃ g tk L es ep t, s2 = { s with heap := g, toks := tk } ∧ SetTR P w g s.heap.objs.size L es ep t ∧ Got ks ks.length L ∧
      (∀ b o, s.heap.get? b = some o → g.get? b = some o)) E) F.called_set.init.plain F.entry_set_init (check_set_init_1 tyS ?_)) fun r2 s2 hr2 => ?_
  · obtain ⟨ob, atl, cl, nl, dt⟩ := tupl
    rcases ob with ⟨c0, d0, dat0, sl0⟩
    dsimp only at cl dt
    subst cl dt
    have atl' : (setHp w s).get? l = some { cls := .type "tuple", dict := d0, data := .seq items nl, slots := sl0 } := Heap.get?_push_of_some _ atl
    have sb1 := F.sub_tuple_set
    have sb2 := F.sub_tuple_frozenset
    have nd : (Value.type "tuple" == Value.type "dict") = false := by decide
    have isT1 : (setHp w s).IsTuple l items := ⟨_, atl', rfl, nl, rfl⟩
    unfold Builtin.«set.__init__» noKeywords Builtin.Frozenset.updateFrom
    generalize hit : pyIter = IT
    wp_walk
    subst hit
    refine wpAny_pyIter_tuple isT1 (wpAny_bind (wpAny_runValue ?_))
    have ltl : l < s.heap.objs.size := Heap.lt_size atl
    have sz : (setHp w s).objs.size = s.heap.objs.size + 1 := Heap.size_push ..
    have farl : l ≠ (setHp w s).objs.size := by
      rw [sz]
      exact Nat.ne_of_lt (Nat.lt_succ_of_lt ltl)
    have farS : s.heap.objs.size ∉ [(setHp w s).objs.size, l] := by
      intro hm
      rcases List.mem_cons.mp hm with e | e
      · rw [sz] at e
        exact absurd e (Nat.ne_of_lt (Nat.lt_succ_self _))
      · exact absurd (List.mem_singleton.mp e) (Nat.ne_of_gt ltl)
    have each : ∀ (i : Nat) (v : Value), items[i]? = some v → ∃ p, ks[i]? = some p ∧ v = .ref p.1 := fun i v hv => by
      rw [← Array.getElem?_toList, eit, List.getElem?_map] at hv
      obtain ⟨p, e1, e2⟩ := Option.map_eq_some_iff.mp hv
      exact ⟨p, e1, e2.symm⟩
    refine set_update_tups ((Walks.tuple (A := A.in1.in1.in1) (by simp [free]) _ l farl items).toS) s.heap.objs.size farS ks esz few each s.heap ek (past_none (Nat.le_refl _)) (fun b hb => past_none (by
        rw [List.mem_singleton.mp hb]
        omega)) un (items.size - 0) 0 _ (by omega) (Nat.zero_le _) ⟨⟨_, Heap.get?_push_size _ rfl, rfl, rfl⟩, (isT1.push _)⟩ (fun b o e => Heap.get?_push_of_some _ (Heap.get?_push_of_some _ e)) ⟨[], #[], 0, _, setTR_fresh (Heap.get?_push_of_some _ atS), Got.zero ks⟩ ?_
    intro s' L es ep t mv R' g' kp
    rcases s' with ⟨h', g2, dr', tk', os'⟩
    have q1 : g2 = s.gens := mv.gens
    have q2 : dr' = s.drawn := mv.drawn
    have q3 : os' = s.os := mv.os
    subst q1 q2 q3
    rw [esz] at g'
    exact wpAny_pure (wpAny_pure ⟨rfl, h', tk', L, es, ep, t, rfl, R', g', kp⟩)
  · rcases r2 with e | fl
    · exact hr2
    cases fl <;> first | exact hr2.elim | skip
    obtain ⟨rfl, g, tk, L, es, ep, t, rfl, R', g', kp⟩ := hr2
    repeat (any_goals (first | assumption | wp_step))
    exact out _ _ _ _ _ _ R' g' kp
/-- such a set sorted -/
theorem setT_sorted {a : Addr} {L : List (Addr × List Int)} {es : Array (Int × Value)} {ep : Nat} {t : SetTable} {Q : Value → Shared → Prop} (R : SetTR P w s.heap a L es ep t) (free : A.handled = none) (full : 2 ≤ L.length → ∀ p ∈ L, p.2 ≠ [])
    (hQ : ∀ s' p (out : Array Value) (c : Nat) (M : List (Addr × List Int)), (∀ b o, s.heap.get? b = some o → s'.heap.get? b = some o) → s'.gens = s.gens → s'.os = s.os → s.heap.objs.size ≤ p →
      s'.heap.get? p = some (seqObj "list" out c) → out.toList = M.map (fun q => Value.ref q.1) → M.Perm L → M.Pairwise (fun q r => HT.lexLt r.2 q.2 = false) → Q (.ref p) s') :
    wpAny (model P w) A (call (.builtin "sorted") [.ref a]) Q E s := by
  obtain ⟨o, ho, hex, dat⟩ := R.ob
  have hsz := R.size
  have hfew := R.few
  refine Calls.call_function_entry kind_sorted plain_sorted entry_sorted (args_sorted1 _) ?_
  unfold Builtin.«sorted»
  refine wpAny_bind (m := checkCount "sorted" 1 1 _) (wpAny_pure (wpAny_bind (collect_set (A := A.in1) free ⟨o, ho, hex.1, dat⟩ R.fits (by unfold scanBound; omega) R.tab.ris R.led fun s1 vs old z1 g1 o1 pm => ?_)))
  have ees : es.toList.map (·.2) = L.map fun q => Value.ref q.1 := by
    rw [R.rows, rowsOf, List.map_map]
    rfl
  rw [ees] at pm
  have lay : ∀ us : List Value, (∀ u ∈ us, ∃ q ∈ L, u = Value.ref q.1) → ∃ M : List (Addr × List Int), us = M.map (fun q => Value.ref q.1) ∧ ∀ q ∈ M, q ∈ L := by
    intro us hu
    induction us with
    | nil => exact ⟨[], rfl, fun q hq => nomatch hq⟩
    | cons u us ih =>
      obtain ⟨q, mq, rfl⟩ := hu u (List.mem_cons_self ..)
      obtain ⟨M, rfl, hM⟩ := ih fun x hx => hu x (List.mem_cons_of_mem _ hx)
      refine ⟨q :: M, rfl, fun r hr => ?_⟩
      rcases List.mem_cons.mp hr with rfl | hr
      · exact mq
      · exact hM r hr
  have uniq : ∀ q ∈ L, ∀ r ∈ L, q.1 = r.1 → q = r := fun q hq r hr e => by
    have x1 := R.tup q hq
    rw [e] at x1
    exact Prod.ext e (x1.inj (R.tup r hr))
  have ndL : L.Nodup := nodup_of_map R.nd
  have ndV : (L.map fun q => Value.ref q.1).Nodup := List.pairwise_map.mpr (ndL.imp_of_mem fun {q r} hq hr ne e => ne (uniq q hq r hr (by injection e)))
  have back : ∀ M : List (Addr × List Int), (∀ q ∈ M, q ∈ L) → (M.map (fun q => Value.ref q.1)).Perm (L.map fun q => Value.ref q.1) → M.Perm L := by
    intro M hM pmM
    refine (List.perm_ext_iff_of_nodup (nodup_of_map (pmM.nodup_iff.mpr ndV)) ndL).mpr fun q => ⟨hM q, fun hq => ?_⟩
    obtain ⟨r, hr, e⟩ := List.mem_map.mp (pmM.mem_iff.mpr (List.mem_map.mpr ⟨q, hq, rfl⟩))
    injection e with e
    rw [← uniq r (hM r hr) q hq e]
    exact hr
  have lv : vs.length < 64 := by
    rw [pm.length_eq, List.length_map]
    exact hfew
  refine wpAny_bind (wpAny_newList ?_ (by rw [sizeLine_eq]; omega))
  have atL : (s1.heap.push (seqObj "list" vs.toArray 0)).get? s1.heap.objs.size = some (seqObj "list" vs.toArray 0) := Heap.get?_push_size _ rfl
  have isK : ∀ q ∈ L, IsTI (s1.heap.push (seqObj "list" vs.toArray 0)) (.ref q.1) q.2 := fun q hq => by
    obtain ⟨ob, its, n, h1, h2, h3, h4⟩ := R.tup q hq
    refine ⟨q.1, ob, its.toList, n, rfl, Heap.get?_push_of_some _ (old _ _ h1), h2, h3, ?_⟩
    have va : ∀ {k : List Int} {us : List Value}, ItemsAre (intKind P w) k us → Vals (k.map V.int) us := by
      intro k us hh
      induction hh with
      | nil => exact .nil
      | @cons k0 v ks vs h1 _ ih =>
        obtain ⟨tk, rfl⟩ := Value.isInt_shape h1
        exact .cons ⟨tk, rfl⟩ ih
    exact va h4
  have keyed : ∀ v ∈ vs, ∃ q ∈ L, v = Value.ref q.1 := fun v hv => by
    obtain ⟨q, hq, e⟩ := List.mem_map.mp (pm.mem_iff.mp hv)
    exact ⟨q, hq, e.symm⟩
  have kOf : ∀ q ∈ L, keyTI (s1.heap.push (seqObj "list" vs.toArray 0)) (.ref q.1) = q.2 := fun q hq => keyTI_of (isK q hq)
  have hs : wpAny (model P w) A.in1 (call (.builtin "list.sort") [.ref s1.heap.objs.size]) (fun _ s2 => ∃ out : List Value, SrtO.Srtd (fun v u => HT.lexLt (keyTI (s1.heap.push (seqObj "list" vs.toArray 0)) v) (keyTI (s1.heap.push (seqObj "list" vs.toArray 0)) u)) out ∧ out.Perm vs ∧
      s2 = { s1 with heap := sortedHeap (s1.heap.push (seqObj "list" vs.toArray 0)) s1.heap.objs.size vs out.toArray }) E { s1 with heap := s1.heap.push (seqObj "list" vs.toArray 0) } := by
    refine wpAny_call_entry slot_list_sort ⟨_, atL, rfl⟩ entry_list_sort (SrtO.list_sort_ord (NtL.swo_lexL _) atL (by rw [sizeLine_eq]; omega) (fun h2 => ?_) fun out a1 a2 => ⟨_, rfl, out, a1, a2.perm, rfl⟩) (args_list_sort _)
    refine ti_sortable (by omega) (fun v hv => ?_) fun ob hob => ?_
    · obtain ⟨q, hq, rfl⟩ := keyed v hv
      rw [kOf q hq]
      exact ⟨isK q hq, full (by rw [pm.length_eq, List.length_map] at h2; omega) q hq⟩
    · rw [atL] at hob
      cases hob
      show (Value.type "list") ≠ Value.type "tuple"
      decide
  refine wpAny_bind (wpAny_holding (wpAny_mono hs ?_ fun _ _ h => h))
  rintro _ _ ⟨out, a1, a2, rfl⟩
  obtain ⟨c, hc⟩ := sortedHeap_at (vs := vs) (out := out.toArray) atL
  obtain ⟨M, eM, hM⟩ := lay out fun v hv => keyed v (a2.mem_iff.mp hv)
  have pM : M.Perm L := back M hM (by rw [← eM]; exact a2.trans pm)
  refine wpAny_pure ⟨_, rfl, hQ _ s1.heap.objs.size out.toArray c M (fun b u e => ?_) g1 o1 z1 hc eM pM ?_⟩
  · have lt := Heap.lt_size (old b u e)
    show (sortedHeap (s1.heap.push (seqObj "list" vs.toArray 0)) s1.heap.objs.size vs out.toArray).get? b = some u
    rw [sortedHeap_old (Nat.ne_of_lt lt) (by rw [size_push']; exact Nat.lt_succ_of_lt lt)]
    exact Heap.get?_push_of_some _ (old b u e)
  · rw [eM] at a1
    refine (List.pairwise_map.mp a1).imp_of_mem fun {q r} hq hr h => ?_
    dsimp only at h
    rw [kOf q (hM q hq), kOf r (hM r hr)] at h
    exact h
end
section
variable {X : Cx}
/-- set(xs), xs a tuple of tuples of ints -/
def rSetTT (K : PySem.W.Frag) (P : Program) (w : World) : List V → Hp → VK → Prop := fun xs H Q => ∃ (l : Addr) (ks : List (Addr × List Int)), xs = [V.ref l] ∧ SqT K H l (ks.map fun p => V.ref p.1) ∧ (∀ p ∈ ks, SqT K H p.1 (p.2.map V.int)) ∧ ks.length < 64 ∧
  ∀ a L, H a = none → (∀ p ∈ L, p ∈ ks) → (∀ p ∈ ks, p.2 ∈ L.map (·.2)) → Q (.ref a) (upd H a (SetTO P w a L))
theorem cr_setTT (hc : X.calm = true) (hu : X.A.units + 64 < cLine) : CallR X (.type "set") (rSetTT X.K X.prog X.w) := by
  intro pins s σ H xs us Q I r h
  obtain ⟨l, ks, rfl, hl, hk, hf, q⟩ := h
  rw [Vals.ref1 r]
  obtain ⟨its, rv, pl, hz⟩ := I.tuple hl
  refine set_tupT (P := X.prog) (w := X.w) ks (I.ok.hd hc) pl (by simpa using refs_of_vals rv) (fun p hp => I.isT (hk p hp)) hf (by omega) fun g tk L es ep t R gt kp => ?_
  refine ⟨.ref s.heap.objs.size, _, I.laid (t' := tk) kp (Nat.le_refl _) (setTO_new R.t0), rfl, q _ L (I.hok.fresh (Nat.le_refl _)) (fun p hp => List.mem_of_mem_take (gt.sub p hp)) fun p hp => gt.all p ?_⟩
  rw [List.take_length]
  exact hp
/-- sorted(set) -/
def rSortSet (K : PySem.W.Frag) (P : Program) (w : World) : List V → Hp → VK → Prop := fun vs H Q => ∃ (a : Addr) (L : List (Addr × List Int)), vs = [V.ref a] ∧ H a = some (SetTO P w a L) ∧ (∀ p ∈ L, SqT K H p.1 (p.2.map V.int) ∧ p.2 ≠ []) ∧
  ∀ (M : List (Addr × List Int)) (p : Addr), M.Perm L → (M.map (·.2)).Nodup → M.Pairwise (fun q r => HT.lexLt r.2 q.2 = false) → M.length < 64 → H p = none → Q (.ref p) (upd H p (.lst (M.map fun q => V.ref q.1)))
theorem cr_sortSet (hc : X.calm = true) : CallR X (.builtin "sorted") (rSortSet X.K X.prog X.w) := by
  intro pins s σ H vs us Q I r h
  obtain ⟨a, L, rfl, ha, hk, q⟩ := h
  have R0 : SetT0 X.prog X.w s.heap a L := (I.hok a _ ha).1
  obtain ⟨es, ep, t, R⟩ := R0.full fun p hp => I.isT (hk p hp).1
  rw [Vals.ref1 r]
  refine setT_sorted R (I.ok.hd hc) (fun _ p hp => (hk p hp).2) fun s' p out c M old g o hp hg eo pm pw => ?_
  have lM : M.length < 64 := by
    rw [pm.length_eq]
    exact R.few
  have fresh : H p = none := I.hok.fresh hp
  have J : L2.Inv X pins σ (upd H p (.lst (M.map fun q => V.ref q.1))) { s with heap := s'.heap, gens := s'.gens, drawn := s'.drawn, toks := s'.toks } :=
    I.call (ch := []) (Un.laid old hp fresh) (I.hok.laid old hp ⟨by rw [List.length_map, sizeLine_eq]; omega, out.toList, c, by rw [eo]; exact vals_of_refs M, hg⟩) (by rw [g]; exact I.bare) (fun _ z => nomatch z)
  have es : s' = { s with heap := s'.heap, gens := s'.gens, drawn := s'.drawn, toks := s'.toks } := by
    cases s'
    cases s
    cases o
    rfl
  rw [es]
  exact ⟨.ref p, _, J, rfl, q M p pm ((pm.map (·.2)).nodup_iff.mpr R.nd) pw lM fresh⟩
/-- the same, where a set of two or more has no empty tuple -/
def rSortSZ (K : PySem.W.Frag) (P : Program) (w : World) : List V → Hp → VK → Prop := fun vs H Q => ∃ (a : Addr) (L : List (Addr × List Int)), vs = [V.ref a] ∧ H a = some (SetTO P w a L) ∧ (∀ p ∈ L, SqT K H p.1 (p.2.map V.int)) ∧ ((L.map (·.2)).Nodup → 2 ≤ L.length → ∀ p ∈ L, p.2 ≠ []) ∧
  ∀ (M : List (Addr × List Int)) (p : Addr), M.Perm L → (M.map (·.2)).Nodup → M.Pairwise (fun q r => HT.lexLt r.2 q.2 = false) → M.length < 64 → H p = none → Q (.ref p) (upd H p (.lst (M.map fun q => V.ref q.1)))
theorem cr_sortSZ (hc : X.calm = true) : CallR X (.builtin "sorted") (rSortSZ X.K X.prog X.w) := by
  intro pins s σ H vs us Q I r h
  obtain ⟨a, L, rfl, ha, hk, full, q⟩ := h
  have R0 : SetT0 X.prog X.w s.heap a L := (I.hok a _ ha).1
  obtain ⟨es, ep, t, R⟩ := R0.full fun p hp => I.isT (hk p hp)
  rw [Vals.ref1 r]
  refine setT_sorted R (I.ok.hd hc) (full R.nd) fun s' p out c M old g o hp hg eo pm pw => ?_
  have lM : M.length < 64 := by
    rw [pm.length_eq]
    exact R.few
  have fresh : H p = none := I.hok.fresh hp
  have J : L2.Inv X pins σ (upd H p (.lst (M.map fun q => V.ref q.1))) { s with heap := s'.heap, gens := s'.gens, drawn := s'.drawn, toks := s'.toks } :=
    I.call (ch := []) (Un.laid old hp fresh) (I.hok.laid old hp ⟨by rw [List.length_map, sizeLine_eq]; omega, out.toList, c, by rw [eo]; exact vals_of_refs M, hg⟩) (by rw [g]; exact I.bare) (fun _ z => nomatch z)
  have es : s' = { s with heap := s'.heap, gens := s'.gens, drawn := s'.drawn, toks := s'.toks } := by
    cases s'
    cases s
    cases o
    rfl
  rw [es]
  exact ⟨.ref p, _, J, rfl, q M p pm ((pm.map (·.2)).nodup_iff.mpr R.nd) pw lM fresh⟩
end
end Rp
/-! Sw: sorted of a tuple of tuples of ints; tuples read at every second place. -/
namespace Rp
open PySem PySem.Spec L2 PyProof.Rows
section
variable {prog : Program} {w : World} {A : Around} {E : Value → Shared → Prop} {s : Shared}
theorem sorted_tupO {l : Addr} {vs : List Value} {ltv : Value → Value → Bool} {Q : Value → Shared → Prop} (O : SrtO.Swo ltv) (hl : s.heap.IsTuple l vs.toArray) (hz : vs.length ≤ sizeLine)
    (hS : 2 ≤ vs.length → ∀ (h₁ : Heap) (a : Addr), h₁.get? a = some (seqObj "list" vs.toArray 0) → (∀ b o, s.heap.get? b = some o → b ≠ a ∧ h₁.get? b = some o) → SrtO.SortableO prog w A.in1.in1 { s with heap := h₁ } a vs ltv)
    (h : ∀ (out : List Value) (h1 h' : Heap) (c : Nat), SrtO.Srtd ltv out → out.Perm vs → (∀ b o, s.heap.get? b = some o → h1.get? b = some o) → (∀ b o, h1.get? b = some o → h'.get? b = some o) → h'.get? h1.objs.size = some (seqObj "list" out.toArray c) → Q (.ref h1.objs.size) { s with heap := h' }) :
    wpAny (model prog w) A (call (.builtin "sorted") [.ref l]) Q E s := by
  obtain ⟨o, ho, hc, n, hd⟩ := id hl
  refine Calls.call_function_entry kind_sorted plain_sorted entry_sorted (args_sorted1 _) ?_
  unfold Builtin.«sorted»
  refine wpAny_bind (m := checkCount "sorted" 1 1 _) (wpAny_pure ?_)
  refine wpAny_bind (wpAny_collect_seq l (.inr rfl) ho hc hd (fun h' k => ?_) (by rw [List.size_toArray]; exact hz))
  refine wpAny_bind (wpAny_newList ?_ hz)
  have atL : (h'.push (seqObj "list" vs.toArray 0)).get? h'.objs.size = some (seqObj "list" vs.toArray 0) := Heap.get?_push_size _ rfl
  have keep : ∀ b o, s.heap.get? b = some o → b ≠ h'.objs.size ∧ (h'.push (seqObj "list" vs.toArray 0)).get? b = some o := fun b o e =>
    ⟨Nat.ne_of_lt (Heap.lt_size (k b o e)), Heap.get?_push_of_some _ (k b o e)⟩
  have hs : wpAny (model prog w) A.in1 (call (.builtin "list.sort") [.ref h'.objs.size]) (fun _ s2 => ∃ out : List Value, SrtO.Srtd ltv out ∧ out.Perm vs ∧
      s2 = { s with heap := sortedHeap (h'.push (seqObj "list" vs.toArray 0)) h'.objs.size vs out.toArray }) E { s with heap := h'.push (seqObj "list" vs.toArray 0) } :=
    wpAny_call_entry slot_list_sort ⟨_, atL, rfl⟩ entry_list_sort (SrtO.list_sort_ord O atL hz (fun h2 => hS h2 _ _ atL keep) fun out a1 a2 => ⟨_, rfl, out, a1, a2.perm, rfl⟩) (args_list_sort _)
  refine wpAny_bind (wpAny_holding (wpAny_mono hs ?_ fun _ _ h => h))
  rintro _ _ ⟨out, a1, a2, rfl⟩
  obtain ⟨c, hc'⟩ := sortedHeap_at (vs := vs) (out := out.toArray) atL
  refine wpAny_pure ⟨_, rfl, h out h' _ c a1 a2 k (fun b u e => ?_) hc'⟩
  have lt := Heap.lt_size e
  rw [sortedHeap_old (Nat.ne_of_lt lt) (by rw [size_push']; exact Nat.lt_succ_of_lt lt)]
  exact Heap.get?_push_of_some _ e
end
section
variable {X : Cx}
/-- sorted of a tuple of non-empty tuples of ints, known by position -/
def rSortTT (K : PySem.W.Frag) : List V → Hp → VK → Prop := fun vs H Q => ∃ (a : Addr) (xs : List V) (ks : List (List Int)), vs = [V.ref a] ∧ SqT K H a xs ∧ KeysT K H xs ks ∧
  ∀ (ys : List V) (ls : List (List Int)) (p : Addr), KeysT K H ys ls → ls.Pairwise (fun x y => HT.lexLt y x = false) → ls.Perm ks → H p = none → Q (.ref p) (upd H p (.lst ys))
theorem cr_sortTT : CallR X (.builtin "sorted") (rSortTT X.K) := by
  intro pins s σ H vs us Q I r h
  obtain ⟨a, xs, ks, rfl, hs, hx, q⟩ := h
  obtain ⟨its, rv, hl, hz⟩ := I.tuple hs
  obtain ⟨u, rfl, ru⟩ := vals1 r
  cases ru
  obtain ⟨ek, hti, e1, e2⟩ := keysT_vals I hx rv
  have hlen : xs.length = its.length := rv.length
  refine sorted_tupO (ltv := fun v u => HT.lexLt (keyTI s.heap v) (keyTI s.heap u)) (NtL.swo_lexL _) hl (by rw [← hlen]; exact hz) (fun h2 h₁ b hb hk => ?_) (fun out h0 h' c h1 h2 old old2 he => ?_)
  · refine ti_sortable (by omega) (fun v hv => ⟨ti_keeps (hti v hv).1 fun c o e _ => (hk c o e).2, (hti v hv).2⟩) (fun o ho => ?_)
    rw [hb] at ho
    cases ho
    show (Value.type "list") ≠ Value.type "tuple"
    decide
  · have h3 : ∀ u ∈ out, ∃ t, u = Value.ref t := fun u hu => e2 u (h2.mem_iff.mp hu)
    have kk : KeysT X.K H (out.map backV) (out.map (keyTI s.heap)) := by
      have g : ∀ (l m : List Value), (∀ v ∈ l, v ∈ m) → (∀ v ∈ m, ∃ t, v = Value.ref t) → KeysT X.K H (m.map backV) (m.map (keyTI s.heap)) → KeysT X.K H (l.map backV) (l.map (keyTI s.heap)) := by
        intro l m hl hr hk
        have one : ∀ (m : List Value), (∀ v ∈ m, ∃ t, v = Value.ref t) → KeysT X.K H (m.map backV) (m.map (keyTI s.heap)) → ∀ v ∈ m, ∃ t, v = Value.ref t ∧ SqT X.K H t ((keyTI s.heap v).map V.int) ∧ keyTI s.heap v ≠ [] := by
          intro m
          induction m with
          | nil => intro _ _ v hv; cases hv
          | cons u m ih =>
            intro hr hk v hv
            obtain ⟨t, rfl⟩ := hr u (List.mem_cons_self ..)
            rw [List.map_cons, List.map_cons] at hk
            have hk' : KeysT X.K H (V.ref t :: m.map backV) (keyTI s.heap (.ref t) :: m.map (keyTI s.heap)) := hk
            cases hk' with
            | cons hh ne rr =>
              rcases List.mem_cons.mp hv with rfl | hv
              · exact ⟨t, rfl, hh, ne⟩
              · exact ih (fun v hv => hr v (List.mem_cons_of_mem _ hv)) rr v hv
        induction l with
        | nil => exact .nil
        | cons u l ih =>
          obtain ⟨t, rfl, hh, ne⟩ := one m hr hk u (hl u (List.mem_cons_self ..))
          exact .cons hh ne (ih fun v hv => hl v (List.mem_cons_of_mem _ hv))
      refine g out its (fun v hv => h2.mem_iff.mp hv) e2 ?_
      rw [e1, ek]
      exact hx
    have I1 : L2.Inv X pins σ H { s with heap := h0, toks := s.toks } := I.kept old
    refine ⟨.ref _, upd H _ (.lst (out.map backV)), I1.laid (t' := s.toks) old2 (Nat.le_refl _) ?_, rfl, q _ _ _ kk (List.pairwise_map.mpr h1) ?_ (I1.hok.fresh (Nat.le_refl _))⟩
    · exact ⟨by rw [List.length_map, h2.length_eq, ← hlen]; exact hz, out, c, vals_back h3, he⟩
    · rw [← ek]
      exact h2.map _
end
/-! every second place -/
theorem sliceApplied_step {prog : Program} {w : World} {A : Around} {E : Value → Shared → Prop} {s : Shared} {sl : Addr} {vl vs : Value} {o : Option Int} {n k : Nat} {l h : Int} {Q : Int × Int × Nat → Shared → Prop}
    (hs : s.heap.IsSliceOf sl vl .none vs) (hl : IsPart vl o) (hv : IsPart vs (some 2)) (ea : Builtin.Slice.sliceAdjust o none 2 (n : Int) = (l, h)) (ep : Builtin.Slice.slicePlaces l h 2 = k) (q : Q (l, 2, k) s) :
    wpAny (model prog w) A (Builtin.Slice.sliceApplied (.ref sl) (pure (n : Int))) Q E s := by
  obtain ⟨os, hos, hcs, hds⟩ := hs
  unfold Builtin.Slice.sliceApplied Builtin.Slice.sliceFields
  refine wpAny_bind (wpAny_bind (wpAny_field hos hds rfl (wpAny_bind (wpAny_field hos hds rfl (wpAny_bind (wpAny_field hos hds rfl (wpAny_pure ?_)))))))
  refine wpAny_bind (HT.slicePart_ (o := some 2) hv ?_)
  refine wpAny_bind (HT.slicePart_ (o := o) hl ?_)
  refine wpAny_bind (HT.slicePart_ (o := none) .none ?_)
  refine wpAny_bind (wpAny_pure ?_)
  show wpAny _ _ (match Builtin.Slice.sliceAdjust o none 2 (n : Int) with | (lo, hi) => pure (lo, (2 : Int), Builtin.Slice.slicePlaces lo hi 2)) Q E s
  rw [ea]
  show wpAny _ _ (pure (l, (2 : Int), Builtin.Slice.slicePlaces l h 2)) Q E s
  rw [ep]
  exact wpAny_pure q
theorem getItem_tuple_step {prog : Program} {w : World} {A : Around} {E : Value → Shared → Prop} {s : Shared} {t sl : Addr} {items : Array Value} {vl vs : Value} {o : Option Int} {k : Nat} {l h : Int} {Q : Value → Shared → Prop} (ht : IsTup s.heap t items) (hs : s.heap.IsSliceOf sl vl .none vs) (hl : IsPart vl o) (hv : IsPart vs (some 2))
    (ea : Builtin.Slice.sliceAdjust o none 2 (items.size : Int) = (l, h)) (ep : Builtin.Slice.slicePlaces l h 2 = k)
    (q : Q (.ref s.heap.objs.size) { s with heap := s.heap.push { cls := .type "tuple", data := .seq (List.filterMap (fun m : Nat => items[(l + (m : Int) * 2).toNat]?) (List.range k)).toArray } }) (hz : k ≤ sizeLine) : wpAny (model prog w) A (getItem (.ref t) (.ref sl)) Q E s := by
  obtain ⟨os, hos, hcs, hds⟩ := id hs
  have hTs : s.TypeIs (.ref sl) "slice" := ⟨os, hos, hcs⟩
  unfold getItem
  refine wpAny_holding ?_
  refine wpAny_bind (wpAny_sequenceKey ht.typeIs (by decide) ?_)
  refine wpAny_bind (wpAny_callSpecial?_slot ht.typeIs slot_tuple_getitem ?_)
  refine wpAny_call_entry slot_tuple_getitem ht.typeIs entry_tuple_getitem ?_ (args_tuple_getitem _ _)
  show wpAny _ _ (do
      let xs ← Builtin.Tuple.tupleItemsOf (.ref t)
      let __do_lift ← typeOf (.ref sl)
      if (__do_lift == Value.type "slice") = true then do
          let __x ← Builtin.Slice.sliceApplied (.ref sl) (pure ↑xs.size)
          match __x with
            | (lo, step, n) =>
              have __do_jp := fun __r => do
                let __do_lift ←
                  Builtin.Tuple.tupleExact
                      (List.filterMap (fun k => xs[(lo + ↑k * step).toNat]?) (List.range n)).toArray
                ret __do_lift;
              if (lo == 0 && step == 1 && n == xs.size) = true then do
                let __do_lift ← Builtin.Tuple.tupleIsExact (.ref t)
                if __do_lift = true then do
                    rule "tuple.getitem.whole"
                    ret (.ref t)
                  else __do_jp ()
              else __do_jp ()
        else _) _ _ _
  refine wpAny_bind (tupleItemsOf_ ht ?_)
  refine wpAny_bind (wpAny_typeOf hTs ?_)
  rw [if_pos (by decide)]
  refine wpAny_bind (sliceApplied_step hs hl hv ea ep ?_)
  have hno : ¬ (((l == 0) && ((2 : Int) == 1) && (k == items.size)) = true) := by
    rw [show ((2 : Int) == 1) = false by decide, Bool.and_false, Bool.false_and]
    decide
  show wpAny _ _ (if ((l == 0) && ((2 : Int) == 1) && (k == items.size)) = true then _ else _) _ _ _
  rw [if_neg hno]
  refine wpAny_bind ?_
  unfold Builtin.Tuple.tupleExact
  refine wpAny_newObj_type ?_ ?_
  · exact wpAny_pure ⟨_, rfl, wpAny_pure q⟩
  · show _ ≤ sizeLine
    rw [List.size_toArray]
    refine Nat.le_trans (List.length_filterMap_le _ _) ?_
    rw [List.length_range]
    exact hz
theorem vals_pick {xs : List V} {us : List Value} (r : Vals xs us) (f : Nat → Nat) : ∀ l : List Nat, Vals (l.filterMap fun m => xs[f m]?) (l.filterMap fun m => us[f m]?)
  | [] => .nil
  | m :: l => by
    have ih := vals_pick r f l
    rw [List.filterMap_cons, List.filterMap_cons]
    cases h : xs[f m]? with
    | none =>
      have e : us[f m]? = none := by
        rw [List.getElem?_eq_none_iff] at h ⊢
        rw [← r.length]
        exact h
      rw [e]
      exact ih
    | some x =>
      obtain ⟨u, e, ru⟩ := r.get h
      rw [e]
      exact .cons ru ih
section
variable {X : Cx}
def tStepT (K : PySem.W.Frag) (o : Option Int) (te : TE) : TE := fun σ H Q => te σ H fun x H1 => ∃ (a : Addr) (xs : List V) (l h : Int) (k : Nat), x = V.ref a ∧ SqT K H1 a xs ∧ Builtin.Slice.sliceAdjust o none 2 (xs.length : Int) = (l, h) ∧ Builtin.Slice.slicePlaces l h 2 = k ∧ k ≤ sizeLine ∧
  ∀ p, H1 p = none → Q (.ref p) (upd H1 p (.tup ((List.range k).filterMap fun m : Nat => xs[(l + (m : Int) * 2).toNat]?)))
theorem po_int {i : Int} {c : Nat} {p2 : Pos} : PO X (some (.Constant (.int i) c p2)) fun _ H Q => Q (some i) H :=
  ⟨fun pins s σ H Q I h => (po_some (X := X) pe_int).run pins s σ H Q I ⟨i, rfl, h⟩⟩
theorem pe_stepT {e : Expr} {te : TE} {lo : Option Expr} {o : Option Int} {c : Nat} {p2 p3 pos : Pos} (he : PE X e te) (hl : PO X lo fun _ H Q => Q o H) : PE X (.Subscript e (.Slice lo none (some (.Constant (.int 2) c p2)) p3) pos) (tStepT X.K o te) := by
  refine ⟨fun pins s σ H Q I h => ?_⟩
  refine Subscript_ (thn (he.run pins s σ H _ I h) fun v s1 x => ?_)
  obtain ⟨x1, H1, I1, r1, a, xs, l, hh, k, rfl, hx, ea, ep, hk, q⟩ := x
  cases r1
  have hst : PO X (some (.Constant (.int 2) c p2)) _ := po_some pe_int
  refine wpAny_Slice (thn (hl.run pins s1 σ H1 (fun o' H2 => o' = o ∧ H2 = H1) I1 ⟨rfl, rfl⟩) fun vl s2 x => ?_)
  obtain ⟨l', H2, I2, pl, rfl, rfl⟩ := x
  refine thn ((po_none (X := X)).run pins s2 σ H2 (fun o H3 => o = none ∧ H3 = H2) I2 ⟨rfl, rfl⟩) fun vu s3 x => ?_
  obtain ⟨u, H3, I3, pu, rfl, rfl⟩ := x
  refine thn (hst.run pins s3 σ H3 (fun o H4 => o = some 2 ∧ H4 = H3) I3 ?_) fun vs s4 x => ?_
  · exact ⟨2, rfl, rfl, rfl⟩
  obtain ⟨st, H4, I4, pst, rfl, rfl⟩ := x
  cases pu
  have I5 := I4.kept (h' := s4.heap.push { cls := Value.type "slice", data := Data.fields #[vl, Value.none, vs] }) (t' := s4.toks) (fun b u h => Heap.get?_push_of_some _ h)
  obtain ⟨its, hvals, ht, hz⟩ := I5.tuple hx
  have hlen : xs.length = its.length := hvals.length
  refine tail_any ht.typeIs slot_tuple_getitem.lookup (getItem_tuple_step ht (Heap.IsSliceOf.new ..) pl pst (by rw [List.size_toArray, ← hlen]; exact ea) ep ?_ hk) rfl
  have lk : ((List.range k).filterMap fun m : Nat => xs[(l + (m : Int) * 2).toNat]?).length ≤ sizeLine := by
    refine Nat.le_trans (List.length_filterMap_le _ _) ?_
    rw [List.length_range]
    exact hk
  refine ⟨.ref _, upd H4 _ (.tup ((List.range k).filterMap fun m : Nat => xs[(l + (m : Int) * 2).toNat]?)), I5.laid (fun b u h => Heap.get?_push_of_some _ h) (Nat.le_refl _) ?_, rfl, q _ (I5.hok.fresh (Nat.le_refl _))⟩
  unfold ObjOk
  have ef : (fun m : Nat => its.toArray[(l + (m : Int) * 2).toNat]?) = fun m : Nat => its[(l + (m : Int) * 2).toNat]? := by
    funext m
    simp
  rw [ef]
  refine ⟨lk, (List.range k).filterMap fun m : Nat => its[(l + (m : Int) * 2).toNat]?, vals_pick hvals (fun m => (l + (m : Int) * 2).toNat) _, _, Heap.get?_push_size _ (o := { cls := Value.type "tuple", data := Data.seq (List.filterMap (fun m : Nat => its[(l + (m : Int) * 2).toNat]?) (List.range k)).toArray }) rfl, rfl, _, rfl⟩
end
end Rp
/-! Si: set of a list of ints (behind it HandS.Strs sorts such a set). -/
namespace Rp
open PySem PySem.Spec L2 PyProof.Rows
section
variable {P : Program} {w : World} {A : Around} {E : Value → Shared → Prop} {s : Shared}
/-- the set of the first i items -/
abbrev metB (val : Nat → Int) (i : Nat) : Int → Bool := fun j => (firstMet val i).any (· == j)
theorem metB_next (val : Nat → Int) (i : Nat) (j : Int) : metB val (i + 1) j = (metB val i j || decide (j = val i)) := by
  show (firstMet val (i + 1)).any (· == j) = _
  rw [firstMet_succ, step_any]
theorem met_len (val : Nat → Int) (i : Nat) : (firstMet val (i + 1)).length = if metB val i (val i) = true then (firstMet val i).length else (firstMet val i).length + 1 := by
  rw [firstMet_succ, step_length]
theorem setR_num {h : Heap} {a : Addr} {S : Int → Bool} {n m : Nat} (R : SetR w h a S n) (e : n = m) : SetR w h a S m := e ▸ R
theorem setR_update {I : Addr} {fp wr : List Addr} {G : Array GenState → Array GenState → Prop} {n : Nat} {Pv : Nat → Value → Prop} {St : Nat → Shared → Prop} {R : Result → Shared → Prop}
    (W : WalksS P w A.in1 I fp wr G n Pv St) (a : Addr) (far : a ∉ fp) (val : Nat → Int) (isI : ∀ i v, Pv i v → ∃ t, v = .int (val i) t) (room : n + 1 < scanBound) :
    ∀ (k i : Nat) (s : Shared), n - i = k → i ≤ n → St i s → SetR w s.heap a (metB val i) (firstMet val i).length →
      (∀ s', Moved (a :: wr) G s s' → SetR w s'.heap a (metB val n) (firstMet val n).length → R (.ok (.ret .none)) s') →
      codeAny (model P w) A (.builtin "set.update.loop" ⟨[.ref a, .ref I], []⟩) R s := by
  have nw : a ∉ wr := fun z => far (W.sub _ z)
  have more : ∀ b ∈ wr, b ∈ a :: wr := fun b z => List.mem_cons_of_mem _ z
  intro k
  induction k with
  | zero =>
    intro i s ek le st hS out
    obtain rfl : i = n := by omega
    refine codeAny_builtin F.entry_set_update_loop ?_
    rw [Around.under_plainId F.plain_set_update_loop _]
    show wpAny _ A.in1 (pyNext (.ref I) >>= _) _ _ s
    refine wpAny_bind (W.done s _ _ st fun s' mv => ?_)
    show wpAny _ A.in1 (ret Value.none) _ _ s'
    exact wpAny_pure (out s' (mv.mono more) (hS.at fun o e => mv.heap a o nw e))
  | succ k ih =>
    intro i s ek le st hS out
    have lt : i < n := by omega
    refine codeAny_builtin F.entry_set_update_loop ?_
    rw [Around.under_plainId F.plain_set_update_loop _]
    show wpAny _ A.in1 (pyNext (.ref I) >>= _) _ _ s
    refine wpAny_bind (W.item i s _ _ lt st fun v s' pv st' mv => ?_)
    obtain ⟨t, rfl⟩ := isI i v pv
    have hS' : SetR w s'.heap a (metB val i) (firstMet val i).length := hS.at fun o e => mv.heap a o nw e
    show wpAny _ A.in1 (holding [Value.int (val i) t] (setAdd a (.int (val i) t)) >>= _) _ _ s'
    refine wpAny_bind (wpAny_holding ?_)
    unfold setAdd
    refine wpAny_holding ?_
    refine wpAny_bind ((intKind P w).pyHash (k := val i) (intKind_is _ _ _ _) ?_)
    refine setR_add_hashed (s := { s' with toks := s'.toks + 1 }) hS' (by have := firstMet_length_le val i; omega) fun h' sb r => ?_
    have r' : SetR w h' a (metB val (i + 1)) (firstMet val (i + 1)).length := setR_num (r.congr fun j => metB_next val i j) (met_len val i).symm
    refine wpAny_pure ⟨plainId_quiet F.plain_set_update_loop _, ih (i + 1) _ (by omega) lt (W.frame _ s' _ _ st' (Nat.le_succ _) fun b hb o e => ?_) r' fun s2 mv2 r2 => ?_⟩
    · rw [sb.2 b (fun z : b = a => far (z ▸ hb))]
      exact e
    · refine out s2 (Moved.trans W.gtrans ((mv.mono more).then_heap (Nat.le_succ _) fun b o hb e => ?_) mv2) r2
      rw [sb.2 b (fun z : b = a => hb (z ▸ List.mem_cons_self))]
      exact e
theorem set_listI {l : Addr} {items : Array Value} {ns : List Int} {Q : Value → Shared → Prop} (free : A.handled = none) (lst : s.heap.IsList l items) (hints : IntsAre items.toList ns) (room : items.size + 1 < scanBound)
    (out : ∀ (g : Heap) (tk : Nat), SetR w g s.heap.objs.size (metB (fun i => ns.getD i 0) items.size) (firstMet (fun i => ns.getD i 0) items.size).length → (∀ b o, s.heap.get? b = some o → g.get? b = some o) → Q (.ref s.heap.objs.size) { s with heap := g, toks := tk }) :
    wpAny (model P w) A (call (.type "set") [.ref l]) Q E s := by
  obtain ⟨c, tl, mro1⟩ := F.called_set.mro
  have made1 := F.called_set.made
  have subm := F.called_set.sub
  refine wpAny_call (codeAny_of_tree (show wpAny _ _ (callAny (.type "set") _) _ _ _ from wpAny_pure ⟨Code.quiet_builtin _ (by decide +kernel), codeAny_builtin F.entry_type_call ?_⟩))
  rw [Around.under_plain (weight_type_call_type "set" [.ref l] []) rfl]
  have nty := F.called_set.notType
  have cancr := F.called_set.canCreate
  have tcall := F.typeCall_set_1 (.ref l)
  repeat (any_goals (first | assumption | wp_step))
  refine codeAny_mono (code_set_led1 (.ref l) (E := E) (Q₁ := fun x s1 => x = .ref s.heap.objs.size ∧ s1 = { s with heap := setHp w s }) ⟨rfl, rfl⟩) fun r s1 hr => ?_
  rcases r with e | fl
  · exact hr
  cases fl <;> first | exact hr.elim | skip
  rename_i made
  obtain ⟨rfl, rfl⟩ := hr
  have atS : (setHp w s).get? s.heap.objs.size = some (setOb w) := Heap.get?_push_size _ rfl
  have tyS : Shared.TypeIs { s with heap := setHp w s } (.ref s.heap.objs.size) "set" := ⟨_, atS, rfl⟩
  have lki := F.called_set.init.lookup
  have bdi := F.called_set.init.bind (.ref s.heap.objs.size)
  repeat (any_goals (first | assumption | wp_step))
  refine codeAny_mono (codeAny_call_builtin (R := wants (fun r s2 => r = .none ∧ ∃ g tk, s2 = { s with heap := g, toks := tk } ∧ SetR w g s.heap.objs.size (metB (fun i => ns.getD i 0) items.size) (firstMet (fun i => ns.getD i 0) items.size).length ∧
      (∀ b o, s.heap.get? b = some o → g.get? b = some o)) E) F.called_set.init.plain F.entry_set_init (check_set_init_1 tyS ?_)) fun r2 s2 hr2 => ?_
  · obtain ⟨ob, atl, cl, nl, dt⟩ := lst
    rcases ob with ⟨c0, d0, dat0, sl0⟩
    dsimp only at cl dt
    subst cl dt
    have atl' : (setHp w s).get? l = some { cls := .type "list", dict := d0, data := .seq items nl, slots := sl0 } := Heap.get?_push_of_some _ atl
    have sb1 := F.sub_list_set
    have sb2 := F.sub_list_frozenset
    have nd : (Value.type "list" == Value.type "dict") = false := by decide
    have isL1 : (setHp w s).IsList l items := ⟨_, atl', rfl, nl, rfl⟩
    unfold Builtin.«set.__init__» noKeywords Builtin.Frozenset.updateFrom
    generalize hit : pyIter = IT
    wp_walk
    subst hit
    refine wpAny_pyIter_list isL1 (wpAny_bind (wpAny_runValue ?_))
    have ltl : l < s.heap.objs.size := Heap.lt_size atl
    have sz : (setHp w s).objs.size = s.heap.objs.size + 1 := Heap.size_push ..
    have farl : l ≠ (setHp w s).objs.size := by
      rw [sz]
      exact Nat.ne_of_lt (Nat.lt_succ_of_lt ltl)
    have farS : s.heap.objs.size ∉ [(setHp w s).objs.size, l] := by
      intro hm
      rcases List.mem_cons.mp hm with e | e
      · rw [sz] at e
        exact absurd e (Nat.ne_of_lt (Nat.lt_succ_self _))
      · exact absurd (List.mem_singleton.mp e) (Nat.ne_of_gt ltl)
    have each : ∀ (i : Nat) (v : Value), items[i]? = some v → ∃ t, v = .int ((fun i => ns.getD i 0) i) t := fun i v hv => IntsAre.int_at hints i v (by rw [Array.getElem?_toList]; exact hv)
    have R0 : SetR w ((setHp w s).push { cls := .type "list_iterator", data := .fields #[.ref l, .int 0 0] }) s.heap.objs.size (metB (fun i => ns.getD i 0) 0) (firstMet (fun i => ns.getD i 0) 0).length :=
      (setR_fresh (h := s.heap) w).at fun o e => Heap.get?_push_of_some _ e
    refine setR_update ((Walks.list (A := A.in1.in1.in1) (by simp [free]) _ l farl items).toS) s.heap.objs.size farS (fun i => ns.getD i 0) each room (items.size - 0) 0 _ (by omega) (Nat.zero_le _) ⟨⟨_, Heap.get?_push_size _ rfl, rfl, rfl⟩, (isL1.push _)⟩ R0 ?_
    intro s' mv R'
    rcases s' with ⟨h', g2, dr', tk', os'⟩
    have q1 : g2 = s.gens := mv.gens
    have q2 : dr' = s.drawn := mv.drawn
    have q3 : os' = s.os := mv.os
    subst q1 q2 q3
    refine wpAny_pure (wpAny_pure ⟨rfl, h', tk', rfl, R', fun b o e => ?_⟩)
    have lb := Heap.lt_size e
    refine mv.heap b o (fun hm => ?_) (Heap.get?_push_of_some _ (Heap.get?_push_of_some _ e))
    rcases List.mem_cons.mp hm with z | z
    · exact absurd z (Nat.ne_of_lt lb)
    · have z' : b = (setHp w s).objs.size := by simpa using z
      rw [sz] at z'
      exact absurd z' (Nat.ne_of_lt (Nat.lt_succ_of_lt lb))
  · rcases r2 with e | fl
    · exact hr2
    cases fl <;> first | exact hr2.elim | skip
    obtain ⟨rfl, g, tk, rfl, R', kp⟩ := hr2
    repeat (any_goals (first | assumption | wp_step))
    exact out _ _ R' kp
end
section
variable {X : Cx}
/-- set(xs), xs a list of ints -/
def rSetLI (K : PySem.W.Frag) (w : World) : List V → Hp → VK → Prop := fun xs H Q => ∃ (l : Addr) (ns : List Int), xs = [V.ref l] ∧ SqL K H l (ns.map V.int) ∧ ns.length ≤ 2000 ∧
  ∀ (a : Addr) (S : Int → Bool) (n : Nat), H a = none → (∀ k, S k = true ↔ k ∈ ns) → n ≤ ns.length → Q (.ref a) (upd H a (SetO w a S n))
theorem range_getD (ns : List Int) : (List.range ns.length).map (fun i => ns.getD i 0) = ns := by
  apply List.ext_getElem (by simp)
  intro i h1 h2
  rw [List.getElem_map, List.getElem_range, List.getD, List.getElem?_eq_getElem h2]
  rfl
theorem cr_setLI (hc : X.calm = true) : CallR X (.type "set") (rSetLI X.K X.w) := by
  intro pins s σ H xs us Q I r h
  obtain ⟨l, ns, rfl, hl, hn, q⟩ := h
  rw [Vals.ref1 r]
  obtain ⟨its, rv, pl, hz⟩ := I.list hl
  have hi := rv.ints
  have el : its.toArray.size = ns.length := by rw [List.size_toArray, rv.length.symm, List.length_map]
  refine set_listI (P := X.prog) (w := X.w) (I.ok.hd hc) pl.isList hi (by rw [el]; unfold scanBound; omega) fun g tk R kp => ?_
  rw [el] at R
  refine ⟨.ref s.heap.objs.size, _, I.laid (t' := tk) kp (Nat.le_refl _) (setO_new R), rfl, q _ _ _ (I.hok.fresh (Nat.le_refl _)) (fun k => ?_) (firstMet_length_le _ _)⟩
  show (firstMet (fun i => ns.getD i 0) ns.length).any (· == k) = true ↔ _
  rw [firstMet_any, range_getD, List.any_eq_true]
  exact ⟨fun ⟨x, hx, e⟩ => by rw [← beq_iff_eq.mp e]; exact hx, fun hk => ⟨k, hk, by simp⟩⟩
end
end Rp
/-! Ea: several clauses, some with a name for the error (ps_tryA goes the way of the library's ps_try_many and ps_try_as, which it joins); defs that are handed the error that is being handled. -/
namespace Rp
open PySem PySem.Spec L2 PyProof.Rows
abbrev TSA := Addr → Value → Option Addr → TS
/-- what clauses, each with a slot for its name or none, wish of an error of the body -/
def wMA (K : PySem.W.Frag) (Wout : WX) (D : Ends) : List (Value × Option Nat × TSA) → WX
  | [] => Wout
  | (c, none, ts) :: r => fun cls d σ H => ∃ b, PySem.W.exmOne K cls c = some b ∧ (b = true → ∀ a, H a = none → ts a cls d D σ H) ∧ (b = false → wMA K Wout D r cls d σ H)
  | (c, some i, ts) :: r => wAs K c i ts (wMA K Wout D r) D
inductive ClsOk (X : Cx) : List ExceptHandler → List (Value × Option Nat × TSA) → Prop
  | nil : ClsOk X [] []
  | bare {x : Str} {c : Value} {ts : TSA} {b₀ : Stmt} {su : List Stmt} {np pos' : Pos} {hs : List ExceptHandler} {l : List (Value × Option Nat × TSA)} (hc : Names X x c)
      (hsu : ∀ (a : Addr) (oe : Obj) (cls : Value) (d : Option Addr) (pn : List (Addr × Obj)), Zc cls d oe → (∃ vs, oe.data = .fields vs) → PSs (X.suite a ((a, oe) :: pn)) (b₀ :: su) (ts a cls d)) (r : ClsOk X hs l) :
      ClsOk X (.ExceptHandler (some (.Name x np)) none (b₀ :: su) pos' :: hs) ((c, none, ts) :: l)
  | named {x n : Str} {i : Nat} {c : Value} {ts : TSA} {b₀ : Stmt} {su : List Stmt} {np pos' : Pos} {hs : List ExceptHandler} {l : List (Value × Option Nat × TSA)} (hi : X.N[i]? = some n) (hln : X.env.kindOf n = some .local) (hc : Names X x c)
      (hsu : ∀ (a : Addr) (oe : Obj) (cls : Value) (d : Option Addr) (pn : List (Addr × Obj)), Zc cls d oe → (∃ vs, oe.data = .fields vs) → PSs (X.suite a ((a, oe) :: pn)) (b₀ :: su) (ts a cls d)) (r : ClsOk X hs l) :
      ClsOk X (.ExceptHandler (some (.Name x np)) (some n) (b₀ :: su) pos' :: hs) ((c, some i, ts) :: l)
section
variable {X : Cx} {body : List Stmt} {h₀ : ExceptHandler} {hs : List ExceptHandler} {l : List (Value × Option Nat × TSA)} {pos : Pos} {tb : WX → TS} {Wout : WX}
theorem ps_tryA (hst : X.stack = X.env :: X.outer) (hfr0 : X.env.frame = some X.env.locals) (hN : X.N.Nodup) (tk : Takes X Wout)
    (hb : ∀ (W : WX) (pn : List (Addr × Obj)) (xe : Value → Shared → Prop), Takes (X.tr pn xe) W → PassesOwn (model X.prog X.w) X.A X.env xe → PSs (X.tr pn xe) body (tb W))
    (hh : ClsOk X (h₀ :: cls0) l) : PS X (.Try body (h₀ :: cls0) [] [] pos) (fun D σ H => tb (wMA X.K Wout D l) D σ H) := by
  constructor
  intro pins s σ H D I want
  have ok := I.ok
  have frames : X.A.frames = some (X.env :: X.outer) := by rw [ok.frames, hst]
  refine wpAny_Try_except ?_
  refine wpAny_mono ((hb (wMA X.K Wout D l) (X.pn ++ pins) (fun e s₁ => wpAny (model X.prog X.w) X.A (noteFrame e X.env) (fun _ s₂ => wpAny (model X.prog X.w) X.A (setFlight e none) (fun _ s₃ =>
    wpAny (model X.prog X.w) X.A (handleBy e X.env (h₀ :: cls0)) (SP X pins D) X.xe s₃) X.xe s₂) X.xe s₁) (fun u s' up0 => ?caught) PassesOwn.looking).run [] s σ H D (I.toTry _) want) (fun f s1 out => ?went) (fun e s1 he => he)
  case went =>
    cases f with
    | next => obtain ⟨σ', H', It, q⟩ := out; exact wpAny_execs_nil ⟨σ', H', It.ofTry ok, q⟩
    | brk => obtain ⟨σ', H', It, q⟩ := out; exact ⟨σ', H', It.ofTry ok, q⟩
    | cont => obtain ⟨σ', H', It, q⟩ := out; exact ⟨σ', H', It.ofTry ok, q⟩
    | ret u => obtain ⟨v, σ', H', It, r, q⟩ := out; exact ⟨v, σ', H', It.ofTry ok, r, q⟩
  case caught =>
    obtain ⟨a, B, s0, ps0, σ', H', cls, d, rfl, It, apart, up, above, na, os, ag, w⟩ := up0
    have I1 : Inv X pins σ' H' s0 := It.ofTry ok
    have sky' : Sky B (X.env :: X.outer) a (Zc cls d) X.env.locals s'.heap := by rw [← hst]; exact above
    show wpAny (model X.prog X.w) X.A (noteFrame (.ref a) X.env) _ _ _
    refine Sky.land Zc.steady frames hfr0 sky' fun h3 land3 u3 => ?_
    have I3 : Inv X pins σ' H' { s' with heap := h3 } := I1.landed apart land3.1 (up.trans u3) os ag
    obtain ⟨o3, f3, g3, z3, k3⟩ := land3.there
    have offFr : a ∉ frs (X.env :: X.outer) := fun hm => by
      obtain ⟨_, o', e', hnf⟩ := land3.2.2.1.mem hm
      rw [g3] at e'
      cases e'
      exact hnf _ k3
    have offL : a ≠ X.env.locals := fun z => offFr (List.mem_filterMap.mpr ⟨X.env, List.mem_cons_self, by rw [hfr0, z]⟩)
    have offF : a ∉ X.fs := fun hm => by
      obtain ⟨e, he, q⟩ := List.mem_filterMap.mp hm
      exact offFr (List.mem_filterMap.mpr ⟨e, List.mem_cons_of_mem _ he, q⟩)
    have In3 := I3.suite g3 k3 na offL offF
    have looks : PySem.W.Looks (model X.prog X.w) h3 (typeOf (.ref a)) cls := fun A Q E s k q => wpAny_typeOf_ref (k _ _ g3) (by rw [z3.1]; exact q)
    have test : ∀ {x : Str} {c : Value} {np : Pos} {Q : Value → Shared → Prop} {E : Value → Shared → Prop}, Names X x c → Q c { s' with heap := h3 } → wpAny (model X.prog X.w) (X.A.mark (some (.ref a))) (eval (.Name x np) X.env) Q E { s' with heap := h3 } := fun {x c np Q E} hc q => by
      obtain ⟨hg, dbg, hm | ⟨hm, hv, nm⟩⟩ := hc
      · exact ld_glob (X := X.suite a ((a, o3) :: (X.pn ++ pins))) In3 hg hm q dbg
      · exact ld_blt (X := X.suite a ((a, o3) :: (X.pn ++ pins))) In3 hg hm hv q nm dbg
    have go : ∀ {hs' : List ExceptHandler} {l' : List (Value × Option Nat × TSA)}, ClsOk X hs' l' → wMA X.K Wout D l' cls d σ' H' →
        wpAny (model X.prog X.w) X.A (handleBy (.ref a) X.env hs') (SP X pins D) X.xe { s' with heap := h3 } := by
      intro hs' l' hk
      induction hk with
      | nil =>
        intro w
        refine wpAny_handleBy_nil ?_
        obtain ⟨_, _, _, oe, vs, T, oT, _, he, hz, hd, h1, hr⟩ := id land3
        unfold PySem.passOn
        refine wpAny_bind (wpAny_field he hd h1 ?_)
        rw [if_neg (show ¬ ((Value.ref T == Value.none) = true) from by simp)]
        have leave : wpAny (model X.prog X.w) X.A (setFlight (.ref a) X.env.frame) (fun _ s4 => wpAny (model X.prog X.w) X.A (throw (.ref a) : Sem Flow) (SP X pins D) X.xe s4) X.xe { s' with heap := h3 } := by
          rw [hfr0]
          refine HandSPX.setFlight_upZ land3 fun h4 hh4 u4 => wpAny_throw (tk _ _ ?_)
          exact ⟨a, B, s0, pins, σ', H', cls, d, rfl, I1, apart, (up.trans u3).trans u4, .inr (.inr (by rw [hst]; exact hh4)), na, os, ag, w⟩
        first
          | exact wpAny_bind (wpAny_pure (wpAny_bind leave))
          | exact wpAny_bind leave
      | @bare x c ts b₀ su np pos' hs2 l2 hc hsu r ih =>
        intro w
        obtain ⟨b, says, then_, else_⟩ := w
        refine wpAny_handleBy_cons (codeAny_handlers_test ?_) (by intro q; cases q)
        refine test hc ((PySem.W.exm_one (M := model X.prog X.w) I3.kIn looks says).here ?_)
        cases b with
        | false => exact ih (else_ rfl)
        | true =>
          refine codeAny_handlers_suite ?_
          refine HandSPX.lands_againZ land3 fun h4 land4 u4 => ?_
          have I4 : Inv X pins σ' H' { s' with heap := h4 } := I1.landed apart land4.1 ((up.trans u3).trans u4) os ag
          obtain ⟨o4, f4, g4, z4, k4⟩ := land4.there
          have In4 := I4.suite g4 k4 na offL offF
          refine wpAny_mono ((hsu a o4 cls d (X.pn ++ pins) z4 ⟨_, k4⟩).run [] _ _ H' _ In4 (then_ rfl a na)) (fun f s6 out => ?_) (fun _ _ z => False.elim z)
          cases f with
          | next => obtain ⟨σ6, H6, In6, q6⟩ := out; exact ⟨_, _, In6.unsuite ok, q6⟩
          | brk => obtain ⟨σ6, H6, In6, q6⟩ := out; exact ⟨_, _, In6.unsuite ok, q6⟩
          | cont => obtain ⟨σ6, H6, In6, q6⟩ := out; exact ⟨_, _, In6.unsuite ok, q6⟩
          | ret u => obtain ⟨v6, σ6, H6, In6, r6, q6⟩ := out; exact ⟨_, _, _, In6.unsuite ok, r6, q6⟩
      | @named x n i c ts b₀ su np pos' hs2 l2 hi hln hc hsu r ih =>
        intro w
        obtain ⟨b, says, then_, else_⟩ := w
        refine wpAny_handleBy_cons (codeAny_handlers_test ?_) (by intro q; cases q)
        refine test hc ((PySem.W.exm_one (M := model X.prog X.w) I3.kIn looks says).here ?_)
        cases b with
        | false => exact ih (else_ rfl)
        | true =>
          refine codeAny_handlers_suite_as ?_
          refine HandSPX.lands_againZ land3 fun h4 land4 u4 => ?_
          have I4 : Inv X pins σ' H' { s' with heap := h4 } := I1.landed apart land4.1 ((up.trans u3).trans u4) os ag
          obtain ⟨o4, f4, g4, z4, k4⟩ := land4.there
          have In4 := I4.suite g4 k4 na offL offF
          refine store_ok (X := X.suite a ((a, o4) :: (X.pn ++ pins))) (v := .ref a) In4 hN hi (.inl hln) rfl (fun s5 In5 => ?_) (.inr hln)
          refine wpAny_mono ((hsu a o4 cls d (X.pn ++ pins) z4 ⟨_, k4⟩).run [] s5 _ H' _ In5 (then_ rfl a na)) (fun f s6 out => ?_) (fun _ _ z => False.elim z)
          have end_ : ∀ {σ6 : L2.St} {H6 : Hp} {Q : Shared → Prop}, Inv (X.suite a ((a, o4) :: (X.pn ++ pins))) [] σ6 H6 s6 → (∀ s7, Inv X pins (σ6.set i none) H6 s7 → Q s7) →
              wpAny (model X.prog X.w) X.A (do bindName X.env n .none; unbindBehindTheSuite X.env n pos') (fun _ s7 => Q s7) X.xe s6 := fun In6 hq => gone_ok (In6.unsuite ok) hN hi hln hq
          cases f with
          | next => obtain ⟨σ6, H6, In6, q6⟩ := out; exact end_ In6 fun s7 J7 => ⟨_, _, J7, q6⟩
          | brk => obtain ⟨σ6, H6, In6, q6⟩ := out; exact end_ In6 fun s7 J7 => ⟨_, _, J7, q6⟩
          | cont => obtain ⟨σ6, H6, In6, q6⟩ := out; exact end_ In6 fun s7 J7 => ⟨_, _, J7, q6⟩
          | ret u => obtain ⟨v6, σ6, H6, In6, r6, q6⟩ := out; exact end_ In6 fun s7 J7 => ⟨_, _, _, J7, r6, q6⟩
    exact go hh w
end

/-! ### defs that are handed the error -/
/-- a def called in an except suite, told by the error: its address, its class, its dict -/
abbrev SpE := Addr → Value → Option Addr → Sp
structure FnE (P : Program) (w : World) (K : PySem.W.Frag) (mg : Str → Option Value) (base : Heap) (CX : CXT) (k : Nat) (f : Addr) (fd : FuncData) (ps : List Str) (sp : SpE) : Prop where
  len : ∀ a cls d vs H Q E, sp a cls d vs H Q E → vs.length = ps.length
  run : ∀ (A : Around) (outer : List Env) (s : Shared) (H : Hp) (args : Args) (us : List Value) (vs : List V) (Q : VK) (E : XK) (p : Addr × Obj) (cls : Value) (d : Option Addr), L2H.RoomH k A → L2H.PinOk outer H s p → Zc cls d p.2 → (∃ fs, p.2.data = .fields fs) →
    Env0 P w K mg base A outer s H → BindsTo s fd args (ps.zip us) → Vals vs us → sp p.1 cls d vs H Q E → codeAny (model P w) A (.call (.ref f) args) (CR CX outer P w H s Q E) s
section
variable {P : Program} {w : World} {K : PySem.W.Frag} {mg : Str → Option Value} {base : Heap}
theorem okE {CX : CXT} {name qual : Str} {st : Stmt} {f : Addr} {fd : FuncData} {N ps : List Str} {k : Nat} {sp : SpE} (F : Fun K name qual st f fd) (S : FnScope N ps (defScope st))
    (hlen : ∀ a cls d vs H Q E, sp a cls d vs H Q E → vs.length = ps.length)
    (hb : ∀ (cdv : Value) (A : Around) (outer : List Env) (s : Shared) (H : Hp) (vs : List V) (Q : VK) (E : XK) (p : Addr × Obj) (cls : Value) (d : Option Addr), Zc cls d p.2 → (∃ fs, p.2.data = .fields fs) →
      L2H.RoomH k (A.deeper (envOfC qual (defScope st) s.heap.objs.size f cdv)) → sp p.1 cls d vs H Q E →
      ∃ t, PSs (L2H.cxH CX P w K mg base N qual (defScope st) f cdv A outer s H E p) (defBody st) t ∧
        t { nx := fun _ H' => Q .non H', rt := Q } (start N vs) H) : FnE P w K mg base CX (k + 1) f fd ps sp := by
  obtain ⟨oc, od, kV, doc, pm, an, cdv, ct, osl, rfl, lk, hcd⟩ := F.ex
  refine ⟨hlen, fun A outer s H args us vs Q E p cls d room pin hz hf en bd rv want => ?_⟩
  have kin : K.In s.heap := en.mod.kin.keeps fun b o z => (en.bs b o z).1
  have nolim : s.heap.NoLimit := en.mod.nolimit.keeps fun b o z => (en.bs b o z).1
  have hl := hlen _ _ _ _ _ _ _ want
  refine Att.call_fn kin nolim lk hcd room.depth bd ?_ (fun s1 ic => ?_) S.co S.gen S.kind
  · refine List.all_eq_true.mpr fun y hy => ?_
    obtain ⟨a, b⟩ := y
    rcases S.par a (List.of_mem_zip hy).1 with z | z
    · simp [z]
    · simp [z]
  · obtain ⟨t, ht, hq⟩ := hb cdv A outer s H vs Q E p cls d hz hf (room.deeper _) want
    have I := L2H.inv_startH (CX := CX) (P := P) (w := w) (K := K) (mg := mg) (base := base) (E := E) S pin en hl rv ic
    refine wpAny_mono (ht.run [] s1 (start N vs) H _ I hq) (fun fl s' hs => ?_) (fun e s' hs => hs)
    cases fl with
    | ret u =>
      obtain ⟨v, σ', H', J, rr, q⟩ := hs
      exact ⟨v, H', J.os, J.bare, J.base, J.hok, rr, q⟩
    | next =>
      obtain ⟨σ', H', J, q⟩ := hs
      exact ⟨V.non, H', J.os, J.bare, J.base, J.hok, rfl, q⟩
    | brk =>
      obtain ⟨_, _, _, q⟩ := hs
      exact False.elim q
    | cont =>
      obtain ⟨_, _, _, q⟩ := hs
      exact False.elim q
end
section
variable {X : Cx} {CX : CXT} {k : Nat} {f : Addr} {fd : FuncData} {ps : List Str} {sp : SpE} {E : L2.St → XK} {x : Str} {q pos : Pos} {e : Expr} {es : List Expr} {t : TA} {a : Addr} {oe : Obj} {cls : Value} {d : Option Addr} {pn : List (Addr × Obj)}
theorem pe_callE (F : FnE X.prog X.w X.K X.mg X.base CX k f fd ps sp) (hr : L2H.RoomH k X.A) (hz : Zc cls d oe) (hf : ∃ vs, oe.data = .fields vs) (hg : Gl X x) (hm : X.mg x = some (.ref f)) (hk : PySem.W.keepIn X.K (.ref f) = true) (hb : Binds X.K fd ps [])
    (hx : ∀ σ, PassesAt CX (X.suite a ((a, oe) :: pn)) σ (E σ))
    (ha : PA (X.suite a ((a, oe) :: pn)) (e :: es) t) (hdb : (x == ("__debug__" : Str)) = false := by decide) (he : starEach (e :: es) X.env = (false, eval e X.env) :: starEach es X.env := by rfl) (hpl : (backTo pos (starEach es X.env)).any (·.1) = false := by rfl) :
    PE (X.suite a ((a, oe) :: pn)) (.Call (.Name x q) (e :: es) [] pos) (tCallS (sp a cls d) E t) := by
  constructor
  intro pins s σ H Q I want
  refine wpAny_Call_Name_kw (ld_glob (X := X.suite a ((a, oe) :: pn)) I hg hm ?_ hdb)
  refine PySem.W.callWith_K (h₀ := X.base) I.ok.mod.kin hk (thn (ha.run pos pins s σ H _ I want) ?_) he hpl
  rintro us s1 ⟨vs, H1, I1, rv, q⟩
  refine ⟨I1.kIn, ?_⟩
  have hl : us.length = ps.length := by
    rw [← rv.length]
    exact F.len _ _ _ _ _ _ _ q
  have b := hb s1 us I1.kIn (by rw [List.append_nil]; exact hl)
  rw [List.append_nil] at b
  have P1 := I1.pin (a, oe) (List.mem_append_left _ List.mem_cons_self)
  have pin : L2H.PinOk X.stack H1 s1 (a, oe) := ⟨P1.1, P1.2.1, fun hm => (List.mem_cons.mp (I1.stkSub a hm)).elim P1.2.2.1 P1.2.2.2.1, P1.2.2.2.2⟩
  refine wpAny_call (codeAny_mono (F.run (X.A.mark (some (.ref a))) X.stack s1 H1 ⟨us, []⟩ us vs Q (E σ) (a, oe) cls d ⟨hr.dp, hr.un⟩ pin hz hf I1.env0 b rv q) fun r s' hq => ?_)
  cases r with
  | error e => exact hx σ pins H1 s1 e s' I1 hq
  | ok fl =>
    cases fl with
    | ret u => exact I1.after hq
    | next => exact False.elim hq
    | brk => exact False.elim hq
    | cont => exact False.elim hq
/-- isinstance of an error that stands in the state, by its class -/
theorem cr_isE {X : Cx} {a D : Addr} {oe : Obj} (C : ExcC X.K D) (hm : (a, oe) ∈ X.pn) (hz : Zc (.ref D) none oe) (hf : ∃ vs, oe.data = .fields vs) : CallR X (.builtin "isinstance") (rIsE X.K D a) := by
  intro pins s σ H xs us Q I r h
  obtain ⟨c, cv, b, rfl, hcv, e, q⟩ := h
  cases r with
  | cons rx rr =>
    cases rr with
    | cons rt rr =>
      cases rr
      cases rx
      obtain rfl := hcv _ rt
      obtain ⟨hget, _⟩ := I.pin (a, oe) (List.mem_append.mpr (.inl hm))
      obtain ⟨vs, hv⟩ := hf
      obtain ⟨oc, od, oda, osl⟩ := oe
      obtain ⟨h1, h2⟩ := hz
      dsimp only at h1 h2 hv
      subst h1 h2 hv
      exact PySem.W.kia_one (PySem.W.handS_kitx_exc C.hg C.hk C.hs C.hd C.ha C.hn C.ht C.hm) I.kIn ⟨hget, rfl, rfl, trivial⟩ e (fun z => nomatch z) fun tk => ⟨.bl b, H, I.kept (t' := tk) fun _ _ z => z, rfl, q⟩
/-- a rule that is never asked -/
theorem cr_never {X : Cx} {f : Value} : CallR X f (fun _ _ _ => False) := fun _ _ _ _ _ _ _ _ _ h => False.elim h
theorem passE0 {X : Cx} {E : L2.St → XK} : ∀ σ, PassesAt CX0 X σ (E σ) := fun _ _ _ _ _ _ _ h => False.elim h
end
/-- isinstance by the class's line: what the written part tells of both -/
theorem kit_of {K : PySem.W.Frag} {C D : Addr} {b : Bool} (h : PySem.W.subIn K (.ref C) (.ref D) = some b) (hc : PySem.W.subIn K (.ref C) (.ref C) = some true) (i : PySem.W.isClsIn K D = true) (t : PySem.W.typeIn K (.ref D) = some (.type "type")) : PySem.W.kitOne K (.ref C) (.ref D) = some b := by
  have e : ((PySem.W.clsIn K D).isSome && PySem.W.typeIn K (.ref D) == some (.type "type")) = true := by
    have i' : (PySem.W.clsIn K D).isSome = true := i
    rw [i', t] <;> rfl
  unfold PySem.W.kitOne
  split
  · rename_i z
    obtain rfl : C = D := by simpa using z
    rw [hc] at h
    exact h
  · show (if ((PySem.W.clsIn K D).isSome && PySem.W.typeIn K (.ref D) == some (.type "type")) = true then PySem.W.subIn K (.ref C) (.ref D) else none) = some b
    rw [if_pos e]
    exact h
/-! ### a def picked out of data, called -/
structure HeldX (P : Program) (w : World) (K : PySem.W.Frag) (mg : Str → Option Value) (base : Heap) (k : Nat) (f : Addr) (sp : Sp) : Prop where
  ex : ∃ (fd : FuncData) (ps : List Str), FnOk P w K mg base (L2.CX P w) k f fd ps sp ∧ PySem.W.keepIn K (.ref f) = true ∧ Binds K fd ps []
def tCallP (S : Addr → Sp → Prop) (W : WX) (tf : TE) (t : TA) : TE := fun σ H Q => tf σ H fun v H1 => ∃ f sp, v = .ref f ∧ S f sp ∧ t σ H1 fun vs H2 => sp vs H2 Q (WE W σ)
section
variable {X : Cx} {k : Nat} {W : WX} {S : Addr → Sp → Prop} {fe e : Expr} {es : List Expr} {pos : Pos} {tf : TE} {t : TA}
theorem pe_callP (A : ∀ f sp, S f sp → HeldX X.prog X.w X.K X.mg X.base k f sp) (hr : Room k X.A) (tk : Takes X W) (hf : PE X fe tf) (ha : PA X (e :: es) t)
    (hc : eval (.Call fe (e :: es) [] pos) X.env = (do callWith pos (← eval fe X.env) [] (backTo pos (starEach (e :: es) X.env)) (backToKw pos (keywordEach [] X.env))) := by rfl)
    (he : starEach (e :: es) X.env = (false, eval e X.env) :: starEach es X.env := by rfl) (hpl : (backTo pos (starEach es X.env)).any (·.1) = false := by rfl) : PE X (.Call fe (e :: es) [] pos) (tCallP S W tf t) := by
  constructor
  intro pins s σ H Q I want
  refine Call_ (thn (hf.run pins s σ H _ I want) ?_) hc
  rintro u s1 ⟨v, H1, I1, rv, f, sp, rfl, hS, q⟩
  obtain rfl : u = Value.ref f := rv
  obtain ⟨fd, ps, F, hk, hb⟩ := (A f sp hS).ex
  refine PySem.W.callWith_K (h₀ := X.base) I.ok.mod.kin hk (thn (ha.run pos pins s1 σ H1 _ I1 q) ?_) he hpl
  rintro us s2 ⟨vs, H2, I2, r, q2⟩
  exact ⟨I2.kIn, run_fnS F hr hb (passAt tk σ) I2 r q2⟩
/-! ### list.count, flat items -/
def rCntF (K : PySem.W.Frag) : V → List V → Hp → VK → Prop := fun x xs H Q => ∃ (a : Addr) (ys : List V) (y : V), x = V.ref a ∧ xs = [y] ∧ SqL K H a ys ∧ flatV y = true ∧ ys.all flatV = true ∧ Q (.int ((ys.countP fun z => eqV z y : Nat) : Int)) H
theorem countP_eq {y : V} {uy : Value} : ∀ {ys : List V} {its : List Value}, Vals ys its → (∀ z u, z ∈ ys → RelV z u → eqU y u = eqV z y) → its.countP (eqU y) = ys.countP fun z => eqV z y := by
  intro ys its r
  induction r with
  | nil => intro _; rfl
  | cons r rs ih =>
    intro h
    rw [List.countP_cons, List.countP_cons, ih fun z' u' hz => h z' u' (List.mem_cons_of_mem _ hz), h _ _ (List.mem_cons_self ..) r]
theorem mt_cntF : MtR X "list.count" (rCntF X.K) := by
  intro pins s σ H x xs v us Q I rx rxs h
  obtain ⟨a, ys, y, rfl, rfl, hs, fy, fys, q⟩ := h
  cases rx
  cases rxs with
  | cons ry rt =>
    rename_i uy ut
    cases rt
    obtain ⟨its, rv, ⟨⟨cls, dd, data, sl⟩, n, ho, hc, hdn, hd⟩, hlen⟩ := I.list hs
    simp only at hc hd
    subst hc hd
    refine call_meets PySem.F.slot_list_count ⟨_, ho, rfl⟩ PySem.F.entry_list_count (PySem.F.args_list_count_2 _ _)
      (SeqAt.list_countAt a its.toArray n dd sl uy (eqU y)) ⟨ho, fun u' hu' => mem_eqAt ry fy rv fys u' (by simpa using hu'), ?_⟩
    have e : its.toArray.toList.countP (eqU y) = ys.countP fun z => eqV z y := countP_eq (uy := uy) rv fun z u hz r => eqU_of r (List.all_eq_true.mp fys z hz)
    refine ⟨.int ((ys.countP fun z => eqV z y : Nat) : Int), H, I.tok _, ⟨s.toks, ?_⟩, q⟩
    show Value.int ((its.toArray.toList.countP (eqU y) : Nat) : Int) s.toks = Value.int (((ys.countP fun z => eqV z y : Nat)) : Int) s.toks
    rw [e]
end
end Rp
/-! Ev: own errors over any built-in one, whose __init__ keeps a value: made, raised, the value read. The library's rules (ExcInit) speak of ValueError alone. -/
namespace Rp
open PySem PySem.Spec L2 PyProof.Rows
/-- what the written part says of such a class -/
structure OexB (K : PySem.W.Frag) (C : Addr) : Prop where
  base : ∃ (B newId initId : String) (bmB : List Value), ExcBaseFacts B newId initId bmB ∧ StoreFacts B bmB "object.__setattr__" "object" ∧ PySem.W.excInitIn K C bmB newId = true ∧ PySem.W.excOver K C bmB = true
  hd : PySem.W.hasDictIn K C = true
  sa : PySem.W.findIn K (.ref C) "__setattr__" = some (some (.builtin "object.__setattr__"))
  exC : PySem.W.subIn K (.ref C) (.type "BaseException") = some true
  tyC : PySem.W.typeIn K (.ref C) = some (.type "type")
  kC : PySem.W.keepIn K (.ref C) = true
theorem upd_swap {H : Hp} {a b : Addr} {o u v : HO} (n : b ≠ a) : upd (upd (upd H b o) a u) b v = upd (upd H b v) a u := by
  funext c
  by_cases h1 : c = b
  · subst h1
    rw [upd_same, upd_ne n, upd_same]
  · rw [upd_ne h1]
    by_cases h2 : c = a
    · subst h2
      rw [upd_same, upd_same]
    · rw [upd_ne h2, upd_ne h2, upd_ne h1, upd_ne h1]
section
variable {X : Cx} {pins : List (Addr × Obj)} {σ : L2.St} {H : Hp} {s : Shared} {a C : Addr} {f : Str} {y : V} {u : Value} {Q : Unit → Shared → Prop} {E : Value → Shared → Prop} {A : Around}
/-- self.f = y, the first field of an error that is being made -/
theorem keep_new (T : OexB X.K C) (I : Inv X pins σ H s) (e : H a = some (exo a C none)) (hno : PySem.W.findIn X.K (.ref C) f = some none) (ry : RelV y u)
    (h : ∀ dx s', H dx = none → dx ≠ a → Inv X pins σ (upd (upd H dx (exd dx [(f, y)])) a (exo a C (some dx))) s' → Q () s') : wpAny (model X.prog X.w) A (setAttr (.ref a) f u) Q E s := by
  obtain ⟨B, newId, initId, bmB, FB, SF, qi, qo⟩ := T.base
  obtain ⟨t1, ho⟩ := exo_at I.hok e
  obtain ⟨cd, hc, hcd⟩ := PySem.W.any_some T.hd
  obtain ⟨hp, g, d, t, os⟩ := s
  have tk0 : PySem.W.takerIn X.K C f = some none := by
    unfold PySem.W.takerIn
    rw [hno]
    rfl
  have inst : PySem.W.InstAt hp a { cls := .ref C, dict := none, data := .fields #[.ref t1, .none, .none, .none, .bool false, .none] } C none := ⟨ho, rfl, rfl, trivial⟩
  refine PySem.W.set_plain I.kIn (od := none) inst T.sa (PySem.W.osa_openX (od := none) SF I.kIn inst qo tk0 fun b => ?_)
  show wpAny _ _ (Builtin.ObjectAttr.storeInOwnDict (.ref a) (.ref C) (.str f t) f u b) _ _ _
  have fresh : H hp.objs.size = none := I.hok.fresh (Nat.le_refl _)
  have ne : a ≠ hp.objs.size := Nat.ne_of_lt (Heap.lt_size ho)
  refine wpAny_bind (wpAny_pure (wpAny_bind (PySem.W.instanceDict_exc (t := t1) (c2 := .none) ho (PySem.W.looks_clsIn I.kIn hc) hcd ?_)))
  -- the dict is new, the object gets it
  have I1 := I.laid (t' := t + 1) (a := hp.objs.size) (o := exd hp.objs.size []) (h' := hp.push (PySem.W.dictOf [] 0)) (fun b u e => Heap.get?_push_of_some _ e) (Nat.le_refl _)
    (exd_ok (Heap.Ns1.of_empty ⟨_, #[], 0, Heap.get?_push_size _ rfl, rfl, fun e he => absurd he (by simp), fun _ => rfl⟩) fun _ => True.intro)
  have e1 : upd H hp.objs.size (exd hp.objs.size []) a = some (exo a C none) := by
    rw [upd_ne ne]
    exact e
  have ha1 : (hp.push (PySem.W.dictOf [] 0)).get? a = some { cls := .ref C, dict := none, data := .fields #[.ref t1, .none, .none, .none, .bool false, .none] } := Heap.get?_push_of_some _ ho
  have ha2 : ((hp.push (PySem.W.dictOf [] 0)).update a fun o => { o with dict := some hp.objs.size }).get? a = some { cls := .ref C, dict := some hp.objs.size, data := .fields #[.ref t1, .none, .none, .none, .bool false, .none] } := Heap.get?_update_self _ ha1 rfl
  have I2 := I1.write (t' := t + 1) (x := a) (e := a) (o := exo a C (some hp.objs.size)) (h' := (hp.push (PySem.W.dictOf [] 0)).update a fun o => { o with dict := some hp.objs.size }) (by rw [e1]; exact True.intro) (.inl rfl)
    (fun b u n z => (Heap.get?_update_ne _ _ _ _ n).trans z) ⟨_, ha2⟩ (exo_ok ha2)
  have hdx : ((hp.push (PySem.W.dictOf [] 0)).update a fun o => { o with dict := some hp.objs.size }).Ns hp.objs.size fun _ => none :=
    ⟨_, #[], 0, (Heap.get?_update_ne _ _ _ _ ne.symm).trans (Heap.get?_push_size _ rfl), rfl, fun e he => absurd he (by simp), fun _ => rfl⟩
  show wpAny _ _ (Builtin.ObjectAttr.storeInDict hp.objs.size (.str f t) f u) _ _ _
  refine PySem.HandSPX.store_in_new hdx fun h' tk' hn hs => ?_
  have ed : upd (upd H hp.objs.size (exd hp.objs.size [])) a (exo a C (some hp.objs.size)) hp.objs.size = some (exd hp.objs.size []) := by
    rw [upd_ne ne.symm, upd_same]
  have I3 := I2.write (t' := tk') (x := hp.objs.size) (e := hp.objs.size) (o := exd hp.objs.size [(f, y)]) (h' := h') (by rw [ed]; exact True.intro) (.inl rfl) (fun b u n z => (hs.2 b n).trans z)
    (by obtain ⟨o, _, _, z, _⟩ := hn; exact ⟨o, z⟩) (exd_ok hn (relO_put (fs := []) ry fun _ => True.intro))
  rw [upd_swap ne.symm] at I3
  exact h _ _ fresh ne.symm I3
end
/-- self.f = e in an error's __init__ -/
def tKeepF (K : PySem.W.Frag) (f : Str) (to te : TE) : TS := fun D σ H => te σ H fun y H1 => to σ H1 fun x H2 => ∃ a C : Addr, x = .ref a ∧ OexB K C ∧ PySem.W.findIn K (.ref C) f = some none ∧
  H2 a = some (exo a C none) ∧ ∀ dx, H2 dx = none → dx ≠ a → D.nx σ (upd (upd H2 dx (exd dx [(f, y)])) a (exo a C (some dx)))
section
variable {X : Cx} {o e : Expr} {es : List Expr} {to te : TE} {ta : TA} {f : Str} {p p' pos : Pos}
theorem ps_keepF (ho : PE X o to) (he : PE X e te) (hs : swapsWith e (some (.Attribute o f p')) pos.line X.env = pure false := by rfl) : PS X (.Assign [.Attribute o f p'] e pos) (tKeepF X.K f to te) := by
  constructor
  intro pins s σ H D I want
  refine plainObj_wpAny_Assign_Attribute (thn (he.run pins s σ H _ I want) ?_) hs
  rintro v s1 ⟨y, H1, I1, r1, q1⟩
  refine thn (ho.run pins s1 σ H1 _ I1 q1) ?_
  rintro u s2 ⟨x, H2, I2, r2, a, C, rfl, T, hno, ea, q⟩
  obtain rfl : u = Value.ref a := r2
  exact keep_new T I2 ea hno r1 fun dx s' n ne J => ⟨σ, _, J, q dx n ne⟩
/-- what an __init__ that keeps its argument promises -/
def spKeep (C : Addr) (f : Str) : Sp := fun vs H Q _ => ∃ (a : Addr) (y : V), vs = [.ref a, y] ∧ H a = some (exo a C none) ∧ ∀ dx, H dx = none → dx ≠ a → Q .non (upd (upd H dx (exd dx [(f, y)])) a (exo a C (some dx)))
/-- C(e), the error as it is raised: its dict keeps the value -/
def tKeep (C : Addr) (f : Str) (ta : TA) : L2.St → Hp → XK → Prop := fun σ H Q => ta σ H fun vs H1 => ∃ y, vs = [y] ∧ ∀ d, H1 d = none → Q (.ref C) (some d) (upd H1 d (.xd [(f, y)]))
theorem pmk_keep {CX : CXT} {x : Str} {C fI : Addr} {k : Nat} {fd : FuncData} {ps : List Str} (T : OexB X.K C) (iC : PySem.W.findIn X.K (.ref C) "__init__" = some (some (.ref fI))) (tI : PySem.W.typeIn X.K (.ref fI) = some (.type "function"))
    (F1 : FnOk X.prog X.w X.K X.mg X.base CX k fI fd ps (spKeep C f)) (hr : Room (k + 1) X.A) (hb : Binds X.K fd ps []) (hx : Passes CX X (fun _ _ _ => False)) (hg : Gl X x) (hm : X.mg x = some (.ref C)) (ha : PA X (e :: es) ta)
    (hdb : (x == ("__debug__" : Str)) = false := by decide) (he : starEach (e :: es) X.env = (false, eval e X.env) :: starEach es X.env := by rfl) (hpl : (backTo pos (starEach es X.env)).any (·.1) = false := by rfl) :
    PMk X (.Call (.Name x p) (e :: es) [] pos) (tKeep C f ta) := by
  intro pins s σ H Q I want
  obtain ⟨B, newId, initId, bmB, FB, SF, qi, qo⟩ := T.base
  refine wpAny_Call_Name_kw (ld_glob I hg hm ?_ hdb)
  refine PySem.W.callWith_K (h₀ := X.base) I.ok.mod.kin T.kC (thn (ha.run pos pins s σ H _ I want) ?_) he hpl
  rintro us s1 ⟨vs, H1, I1, r1, y, rfl, q1⟩
  refine ⟨I1.kIn, ?_⟩
  show wpAny _ _ (call (.ref C) us) _ _ _
  obtain ⟨u, rfl, ru⟩ := vals1 r1
  obtain ⟨nm, N, qn, bs, bm, hdct, sn, sub, ab, col, dd, k0, k1, k2, k3, k5, hC, hT⟩ := PySem.W.excInit_of I1.kIn qi
  obtain ⟨hp, g, dr, tk, os⟩ := s1
  have up : hp.objs.size ≤ hp.objs.size + 1 := Nat.le_succ _
  have fresh : H1 (hp.objs.size + 1) = none := I1.hok.fresh up
  have kk : ∀ b o, hp.get? b = some o → ((hp.push (PySem.W.kdv_tup [u])).push (PySem.HandSPX.excO C hp.objs.size)).get? b = some o := fun b o e => Heap.get?_push_of_some _ (Heap.get?_push_of_some _ e)
  have hget : ((hp.push (PySem.W.kdv_tup [u])).push (PySem.HandSPX.excO C hp.objs.size)).get? (hp.objs.size + 1) = some (PySem.HandSPX.excO C hp.objs.size) := by heap_get
  have I2 := I1.laid (t' := tk) (a := hp.objs.size + 1) (o := exo (hp.objs.size + 1) C none) (h' := (hp.push (PySem.W.kdv_tup [u])).push (PySem.HandSPX.excO C hp.objs.size)) kk up (exo_ok hget)
  have r2 : Vals [V.ref (hp.objs.size + 1), y] [Value.ref (hp.objs.size + 1), u] := .cons rfl (.cons ru .nil)
  have hq : spKeep C f [V.ref (hp.objs.size + 1), y] (upd H1 (hp.objs.size + 1) (exo (hp.objs.size + 1) C none))
      (fun v H2 => v = .non ∧ ∃ (d : Addr) (fs : List (Str × V)), H2 (hp.objs.size + 1) = some (exo (hp.objs.size + 1) C (some d)) ∧ H2 d = some (exd d fs) ∧ H1 d = none ∧ Q (.ref C) (some d) (upd (del H2 (hp.objs.size + 1)) d (.xd fs))) (fun _ _ _ => False) := by
    refine ⟨_, y, rfl, upd_same, fun dx n ne => ⟨rfl, dx, [(f, y)], upd_same, by rw [upd_ne ne, upd_same], by rw [upd_ne ne] at n; exact n, ?_⟩⟩
    have n1 : H1 dx = none := by rw [upd_ne ne] at n; exact n
    have e : upd (del (upd (upd (upd H1 (hp.objs.size + 1) (exo (hp.objs.size + 1) C none)) dx (exd dx [(f, y)])) (hp.objs.size + 1) (exo (hp.objs.size + 1) C (some dx))) (hp.objs.size + 1)) dx (.xd [(f, y)]) = upd H1 dx (.xd [(f, y)]) := by
      funext b
      by_cases h1 : b = dx
      · subst h1
        rw [upd_same, upd_same]
      · rw [upd_ne h1, upd_ne h1]
        by_cases h2 : b = hp.objs.size + 1
        · subst h2
          rw [del_same, fresh]
        · rw [del_ne h2, upd_ne h2, upd_ne h1, upd_ne h2]
    rw [e]
    exact q1 dx n1
  have hl : [Value.ref (hp.objs.size + 1), u].length = ps.length := by
    have z := F1.len _ _ _ _ hq
    rw [← z]
    rfl
  have room := hr.make C [u] []
  refine wpAny_call (PySem.HandSPX.call_own FB hT hC (PySem.W.looks_findIn I1.kIn iC) (fun self => PySem.W.bind_fn I1.kIn self tI) (by rw [sizeLine_eq]; simp)
    (codeAny_mono (F1.run _ X.stack _ _ ⟨[Value.ref (hp.objs.size + 1), u], []⟩ [Value.ref (hp.objs.size + 1), u] _ _ (fun _ _ _ => False) (hr.make C [u] []) (I2.env0.make C [u] [])
      (by have z := hb _ [Value.ref (hp.objs.size + 1), u] I2.kIn (by rw [List.append_nil]; exact hl); rw [List.append_nil] at z; exact z) r2 hq) fun r s' hq' => ?_))
  cases r with
  | error er => exact hx pins σ _ _ er s' I2 hq'
  | ok fl =>
    cases fl with
    | ret v0 =>
      obtain ⟨v, H2, os2, bare2, un2, hok2, rv, rfl, d, fs, ea, ed, hd1, q2⟩ := hq'
      obtain ⟨h2, g2, d2, t2, os'⟩ := s'
      exact ⟨rv, mk_end (raises_own T.exC T.tyC) I1 up kk un2 hok2 os2 bare2 ea ed hd1 q2⟩
    | next => exact False.elim hq'
    | brk => exact False.elim hq'
    | cont => exact False.elim hq'
end
/-! ### an error that keeps a value: its field, isinstance; (a, oe) stands in the state -/
/-- isinstance(e, c) of such an error -/
def rIsX (K : PySem.W.Frag) (a : Addr) (cls : Value) (d : Option Addr) : List V → Hp → VK → Prop := fun xs H Q => ∃ (c : V) (cv : Value) (b : Bool) (D dx : Addr) (fs : List (Str × V)), xs = [.ref a, c] ∧ (∀ u, RelV c u → u = cv) ∧ cls = .ref D ∧ L2.ExcC K D ∧
  d = some dx ∧ H dx = some (.xd fs) ∧ PySem.W.kitOne K (.ref D) cv = some b ∧ Q (.bl b) H
/-- e.f of such an error -/
def tXfM (a : Addr) (cls : Value) (d : Option Addr) (C : Addr) (f : Str) (te : TE) : TE := fun σ H Q => te σ H fun x H1 => x = .ref a ∧ cls = .ref C ∧ ∃ (dd : Addr) (fs : List (Str × V)) (v : V), d = some dd ∧ H1 dd = some (.xd fs) ∧ fs.lookup f = some v ∧ Q v H1
section
variable {X : Cx} {a : Addr} {oe : Obj} {cls : Value} {d : Option Addr}
theorem cr_isED (hm : (a, oe) ∈ X.pn) (hz : Zc cls d oe) (hf : ∃ vs, oe.data = .fields vs) : CallR X (.builtin "isinstance") (rIsX X.K a cls d) := by
  intro pins s σ H xs us Q I r h
  obtain ⟨c, cv, b, D, dx, fs, rfl, hcv, rfl, C, rfl, hx, e, q⟩ := h
  cases r with
  | cons rx rr =>
    cases rr with
    | cons rt rr =>
      cases rr
      cases rx
      obtain rfl := hcv _ rt
      obtain ⟨hget, _⟩ := I.pin (a, oe) (List.mem_append.mpr (.inl hm))
      have ok : ObjOk X.prog X.w H s.heap dx (.xd fs) := I.hok dx _ hx
      obtain ⟨mA, ⟨od, es, ep, hod, _⟩, _⟩ := ok
      obtain ⟨vs, hv⟩ := hf
      obtain ⟨oc, ody, oda, osl⟩ := oe
      obtain ⟨z1, z2⟩ := hz
      dsimp only at z1 z2 hv
      subst z1 z2 hv
      have hcl : (PySem.W.clsIn X.K D).isSome = true := by
        obtain ⟨cd, hc, _⟩ := PySem.W.any_some C.hd
        rw [hc]
        rfl
      have J : PySem.W.InstAt s.heap a { cls := .ref D, dict := some dx, data := .fields vs, slots := osl } D (some od) := ⟨hget, rfl, rfl, hod⟩
      exact PySem.W.kia_one (PySem.W.kitx_exc hcl C.hg C.hk C.hs C.ha C.hn C.ht C.hm) I.kIn J e (fun z => nomatch z) fun tk => ⟨.bl b, H, I.kept (t' := tk) fun _ _ z => z, rfl, q⟩
theorem pe_xfM {C : Addr} {e : Expr} {te : TE} {pos : Pos} {n : Str} (T : XfC X.K C) (hno : PySem.W.findIn X.K (.ref C) n = some none) (hm : (a, oe) ∈ X.pn) (hz : Zc cls d oe) (hf : ∃ vs, oe.data = .fields vs) (he : PE X e te) (hb : attributeBase e n X.env (eval e X.env) = eval e X.env := by rfl) :
    PE X (.Attribute e n pos) (tXfM a cls d C n te) := by
  constructor
  intro pins s σ H Q I want
  refine attr_of hb (thn (he.run pins s σ H _ I want) ?_)
  rintro u s1 ⟨x, H1, I1, rx, rfl, rfl, dd, fs, v, rfl, ea, l, q⟩
  obtain rfl : u = Value.ref a := rx
  obtain ⟨ha, _⟩ := I1.pin (a, oe) (List.mem_append_left _ hm)
  obtain ⟨vs, hd⟩ := hf
  have ok : ObjOk X.prog X.w H1 s1.heap dd (.xd fs) := I1.hok dd _ ea
  obtain ⟨mA, hns, hr⟩ := ok
  obtain ⟨od, ho, hl⟩ := lookIn_ns hns
  obtain ⟨u, hu, ru⟩ := RelO.some_of (v := v) (o := mA n) (by rw [← l]; exact hr n)
  have J : PySem.W.InstAt s1.heap a oe C (some od) := ⟨ha, hz.1, by unfold PySem.W.notCls; rw [hd] <;> rfl, by rw [hz.2]; exact ho⟩
  exact HandSPX.exc_get I1.kIn J T.ga T.gg T.exC (PySem.W.findObj_own T.hdC hno rfl (by rw [hl, hu])) (handed_of ru) ⟨v, H1, I1.tok _, ru, q⟩
end
end Rp
/-! Te: a list extended by a tuple. -/
namespace Rp
open PySem PySem.Spec L2 PyProof.Rows
theorem extend_tupAt (l : Addr) (items : Array Value) (n : Nat) (b : Addr) (more : Array Value) (m : Nat) (dd : Option Addr) (sl : Array (Option Value)) (h0 : ¬(!items.isEmpty && Builtin.List.listTooLong (items.size + more.size)) = true) (h1 : items.size ≤ sizeLine) (h2 : items.size + more.size ≤ sizeLine + 1) :
    Meets (Builtin.«list.extend» ⟨[.ref l, .ref b], []⟩) (fun _ R s => s.heap.get? l = some { cls := .type "list", dict := none, data := .seq items n, slots := #[] } ∧ s.heap.get? b = some { cls := .type "tuple", dict := dd, data := .seq more m, slots := sl } ∧ R (.ok (.ret Value.none)) { s with heap := s.heap.update l (Obj.mapSeq fun x => x ++ more) }) :=
  .of_wp fun prog w A R s h => by
    obtain ⟨hp, g, d, tk, os⟩ := s
    obtain ⟨hl, hb, h⟩ := h
    have f1 := AutoSeq1.idx_int
    have f2 := AutoSeq1.sub_tuple_tuple
    have f3 := AutoSeq1.sub_list_list
    have f4 := AutoSeq1.sub_tuple_list
    have f5 := AutoSeq1.sub_list_tuple
    have hz' : (items ++ more).size ≤ sizeLine + 1 := by
      rw [Array.size_append]
      exact h2
    wp_walk using (wpAny_updateSeq hl rfl (hz := h1) (_hz' := hz')), AutoSeq1.wpAny_loadPart' hl, AutoSeq1.wpAny_loadPart' hb
    exact ⟨_, rfl, h⟩
def rExtT (K : PySem.W.Frag) : V → List V → Hp → VK → Prop := fun x vs H Q => ∃ (l b : Addr) (xs zs : List V), x = .ref l ∧ vs = [.ref b] ∧ H l = some (.lst xs) ∧ SqT K H b zs ∧ xs.length + zs.length ≤ sizeLine ∧ Q .non (upd H l (.lst (xs ++ zs)))
theorem mt_extT {X : Cx} : MtR X "list.extend" (rExtT X.K) := by
  intro pins s σ H x vs v us Q I rx rv h
  obtain ⟨l, b, xs, zs, rfl, rfl, hH, hB, hz, q⟩ := h
  cases rx
  obtain ⟨u, rfl, ru⟩ := rv.one
  cases ru
  obtain ⟨z, its, n, r, hl, e⟩ := I.lstM hH
  obtain ⟨its2, r2, o, ho, hc, m, hd⟩ := isTuple_of I hB
  obtain ⟨oc, od, oda, osl⟩ := o
  dsimp only at hc hd
  subst hc hd
  have e1 := r.length
  have e2 := r2.length
  have hsz : its.toArray.size + its2.size ≤ sizeLine := by
    rw [List.size_toArray]
    have e3 : its2.toList.length = its2.size := by simp
    omega
  have hlong : ¬ (!its.toArray.isEmpty && Builtin.List.listTooLong (its.toArray.size + its2.size)) = true := by
    rw [notLongL hsz, Bool.and_false]
    exact Bool.false_ne_true
  refine call_meets F.slot_list_extend ⟨_, e, rfl⟩ F.entry_list_extend (F.args_list_extend_2 _ _)
    (extend_tupAt l its.toArray n b its2 m od osl hlong (by omega) (by omega)) ⟨e, ho, ?_⟩
  refine ⟨.non, _, I.lset (its' := its ++ its2.toList) hH e (by simp) (r.append r2) ?_, rfl, q⟩
  rw [List.length_append]
  omega
/-- o[i] of an augmented assignment, a list from its front -/
def rGetN (K : PySem.W.Frag) : V → V → Hp → VK → Prop := fun x y H Q => ∃ (p : Addr) (xs : List V) (j : Nat) (v : V), x = .ref p ∧ y = .int (j : Int) ∧ SqL K H p xs ∧ xs[j]? = some v ∧ Q v H
theorem get_list {X : Cx} : PGet X (rGetN X.K) := by
  intro pins s σ H o i ov iv Q I ro ri h
  obtain ⟨p, xs, j, v, rfl, rfl, hs, hv, q⟩ := h
  obtain rfl : ov = Value.ref p := ro
  obtain ⟨t, rfl⟩ := ri
  obtain ⟨its, r, pl, hz⟩ := I.list hs
  obtain ⟨u, hu, ru⟩ := r.get hv
  have hl := r.length
  have hn := line63
  have hj : j < xs.length := (List.getElem?_eq_some_iff.mp hv).1
  exact wpAny_getItem_list pl.isList (by omega) (by omega) (by rw [Int.toNat_natCast]; simpa using hu) ⟨v, H, I, ru, q⟩
/-- ("seq", ()) that lies in the written part -/
theorem dp_seqE {K : PySem.W.Frag} {a e : Addr} {o o2 : Option Addr} {n m : Nat} {s s2 : Array (Option Value)} {t : Tok} (h1 : K.lookup a = some ⟨.type "tuple", o, .seq #[.str "seq" t, .ref e] n, s⟩) (h2 : K.lookup e = some ⟨.type "tuple", o2, .seq #[] m, s2⟩) :
    ∀ H, Dp K H (.ref a) (.tuple [.str "seq", .tuple []]) := by
  intro H
  have v1 : Vals [V.str "seq", V.ref e] [Value.str "seq" t, Value.ref e] := .cons ⟨t, rfl⟩ (.cons rfl .nil)
  have t1 : SqT K H a [V.str "seq", V.ref e] := .inr ⟨_, _, _, h1, rfl, rfl, (by show 2 ≤ sizeLine; decide), v1⟩
  have t2 : SqT K H e [] := .inr ⟨_, _, _, h2, rfl, rfl, Nat.zero_le _, .nil⟩
  exact .tup t1 (.cons (.str _) (.cons (.tup t2 .nil) .nil))
end Rp
/-! Rl: written data (ints, texts, None, tuples, lists, names of data) as one step; as Rd, but over Dp, and it asks nothing of the heap. -/
namespace Rp
open PySem L2 PyProof.Rows
/-- data held in slots -/
def Ns (K : PySem.W.Frag) (E : List (Nat × PyData)) (σ : L2.St) (H : Hp) : Prop := ∀ e ∈ E, ∃ v, σ[e.1]? = some (some v) ∧ Dp K H v e.2
theorem Ns.same {K : PySem.W.Frag} {E : List (Nat × PyData)} {σ : L2.St} {H H' : Hp} (h : Ns K E σ H) (s : Same H H') : Ns K E σ H' := fun e he => by
  obtain ⟨v, h1, h2⟩ := h e he
  exact ⟨v, h1, dp_same s h2⟩
theorem Ns.nil {K : PySem.W.Frag} {σ : L2.St} {H : Hp} : Ns K [] σ H := fun e he => by cases he
theorem Ns.cons {K : PySem.W.Frag} {E : List (Nat × PyData)} {σ : L2.St} {H : Hp} {i : Nat} {v : V} {d : PyData} (h : σ[i]? = some (some v)) (hd : Dp K H v d) (t : Ns K E σ H) : Ns K ((i, d) :: E) σ H := fun e he => by
  rcases List.mem_cons.mp he with rfl | he
  · exact ⟨v, h, hd⟩
  · exact t e he
def tW (K : PySem.W.Frag) (E : List (Nat × PyData)) (d : PyData) : TE := fun σ H Q => Ns K E σ H ∧ ∀ (H' : Hp) (v : V), Same H H' → Dp K H' v d → Q v H'
def tWs (K : PySem.W.Frag) (E : List (Nat × PyData)) (ds : List PyData) : TA := fun σ H Q => Ns K E σ H ∧ ∀ (H' : Hp) (vs : List V), Same H H' → DpAll K H' vs ds → Q vs H'
section
variable {X : Cx} {E : List (Nat × PyData)}
theorem pw_mono {e : Expr} {t t' : TE} (h : PE X e t) (f : ∀ σ H Q, t' σ H Q → t σ H Q) : PE X e t' := ⟨fun pins s σ H Q I z => h.run pins s σ H Q I (f σ H Q z)⟩
theorem pws_mono {es : List Expr} {t t' : TA} (h : PA X es t) (f : ∀ σ H Q, t' σ H Q → t σ H Q) : PA X es t' := ⟨fun pos pins s σ H Q I z => h.run pos pins s σ H Q I (f σ H Q z)⟩
theorem pw_int {e : Expr} {t : TE} {m n : Int} (h : PE X e t) (hm : m = n) (f : ∀ σ H (Q : VK), Q (.int m) H → t σ H Q) : PE X e (tW X.K E (.int n)) := by
  refine pw_mono h fun σ H Q z => f σ H Q ?_
  obtain ⟨_, q⟩ := z
  subst hm
  exact q H _ (Same.refl _) (.int _)
theorem pw_str {x : Str} {j : Nat} {pos : Pos} : PE X (.Constant (.str x) j pos) (tW X.K E (.str x)) :=
  pw_mono pe_str fun σ H Q ⟨_, q⟩ => q H _ (Same.refl _) (.str _)
theorem pw_non {j : Nat} {pos : Pos} : PE X (.Constant .none j pos) (tW X.K E .none) :=
  pw_mono pe_non fun σ H Q ⟨_, q⟩ => q H _ (Same.refl _) .non
theorem pw_bl {b : Bool} {j : Nat} {pos : Pos} : PE X (.Constant (.bool b) j pos) (tW X.K E (.bool b)) :=
  pw_mono pe_bl fun σ H Q ⟨_, q⟩ => q H _ (Same.refl _) (.bl _)
theorem pw_var {e : Expr} {i : Nat} {d : PyData} (h : PE X e (tVar i)) (m : (i, d) ∈ E) : PE X e (tW X.K E d) := by
  refine pw_mono h fun σ H Q z => ?_
  obtain ⟨n, q⟩ := z
  obtain ⟨v, h1, h2⟩ := n _ m
  exact ⟨v, h1, q H _ (Same.refl _) h2⟩
theorem pws_nil : PA X [] (tWs X.K E []) :=
  pws_mono pa_nil fun σ H Q ⟨_, q⟩ => q H _ (Same.refl _) .nil
theorem pws_cons {e : Expr} {es : List Expr} {d : PyData} {ds : List PyData} (h : PE X e (tW X.K E d)) (t : PA X es (tWs X.K E ds)) (hs : starEach (e :: es) X.env = (false, eval e X.env) :: starEach es X.env := by rfl) : PA X (e :: es) (tWs X.K E (d :: ds)) := by
  refine pws_mono (pa_cons h t hs) fun σ H Q z => ?_
  obtain ⟨n, q⟩ := z
  exact ⟨n, fun H' v s hd => ⟨n.same s, fun H2 vs s2 hvs => q H2 _ (s.trans s2) (.cons (dp_same s2 hd) hvs)⟩⟩
theorem pw_tup {es : List Expr} {ds : List PyData} {k : Nat} {pos : Pos} (h : PA X es (tWs X.K E ds)) (hl : ds.length ≤ 1000) : PE X (.Tuple es k pos) (tW X.K E (.tuple ds)) := by
  refine pw_mono (pe_tup h) fun σ H Q z => ?_
  obtain ⟨n, q⟩ := z
  refine ⟨n, fun H' vs s hvs => ⟨small (by rw [dpAll_length hvs]; exact hl), fun t ht => ?_⟩⟩
  obtain ⟨s2, hd⟩ := tup_fresh ht hvs
  exact q _ _ (s.trans s2) hd
theorem pw_lst {es : List Expr} {ds : List PyData} {pos : Pos} (h : PA X es (tWs X.K E ds)) (hl : ds.length ≤ 1000) : PE X (.List es pos) (tW X.K E (.list ds)) := by
  refine pw_mono (pe_lst h) fun σ H Q z => ?_
  obtain ⟨n, q⟩ := z
  refine ⟨n, fun H' vs s hvs => ⟨small (by rw [dpAll_length hvs]; exact hl), fun t ht => ?_⟩⟩
  obtain ⟨s2, hd⟩ := lst_fresh ht hvs
  exact q _ _ (s.trans s2) hd
theorem dpAll_repW {K : PySem.W.Frag} {H : Hp} {vs : List V} {ds : List PyData} (h : DpAll K H vs ds) : ∀ k : Nat, DpAll K H (List.replicate k vs).flatten (List.replicate k ds).flatten
  | 0 => .nil
  | k + 1 => by
    simp only [List.replicate_succ, List.flatten_cons]
    exact dpAll_append h (dpAll_repW h k)
theorem pw_rep {a b : Expr} {ds : List PyData} {k : Nat} {pos : Pos} (h : PE X a (tW X.K E (.tuple ds))) (hb : PE X b (tC (.int (k : Int)))) (h2 : 2 ≤ k) (hk : k ≤ 1000) (h0 : ds ≠ []) (hl : ds.length ≤ 1000) :
    PE X (.BinOp a .Mult b pos) (tW X.K E (.tuple (List.replicate k ds).flatten)) := by
  refine pw_mono (pe_op (r := rRepT X.K) op_repT h hb) fun σ H Q z => ?_
  obtain ⟨n, q⟩ := z
  refine ⟨n, fun H' v s hd => ?_⟩
  obtain ⟨l, xs, rfl, hs, hall⟩ := dp_tup_inv hd
  refine ⟨l, _, xs, rfl, rfl, hs, ?_, by omega, by omega, by rw [dpAll_length hall]; exact hl, fun t ht => ?_⟩
  · intro z
    subst z
    cases hall
    exact h0 rfl
  · have e : ((k : Int)).toNat = k := by omega
    rw [e]
    obtain ⟨s2, hd2⟩ := tup_fresh ht (dpAll_repW hall k)
    exact q _ _ (s.trans s2) hd2
theorem pw_cat {a b : Expr} {ds es : List PyData} {pos : Pos} (h : PE X a (tW X.K E (.tuple ds))) (h' : PE X b (tW X.K E (.tuple es))) (hl : ds.length + es.length ≤ 1000) :
    PE X (.BinOp a .Add b pos) (tW X.K E (.tuple (ds ++ es))) := by
  refine pw_mono (pe_op (r := rCatA X.K) op_catA h h') fun σ H Q z => ?_
  obtain ⟨n, q⟩ := z
  refine ⟨n, fun H1 v s1 hd => ⟨n.same s1, fun H2 u s2 hd2 => ?_⟩⟩
  obtain ⟨l, xs, rfl, hs, hall⟩ := dp_tup_inv (dp_same s2 hd)
  obtain ⟨l', ys, rfl, hs', hall'⟩ := dp_tup_inv hd2
  have hlen : xs.length + ys.length ≤ sizeLine := small (by rw [dpAll_length hall, dpAll_length hall']; exact hl)
  have hcat := dpAll_append hall hall'
  refine ⟨l, l', xs, ys, rfl, rfl, hs, hs', hlen, fun z => ?_, fun _ z => ?_, fun _ _ t ht => ?_⟩
  · subst z
    exact q _ _ (s1.trans s2) (.tup hs' hcat)
  · subst z
    rw [List.append_nil] at hcat
    exact q _ _ (s1.trans s2) (.tup hs hcat)
  · obtain ⟨s3, hd3⟩ := tup_fresh ht hcat
    exact q _ _ (s1.trans (s2.trans s3)) hd3
end
end Rp
/-! Mx: max of four ints, and a for over what is a list or a tuple. -/
namespace Rp
open PySem L2 PyProof.Rows
theorem best_is (f : Nat → Int) : ∀ k : Nat, argBest (fun i j => decide (f i > f j)) k ≤ k ∧ ∀ i, i ≤ k → f i ≤ f (argBest (fun i j => decide (f i > f j)) k)
  | 0 => ⟨Nat.le_refl _, fun i hi => by
      have e : i = 0 := by omega
      rw [e]
      exact Int.le_refl _⟩
  | k + 1 => by
    obtain ⟨h1, h2⟩ := best_is f k
    by_cases g : f (k + 1) > f (argBest (fun i j => decide (f i > f j)) k)
    · have e : argBest (fun i j => decide (f i > f j)) (k + 1) = k + 1 := by simp [argBest, g]
      rw [e]
      refine ⟨Nat.le_refl _, fun i hi => ?_⟩
      by_cases z : i = k + 1
      · rw [z]
        exact Int.le_refl _
      · have := h2 i (by omega)
        omega
    · have e : argBest (fun i j => decide (f i > f j)) (k + 1) = argBest (fun i j => decide (f i > f j)) k := by simp [argBest, g]
      rw [e]
      refine ⟨by omega, fun i hi => ?_⟩
      by_cases z : i = k + 1
      · rw [z]
        omega
      · exact h2 i (by omega)
section
variable {prog : Program} {w : World} {A : Around} {E : Value → Shared → Prop} {s : Shared}
theorem max4_args (a b c d : Value) : argsOk "max" ⟨[a, b, c, d], []⟩ := by
  unfold argsOk
  kernel_rfl
theorem far1 {n : Nat} : n ≠ n + 1 := by omega
theorem far2 {n : Nat} : n + 1 + 1 ∉ [n + 1, n] := by simp; omega
theorem far3 {z n : Nat} (h : z < n) : z ∉ [n + 1] := by simp; omega
theorem far4 {z n : Nat} (h : z < n) : z ≠ n + 1 + 1 := by omega
/-- the greatest of four -/
theorem max4 {n : Nat → Int} {t : Nat → Tok} {Q : Value → Shared → Prop} (hh : A.handled = none)
    (h : ∀ (g : Heap) (tk : Nat) (k : Nat), k < 4 → (∀ i, i < 4 → n i ≤ n k) → (∀ z o, s.heap.get? z = some o → g.get? z = some o) → Q (.int (n k) (t k)) { s with heap := g, toks := tk }) :
    wpAny (model prog w) A (call (.builtin "max") [.int (n 0) (t 0), .int (n 1) (t 1), .int (n 2) (t 2), .int (n 3) (t 3)]) Q E s := by
  have nm : (toString "max" ++ toString ".loop" : String) = "max.loop" := by decide
  have at4 : ∀ i v, (#[Value.int (n 0) (t 0), .int (n 1) (t 1), .int (n 2) (t 2), .int (n 3) (t 3)] : Array Value)[i]? = some v → i < 4 ∧ v = .int (n i) (t i) := by
    intro i v e
    match i, e with
    | 0, e => exact ⟨by omega, by simpa using e.symm⟩
    | 1, e => exact ⟨by omega, by simpa using e.symm⟩
    | 2, e => exact ⟨by omega, by simpa using e.symm⟩
    | 3, e => exact ⟨by omega, by simpa using e.symm⟩
    | i + 4, e => simp at e
  have at4 : ∀ (arr : Array Value) (i : Nat) (v : Value), arr = #[Value.int (n 0) (t 0), .int (n 1) (t 1), .int (n 2) (t 2), .int (n 3) (t 3)] → arr[i]? = some v → i < 4 ∧ v = .int (n i) (t i) := fun arr i v e h => at4 i v (e ▸ h)
  have sz : ∀ arr : Array Value, (s.heap.push { cls := .type "tuple", data := .seq arr }).objs.size = s.heap.objs.size + 1 := fun _ => Heap.size_push ..
  have tup : ∀ arr : Array Value, (s.heap.push { cls := .type "tuple", data := .seq arr }).IsTuple s.heap.objs.size arr := fun arr => ⟨_, Heap.get?_push_size _ rfl, rfl, 0, rfl⟩
  have four : ∀ arr : Array Value, arr = #[Value.int (n 0) (t 0), .int (n 1) (t 1), .int (n 2) (t 2), .int (n 3) (t 3)] → arr.size = 4 := fun arr e => by rw [e]; rfl
  refine call_function_tree F.kind_max F.plain_max F.entry_max (max4_args _ _ _ _) (wpAny_bind (wpAny_of_eq (a := [none, none]) rfl ?_))
  refine wpAny_bind (M := model prog w) (A := A.in1) (m := newTuple [.int (n 0) (t 0), .int (n 1) (t 1), .int (n 2) (t 2), .int (n 3) (t 3)]) (wpAny_newObj_type ?_)
  generalize ea : ([Value.int (n 0) (t 0), .int (n 1) (t 1), .int (n 2) (t 2), .int (n 3) (t 3)] : List Value).toArray = arr
  have ea' := ea.symm
  refine wpAny_bind (wpAny_pyIter_tuple (tup arr) (wpAny_bind (wpAny_newObj_type ?_)))
  rw [nm]
  have W := Walks.tuple (prog := prog) (w := w) (A := A.in1) hh (s.heap.objs.size + 1) s.heap.objs.size far1 arr
  have i1 : (s.heap.push { cls := .type "tuple", data := .seq arr }).objs.size = s.heap.objs.size + 1 := sz arr
  have i2 : ((s.heap.push { cls := .type "tuple", data := .seq arr }).push { cls := .type "tuple_iterator", data := .fields #[.ref s.heap.objs.size, .int 0 0] }).objs.size = s.heap.objs.size + 1 + 1 := by
    rw [Heap.size_push, i1]
  dsimp only [Option.getD_none, Option.toList_none, List.map_nil]
  rw [i1, i2]
  have hit : ((s.heap.push { cls := .type "tuple", data := .seq arr }).push { cls := .type "tuple_iterator", data := .fields #[.ref s.heap.objs.size, .int 0 0] }).IsTupleIter (s.heap.objs.size + 1) s.heap.objs.size 0 :=
    ⟨_, by rw [← i1]; exact Heap.get?_push_size _ rfl, rfl, rfl⟩
  have ht2 := (tup arr).push { cls := .type "tuple_iterator", data := .fields #[.ref s.heap.objs.size, .int 0 0] }
  have hst := W.frame 0 _ _ ⟨hit, ht2⟩ fun b (_ : b ∈ [s.heap.objs.size + 1, s.heap.objs.size]) o e => Heap.get?_push_of_some { cls := .type "list", data := .seq #[] } e
  refine wpAny_pure ⟨plainId_quiet F.plain_max_loop _, codeAny_max_loop_first W _ (CmpOf.ints_gt n fun i v e => ⟨t i, (at4 arr i v ea' e).2⟩) (s.heap.objs.size + 1 + 1) far2 (by rw [four arr ea']; omega) hst (by rw [← i2]; exact Heap.get?_push_size _ rfl) fun v g tk hP hk => ?_⟩
  obtain ⟨b1, b2⟩ := best_is n 3
  rw [four arr ea'] at hP
  obtain ⟨k4, rfl⟩ := at4 arr _ v ea' hP
  refine h g tk _ k4 (fun i hi => b2 i (by omega)) fun z o e => ?_
  have hz := Heap.lt_size e
  refine hk z o (far3 hz) (far4 hz) (Heap.get?_push_of_some _ (Heap.get?_push_of_some _ (Heap.get?_push_of_some _ e)))
end
section
variable {X : Cx}
theorem call_max4 (hc : X.calm = true) : CallR X (.builtin "max") (fun xs H Q => ∃ a b c d : Int, xs = [.int a, .int b, .int c, .int d] ∧ ∀ m, m ∈ [a, b, c, d] → a ≤ m → b ≤ m → c ≤ m → d ≤ m → Q (.int m) H) := by
  intro pins s σ H xs us Q I r h
  obtain ⟨a, b, c, d, rfl, q⟩ := h
  cases r with
  | cons r1 r =>
  cases r with
  | cons r2 r =>
  cases r with
  | cons r3 r =>
  cases r with
  | cons r4 r =>
  cases r
  obtain ⟨t1, rfl⟩ := r1
  obtain ⟨t2, rfl⟩ := r2
  obtain ⟨t3, rfl⟩ := r3
  obtain ⟨t4, rfl⟩ := r4
  refine max4 (n := fun i => [a, b, c, d].getD i 0) (t := fun i => [t1, t2, t3, t4].getD i t1) (I.ok.hd hc) fun g tk k hk hm hold => ⟨.int ([a, b, c, d].getD k 0), H, I.kept hold, ⟨_, rfl⟩, ?_⟩
  have m0 := hm 0 (by omega)
  have m1 := hm 1 (by omega)
  have m2 := hm 2 (by omega)
  have m3 := hm 3 (by omega)
  refine q _ ?_ m0 m1 m2 m3
  match k, hk with
  | 0, _ => simp
  | 1, _ => simp
  | 2, _ => simp
  | 3, _ => simp
/-- a for over a list or a tuple -/
def iSeqA (K : PySem.W.Frag) (te : TE) : TI := fun σ H R => te σ H fun x H1 => ∃ a, x = .ref a ∧ (((∃ xs, SqL K H1 a xs) ∧ R (Itl K a) H1) ∨ ((∃ xs, SqT K H1 a xs) ∧ R (Itt K a) H1))
theorem pi_seqA {tg l : Expr} {te : TE} (hl : PE X l te) : PI X tg l (iSeqA X.K te) := by
  refine ⟨fun pins s σ H R I h => thn (hl.run pins s σ H _ I h) fun v s1 ⟨x, H1, I1, r1, a, e, q⟩ => ?_⟩
  subst e
  cases r1
  have fresh : ∀ b ∈ [s1.heap.objs.size], FpOk X pins H1 b := fun b hb => by
    rw [List.mem_singleton] at hb
    rw [hb]
    exact I1.fpOk (Nat.le_refl _) (I1.hok.fresh (Nat.le_refl _))
  rcases q with ⟨⟨xs, hx⟩, q⟩ | ⟨⟨xs, hx⟩, q⟩
  · obtain ⟨its, rv, p, hz⟩ := I1.list hx
    exact wpAny_pyIter_list p.isList ⟨_, [s1.heap.objs.size], _, _, H1, rfl, I1.kept (t' := s1.toks) fun b o e => Heap.get?_push_of_some _ e, turn_list a _, ⟨_, Heap.get?_push_size _ rfl, rfl, rfl⟩, fresh, q⟩
  · obtain ⟨its, rv, p, hz⟩ := I1.tuple hx
    exact wpAny_pyIter_tuple (items := its.toArray) p ⟨_, [s1.heap.objs.size], _, _, H1, rfl, I1.kept (t' := s1.toks) fun b o e => Heap.get?_push_of_some _ e, turn_tuple a _, ⟨_, Heap.get?_push_size _ rfl, rfl, rfl⟩, fresh, q⟩
end
/-- a list or a tuple with these items -/
def SeqA (K : PySem.W.Frag) (H : Hp) (a : Addr) (xs : List V) : Prop := SqL K H a xs ∨ SqT K H a xs
theorem SeqA.same {K : PySem.W.Frag} {H H' : Hp} {a : Addr} {xs : List V} (h : SeqA K H a xs) (s : Same H H') : SeqA K H' a xs := by
  rcases h with h | h
  · rcases h with (h | ⟨o, h⟩) | h
    · exact .inl (.inl (.inl (s _ _ h)))
    · exact .inl (.inl (.inr ⟨o, s _ _ h⟩))
    · exact .inl (.inr h)
  · exact .inr (same_sqT s h)
theorem walk_revT {K : PySem.W.Frag} {a : Addr} {xs : List V} : Walk (RT.ItvT K a xs.length) xs.length (fun H => SqT K H a xs) (fun i H x H' => H' = H ∧ xs[xs.length - 1 - i]? = some x) :=
  ⟨fun i H hi h => ⟨hi, xs, xs[xs.length - 1 - i]'(by omega), h, List.getElem?_eq_getElem (by omega)⟩, fun _ _ => Nat.le_refl _, fun i H x H' hi h y => ⟨y.1, y.2 xs h⟩⟩
theorem same_sqL {K : PySem.W.Frag} {H H' : Hp} {a : Addr} {xs : List V} (s : Same H H') (h : SqL K H a xs) : SqL K H' a xs := by
  rcases h with (h | ⟨o, h⟩) | h
  · exact .inl (.inl (s _ _ h))
  · exact .inl (.inr ⟨o, s _ _ h⟩)
  · exact .inr h
/-- what a for asks of what it walks -/
def ForR (g : TG) (tb : TS) (D : Ends) (σ : L2.St) (J : It) (H : Hp) : Prop := ∃ W : Nat → Nat → L2.St → Hp → Prop, (∃ m, W 0 m σ H) ∧ ∀ (i m : Nat) (σ : L2.St) (H : Hp), W i m σ H →
  (J.stop i H ∧ D.nx σ H) ∨ (J.go i H ∧ ∃ N : L2.St → Hp → Prop, (∀ (σ' : L2.St) (H' : Hp), N σ' H' → ∃ m', m' < m ∧ W (i + 1) m' σ' H') ∧ ∀ (x : V) (H' : Hp), J.yld i H x H' → g x σ H' fun σ2 H2 => tb { nx := N, rt := D.rt, bk := D.nx, ct := N } σ2 H2)
theorem for_seqA {K : PySem.W.Frag} {a : Addr} {xs : List V} {g : TG} {tb : TS} {D : Ends} {σ : L2.St} {Hb H : Hp} (h : SeqA K Hb a xs) (hb : Same Hb H) (Pv : Nat → L2.St → Hp → Prop) (h0 : Pv 0 σ H)
    (hs : ∀ (i : Nat) (σ : L2.St) (H' : Hp), i ≤ xs.length → Pv i σ H' → Same Hb H')
    (step : ∀ (i : Nat) (x : V) (σ : L2.St) (H' : Hp), xs[i]? = some x → Pv i σ H' → g x σ H' fun σ2 H2 => tb { nx := Pv (i + 1), rt := D.rt, bk := D.nx, ct := Pv (i + 1) } σ2 H2)
    (fin : ∀ (σ : L2.St) (H' : Hp), Pv xs.length σ H' → D.nx σ H') : ((∃ xs, SqL K H a xs) ∧ ForR g tb D σ (Itl K a) H) ∨ ((∃ xs, SqT K H a xs) ∧ ForR g tb D σ (Itt K a) H) := by
  rcases h with h | h
  · exact .inl ⟨⟨xs, same_sqL hb h⟩, for_it (walk_list (xs := xs)) Pv h0 (fun i σ H' hi p => same_sqL (hs i σ H' hi p) h) (fun i x σ H1 H2 hi p y => by obtain ⟨rfl, y⟩ := y; exact step i x σ _ y p) fin⟩
  · exact .inr ⟨⟨xs, same_sqT hb h⟩, for_it (walk_tup (xs := xs)) Pv h0 (fun i σ H' hi p => same_sqT (hs i σ H' hi p) h) (fun i x σ H1 H2 hi p y => by obtain ⟨rfl, y⟩ := y; exact step i x σ _ y p) fin⟩
theorem for_revA {K : PySem.W.Frag} {a : Addr} {xs : List V} {g : TG} {tb : TS} {D : Ends} {σ : L2.St} {Hb H : Hp} (h : SeqA K Hb a xs) (hb : Same Hb H) (Pv : Nat → L2.St → Hp → Prop) (h0 : Pv 0 σ H)
    (hs : ∀ (i : Nat) (σ : L2.St) (H' : Hp), i ≤ xs.length → Pv i σ H' → Same Hb H')
    (step : ∀ (i : Nat) (x : V) (σ : L2.St) (H' : Hp), i < xs.length → xs[xs.length - 1 - i]? = some x → Pv i σ H' → g x σ H' fun σ2 H2 => tb { nx := Pv (i + 1), rt := D.rt, bk := D.nx, ct := Pv (i + 1) } σ2 H2)
    (fin : ∀ (σ : L2.St) (H' : Hp), Pv xs.length σ H' → D.nx σ H') : (SqL K H a xs ∧ ForR g tb D σ (Itv K a xs.length) H) ∨ (SqT K H a xs ∧ ForR g tb D σ (RT.ItvT K a xs.length) H) := by
  rcases h with h | h
  · exact .inl ⟨same_sqL hb h, for_it (walk_rev (xs := xs)) Pv h0 (fun i σ H' hi p => same_sqL (hs i σ H' hi p) h) (fun i x σ H1 H2 hi p y => by obtain ⟨rfl, y⟩ := y; exact step i x σ _ hi y p) fin⟩
  · exact .inr ⟨same_sqT hb h, for_it (walk_revT (xs := xs)) Pv h0 (fun i σ H' hi p => same_sqT (hs i σ H' hi p) h) (fun i x σ H1 H2 hi p y => by obtain ⟨rfl, y⟩ := y; exact step i x σ _ hi y p) fin⟩
theorem walk_zipT2 {K : PySem.W.Frag} {a b : Addr} {xs ys : List V} {n : Nat} (hn : n = min xs.length ys.length) : Walk (RZ.ItzT K a b) n (fun H => SqT K H a xs ∧ SqT K H b ys) (YPair (fun i => xs[i]?) (fun i => ys[i]?)) := by
  subst hn
  refine ⟨fun i H hi h => ?_, fun H h => ⟨xs, ys, h.1, h.2, by omega⟩, fun i H v H' hi h y => ?_⟩
  · have l1 : i < xs.length := by omega
    have l2 : i < ys.length := by omega
    exact ⟨xs, ys, xs[i], ys[i], h.1, h.2, List.getElem?_eq_getElem l1, List.getElem?_eq_getElem l2⟩
  · obtain ⟨T, x, z, rfl, hT, rfl, f1, f2⟩ := y
    exact ⟨T, x, z, rfl, hT, rfl, f1 xs h.1, f2 ys h.2⟩
end Rp
/-! Pv: offers, valleys and profiles of steps (mathematics alone). -/
namespace Lw
open PySem L2 Rp
abbrev P2 := Int × Int
/-- q is as good as p -/
abbrev Dm (q p : P2) : Prop := q.1 ≤ p.1 ∧ q.2 ≤ p.2
def Covers (V P : List P2) : Prop := ∀ p ∈ P, ∃ v ∈ V, Dm v p
theorem Covers.refl (P : List P2) : Covers P P := fun p h => ⟨p, h, Int.le_refl _, Int.le_refl _⟩
theorem Covers.trans {A B C : List P2} (h : Covers A B) (k : Covers B C) : Covers A C := fun p hp => by
  obtain ⟨b, hb, e1, e2⟩ := k p hp
  obtain ⟨a, ha, e3, e4⟩ := h b hb
  exact ⟨a, ha, Int.le_trans e3 e1, Int.le_trans e4 e2⟩
theorem Covers.of_sub {A B : List P2} (h : ∀ p ∈ B, p ∈ A) : Covers A B := fun p hp => ⟨p, h p hp, Int.le_refl _, Int.le_refl _⟩
theorem Covers.append {A B C D : List P2} (h : Covers A B) (k : Covers C D) : Covers (A ++ C) (B ++ D) := fun p hp => by
  rcases List.mem_append.mp hp with hp | hp
  · obtain ⟨v, hv, e⟩ := h p hp
    exact ⟨v, List.mem_append.mpr (.inl hv), e⟩
  · obtain ⟨v, hv, e⟩ := k p hp
    exact ⟨v, List.mem_append.mpr (.inr hv), e⟩
theorem Covers.map {A B : List P2} (h : Covers A B) (f : P2 → P2) (hf : ∀ q p, Dm q p → Dm (f q) (f p)) : Covers (A.map f) (B.map f) := fun p hp => by
  obtain ⟨b, hb, rfl⟩ := List.mem_map.mp hp
  obtain ⟨a, ha, e⟩ := h b hb
  exact ⟨f a, List.mem_map.mpr ⟨a, ha, rfl⟩, hf _ _ e⟩
/-- each offers as much as the other -/
def Alike (A B : List P2) : Prop := Covers A B ∧ Covers B A
theorem Alike.refl (A : List P2) : Alike A A := ⟨Covers.refl A, Covers.refl A⟩
theorem Alike.symm {A B : List P2} (h : Alike A B) : Alike B A := ⟨h.2, h.1⟩
theorem Alike.trans {A B C : List P2} (h : Alike A B) (k : Alike B C) : Alike A C := ⟨h.1.trans k.1, k.2.trans h.2⟩
theorem Alike.append {A B C D : List P2} (h : Alike A B) (k : Alike C D) : Alike (A ++ C) (B ++ D) := ⟨h.1.append k.1, h.2.append k.2⟩
theorem Alike.map {A B : List P2} (h : Alike A B) (f : P2 → P2) (hf : ∀ q p, Dm q p → Dm (f q) (f p)) : Alike (A.map f) (B.map f) := ⟨h.1.map f hf, h.2.map f hf⟩
theorem Alike.of_mem {A B : List P2} (h : ∀ p, p ∈ A ↔ p ∈ B) : Alike A B := ⟨Covers.of_sub fun p hp => (h p).mpr hp, Covers.of_sub fun p hp => (h p).mp hp⟩
/-- capacities go up, usages go down -/
abbrev Strict (V : List P2) : Prop := V.Pairwise fun a b => a.1 < b.1 ∧ b.2 < a.2
structure IsVal (P V : List P2) : Prop where
  strict : Strict V
  sub : ∀ v ∈ V, v ∈ P
  cov : Covers V P
theorem IsVal.alike {P V : List P2} (h : IsVal P V) : Alike V P := ⟨h.cov, Covers.of_sub h.sub⟩
theorem strict_cov : ∀ {V W : List P2}, Strict V → Strict W → Covers V W → Covers W V → V = W
  | [], [], _, _, _, _ => rfl
  | [], w :: W, _, _, h, _ => by
    obtain ⟨v, hv, _⟩ := h w (List.mem_cons_self ..)
    cases hv
  | v :: V, [], _, _, _, h => by
    obtain ⟨v, hv, _⟩ := h v (List.mem_cons_self ..)
    cases hv
  | v :: V, w :: W, sv, sw, h, k => by
    have sv' := List.pairwise_cons.mp sv
    have sw' := List.pairwise_cons.mp sw
    -- the first ones cover one another
    have dist : ∀ {a : P2} {A : List P2}, Strict (a :: A) → ∀ x ∈ a :: A, ∀ y ∈ a :: A, Dm x y → x = y := by
      intro a A s x hx y hy hd
      have tri : ∀ {l : List P2}, Strict l → ∀ x ∈ l, ∀ y ∈ l, Dm x y → x = y := by
        intro l
        induction l with
        | nil => intro _ x hx; cases hx
        | cons z l ih =>
          intro s x hx y hy hd
          have s' := List.pairwise_cons.mp s
          rcases List.mem_cons.mp hx with e | hx2
          · subst e
            rcases List.mem_cons.mp hy with e | hy2
            · exact e.symm
            · have := s'.1 y hy2
              have := hd.2
              omega
          · rcases List.mem_cons.mp hy with e | hy2
            · subst e
              have := s'.1 x hx2
              have := hd.1
              omega
            · exact ih s'.2 x hx2 y hy2 hd
      exact tri s x hx y hy hd
    have same : ∀ x ∈ v :: V, x ∈ w :: W := by
      intro x hx
      obtain ⟨y, hy, e1⟩ := k x hx
      obtain ⟨z, hz, e2⟩ := h y hy
      have ezx : z = x := dist sv z hz x hx ⟨Int.le_trans e2.1 e1.1, Int.le_trans e2.2 e1.2⟩
      subst ezx
      have : z = y := Prod.ext (Int.le_antisymm e2.1 e1.1) (Int.le_antisymm e2.2 e1.2)
      rw [this]
      exact hy
    have same2 : ∀ x ∈ w :: W, x ∈ v :: V := by
      intro x hx
      obtain ⟨y, hy, e1⟩ := h x hx
      obtain ⟨z, hz, e2⟩ := k y hy
      have ezx : z = x := dist sw z hz x hx ⟨Int.le_trans e2.1 e1.1, Int.le_trans e2.2 e1.2⟩
      subst ezx
      have : z = y := Prod.ext (Int.le_antisymm e2.1 e1.1) (Int.le_antisymm e2.2 e1.2)
      rw [this]
      exact hy
    have hvw : v = w := by
      rcases List.mem_cons.mp (same v (List.mem_cons_self ..)) with e | e
      · exact e
      · rcases List.mem_cons.mp (same2 w (List.mem_cons_self ..)) with e' | e'
        · exact e'.symm
        · have := sw'.1 v e
          have := sv'.1 w e'
          omega
    subst hvw
    have rest : ∀ {A B : List P2}, (∀ x ∈ A, v.1 < x.1 ∧ x.2 < v.2) → (∀ x ∈ v :: A, x ∈ v :: B) → ∀ x ∈ A, x ∈ B := by
      intro A B hA hs x hx
      rcases List.mem_cons.mp (hs x (List.mem_cons_of_mem _ hx)) with rfl | e
      · have := hA x hx
        omega
      · exact e
    rw [strict_cov sv'.2 sw'.2 (Covers.of_sub (rest sw'.1 same2)) (Covers.of_sub (rest sv'.1 same))]
theorem IsVal.uniq {P Q V W : List P2} (h : IsVal P V) (k : IsVal Q W) (e : Alike P Q) : V = W :=
  strict_cov h.strict k.strict ((h.alike.trans e).trans k.alike.symm).1 ((h.alike.trans e).trans k.alike.symm).2
/-! what the walk over sorted pairs finds -/
/-- the pairs found so far, of these sorted ones: the last one has the least usage -/
structure Found (P V : List P2) : Prop where
  val : IsVal P V
  last : ∀ p ∈ P, ∀ v, V.getLast? = some v → v.2 ≤ p.2
theorem Found.nil : Found [] [] := ⟨⟨.nil, by simp, by simp [Covers]⟩, by simp⟩
theorem strict_last : ∀ {V : List P2} {v x : P2}, Strict V → V.getLast? = some v → x ∈ V → x = v ∨ (x.1 < v.1 ∧ v.2 < x.2) := by
  intro V v x s h hx
  obtain ⟨l, rfl⟩ := List.getLast?_eq_some_iff.mp h
  have s' := List.pairwise_append.mp s
  rcases List.mem_append.mp hx with hx | hx
  · exact .inr (s'.2.2 x hx v (by simp))
  · rw [List.mem_singleton] at hx
    exact .inl hx
/-- a pair behind all others, by capacity and then by usage -/
def Behind (P : List P2) (p : P2) : Prop := ∀ q ∈ P, q.1 < p.1 ∨ (q.1 = p.1 ∧ q.2 ≤ p.2)
theorem Found.skip {P V : List P2} {p v : P2} (h : Found P V) (hv : V.getLast? = some v) (b : Behind P p) (hle : ¬ p.2 < v.2) : Found (P ++ [p]) V := by
  have hvV : v ∈ V := List.mem_of_getLast? hv
  have hb := b v (h.val.sub v hvV)
  refine ⟨⟨h.val.strict, fun x hx => List.mem_append.mpr (.inl (h.val.sub x hx)), fun x hx => ?_⟩, fun x hx u hu => ?_⟩
  · rcases List.mem_append.mp hx with hx | hx
    · exact h.val.cov x hx
    · rw [List.mem_singleton] at hx
      subst hx
      exact ⟨v, hvV, by omega, by omega⟩
  · rcases List.mem_append.mp hx with hx | hx
    · exact h.last x hx u hu
    · rw [List.mem_singleton] at hx
      subst hx
      rw [hv] at hu
      cases hu
      omega
theorem Found.add {P V : List P2} {p : P2} (h : Found P V) (b : Behind P p) (hlt : ∀ v, V.getLast? = some v → p.2 < v.2) : Found (P ++ [p]) (V ++ [p]) := by
  have hs : ∀ x ∈ V, x.1 < p.1 ∧ p.2 < x.2 := by
    intro x hx
    obtain ⟨v, hv⟩ : ∃ v, V.getLast? = some v := by
      cases e : V.getLast? with
      | none =>
        rw [List.getLast?_eq_none_iff] at e
        subst e
        cases hx
      | some v => exact ⟨v, rfl⟩
    have h1 := hlt v hv
    have h2 := b x (h.val.sub x hx)
    rcases strict_last h.val.strict hv hx with rfl | h3
    · omega
    · omega
  refine ⟨⟨?_, fun x hx => ?_, fun x hx => ?_⟩, fun x hx u hu => ?_⟩
  · refine List.pairwise_append.mpr ⟨h.val.strict, by simp, fun x hx y hy => ?_⟩
    rw [List.mem_singleton] at hy
    subst hy
    exact hs x hx
  · rcases List.mem_append.mp hx with hx | hx
    · exact List.mem_append.mpr (.inl (h.val.sub x hx))
    · exact List.mem_append.mpr (.inr hx)
  · rcases List.mem_append.mp hx with hx | hx
    · obtain ⟨v, hv, e⟩ := h.val.cov x hx
      exact ⟨v, List.mem_append.mpr (.inl hv), e⟩
    · rw [List.mem_singleton] at hx
      subst hx
      exact ⟨x, by simp, Int.le_refl _, Int.le_refl _⟩
  · have eu : u = p := by
      rw [List.getLast?_append] at hu
      simpa using hu.symm
    subst eu
    rcases List.mem_append.mp hx with hx | hx
    · obtain ⟨v, hv, e⟩ := h.val.cov x hx
      have := hs v hv
      have := e.2
      omega
    · rw [List.mem_singleton] at hx
      subst hx
      exact Int.le_refl _
/-! offers of steps -/
/-- the boundaries, with the greatest usage so far -/
def front (top h : Int) : List Int → List P2
  | [] => [(max top h, h)]
  | s :: ss => (max top h, h) :: front (max top h) (h + s) ss
def lift2 (top b : Int) (p : P2) : P2 := (max top (b + p.1), b + p.2)
theorem lift2_mono (top b : Int) (q p : P2) (h : Dm q p) : Dm (lift2 top b q) (lift2 top b p) := by
  have h1 := h.1
  have h2 := h.2
  simp only [lift2, Dm]
  omega
theorem front_lift : ∀ (ss : List Int) (top b t h : Int), front (max top (b + t)) (b + h) ss = (front t h ss).map (lift2 top b)
  | [], top, b, t, h => by
    simp only [front, List.map_cons, List.map_nil, lift2]
    congr 2
    omega
  | s :: ss, top, b, t, h => by
    have ih := front_lift ss top b (max t h) (h + s)
    have e1 : max (max top (b + t)) (b + h) = max top (b + max t h) := by omega
    have e2 : b + h + s = b + (h + s) := by omega
    simp only [front, List.map_cons, e1, e2, ih, lift2]
theorem front_at (ss : List Int) (top b : Int) (h : b ≤ top ∨ True) : front top b ss = (front 0 0 ss).map (lift2 top b) := by
  have e := front_lift ss top b 0 0
  cases ss with
  | nil =>
    simp only [front, List.map_cons, List.map_nil, lift2]
    congr 2 <;> omega
  | cons s ss =>
    have e2 := front_lift ss top b (max 0 0) (0 + s)
    simp only [front, List.map_cons, lift2]
    congr 1
    · congr 1 <;> omega
    · have e3 : max top (b + max 0 0) = max top b := by omega
      rw [e3] at e2
      have e4 : b + (0 + s) = b + s := by omega
      rw [e4] at e2
      exact e2
/-- the greatest usage -/
def highs (top h : Int) : List Int → Int
  | [] => max top h
  | s :: ss => highs (max top h) (h + s) ss
theorem front_app : ∀ (as bs : List Int) (top h : Int) (p : P2), p ∈ front top h (as ++ bs) ↔ p ∈ front top h as ∨ p ∈ front (highs top h as) (h + as.sum) bs
  | [], bs, top, h, p => by
    cases bs with
    | nil => simp [front, highs]
    | cons b bs =>
      simp only [List.nil_append, front, highs, List.mem_cons, List.sum_nil, Int.add_zero, List.not_mem_nil, or_false]
      have e : max (max top h) h = max top h := by omega
      rw [e]
      constructor
      · rintro (h | h)
        · exact .inl h
        · exact .inr (.inr h)
      · rintro (h | h | h)
        · exact .inl h
        · exact .inl h
        · exact .inr h
  | a :: as, bs, top, h, p => by
    have ih := front_app as bs (max top h) (h + a) p
    simp only [List.cons_append, front, highs, List.mem_cons, List.sum_cons, ih]
    have e : h + a + as.sum = h + (a + as.sum) := by omega
    rw [e]
    constructor
    · rintro (h | h | h)
      · exact .inl (.inl h)
      · exact .inl (.inr h)
      · exact .inr h
    · rintro ((h | h) | h)
      · exact .inl h
      · exact .inr (.inl h)
      · exact .inr (.inr h)
theorem highs_max : ∀ (ss : List Int) (top h : Int), highs top h ss = max top (h + highs 0 0 ss)
  | [], top, h => by simp only [highs]; omega
  | s :: ss, top, h => by
    have i1 := highs_max ss (max top h) (h + s)
    have i2 := highs_max ss (max 0 0) (0 + s)
    simp only [highs, i1, i2]
    omega
theorem highs_app : ∀ (as bs : List Int) (top h : Int), highs top h (as ++ bs) = highs (highs top h as) (h + as.sum) bs
  | [], bs, top, h => by
    cases bs with
    | nil => simp [highs]
    | cons b bs =>
      simp only [List.nil_append, highs, List.sum_nil, Int.add_zero]
      congr 1
      omega
  | a :: as, bs, top, h => by
    have ih := highs_app as bs (max top h) (h + a)
    simp only [List.cons_append, highs, List.sum_cons, ih]
    congr 1
    omega
/-! from the end -/
abbrev bw (ss : List Int) : List Int := ss.reverse.map fun s => -s
theorem bw_cons (s : Int) (ss : List Int) : bw (s :: ss) = bw ss ++ [-s] := by simp [bw]
theorem bw_app (as bs : List Int) : bw (as ++ bs) = bw bs ++ bw as := by simp [bw]
theorem bw_sum : ∀ ss : List Int, (bw ss).sum = -ss.sum
  | [] => rfl
  | s :: ss => by
    rw [bw_cons, List.sum_append, bw_sum ss]
    simp only [List.sum_cons, List.sum_nil]
    omega
theorem highs_ge : ∀ (ss : List Int) (top h : Int), top ≤ highs top h ss ∧ h ≤ highs top h ss ∧ h + ss.sum ≤ highs top h ss
  | [], top, h => by simp only [highs, List.sum_nil]; omega
  | s :: ss, top, h => by
    have := highs_ge ss (max top h) (h + s)
    simp only [highs, List.sum_cons]
    omega
theorem highs_bw : ∀ ss : List Int, highs 0 0 (bw ss) = highs 0 0 ss - ss.sum
  | [] => by simp [bw, highs]
  | s :: ss => by
    have ih := highs_bw ss
    have h1 := highs_max ss (max 0 0) (0 + s)
    have h2 := highs_ge ss 0 0
    rw [bw_cons, highs_app, ih, bw_sum]
    simp only [highs, List.sum_cons, h1]
    omega
theorem front_max : ∀ (ss : List Int) (top h : Int), front (max top h) h ss = front top h ss
  | [], top, h => by
    have e : max (max top h) h = max top h := by omega
    simp only [front, e]
  | s :: ss, top, h => by
    have e : max (max top h) h = max top h := by omega
    simp only [front, e]
structure Prof (ss : List Int) (N p : Int) (S E : List P2) : Prop where
  net : N = ss.sum
  peak : p = highs 0 0 ss
  start : IsVal (front 0 0 ss) S
  fin : IsVal (front ss.sum ss.sum (bw ss)) E
theorem Prof.uniq {ss : List Int} {N p N' p' : Int} {S E S' E' : List P2} (h : Prof ss N p S E) (k : Prof ss N' p' S' E') : N = N' ∧ p = p' ∧ S = S' ∧ E = E' :=
  ⟨h.net.trans k.net.symm, h.peak.trans k.peak.symm, h.start.uniq k.start (Alike.refl _), h.fin.uniq k.fin (Alike.refl _)⟩
theorem prof_step (s : Int) : Prof [s] s (max 0 s) [(0, min 0 s)] [(s, min 0 s)] := by
  refine ⟨by simp, by simp only [highs]; omega, ⟨by simp, ?_, ?_⟩, ⟨by simp, ?_, ?_⟩⟩
  all_goals (simp only [bw, front, Covers, List.mem_cons, List.not_mem_nil, or_false, List.sum_cons, List.sum_nil, List.reverse_cons, List.reverse_nil, List.nil_append, List.map_cons, List.map_nil])
  · rintro v rfl
    by_cases h : s ≤ 0
    · right
      simp only [Prod.mk.injEq]
      omega
    · left
      simp only [Prod.mk.injEq]
      omega
  · rintro p (rfl | rfl)
    · exact ⟨_, rfl, by simp only [Dm]; omega⟩
    · exact ⟨_, rfl, by simp only [Dm]; omega⟩
  · rintro v rfl
    by_cases h : s ≤ 0
    · left
      simp only [Prod.mk.injEq]
      omega
    · right
      simp only [Prod.mk.injEq]
      omega
  · rintro p (rfl | rfl)
    · exact ⟨_, rfl, by simp only [Dm]; omega⟩
    · exact ⟨_, rfl, by simp only [Dm]; omega⟩
/-- one more part behind those before -/
theorem begin_more {cat ss : List Int} {O : List P2} {N p : Int} {S E : List P2} (h : Alike O (front 0 0 cat)) (k : Prof ss N p S E) :
    Alike (O ++ S.map (lift2 (highs 0 0 cat) cat.sum)) (front 0 0 (cat ++ ss)) := by
  have e1 : Alike (front 0 0 cat ++ front (highs 0 0 cat) cat.sum ss) (front 0 0 (cat ++ ss)) := Alike.of_mem fun p => by
    rw [List.mem_append, front_app, Int.zero_add]
  refine (h.append ?_).trans e1
  rw [front_at ss _ _ (.inr trivial)]
  exact k.start.alike.map _ (lift2_mono _ _)
theorem begin_peak {cat ss : List Int} {N p : Int} {S E : List P2} (k : Prof ss N p S E) : max (highs 0 0 cat) (cat.sum + p) = highs 0 0 (cat ++ ss) := by
  rw [highs_app, highs_max ss, k.peak, Int.zero_add]
/-- one more part in front of those behind -/
theorem end_more {m ss : List Int} {t : Int} {O : List P2} {N p : Int} {S E : List P2} (h : Alike O (front t t m)) (k : Prof ss N p S E) :
    Alike (O ++ E.map (lift2 (highs t t m) (t + m.sum - N))) (front t t (m ++ bw ss)) := by
  have e1 : Alike (front t t m ++ front (highs t t m) (t + m.sum) (bw ss)) (front t t (m ++ bw ss)) := Alike.of_mem fun p => by
    rw [List.mem_append, front_app]
  refine (h.append ?_).trans e1
  have e2 := front_lift (bw ss) (highs t t m) (t + m.sum - N) N N
  rw [show t + m.sum - N + N = t + m.sum by omega, front_max] at e2
  rw [e2]
  have := k.fin.alike
  rw [← k.net] at this
  exact this.map _ (lift2_mono _ _)
theorem end_peak {m ss : List Int} {t : Int} {N p : Int} {S E : List P2} (k : Prof ss N p S E) : max (highs t t m) (t + m.sum - N + p) = highs t t (m ++ bw ss) := by
  rw [highs_app, highs_max (bw ss), highs_bw, k.peak, k.net]
  omega
/-! the form of a profile -/
theorem front_ge : ∀ (ss : List Int) (top h : Int) (p : P2), p ∈ front top h ss → max top h ≤ p.1 ∧ p.2 ≤ p.1 ∧ p.1 ≤ highs top h ss
  | [], top, h, p, hp => by
    simp only [front, List.mem_singleton] at hp
    subst hp
    simp only [highs]
    omega
  | s :: ss, top, h, p, hp => by
    simp only [front, List.mem_cons] at hp
    simp only [highs]
    rcases hp with rfl | hp
    · have := highs_ge ss (max top h) (h + s)
      simp only
      omega
    · have := front_ge ss (max top h) (h + s) p hp
      omega
theorem front_first (ss : List Int) (top h : Int) : (max top h, h) ∈ front top h ss := by cases ss <;> simp [front]
def helds (h : Int) : List Int → List Int
  | [] => [h]
  | s :: ss => h :: helds (h + s) ss
theorem front_held : ∀ (ss : List Int) (top h : Int), (front top h ss).map (·.2) = helds h ss
  | [], _, _ => rfl
  | s :: ss, top, h => by simp only [front, helds, List.map_cons, front_held ss]
theorem helds_snoc : ∀ (ss : List Int) (h s : Int), helds h (ss ++ [s]) = helds h ss ++ [h + ss.sum + s]
  | [], h, s => by simp [helds]
  | a :: ss, h, s => by
    simp only [List.cons_append, helds, helds_snoc ss, List.sum_cons]
    congr 3
    omega
theorem helds_bw : ∀ (ss : List Int) (h : Int), helds (h + ss.sum) (bw ss) = (helds h ss).reverse
  | [], h => by simp [helds, bw]
  | s :: ss, h => by
    have ih := helds_bw ss (h + s)
    rw [bw_cons, helds_snoc, helds, List.reverse_cons, List.sum_cons, show h + (s + ss.sum) = h + s + ss.sum by omega, ih, bw_sum]
    congr 2
    omega
theorem IsVal.ne {P V : List P2} (h : IsVal P V) {p : P2} (hp : p ∈ P) : V ≠ [] := by
  rintro rfl
  obtain ⟨v, hv, _⟩ := h.cov p hp
  cases hv
theorem IsVal.first {P V : List P2} {p : P2} (h : IsVal P V) (hp : p ∈ P) (hl : ∀ q ∈ P, p.1 ≤ q.1) : ∃ l W, V = (p.1, l) :: W ∧ l ≤ p.2 := by
  obtain ⟨v, hv, e⟩ := h.cov p hp
  have hvp := hl v (h.sub v hv)
  cases V with
  | nil => cases hv
  | cons u W =>
    have su := List.pairwise_cons.mp h.strict
    have eu : u = v := by
      rcases List.mem_cons.mp hv with e2 | e2
      · exact e2.symm
      · have := su.1 v e2
        have := hl u (h.sub u (List.mem_cons_self ..))
        have := e.1
        omega
    subst eu
    have e1 : u.1 = p.1 := Int.le_antisymm e.1 hvp
    exact ⟨u.2, W, by rw [← e1], e.2⟩
theorem IsVal.low {P V : List P2} (h : IsVal P V) {v : P2} (hv : V.getLast? = some v) : v ∈ P ∧ ∀ p ∈ P, v.2 ≤ p.2 := by
  refine ⟨h.sub v (List.mem_of_getLast? hv), fun p hp => ?_⟩
  obtain ⟨u, hu, e⟩ := h.cov p hp
  have e2 := e.2
  rcases strict_last h.strict hv hu with rfl | h3
  · exact e2
  · omega
theorem Prof.same_low {ss : List Int} {N p : Int} {S E : List P2} (h : Prof ss N p S E) {u v : P2} (hu : S.getLast? = some u) (hv : E.getLast? = some v) : v.2 = u.2 := by
  obtain ⟨u1, u2⟩ := h.start.low hu
  obtain ⟨v1, v2⟩ := h.fin.low hv
  have hb := helds_bw ss 0
  rw [Int.zero_add] at hb
  have m1 : ∀ x, x ∈ (front 0 0 ss).map (·.2) ↔ x ∈ (front ss.sum ss.sum (bw ss)).map (·.2) := by
    intro x
    rw [front_held, front_held, hb, List.mem_reverse]
  obtain ⟨a, ha, e1⟩ := List.mem_map.mp ((m1 u.2).mp (List.mem_map.mpr ⟨u, u1, rfl⟩))
  obtain ⟨b, hb2, e2⟩ := List.mem_map.mp ((m1 v.2).mpr (List.mem_map.mpr ⟨v, v1, rfl⟩))
  have h1 := v2 a ha
  have h2 := u2 b hb2
  omega
theorem front_len : ∀ (ss : List Int) (top h : Int), (front top h ss).length = ss.length + 1
  | [], _, _ => rfl
  | s :: ss, top, h => by simp only [front, List.length_cons, front_len ss]
theorem nodup_len {α : Type} [DecidableEq α] : ∀ (V P : List α), V.Nodup → (∀ v ∈ V, v ∈ P) → V.length ≤ P.length
  | [], _, _, _ => Nat.zero_le _
  | v :: V, P, nd, h => by
    have nd' := List.nodup_cons.mp nd
    have hv := h v (List.mem_cons_self ..)
    have ih := nodup_len V (P.erase v) nd'.2 fun u hu => (List.mem_erase_of_ne (fun (e : u = v) => nd'.1 (by rw [← e]; exact hu))).mpr (h u (List.mem_cons_of_mem _ hu))
    have hp := List.length_pos_of_mem hv
    rw [List.length_erase_of_mem hv] at ih
    rw [List.length_cons]
    omega
theorem IsVal.len {P V : List P2} (h : IsVal P V) : V.length ≤ P.length := by
  have nd : V.Nodup := h.strict.imp fun {a b} e => by
    rintro rfl
    omega
  exact nodup_len V P nd h.sub
theorem front_bd {B : Int} : ∀ (ss : List Int) (top h C : Int), (∀ s ∈ ss, -B ≤ s ∧ s ≤ B) → 0 ≤ B → -C ≤ top → top ≤ C → -C ≤ h → h ≤ C → ∀ p ∈ front top h ss, (-(C + ss.length * B) ≤ p.1 ∧ p.1 ≤ C + ss.length * B) ∧ (-(C + ss.length * B) ≤ p.2 ∧ p.2 ≤ C + ss.length * B)
  | [], top, h, C, hs, hB, h1, h2, h3, h4, p, hp => by
    simp only [front, List.mem_singleton] at hp
    subst hp
    simp only [List.length_nil, Int.natCast_zero, Int.zero_mul]
    omega
  | s :: ss, top, h, C, hs, hB, h1, h2, h3, h4, p, hp => by
    have hs0 := hs s (List.mem_cons_self ..)
    have e : C + B + (ss.length : Int) * B = C + ((s :: ss).length : Int) * B := by
      rw [List.length_cons, Int.natCast_add, Int.add_mul]
      simp only [Int.natCast_one, Int.one_mul]
      omega
    have hn : 0 ≤ (ss.length : Int) * B := Int.mul_nonneg (by omega) hB
    simp only [front, List.mem_cons] at hp
    rw [← e]
    rcases hp with rfl | hp
    · simp only
      omega
    · exact front_bd ss (max top h) (h + s) (C + B) (fun x hx => hs x (List.mem_cons_of_mem _ hx)) hB (by omega) (by omega) (by omega) (by omega) p hp
end Lw
/-! Lm: lambdas handed to a def: defs that make them (their code object is known), the def that is told, the law's end with tables of code objects and known guards. -/
namespace Rp
open PySem PySem.Spec L2 LamX PyProof.Rows
/-! ### a def that makes lambdas: its code object is known -/
def CodeIs (K : PySem.W.Frag) (f c : Addr) : Prop := ∀ (oc : Value) (od : Option Addr) (fd : FuncData) (osl : Array (Option Value)), K.lookup f = some ⟨oc, od, .func fd, osl⟩ → fd.code = .ref c
theorem code_is {K : PySem.W.Frag} {x : Str} {f c P : Addr} (a : PySem.W.nsIn K mainGlobals x = some (some (.ref f))) (t : PySem.W.tabIn K x = some (c, P)) : CodeIs K f c := by
  intro oc od fd osl hl
  unfold PySem.W.tabIn at t
  rw [a] at t
  simp only [hl] at t
  cases hc : fd.code with
  | ref c' =>
    rw [hc] at t
    simp only at t
    split at t
    · split at t
      · cases t
        rfl
      · cases t
    · cases t
  | _ =>
    rw [hc] at t
    simp only at t
    cases t
section
variable {P : Program} {w : World} {K : PySem.W.Frag} {mg : Str → Option Value} {base : Heap}
/-- the body of such a def, guards known or not -/
theorem run_code {CX : CXT} {name qual : Str} {st : Stmt} {f c : Addr} {fd : FuncData} {N ps : List Str} {k : Nat} {sp : Sp} (F : Fun K name qual st f fd) (hc : CodeIs K f c) (S : FnScope N ps (defScope st)) (hlen : ∀ vs H Q E, sp vs H Q E → vs.length = ps.length)
    {A : Around} {outer : List Env} {s : Shared} {H : Hp} {args : Args} {us : List Value} {vs : List V} {Q : VK} {E : XK} (room : Room (k + 1) A) (en : Env0 P w K mg base A outer s H) (bd : BindsTo s fd args (ps.zip us)) (rv : Vals vs us) (want : sp vs H Q E)
    (hb : Room k (A.deeper (envOfC qual (defScope st) s.heap.objs.size f (.ref c))) → ∃ t, PSs (cxOf CX P w K mg base N qual (defScope st) f (.ref c) A outer s H E).nox (defBody st) t ∧ t { nx := fun _ H' => Q .non H', rt := Q } (start N vs) H) :
    codeAny (model P w) A (.call (.ref f) args) (CR CX outer P w H s Q E) s := by
  obtain ⟨oc, od, kV, doc, pm, an, cdv, ct, osl, rfl, lk, hcd⟩ := F.ex
  obtain rfl : cdv = .ref c := hc _ _ _ _ lk
  have kin : K.In s.heap := en.mod.kin.keeps fun b o z => (en.bs b o z).1
  have nolim : s.heap.NoLimit := en.mod.nolimit.keeps fun b o z => (en.bs b o z).1
  have hl := hlen _ _ _ _ want
  refine Att.call_fn kin nolim lk hcd room.depth bd ?_ (fun s1 ic => ?_) S.co S.gen S.kind
  · refine List.all_eq_true.mpr fun y hy => ?_
    obtain ⟨a, b⟩ := y
    rcases S.par a (List.of_mem_zip hy).1 with z | z
    · simp [z]
    · simp [z]
  · obtain ⟨t, ht, hq⟩ := hb (room.deeper _)
    have I := inv_start (CX := CX) (P := P) (w := w) (K := K) (mg := mg) (base := base) (E := E) S room.hd en hl rv ic
    refine wpAny_mono (ht.nox.run [] s1 (start N vs) H _ I hq) (fun fl s' hs => ?_) (fun e s' hs => hs)
    cases fl with
    | ret u =>
      obtain ⟨v, σ', H', J, rr, q⟩ := hs
      exact ⟨v, H', J.os, J.bare, J.base, J.hok, rr, q⟩
    | next =>
      obtain ⟨σ', H', J, q⟩ := hs
      exact ⟨V.non, H', J.os, J.bare, J.base, J.hok, rfl, q⟩
    | brk =>
      obtain ⟨_, _, _, q⟩ := hs
      exact False.elim q
    | cont =>
      obtain ⟨_, _, _, q⟩ := hs
      exact False.elim q
theorem okC {name qual : Str} {st : Stmt} {f c : Addr} {fd : FuncData} {N ps : List Str} {k : Nat} {sp : Sp} (F : Fun K name qual st f fd) (hc : CodeIs K f c) (S : FnScope N ps (defScope st)) (hlen : ∀ vs H Q E, sp vs H Q E → vs.length = ps.length)
    (hb : ∀ (A : Around) (outer : List Env) (s : Shared) (H : Hp) (vs : List V) (Q : VK) (E : XK), Room k (A.deeper (envOfC qual (defScope st) s.heap.objs.size f (.ref c))) → sp vs H Q E →
      ∃ t, PSs (cxOf CX0 P w K mg base N qual (defScope st) f (.ref c) A outer s H E).nox (defBody st) t ∧ t { nx := fun _ H' => Q .non H', rt := Q } (start N vs) H) : FnOk P w K mg base CX0 (k + 1) f fd ps sp :=
  ⟨hlen, fun A outer s H args us vs Q E room en bd rv want => run_code F hc S hlen room en bd rv want fun hr => hb A outer s H vs Q E hr want⟩
theorem okCG {name qual : Str} {st : Stmt} {f c : Addr} {fd : FuncData} {N ps : List Str} {k : Nat} {sp : Sp} (F : Fun K name qual st f fd) (hc : CodeIs K f c) (S : FnScope N ps (defScope st)) (hlen : ∀ vs H Q E, sp vs H Q E → vs.length = ps.length)
    (hb : ∀ (A : Around) (outer : List Env) (s : Shared) (H : Hp) (vs : List V) (Q : VK) (E : XK), Room k (A.deeper (envOfC qual (defScope st) s.heap.objs.size f (.ref c))) → A.guards = some [] → sp vs H Q E →
      ∃ t, PSs (cxOf CX0 P w K mg base N qual (defScope st) f (.ref c) A outer s H E).nox (defBody st) t ∧ t { nx := fun _ H' => Q .non H', rt := Q } (start N vs) H) : FnG P w K mg base CX0 (k + 1) f fd ps sp :=
  ⟨hlen, fun A outer s H args us vs Q E room gd en bd rv want => run_code F hc S hlen room en bd rv want fun hr => hb A outer s H vs Q E hr gd want⟩
end
/-! ### the call of what was handed over -/
def tAct (W : WX) (n : Nat) (f c' : Addr) (q : Str) (tl : XK → Hp → VK → Prop) : TE := fun σ H Q => ∃ Ech : XK, (∀ cls d σ' H', Ech cls d H' → σ'.length = n → W cls d σ' H') ∧ σ[0]? = some (some (.ref f)) ∧ H c' = some (CodeO c' q) ∧ tl Ech H Q
/-- what is let out is let out with all slots -/
theorem takes_len {X : Cx} {W : WX} (tk : Takes X W) : Takes X (fun cls d σ H => σ.length = X.N.length → W cls d σ H) := fun u s' x => by
  obtain ⟨a, B, s0, ps0, σ', H', cls, d, e, I, apart, up, above, na, os, ag, w⟩ := x
  exact tk u s' ⟨a, B, s0, ps0, σ', H', cls, d, e, I, apart, up, above, na, os, ag, w I.len⟩
theorem pe_acts {X : Cx} {W : WX} {n : Nat} {f c' : Addr} {q : Str} {tl : XK → Hp → VK → Prop} {e : Expr} (h : ∀ Ech : XK, (∀ cls d σ' H', Ech cls d H' → σ'.length = n → W cls d σ' H') → PE X e (fun σZ HZ Q => σZ[0]? = some (some (.ref f)) ∧ HZ c' = some (CodeO c' q) ∧ tl Ech HZ Q)) : PE X e (tAct W n f c' q tl) :=
  ⟨fun pins s σ H Q I z => by
    obtain ⟨Ech, hW, z⟩ := z
    exact (h Ech hW).run pins s σ H Q I z⟩
theorem getSet {σ : L2.St} {n i : Nat} {x : Option V} (h : σ.length = n) (hi : i < n) : (σ.set i x)[i]? = some x := by
  rw [List.getElem?_set_self (by omega)]
/-- x(lambda: body), x told by its text -/
theorem pe_lamF {X : Cx} {T : List (Addr × Str)} {TT : (XK → Hp → VK → Prop) → Hp → VK → Prop} {x a : Str} {st : Stmt} {g c P : Addr} {fd : FuncData} {k : Nat} {Ng : List Str} {params : Arguments} {body : Expr} {scope : Scope} {t : XK → TE} {p lpos pos : Pos}
    (F : Fun X.K x x st g fd) (hb : Binds X.K fd [a] []) (hg : Gl X x) (hm : X.mg x = some (.ref g)) (Sg : FnScope Ng [a] (defScope st)) (hNg : Ng[0]? = some a) (hva : Vis (defScope st) a) (hG : ∀ cdv, GivesTo X Ng x (defScope st) g cdv (defBody st) a (X.env.qual ++ "<lambda>") TT)
    (TB : TabB X.base X.mg c P) (hcode : X.env.code = .ref c) (hmT : (P, X.env.qual ++ "<lambda>") ∈ T) (hu : ∀ p ∈ T, p.1 = P → p.2 = X.env.qual ++ "<lambda>") (hr : Room (k + 2) X.A) (L : LamS X.env.scope scope) (hdef : defaultsOf params X.env = ([], []))
    (hbind : ∀ (q : Str) (cl : List (Str × Addr)) (pm cv ctv : Value), bindArgs (PySem.W.kla_fn "<lambda>" q params body scope cl pm cv ctv) ⟨[], []⟩ = pure [])
    (hbody : ∀ (A : Around) (outer : List Env) (s : Shared) (H : Hp) (E : XK) (f c' : Addr), Room k (A.deeper (lamEnv X scope s.heap.objs.size f c')) → PE (lamCx X A outer s H E scope f c') body (t E))
    (hdb : (x == ("__debug__" : Str)) = false := by decide) (hd : (a == ("__debug__" : Str)) = false := by decide) (hcd : (a == ("__classdict__" : Str)) = false := by decide) :
    PE X (.Call (.Name x p) [.Lambda params body scope lpos] [] pos) (tLam T TT t) := by
  obtain ⟨oc, od, kV, doc, pm, an, cdv, ct, osl, rfl, lk, hco⟩ := F.ex
  exact pe_lamcall hg hm F.kp lk hco hb Sg hNg hva (hG cdv) TB hcode hmT hu hr L hdef hbind hbody hdb hd hcd
/-! ### what stays where tables grow -/
mutual
theorem dp_map {K : PySem.W.Frag} {H H' : Hp} (sl : ∀ a xs, SqL K H a xs → SqL K H' a xs) (st : ∀ a xs, SqT K H a xs → SqT K H' a xs) : ∀ {d : PyData} {v : V}, Dp K H v d → Dp K H' v d
  | .list ds, _, .lst hs ha => .lst (sl _ _ hs) (dpAll_map sl st ha)
  | .tuple ds, _, .tup hs ha => .tup (st _ _ hs) (dpAll_map sl st ha)
  | .none, _, .non => .non
  | .bool _, _, .bl _ => .bl _
  | .int _, _, .int _ => .int _
  | .str _, _, .str _ => .str _
theorem dpAll_map {K : PySem.W.Frag} {H H' : Hp} (sl : ∀ a xs, SqL K H a xs → SqL K H' a xs) (st : ∀ a xs, SqT K H a xs → SqT K H' a xs) : ∀ {ds : List PyData} {vs : List V}, DpAll K H vs ds → DpAll K H' vs ds
  | [], _, .nil => .nil
  | _ :: _, _, .cons h1 h2 => .cons (dp_map sl st h1) (dpAll_map sl st h2)
end
section
variable {K : PySem.W.Frag} {H H' H'' : Hp} {p a : Addr} {xs : List V} {T : List (Addr × Str)} {v : V} {d : PyData}
theorem extN_L (s : ExtN H H') (h : SqL K H a xs) : SqL K H' a xs := by
  rcases h with (h | ⟨o, h⟩) | h
  · exact .inl (.inl (s _ _ h fun q z => by cases z))
  · exact .inl (.inr ⟨o, s _ _ h fun q z => by cases z⟩)
  · exact .inr h
theorem extN_T (s : ExtN H H') (h : SqT K H a xs) : SqT K H' a xs := by
  rcases h with (h | ⟨o, h⟩) | h
  · exact .inl (.inl (s _ _ h fun q z => by cases z))
  · exact .inl (.inr ⟨o, s _ _ h fun q z => by cases z⟩)
  · exact .inr h
theorem dp_ext (s : ExtN H H') (h : Dp K H v d) : Dp K H' v d := dp_map (fun _ _ => extN_L s) (fun _ _ => extN_T s) h
theorem extN_same (s : Same H H') : ExtN H H' := ExtN.of fun b o h => s b o h
theorem extN_lst {l : List V} (s : ExtN H H') (h : H a = some (.lst l)) : H' a = some (.lst l) := s _ _ h fun q z => by cases z
theorem tabs_same (t : Tabs T H) (s : Same H H') : Tabs T H' := t.ext fun b o h => s b o h
theorem tabs_sx {l : List V} (t : Tabs T H) (s : Sx p H H') (hp : H p = some (.lst l)) : Tabs T H' := fun q hq => by
  obtain ⟨ps, h1, h2, h3⟩ := t q hq
  refine ⟨ps, s _ _ (fun z => by rw [z, hp] at h1; cases h1) h1, h2, fun pos cv hc => ?_⟩
  obtain ⟨c, e1, e2⟩ := h3 pos cv hc
  exact ⟨c, e1, s _ _ (fun z => by rw [z, hp] at e2; unfold CodeO at e2; cases e2) e2⟩
/-- all but p and the tables stays -/
def SxN (p : Addr) (H H' : Hp) : Prop := ∀ b o, b ≠ p → H b = some o → (∀ ps, o ≠ .tbl ps) → H' b = some o
theorem SxN.trans (s : SxN p H H') (t : SxN p H' H'') : SxN p H H'' := fun b o n h z => t b o n (s b o n h z) z
theorem SxN.of (s : Sx p H H') : SxN p H H' := fun b o n h _ => s b o n h
theorem SxN.ext (s : ExtN H H') : SxN p H H' := fun b o _ h z => s b o h z
theorem SxN.sqT {l : List V} (s : SxN p H H') (hp : H p = some (.lst l)) (h : SqT K H a xs) : SqT K H' a xs := by
  rcases h with (h | ⟨o, h⟩) | h
  · exact .inl (.inl (s _ _ (fun z => by rw [z, hp] at h; cases h) h fun q z => by cases z))
  · exact .inl (.inr ⟨o, s _ _ (fun z => by rw [z, hp] at h; cases h) h fun q z => by cases z⟩)
  · exact .inr h
theorem SxN.dp {l : List V} (s : SxN p H H') (hp : H p = some (.lst l)) (n : noL d = true) (h : Dp K H v d) : Dp K H' v d := dp_keep (fun _ _ z => s.sqT hp z) n h
/-- all but the tables stays, p was not there -/
theorem ExtN.sx_free {H1 H2 : Hp} (s : ExtN H H1) (h : H p = none) (t : SxN p H1 H2) : ExtN H H2 := fun b o e z => t b o (fun y => by rw [y, h] at e; cases e) (s b o e z) z
end
/-! ### the law's end -/
/-- a heap that tells of the script and of empty tables alone -/
theorem script_tables {P : Program} {w : World} {K : PySem.W.Frag} {h : Heap} {a : Addr} {vs : List Value} {ns : List Int} {ts : List Addr} (kin : K.In h) (ha : h.get? a = some { cls := .type "list", data := .seq vs.toArray }) (hi : IntsAre vs ns) (hl : ns.length ≤ sizeLine)
    (ht : ∀ b ∈ ts, h.get? b = some { cls := .none, data := .fields #[] }) (nt : ∀ b ∈ ts, K.lookup b = none) :
    ∃ H : Hp, (∀ b ∈ ts, H b = some (.tbl #[])) ∧ (∀ b, H b = none ∨ b ∈ ts ∨ ∃ o xs, H b = some (.frz o (.lst xs))) ∧ SqL K H a (ns.map V.int) ∧ HOk P w H h ∧ (∀ b, H b ≠ none → b = a ∨ b ∈ ts) ∧ (∀ b o, K.lookup b = some o → H b = none) := by
  have rv := vals_ints hi
  have len := hi.length
  have na : a ∉ ts := fun z => by
    have y := ht a z
    rw [ha] at y
    have y' : Data.seq vs.toArray _ = Data.fields #[] := congrArg Obj.data (Option.some.inj y)
    cases y'
  cases hk : K.lookup a with
  | some o =>
    have eo := kin a o hk
    rw [ha] at eo
    cases eo
    refine ⟨fun b => if b ∈ ts then some (.tbl #[]) else none, fun b hb => if_pos hb, fun b => ?_, .inr ⟨_, vs.toArray, _, hk, rfl, rfl, rfl, by rw [List.size_toArray, len]; exact hl, by simpa using rv⟩, fun b u z => ?_, fun b z => ?_, fun b o ho => ?_⟩
    · by_cases y : b ∈ ts
      · exact .inr (.inl y)
      · exact .inl (if_neg y)
    · dsimp only at z
      by_cases y : b ∈ ts
      · rw [if_pos y] at z
        cases z
        exact ht b y
      · rw [if_neg y] at z
        cases z
    · by_cases y : b ∈ ts
      · exact .inr y
      · exact absurd (if_neg y) z
    · refine if_neg fun y => ?_
      rw [nt b y] at ho
      cases ho
  | none =>
    let H : Hp := fun b => if b = a then some (.frz { cls := .type "list", data := .seq vs.toArray } (.lst (ns.map V.int))) else if b ∈ ts then some (.tbl #[]) else none
    have at_a : H a = some (.frz { cls := .type "list", data := .seq vs.toArray } (.lst (ns.map V.int))) := if_pos rfl
    have at_t : ∀ b, b ∈ ts → H b = some (.tbl #[]) := fun b hb => by
      have n : b ≠ a := fun z => na (z ▸ hb)
      show (if b = a then _ else _) = _
      rw [if_neg n, if_pos hb]
    have off : ∀ b, b ≠ a → b ∉ ts → H b = none := fun b n y => by
      show (if b = a then _ else _) = _
      rw [if_neg n, if_neg y]
    refine ⟨H, at_t, fun b => ?_, .inl (.inr ⟨_, at_a⟩), fun b u z => ?_, fun b z => ?_, fun b o ho => ?_⟩
    · by_cases n : b = a
      · exact .inr (.inr ⟨_, _, n ▸ at_a⟩)
      · by_cases y : b ∈ ts
        · exact .inr (.inl y)
        · exact .inl (off b n y)
    · by_cases n : b = a
      · subst n
        rw [at_a] at z
        cases z
        exact ⟨ha, by rw [List.length_map]; exact hl, vs, _, rv, ha⟩
      · by_cases y : b ∈ ts
        · rw [at_t b y] at z
          cases z
          exact ht b y
        · rw [off b n y] at z
          cases z
    · by_cases n : b = a
      · exact .inl n
      · by_cases y : b ∈ ts
        · exact .inr y
        · exact absurd (off b n y) z
    · refine off b (fun n => ?_) fun y => ?_
      · rw [n, hk] at ho
        cases ho
      · rw [nt b y] at ho
        cases ho
theorem law_endT {l : PySem.W.OpenLaw} {n k : Nat} {q : Program} {loose : List Str} {XP : (Str → Option Value) → Heap → Prop} {YP : World → Heap → Prop} {d : DefRec} {K : Params → PySem.W.Frag} {sp : PySem.W.Frag → List (Addr × Addr) → Sp} {x : Str} {nms : List Str}
    (hn : l.most = some n) (hn2 : n ≤ sizeLine) (hdf : d.params.defaults = []) (hr : Room k callerA) (hrec : ∀ y ∈ nms, ((recsOf q).find? fun e => e.name == y).isSome = true)
    (hY : ∀ (w : World) (h : Heap), YP w h → (K w.params).In h)
    (F : ∀ (w : World) (mg : Str → Option Value) (fa : Addr) (h : Heap), (K w.params).In h → h.Ns mainGlobals mg → mg d.name = some (.ref fa) →
      ∃ (cs : List (Addr × Addr)) (fd : FuncData), (∀ p ∈ cs, ∃ y ∈ nms, PySem.W.tabIn (K w.params) y = some p) ∧ (∀ p ∈ cs, (K w.params).lookup p.2 = none) ∧ (∀ (s : Shared) (u : Value), BindsTo s fd ⟨[u], []⟩ [(x, u)]) ∧
        (∀ base : Heap, (K w.params).In base → base.Ns mainGlobals mg → (∀ p ∈ cs, TabB base mg p.1 p.2) → FnG l.prog w (K w.params) mg base CX0 k fa fd [x] (sp (K w.params) cs)))
    (hsp : ∀ (K : PySem.W.Frag) (cs : List (Addr × Addr)) (H : Hp) (a : Addr) (ns : List Int), ns.length ≤ n → (∀ p ∈ cs, H p.2 = some (.tbl #[])) → SqL K H a (ns.map V.int) → sp K cs [.ref a] H (fun v _ => v = .bl true) fun _ _ _ => False) :
    PySem.W.WalkO q loose XP YP l.row.toRowW d [] (fun f vs => PySem.call f vs) := by
  refine Att.attach_call hn hdf fun w s₀ s₁ mg mb fa o pm cd doc a vs ns G Y ho hd hcd hmg hobj hints hlen hgens => ?_
  have kin := hY w _ Y
  obtain ⟨cs, fd, hcs, nK, bd, FF⟩ := F w mg fa _ kin G.T.g hmg
  have heads : ∀ p ∈ cs, PySem.W.CodeHd s₁.heap p.1 p.2 ∧ s₁.heap.get? p.2 = some { cls := .none, data := .fields #[] } := fun p hp => by
    obtain ⟨y, hy, e⟩ := hcs p hp
    obtain ⟨r, er⟩ := Option.isSome_iff_exists.mp (hrec y hy)
    exact PySem.W.tab_of (c := p.1) (P := p.2) G.T kin er e
  have tabs : ∀ b ∈ cs.map (·.2), s₁.heap.get? b = some { cls := .none, data := .fields #[] } := fun b hb => by
    obtain ⟨p, hp, e⟩ := List.mem_map.mp hb
    rw [← e]
    exact (heads p hp).2
  have inT : ∀ p ∈ cs, p.2 ∈ cs.map (·.2) := fun p hp => List.mem_map_of_mem hp
  obtain ⟨H, hT, hO, hS, hok, only, notK⟩ := script_tables (P := l.prog) (w := w) (ts := cs.map (·.2)) kin hobj hints (Nat.le_trans hlen hn2) tabs (fun b hb => by
    obtain ⟨p, hp, e⟩ := List.mem_map.mp hb
    rw [← e]
    exact nK p hp)
  -- what is neither a list nor an empty table is not told of
  have clear : ∀ {b : Addr} {ob : Obj}, s₁.heap.get? b = some ob → (∀ xs m, ob.data ≠ .seq xs m) → ob.data ≠ .fields #[] → H b = none := fun {b ob} e n1 n2 => by
    cases c : H b with
    | none => rfl
    | some u =>
      rcases only b (by rw [c]; exact fun z => nomatch z) with y | y
      · rw [y, hobj] at e
        exact absurd (congrArg Obj.data (Option.some.inj e)).symm (n1 _ _)
      · rw [tabs b y] at e
        exact absurd (congrArg Obj.data (Option.some.inj e)).symm n2
  have free : ∀ {b : Addr} {ob : Obj} {es : Array DictEntry} {ep : Nat}, s₁.heap.get? b = some ob → ob.data = .dict es ep → H b = none := fun {b ob es ep} h1 h2 =>
    clear h1 (fun xs m z => by rw [h2] at z; cases z) (fun z => by rw [h2] at z; cases z)
  have ns' : ∀ {b : Addr} {m : Str → Option Value}, s₁.heap.Ns b m → (hidT s₁.heap H).Ns b m := by
    rintro b m ⟨ob, es, ep, h1, h2, h3⟩
    exact ⟨ob, es, ep, hidT_get h1 (free h1 h2), h2, h3⟩
  have kinB : (K w.params).In (hidT s₁.heap H) := fun b ob e => hidT_get (kin b ob e) (notK b ob e)
  have lim : (hidT s₁.heap H).NoLimit := by
    obtain ⟨mc, h1, h2⟩ := G.T.nolimit
    exact ⟨mc, ns' h1, h2⟩
  have notGlobals : ∀ p ∈ cs, mainGlobals ≠ p.2 := fun p hp z => by
    obtain ⟨og, es, ep, e, hd', _⟩ := G.T.g
    have y := (heads p hp).2
    rw [← z, e] at y
    cases y
    cases hd'
  have TB : ∀ p ∈ cs, TabB (hidT s₁.heap H) mg p.1 p.2 := fun p hp => by
    obtain ⟨h1, h2⟩ := heads p hp
    refine ⟨?_, ?_, notGlobals p hp⟩
    · obtain ⟨oc, us, r1, r2, r3, r4, r5, r6, r7, e1, e2, e3, e4, rest⟩ := h1
      refine ⟨oc, us, r1, r2, r3, r4, r5, r6, r7, hidT_get e1 (clear e1 (fun xs m z => ?_) fun z => ?_), e2, e3, e4, rest⟩
      · rw [e3] at z
        cases z
      · rw [e3] at z
        cases z
        simp at e4
    · obtain ⟨bm, ob, b1, b2, b3, b4, b5, b6⟩ := G.T.bmain
      have z1 : bm ≠ mainGlobals := fun z => by
        obtain ⟨og, es, ep, e, hd', _⟩ := G.T.g
        rw [z, e] at b3
        cases b3
        rw [hd'] at b6
        cases b6
      have z2 : bm ≠ p.2 := fun z => by
        rw [z, h2] at b3
        cases b3
        cases b6
      exact ⟨bm, ob, b1, b2, z1, z2, hidT_get b3 (clear b3 (fun xs m z => by rw [b6] at z; cases z) fun z => by rw [b6] at z; cases z), b4, b5, b6⟩
  have en : Env0 l.prog w (K w.params) mg (hidT s₁.heap H) callerA [] s₁ H :=
    ⟨rfl, ⟨kinB, ns' G.T.g, ⟨mb, ns' G.T.b, G.T.builtins⟩, lim⟩, fun b ob e => of_hidT e, Nat.le_of_eq (hidT_size _ _), trivial, (fun b z => nomatch z), hok, .of_eq hgens⟩
  refine codeAny_mono ((FF _ kinB (ns' G.T.g) TB).run callerA [] s₁ H ⟨[.ref a], []⟩ [.ref a] [.ref a] _ _ hr rfl en (bd s₁ (.ref a)) (.cons rfl .nil) (hsp _ cs H a ns hlen (fun p hp => hT _ (inT p hp)) hS)) fun r s' z => ?_
  cases r with
  | error e => exact False.elim z
  | ok fl =>
    cases fl with
    | next => exact False.elim z
    | brk => exact False.elim z
    | cont => exact False.elim z
    | ret u =>
      obtain ⟨v, H', os, bare, un, hok', rr, e⟩ := z
      have e' : v = .bl true := e
      subst e'
      obtain rfl : u = Value.bool true := rr
      have stay : ∀ b ob, b ∉ cs.map (·.2) → s₁.heap.get? b = some ob → s'.heap.get? b = some ob := fun b ob nb hb => by
        cases c : H b with
        | none => exact un.keep b ob hb c (fun z => nomatch z) (fun z => nomatch z)
        | some u =>
          rcases hO b with z | z | ⟨ox, xs, z⟩
          · rw [c] at z
            cases z
          · exact absurd z nb
          · obtain ⟨e1, _⟩ := hok b _ z
            obtain ⟨e2, _⟩ := hok' b _ (un.frzs b ox _ z)
            rw [hb] at e1
            cases e1
            exact e2
      have grew : ∀ p ∈ cs, ∃ more : Array Value, s'.heap.get? p.2 = some { cls := .none, data := .fields more } := fun p hp => by
        obtain ⟨more, y⟩ := un.tbls p.2 #[] (hT _ (inT p hp))
        exact ⟨_, hok' p.2 _ y⟩
      refine ⟨rfl, ⟨fun b ob hb => ?_, fun b ob hb => ?_⟩, os, bare⟩
      · by_cases y : b ∈ cs.map (·.2)
        · obtain ⟨p, hp, rfl⟩ := List.mem_map.mp y
          obtain ⟨more, hm⟩ := grew p hp
          obtain ⟨h1, h2⟩ := heads p hp
          rw [h2] at hb
          cases hb
          exact .inr (.inl ⟨(h1.tab h2).isCodeTable, rfl, #[], more, rfl, by rw [hm, Array.empty_append]⟩)
        · exact .inl (stay b ob y hb)
      · by_cases y : b ∈ cs.map (·.2)
        · obtain ⟨p, hp, rfl⟩ := List.mem_map.mp y
          obtain ⟨more, hm⟩ := grew p hp
          exact ⟨_, hm⟩
        · exact ⟨ob, stay b ob y hb⟩
end Rp
namespace Lw
open PySem L2 Rp
local macro_rules | `(tactic| walk_at "rd") => `(tactic| repeat (first | refine ⟨_, rfl, ?_⟩ | refine ⟨_, _, rfl, rfl, ?_⟩))
def lamNames : List Str := ["_law_bounds_right", "law"]
def top (i : Nat) : Stmt := PySem.Challenge.pw_roomprofile_k21_least_of_two_valleys.main.body.getD i (.Pass ⟨0, 0, 0, 0⟩)
abbrev s_is_integer : Stmt := top 6
abbrev N_is_integer : List Str := ["value"]
theorem sc_is_integer : FnScope N_is_integer ["value"] (defScope s_is_integer) := ⟨rfl, rfl, rfl, by decide +kernel, rfl, by decide +kernel, by decide +kernel⟩
abbrev s_is_valleys : Stmt := top 9
abbrev N_is_valleys : List Str := ["value", "pair", "left", "right"]
theorem sc_is_valleys : FnScope N_is_valleys ["value"] (defScope s_is_valleys) := ⟨rfl, rfl, rfl, by decide +kernel, rfl, by decide +kernel, by decide +kernel⟩
abbrev s_least_of_two : Stmt := top 10
abbrev N_least_of_two : List Str := ["first", "second"]
theorem sc_least_of_two : FnScope N_least_of_two ["first", "second"] (defScope s_least_of_two) := ⟨rfl, rfl, rfl, by decide +kernel, rfl, by decide +kernel, by decide +kernel⟩
abbrev s_least_usages : Stmt := top 11
abbrev N_least_usages : List Str := ["pairs", "rows", "capacity", "low"]
theorem sc_least_usages : FnScope N_least_usages ["pairs"] (defScope s_least_usages) := ⟨rfl, rfl, rfl, by decide +kernel, rfl, by decide +kernel, by decide +kernel⟩
abbrev s_checked_length : Stmt := top 12
abbrev N_checked_length : List Str := ["pairs"]
theorem sc_checked_length : FnScope N_checked_length ["pairs"] (defScope s_checked_length) := ⟨rfl, rfl, rfl, by decide +kernel, rfl, by decide +kernel, by decide +kernel⟩
abbrev s__is_pair : Stmt := top 13
abbrev N__is_pair : List Str := ["value"]
theorem sc__is_pair : FnScope N__is_pair ["value"] (defScope s__is_pair) := ⟨rfl, rfl, rfl, by decide +kernel, rfl, by decide +kernel, by decide +kernel⟩
abbrev s__check_valleys : Stmt := top 14
abbrev N__check_valleys : List Str := ["value"]
theorem sc__check_valleys : FnScope N__check_valleys ["value"] (defScope s__check_valleys) := ⟨rfl, rfl, rfl, by decide +kernel, rfl, by decide +kernel, by decide +kernel⟩
abbrev s__law_source : Stmt := top 16
abbrev N__law_source : List Str := ["_law_script", "_law_at", "_law_cell", "_law_size", "_law_mixed"]
theorem sc__law_source : FnScope N__law_source ["_law_script", "_law_at"] (defScope s__law_source) := ⟨rfl, rfl, rfl, by decide +kernel, rfl, by decide +kernel, by decide +kernel⟩
abbrev s__law_draw : Stmt := top 17
abbrev N__law_draw : List Str := ["_law_source_here", "_law_many", "_law_found", "_law_one", "_law_two"]
theorem sc__law_draw : FnScope N__law_draw ["_law_source_here", "_law_many"] (defScope s__law_draw) := ⟨rfl, rfl, rfl, by decide +kernel, rfl, by decide +kernel, by decide +kernel⟩
abbrev s__law_value_at : Stmt := top 18
abbrev N__law_value_at : List Str := ["_law_valleys", "_law_bound", "_law_found", "_law_first", "_law_held"]
theorem sc__law_value_at : FnScope N__law_value_at ["_law_valleys", "_law_bound"] (defScope s__law_value_at) := ⟨rfl, rfl, rfl, by decide +kernel, rfl, by decide +kernel, by decide +kernel⟩
abbrev s__law_gaps : Stmt := top 19
abbrev N__law_gaps : List Str := ["_law_source_here", "_law_total", "_law_found", "_law_turn"]
theorem sc__law_gaps : FnScope N__law_gaps ["_law_source_here", "_law_total"] (defScope s__law_gaps) := ⟨rfl, rfl, rfl, by decide +kernel, rfl, by decide +kernel, by decide +kernel⟩
abbrev s__law_random_valleys : Stmt := top 20
abbrev N__law_random_valleys : List Str := ["_law_source_here", "_law_most", "_law_total", "_law_capacities", "_law_depths", "_law_first", "_law_high", "_law_bound", "_law_depth"]
theorem sc__law_random_valleys : FnScope N__law_random_valleys ["_law_source_here", "_law_most"] (defScope s__law_random_valleys) := ⟨rfl, rfl, rfl, by decide +kernel, rfl, by decide +kernel, by decide +kernel⟩
abbrev s__law_random_start : Stmt := top 21
abbrev N__law_random_start : List Str := ["_law_source_here", "_law_most", "_law_total", "_law_capacities", "_law_depths", "_law_first", "_law_bound", "_law_depth"]
theorem sc__law_random_start : FnScope N__law_random_start ["_law_source_here", "_law_most"] (defScope s__law_random_start) := ⟨rfl, rfl, rfl, by decide +kernel, rfl, by decide +kernel, by decide +kernel⟩
abbrev s__law_valley_outcome : Stmt := top 22
abbrev N__law_valley_outcome : List Str := ["_law_call", "e"]
theorem sc__law_valley_outcome : FnScope N__law_valley_outcome ["_law_call"] (defScope s__law_valley_outcome) := ⟨rfl, rfl, rfl, by decide +kernel, rfl, by decide +kernel, by decide +kernel⟩
abbrev s__law_least_at : Stmt := top 23
abbrev N__law_least_at : List Str := ["_law_first", "_law_second", "_law_bound", "_law_some", "_law_held"]
theorem sc__law_least_at : FnScope N__law_least_at ["_law_first", "_law_second", "_law_bound"] (defScope s__law_least_at) := ⟨rfl, rfl, rfl, by decide +kernel, rfl, by decide +kernel, by decide +kernel⟩
abbrev s__law_least_right : Stmt := top 24
abbrev N__law_least_right : List Str := ["_law_first", "_law_second", "_law_found", "_law_capacities", "_law_expected", "_law_bound", "_law_held", "_law_pair"]
theorem sc__law_least_right : FnScope N__law_least_right ["_law_first", "_law_second"] (defScope s__law_least_right) := ⟨rfl, rfl, rfl, by decide +kernel, rfl, by decide +kernel, by decide +kernel⟩
abbrev s__law_bounds_right : Stmt := top 25
abbrev N__law_bounds_right : List Str := ["_law_source_here", "_law_many", "_law_first", "_law_second", "_law_third", "_law_longer", "_law_number"]
theorem sc__law_bounds_right : FnScope N__law_bounds_right ["_law_source_here"] (defScope s__law_bounds_right) := ⟨rfl, rfl, rfl, by decide +kernel, rfl, by decide +kernel, by decide +kernel⟩
abbrev s_InvalidNumber_init : Stmt := inClass (top 3) 0
abbrev N_InvalidNumber_init : List Str := ["self", "value"]
theorem sc_InvalidNumber_init : FnScope N_InvalidNumber_init ["self", "value"] (defScope s_InvalidNumber_init) := ⟨rfl, rfl, rfl, by decide +kernel, rfl, by decide +kernel, by decide +kernel⟩
abbrev s_TooMany_init : Stmt := inClass (top 4) 0
abbrev N_TooMany_init : List Str := ["self", "limit"]
theorem sc_TooMany_init : FnScope N_TooMany_init ["self", "limit"] (defScope s_TooMany_init) := ⟨rfl, rfl, rfl, by decide +kernel, rfl, by decide +kernel, by decide +kernel⟩
abbrev s_law : Stmt := top 26
abbrev N_law : List Str := ["_law_script", "_law_at", "_law_source_here", "_law_first", "_law_second", "_law_third", "_law_pairs", "_law_odd", "_law_outcomes", "_law_bound", "_law_held", "_law_one", "_law_other"]
theorem sc_law : FnScope N_law ["_law_script"] (defScope s_law) := ⟨rfl, rfl, rfl, by decide +kernel, rfl, by decide +kernel, by decide +kernel⟩
structure Txt (K : PySem.W.Frag) (mg : Str → Option Value) where
  f_is_integer : Addr
  d_is_integer : FuncData
  F_is_integer : Fun K "is_integer" "is_integer" s_is_integer f_is_integer d_is_integer
  b_is_integer : Binds K d_is_integer ["value"] []
  m_is_integer : mg "is_integer" = some (.ref f_is_integer)
  f_is_valleys : Addr
  d_is_valleys : FuncData
  F_is_valleys : Fun K "is_valleys" "is_valleys" s_is_valleys f_is_valleys d_is_valleys
  b_is_valleys : Binds K d_is_valleys ["value"] []
  m_is_valleys : mg "is_valleys" = some (.ref f_is_valleys)
  f_least_of_two : Addr
  d_least_of_two : FuncData
  F_least_of_two : Fun K "least_of_two" "least_of_two" s_least_of_two f_least_of_two d_least_of_two
  b_least_of_two : Binds K d_least_of_two ["first", "second"] []
  m_least_of_two : mg "least_of_two" = some (.ref f_least_of_two)
  f_least_usages : Addr
  d_least_usages : FuncData
  F_least_usages : Fun K "least_usages" "least_usages" s_least_usages f_least_usages d_least_usages
  b_least_usages : Binds K d_least_usages ["pairs"] []
  m_least_usages : mg "least_usages" = some (.ref f_least_usages)
  f_checked_length : Addr
  d_checked_length : FuncData
  F_checked_length : Fun K "checked_length" "checked_length" s_checked_length f_checked_length d_checked_length
  b_checked_length : Binds K d_checked_length ["pairs"] []
  m_checked_length : mg "checked_length" = some (.ref f_checked_length)
  f__is_pair : Addr
  d__is_pair : FuncData
  F__is_pair : Fun K "_is_pair" "_is_pair" s__is_pair f__is_pair d__is_pair
  b__is_pair : Binds K d__is_pair ["value"] []
  m__is_pair : mg "_is_pair" = some (.ref f__is_pair)
  f__check_valleys : Addr
  d__check_valleys : FuncData
  F__check_valleys : Fun K "_check_valleys" "_check_valleys" s__check_valleys f__check_valleys d__check_valleys
  b__check_valleys : Binds K d__check_valleys ["value"] []
  m__check_valleys : mg "_check_valleys" = some (.ref f__check_valleys)
  f__law_source : Addr
  d__law_source : FuncData
  F__law_source : Fun K "_law_source" "_law_source" s__law_source f__law_source d__law_source
  b__law_source : Binds K d__law_source ["_law_script", "_law_at"] []
  m__law_source : mg "_law_source" = some (.ref f__law_source)
  f__law_draw : Addr
  d__law_draw : FuncData
  F__law_draw : Fun K "_law_draw" "_law_draw" s__law_draw f__law_draw d__law_draw
  b__law_draw : Binds K d__law_draw ["_law_source_here", "_law_many"] []
  m__law_draw : mg "_law_draw" = some (.ref f__law_draw)
  f__law_value_at : Addr
  d__law_value_at : FuncData
  F__law_value_at : Fun K "_law_value_at" "_law_value_at" s__law_value_at f__law_value_at d__law_value_at
  b__law_value_at : Binds K d__law_value_at ["_law_valleys", "_law_bound"] []
  m__law_value_at : mg "_law_value_at" = some (.ref f__law_value_at)
  f__law_gaps : Addr
  d__law_gaps : FuncData
  F__law_gaps : Fun K "_law_gaps" "_law_gaps" s__law_gaps f__law_gaps d__law_gaps
  b__law_gaps : Binds K d__law_gaps ["_law_source_here", "_law_total"] []
  m__law_gaps : mg "_law_gaps" = some (.ref f__law_gaps)
  f__law_random_valleys : Addr
  d__law_random_valleys : FuncData
  F__law_random_valleys : Fun K "_law_random_valleys" "_law_random_valleys" s__law_random_valleys f__law_random_valleys d__law_random_valleys
  b__law_random_valleys : Binds K d__law_random_valleys ["_law_source_here", "_law_most"] []
  m__law_random_valleys : mg "_law_random_valleys" = some (.ref f__law_random_valleys)
  f__law_random_start : Addr
  d__law_random_start : FuncData
  F__law_random_start : Fun K "_law_random_start" "_law_random_start" s__law_random_start f__law_random_start d__law_random_start
  b__law_random_start : Binds K d__law_random_start ["_law_source_here", "_law_most"] []
  m__law_random_start : mg "_law_random_start" = some (.ref f__law_random_start)
  f__law_valley_outcome : Addr
  d__law_valley_outcome : FuncData
  F__law_valley_outcome : Fun K "_law_valley_outcome" "_law_valley_outcome" s__law_valley_outcome f__law_valley_outcome d__law_valley_outcome
  b__law_valley_outcome : Binds K d__law_valley_outcome ["_law_call"] []
  m__law_valley_outcome : mg "_law_valley_outcome" = some (.ref f__law_valley_outcome)
  f__law_least_at : Addr
  d__law_least_at : FuncData
  F__law_least_at : Fun K "_law_least_at" "_law_least_at" s__law_least_at f__law_least_at d__law_least_at
  b__law_least_at : Binds K d__law_least_at ["_law_first", "_law_second", "_law_bound"] []
  m__law_least_at : mg "_law_least_at" = some (.ref f__law_least_at)
  f__law_least_right : Addr
  d__law_least_right : FuncData
  F__law_least_right : Fun K "_law_least_right" "_law_least_right" s__law_least_right f__law_least_right d__law_least_right
  b__law_least_right : Binds K d__law_least_right ["_law_first", "_law_second"] []
  m__law_least_right : mg "_law_least_right" = some (.ref f__law_least_right)
  f__law_bounds_right : Addr
  d__law_bounds_right : FuncData
  F__law_bounds_right : Fun K "_law_bounds_right" "_law_bounds_right" s__law_bounds_right f__law_bounds_right d__law_bounds_right
  b__law_bounds_right : Binds K d__law_bounds_right ["_law_source_here"] []
  m__law_bounds_right : mg "_law_bounds_right" = some (.ref f__law_bounds_right)
  cc__law_bounds_right : Addr
  ct__law_bounds_right : Addr
  hc__law_bounds_right : Rp.CodeIs K f__law_bounds_right cc__law_bounds_right
  cc_law : Addr
  ct_law : Addr
  ne__law_bounds_right_law : ct__law_bounds_right ≠ ct_law
  t_MAX_VALLEYS : Tok
  g_MAX_VALLEYS : mg "MAX_VALLEYS" = some (.int 400 t_MAX_VALLEYS)
  c_InvalidValleys : Addr
  g_InvalidValleys : mg "InvalidValleys" = some (.ref c_InvalidValleys)
  x_InvalidValleys : PySem.W.excIn K c_InvalidValleys [.type "ValueError", .type "Exception", .type "BaseException", .type "object"] "ValueError.__new__" = true
  k_InvalidValleys : PySem.W.keepIn K (.ref c_InvalidValleys) = true
  bb_InvalidValleys : PySem.W.subIn K (.ref c_InvalidValleys) (.type "BaseException") = some true
  tt_InvalidValleys : PySem.W.typeIn K (.ref c_InvalidValleys) = some (.type "type")
  c_InvalidNumber : Addr
  g_InvalidNumber : mg "InvalidNumber" = some (.ref c_InvalidNumber)
  f_InvalidNumber_init : Addr
  d_InvalidNumber_init : FuncData
  F_InvalidNumber_init : Fun K "__init__" "InvalidNumber.__init__" s_InvalidNumber_init f_InvalidNumber_init d_InvalidNumber_init
  b_InvalidNumber_init : Binds K d_InvalidNumber_init ["self", "value"] []
  ox_InvalidNumber : OexB K c_InvalidNumber
  iC_InvalidNumber : PySem.W.findIn K (.ref c_InvalidNumber) "__init__" = some (some (.ref f_InvalidNumber_init))
  tI_InvalidNumber : PySem.W.typeIn K (.ref f_InvalidNumber_init) = some (.type "function")
  no_InvalidNumber : PySem.W.findIn K (.ref c_InvalidNumber) "value" = some none
  xf_InvalidNumber : XfC K c_InvalidNumber
  xc_InvalidNumber : L2.ExcC K c_InvalidNumber
  e_InvalidNumber_InvalidNumber : PySem.W.exmOne K (.ref c_InvalidNumber) (.ref c_InvalidNumber) = some true
  c_TooMany : Addr
  g_TooMany : mg "TooMany" = some (.ref c_TooMany)
  f_TooMany_init : Addr
  d_TooMany_init : FuncData
  F_TooMany_init : Fun K "__init__" "TooMany.__init__" s_TooMany_init f_TooMany_init d_TooMany_init
  b_TooMany_init : Binds K d_TooMany_init ["self", "limit"] []
  ox_TooMany : OexB K c_TooMany
  iC_TooMany : PySem.W.findIn K (.ref c_TooMany) "__init__" = some (some (.ref f_TooMany_init))
  tI_TooMany : PySem.W.typeIn K (.ref f_TooMany_init) = some (.type "function")
  no_TooMany : PySem.W.findIn K (.ref c_TooMany) "limit" = some none
  xf_TooMany : XfC K c_TooMany
  xc_TooMany : L2.ExcC K c_TooMany
  e_TooMany_TooMany : PySem.W.exmOne K (.ref c_TooMany) (.ref c_TooMany) = some true
  e_InvalidValleys_InvalidValleys : PySem.W.exmOne K (.ref c_InvalidValleys) (.ref c_InvalidValleys) = some true
  e_InvalidNumber_InvalidValleys : PySem.W.exmOne K (.ref c_InvalidNumber) (.ref c_InvalidValleys) = some false
  e_TooMany_InvalidValleys : PySem.W.exmOne K (.ref c_TooMany) (.ref c_InvalidValleys) = some false
  e_TooMany_InvalidNumber : PySem.W.exmOne K (.ref c_TooMany) (.ref c_InvalidNumber) = some false
  n_abs : mg "abs" = none
  n_all : mg "all" = none
  n_bool : mg "bool" = none
  n_int : mg "int" = none
  n_isinstance : mg "isinstance" = none
  n_len : mg "len" = none
  n_max : mg "max" = none
  n_min : mg "min" = none
  n_range : mg "range" = none
  n_repr : mg "repr" = none
  n_set : mg "set" = none
  n_sorted : mg "sorted" = none
  n_tuple : mg "tuple" = none
  n_zip : mg "zip" = none
/-! block SizesN (of the later code): is_integer, is_within, steps_of_leaf, sizes_of, _within_count, _sizes and its two helpers, is_job, checked_sizes -/
def spIsInt (K : PySem.W.Frag) : Sp := fun vs H Q _ => ∃ (v : V) (d : PyData), vs = [v] ∧ Dp K H v d ∧ Q (.bl (isInt d && !isBoo d)) H
/-- a pair of ints, or None -/
def RepSz (H : Hp) (r : V) : Option (Int × Int) → Prop
  | none => r = .non
  | some (a, b) => ∃ t, r = .ref t ∧ H t = some (.tup [.int a, .int b])
def spWithin : Sp := fun vs H Q _ => ∃ a b : Int, vs = [.int a, .int b] ∧ ∀ (H' : Hp) (r : V), Same H H' → RepSz H' r (within a b) → Q r H'
def inW : PyData → Int → Int → Bool
  | .int i, a, b => decide (a ≤ i) && decide (i ≤ b)
  | _, _, _ => false
theorem inW_int {i a b : Int} : inW (.int i) a b = (decide (a ≤ i) && decide (i ≤ b)) := rfl
def spWi (K : PySem.W.Frag) : Sp := fun vs H Q _ => ∃ (v : V) (d : PyData) (a b : Int), vs = [v, .int a, .int b] ∧ Dp K H v d ∧ Q (.bl (inW d a b)) H
def spLeaf (K : PySem.W.Frag) : Sp := fun vs H Q _ => ∃ (v : V) (d : PyData), vs = [v] ∧ Dp K H v d ∧ Q (if inW d (-M30) M30 = true then .int 1 else .non) H
def spSz (K : PySem.W.Frag) (L : Addr) (n : Nat) : Sp := fun vs H Q _ => ∃ (v : V) (j : J) (room lv : Int), vs = [v, .ref L, .int room, .int lv] ∧ Dp K H v j.toD ∧ 0 ≤ lv ∧ lv < (n : Int) ∧
  ∀ (H' : Hp) (r : V), Same H H' → RepSz H' r (szJ j room lv) → Q r H'
def spSzs (K : PySem.W.Frag) (L : Addr) (n : Nat) : Sp := fun vs H Q _ => ∃ (v : V) (js : List J) (room lv : Int), vs = [v, .ref L, .int room, .int lv] ∧ Dp K H v (.tuple (J.toDs js)) ∧ 1 ≤ lv ∧ lv ≤ (n : Int) ∧
  ∀ (H' : Hp) (r : V), Same H H' → RepSz H' r (if (js.length : Int) > 400 then none else szJs js 1 0 room lv) → Q r H'
def spSzr (K : PySem.W.Frag) (L : Addr) (n : Nat) : Sp := fun vs H Q _ => ∃ (v : V) (c : Int) (j : J) (room lv : Int), vs = [.int c, v, .ref L, .int room, .int lv] ∧ Dp K H v j.toD ∧ 1 ≤ lv ∧ lv ≤ (n : Int) ∧
  ∀ (H' : Hp) (r : V), Same H H' → RepSz H' r (if ¬ (0 ≤ c ∧ c ≤ M30) then none else match szJ j (room - 1) (lv - 1) with | none => none | some (a, b) => within (a + 1) (b * c)) → Q r H'
section
variable {P : Program} {w : World} {K : PySem.W.Frag} {mg : Str → Option Value} {base : Heap}
theorem ok_isint (T : Txt K mg) : FnOk P w K mg base CX0 1 T.f_is_integer T.d_is_integer ["value"] (spIsInt K) := by
  refine T.F_is_integer.ok sc_is_integer (fun vs H Q E h => ?_) (fun cdv A outer s H vs Q E hr h => ?_)
  · obtain ⟨v, d, rfl, _⟩ := h
    rfl
  obtain ⟨v, d, rfl, hd, q⟩ := h
  refine ⟨_, (pss_one (ps_ret (pe_and (pe_callB (r := rIsD K) call_isD (by rfl) T.n_isinstance (by decide +kernel) (pa_cons (pv 0) (pa_cons (pe_bltn (v := .ty "int") (by rfl) T.n_int (by decide +kernel) rfl) pa_nil))) (pe_one (pe_not (pe_callB (r := rIsD K) call_isD (by rfl) T.n_isinstance (by decide +kernel) (pa_cons (pv 0) (pa_cons (pe_bltn (v := .ty "bool") (by rfl) T.n_bool (by decide +kernel) rfl) pa_nil)))))))), ?_⟩
  refine ⟨_, rfl, v, _, d, _, rfl, hd, kit_int d, _, rfl, ?_⟩
  cases e : isInt d with
  | false =>
    refine iteF ?_
    rw [e] at q
    exact q
  | true =>
    refine iteT ⟨_, rfl, v, _, d, _, rfl, hd, kit_bool d, _, rfl, ?_⟩
    rw [e] at q
    exact q
theorem in_parts (k : Bool) : inV (.str (kwP k)) [.str "seq", .str "par"] = true := by cases k <;> decide +kernel
theorem in_parts_no (k : Bool) : inV (.str (kwR k)) [.str "seq", .str "par"] = false := by cases k <;> decide +kernel
theorem in_rounds (k : Bool) : inV (.str (kwR k)) [.str "repeat", .str "copies"] = true := by cases k <;> decide +kernel
/-- jobs of at most thirteen levels -/
def spIsJob (K : PySem.W.Frag) : Sp := fun vs H Q _ => ∃ (v : V) (j : J), vs = [v] ∧ Dp K H v j.toD ∧ j.deep ≤ 20 ∧ ∀ H', Same H H' → Q (.bl (szJ j 400 13).isSome) H'
def spChecked (K : PySem.W.Frag) : Sp := fun vs H Q _ => ∃ (v : V) (j : J) (a b : Int), vs = [v] ∧ Dp K H v j.toD ∧ j.deep ≤ 20 ∧ szJ j 400 13 = some (a, b) ∧
  ∀ (H' : Hp) (t : Addr), Same H H' → H' t = some (.tup [.int a, .int b]) → Q (.ref t) H'
def spSzOf (K : PySem.W.Frag) (L : Addr) : Sp := fun vs H Q _ => ∃ (v : V) (j : J), vs = [v, .ref L] ∧ Dp K H v j.toD ∧ ∀ (H' : Hp) (r : V), Same H H' → RepSz H' r (szJ j 400 13) → Q r H'
end
/-! block Src: _law_source, _law_draw (the second kind of a drawn source) -/
/-- a source at p: what is left of the cell, the mixed number, how many were drawn (at most n) -/
def Pot (H : Hp) (p : Addr) (n : Nat) : Prop := ∃ a b c : Int, H p = some (.lst [.int a, .int b, .int c]) ∧ (0 ≤ a ∧ a.natAbs < 2 ^ 3000) ∧ (0 ≤ b ∧ b < 72057594037927931) ∧ (0 ≤ c ∧ c ≤ (n : Int))
theorem Pot.lst {H : Hp} {p : Addr} {n : Nat} (h : Pot H p n) : ∃ l, H p = some (.lst l) := by
  obtain ⟨a, b, c, h, _⟩ := h
  exact ⟨_, h⟩
theorem Pot.mono {H : Hp} {p : Addr} {n m : Nat} (h : Pot H p n) (e : n ≤ m) : Pot H p m := by
  obtain ⟨a, b, c, h1, h2, h3, h4⟩ := h
  exact ⟨a, b, c, h1, h2, h3, h4.1, by omega⟩
theorem Pot.same {H H' : Hp} {p : Addr} {n : Nat} (h : Pot H p n) (s : Same H H') : Pot H' p n := by
  obtain ⟨a, b, c, h1, h2⟩ := h
  exact ⟨a, b, c, s _ _ h1, h2⟩
def spSource (K : PySem.W.Frag) : Sp := fun vs H Q _ => ∃ (a : Addr) (ns : List Int) (k : Int), vs = [.ref a, .int k] ∧ SqL K H a (ns.map V.int) ∧ ns.length ≤ 1000 ∧ 0 ≤ k ∧ k ≤ 1000 ∧
  ∀ (H' : Hp) (p : Addr), Same H H' → H p = none → Pot H' p 0 → Q (.ref p) H'
def spTake : Sp := fun vs H Q _ => ∃ (p : Addr) (n : Nat) (m : Int), vs = [.ref p, .int m] ∧ Pot H p n ∧ n ≤ 1099511627776 ∧ 0 < m ∧ m.natAbs < 2 ^ 200 ∧
  ∀ (H' : Hp) (r : Int), Sx p H H' → Pot H' p (n + 1) → 0 ≤ r → r < m → Q (.int r) H'
theorem natAbs_lt {i : Int} {B : Nat} (h0 : 0 ≤ i) (h : i < (B : Int)) : i.natAbs < B := by omega
theorem big12 : ((((10 : Int) ^ (60 : Int).toNat) ^ (12 : Int).toNat)).natAbs < 2 ^ 3000 := by decide +kernel
theorem pos12 : 0 < ((10 : Int) ^ (60 : Int).toNat) ^ (12 : Int).toNat := by decide +kernel
theorem mod_big {z m : Int} {B : Nat} (hm : 0 < m) (hB : m.natAbs < B) : 0 ≤ z % m ∧ (z % m).natAbs < B := by
  have h1 := Int.emod_nonneg z (Int.ne_of_gt hm)
  have h2 := Int.emod_lt_of_pos z hm
  exact ⟨h1, by omega⟩
section
variable {P : Program} {w : World} {K : PySem.W.Frag} {mg : Str → Option Value} {base : Heap}
theorem ok_source (T : Txt K mg) : FnOk P w K mg base CX0 1 T.f__law_source T.d__law_source ["_law_script", "_law_at"] (spSource K) := by
  refine T.F__law_source.ok sc__law_source (fun vs H Q E h => ?_) (fun cdv A outer s H vs Q E hr h => ?_)
  · obtain ⟨a, ns, k, rfl, _⟩ := h
    rfl
  obtain ⟨a, ns, k, rfl, hS, hlen, hk0, hk1, q⟩ := h
  refine ⟨_, (pss_cons (ps_set (i := 2) sc__law_source.nd rfl (Or.inl rfl) (pe_ifExp (pt_cmpR op_lt (pv 1) (pe_callB (r := rLenS K) call_lenS (by rfl) T.n_len (by decide +kernel) (pa_cons (pv 0) pa_nil)) (nomark _)) (pe_ix (r := rIxL K) ix_list (pv 0) (pv 1) (fun _ _ => rfl)) (pe_op op_add (pe_op op_mulW pe_int (pv 1)) pe_int)))
      (pss_cons (ps_set (i := 3) sc__law_source.nd rfl (Or.inl rfl) (pe_op op_mod (pe_callB call_abs (by rfl) T.n_abs (by decide +kernel) (pa_cons (pv 2) pa_nil)) (pe_op op_powW (pe_op op_powW pe_int pe_int) pe_int)))
      (pss_cons (ps_set (i := 4) sc__law_source.nd rfl (Or.inl rfl) (pe_op op_add (pe_op op_add (pe_op op_mulW (pv 3) pe_int) (pe_op op_mulW pe_int (pv 1))) (pe_callTy call_int1 (by rfl) T.n_int (by decide +kernel) (pa_cons (pe_cmpR op_lt (pv 2) pe_int (nomark _)) pa_nil))))
      (pss_one (ps_ret (pe_lst (pa_cons (pe_callB (call_max2 rfl) (by rfl) T.n_max (by decide +kernel) (pa_cons pe_int (pa_cons (pe_op op_sub (pv 3) (pe_op op_powW pe_int pe_int)) pa_nil))) (pa_cons (pe_op op_mod (pv 4) pe_int) (pa_cons pe_int pa_nil))))))))), ?_⟩
  refine ⟨_, rfl, _, rfl, a, _, rfl, .inl hS, _, _, rfl, rfl, _, rfl, ?_⟩
  refine ite2 (fun c => ?_) (fun c => ?_)
  · have c' := of_decide_eq_true c
    rw [List.length_map] at c'
    obtain ⟨z, _, hz⟩ := atI_int (ns := ns) hk0 c'
    refine ⟨_, rfl, _, rfl, _, _, _, _, rfl, rfl, hS, hz, ?_⟩
    show tSeq _ _ _ [some (.ref a), some (.int k), some (.int z), none, none] H
    generalize z = cell
    clear c c' hz
    refine ⟨_, rfl, _, rfl, _, _, rfl, rfl, powW_of 4 (by decide) (by decide) (by decide), _, _, rfl, rfl, powW_of 200 (by decide) (by decide +kernel) (by decide), _, _, rfl, rfl, pos12, ?_⟩
    have hb := mod_big (z := if cell < 0 then -cell else cell) pos12 big12
    dsimp only
    generalize (if cell < 0 then -cell else cell) % ((10 : Int) ^ (60 : Int).toNat) ^ (12 : Int).toNat = size at hb ⊢
    refine ⟨_, rfl, _, _, rfl, rfl, wide_mul (a := 3000) (b := 64) hb.2 (by decide) (by decide) (by decide) (by decide), ?_⟩
    refine ⟨_, rfl, _, _, rfl, rfl, wide_mul (a := 64) (b := 64) (by decide) (by omega) (by decide) (by decide) (by decide), _, _, rfl, rfl, ?_⟩
    refine ⟨_, rfl, _, _, rfl, rfl, .inr ⟨_, rfl, _, _, rfl, rfl, ?_⟩⟩
    dsimp only
    generalize size * 2862933555777941757 + 3037000493 * k + (if decide (cell < 0) = true then 1 else 0) = mixed
    refine ⟨_, rfl, _, _, rfl, rfl, powW_of 4 (by decide) (by decide) (by decide), _, _, rfl, rfl, _, _, rfl, ?_⟩
    refine ⟨_, rfl, _, _, rfl, rfl, (by show (0 : Int) < 72057594037927931; decide), (by show 3 ≤ sizeLine; decide), fun p hp => ?_⟩
    have hm0 : 0 ≤ mixed % 72057594037927931 := by omega
    have hm1 : mixed % 72057594037927931 < 72057594037927931 := by omega
    refine q _ p (same_new hp) hp ⟨_, _, _, upd_same, ?_, ⟨hm0, hm1⟩, by decide, by decide⟩
    have e18 : (10 : Int) ^ (18 : Int).toNat = 1000000000000000000 := by decide
    rw [e18]
    obtain ⟨h0, h1⟩ := hb
    split
    · exact ⟨by omega, by omega⟩
    · exact ⟨by omega, by decide⟩
  · refine ⟨_, rfl, _, _, rfl, rfl, (by show CMulW 3 k; exact wide_mul (a := 64) (b := 64) (by decide) (by omega) (by decide) (by decide) (by decide)), _, _, rfl, rfl, ?_⟩
    show tSeq _ _ _ [some (.ref a), some (.int k), some (.int (3 * k + 2)), none, none] H
    generalize 3 * k + 2 = cell
    refine ⟨_, rfl, _, rfl, _, _, rfl, rfl, powW_of 4 (by decide) (by decide) (by decide), _, _, rfl, rfl, powW_of 200 (by decide) (by decide +kernel) (by decide), _, _, rfl, rfl, pos12, ?_⟩
    have hb := mod_big (z := if cell < 0 then -cell else cell) pos12 big12
    dsimp only
    generalize (if cell < 0 then -cell else cell) % ((10 : Int) ^ (60 : Int).toNat) ^ (12 : Int).toNat = size at hb ⊢
    refine ⟨_, rfl, _, _, rfl, rfl, wide_mul (a := 3000) (b := 64) hb.2 (by decide) (by decide) (by decide) (by decide), ?_⟩
    refine ⟨_, rfl, _, _, rfl, rfl, wide_mul (a := 64) (b := 64) (by decide) (by omega) (by decide) (by decide) (by decide), _, _, rfl, rfl, ?_⟩
    refine ⟨_, rfl, _, _, rfl, rfl, .inr ⟨_, rfl, _, _, rfl, rfl, ?_⟩⟩
    dsimp only
    generalize size * 2862933555777941757 + 3037000493 * k + (if decide (cell < 0) = true then 1 else 0) = mixed
    refine ⟨_, rfl, _, _, rfl, rfl, powW_of 4 (by decide) (by decide) (by decide), _, _, rfl, rfl, _, _, rfl, ?_⟩
    refine ⟨_, rfl, _, _, rfl, rfl, (by show (0 : Int) < 72057594037927931; decide), (by show 3 ≤ sizeLine; decide), fun p hp => ?_⟩
    have hm0 : 0 ≤ mixed % 72057594037927931 := by omega
    have hm1 : mixed % 72057594037927931 < 72057594037927931 := by omega
    refine q _ p (same_new hp) hp ⟨_, _, _, upd_same, ?_, ⟨hm0, hm1⟩, by decide, by decide⟩
    have e18 : (10 : Int) ^ (18 : Int).toNat = 1000000000000000000 := by decide
    rw [e18]
    obtain ⟨h0, h1⟩ := hb
    split
    · exact ⟨by omega, by omega⟩
    · exact ⟨by omega, by decide⟩
theorem ok_take (T : Txt K mg) : FnOk P w K mg base CX0 1 T.f__law_draw T.d__law_draw ["_law_source_here", "_law_many"] spTake := by
  refine T.F__law_draw.ok sc__law_draw (fun vs H Q E h => ?_) (fun cdv A outer s H vs Q E hr h => ?_)
  · obtain ⟨p, n, m, rfl, _⟩ := h
    rfl
  obtain ⟨p, n, m, rfl, ⟨a, b, c, hp, ⟨a0, a1⟩, ⟨b0, b1⟩, c0, c1⟩, hn, hm, hm2, q⟩ := h
  refine ⟨_, (pss_cons (ps_if (pt_cmpR op_gt (pe_ix (r := rIxL K) ix_list (pv 0) pe_int (fun _ _ => rfl)) pe_int (nomark _)) (pss_cons (ps_set (i := 2) sc__law_draw.nd rfl (Or.inl rfl) (pe_op op_mod (pe_ix (r := rIxL K) ix_list (pv 0) pe_int (fun _ _ => rfl)) (pv 1)))
        (pss_cons (ps_asg (pe_op op_fdivW (pe_ix (r := rIxL K) ix_list (pv 0) pe_int (fun _ _ => rfl)) (pv 1)) (pg_sub (pv 0) pe_int set_list))
        (pss_one (ps_ret (pv 2))))) pss_nil)
      (pss_cons (ps_asg (pe_op op_add (pe_ix (r := rIxL K) ix_list (pv 0) pe_int (fun _ _ => rfl)) pe_int) (pg_sub (pv 0) pe_int set_list))
      (pss_cons (ps_set (i := 3) sc__law_draw.nd rfl (Or.inl rfl) (pe_op op_mod (pe_op op_add (pe_ix (r := rIxL K) ix_list (pv 0) pe_int (fun _ _ => rfl)) (pe_op op_mulW pe_int (pe_ix (r := rIxL K) ix_list (pv 0) pe_int (fun _ _ => rfl)))) pe_int))
      (pss_cons (ps_set (i := 4) sc__law_draw.nd rfl (Or.inl rfl) (pe_op op_mulW (pe_op op_mod (pe_op op_mulW (pv 3) (pv 3)) pe_int) (pv 3)))
      (pss_cons (ps_set (i := 4) sc__law_draw.nd rfl (Or.inl rfl) (pe_op op_mod (pe_op op_add (pe_op op_add (pv 4) (pe_op op_mulW pe_int (pe_ix (r := rIxL K) ix_list (pv 0) pe_int (fun _ _ => rfl)))) (pe_op op_mod (pe_ix (r := rIxL K) ix_list (pv 0) pe_int (fun _ _ => rfl)) pe_int)) pe_int))
      (pss_one (ps_ret (pe_op op_mod (pe_op op_fdivW (pe_op op_mod (pe_op op_mulW (pv 4) (pv 4)) pe_int) pe_int) (pv 1))))))))), ?_⟩
  refine ⟨_, rfl, _, _, _, _, rfl, rfl, SqL.of hp, rfl, _, _, rfl, rfl, _, rfl, ?_⟩
  refine ite2 (fun g => ?_) (fun g => ?_)
  · refine ⟨_, rfl, _, _, _, _, rfl, rfl, SqL.of hp, rfl, _, rfl, _, _, rfl, rfl, hm, ?_⟩
    refine ⟨_, rfl, _, _, _, _, rfl, rfl, SqL.of hp, rfl, _, rfl, _, _, rfl, rfl, wide_div hm hm2 (by decide) (by decide), ?_⟩
    refine ⟨_, rfl, _, _, _, _, rfl, rfl, hp, rfl, ?_⟩
    refine ⟨_, rfl, ?_⟩
    have d0 : 0 ≤ a / m := Int.ediv_nonneg a0 (by omega)
    have d1 : a / m ≤ a := Int.ediv_le_self m a0
    exact q _ _ sx_upd ⟨_, _, _, upd_same, ⟨d0, Nat.lt_of_le_of_lt (by omega) a1⟩, ⟨b0, b1⟩, c0, by omega⟩ (Int.emod_nonneg _ (by omega)) (Int.emod_lt_of_pos _ hm)
  · refine ⟨_, rfl, _, _, _, _, rfl, rfl, SqL.of hp, rfl, _, _, rfl, rfl, ?_⟩
    refine ⟨_, rfl, _, _, _, _, rfl, rfl, hp, rfl, ?_⟩
    dsimp only
    have hq : (upd H p (.lst [.int a, .int b, .int (c + 1)])) p = some (.lst [.int a, .int b, .int (c + 1)]) := upd_same
    refine ⟨_, rfl, _, _, _, _, rfl, rfl, SqL.of hq, rfl, _, rfl, _, _, _, _, rfl, rfl, SqL.of hq, rfl, _, _, rfl, rfl, wide_mul (a := 64) (b := 64) (by decide) (by omega) (by decide) (by decide) (by decide), _, _, rfl, rfl, _, _, rfl, rfl, (by show (0 : Int) < 18014398509481951; decide), ?_⟩
    dsimp only
    generalize b + 11400714819323198 * (c + 1) = pw
    have o0 : 0 ≤ pw % 18014398509481951 := by omega
    have o1 : pw % 18014398509481951 < 18014398509481951 := by omega
    generalize pw % 18014398509481951 = one at o0 o1 ⊢
    refine ⟨_, rfl, _, rfl, _, _, rfl, rfl, wide_mul (a := 64) (b := 64) (by omega) (by omega) (by decide) (by decide) (by decide), _, _, rfl, rfl, (by show (0 : Int) < 36028797018963913; decide), ?_⟩
    dsimp only
    generalize one * one = sq
    have k0 : 0 ≤ sq % 36028797018963913 := by omega
    have k1 : sq % 36028797018963913 < 36028797018963913 := by omega
    generalize sq % 36028797018963913 = low at k0 k1 ⊢
    refine ⟨_, rfl, _, _, rfl, rfl, wide_mul (a := 64) (b := 64) (by omega) (by omega) (by decide) (by decide) (by decide), ?_⟩
    dsimp only
    generalize low * one = two
    refine ⟨_, rfl, _, rfl, _, _, _, _, rfl, rfl, SqL.of hq, rfl, _, _, rfl, rfl, wide_mul (a := 64) (b := 64) (by decide) (by omega) (by decide) (by decide) (by decide), _, _, rfl, rfl, ?_⟩
    refine ⟨_, rfl, _, _, _, _, rfl, rfl, SqL.of hq, rfl, _, _, rfl, rfl, (by show (0 : Int) < 65521; decide), _, _, rfl, rfl, _, _, rfl, rfl, (by show (0 : Int) < 1125899906842597; decide), ?_⟩
    dsimp only
    generalize two + 2654435761 * (c + 1) + b % 65521 = pw2
    have t0 : 0 ≤ pw2 % 1125899906842597 := by omega
    have t1 : pw2 % 1125899906842597 < 1125899906842597 := by omega
    generalize pw2 % 1125899906842597 = three at t0 t1 ⊢
    refine ⟨_, rfl, _, rfl, _, _, rfl, rfl, wide_mul (a := 64) (b := 64) (by omega) (by omega) (by decide) (by decide) (by decide), _, _, rfl, rfl, (by show (0 : Int) < 562949953421231; decide), _, _, rfl, rfl, wide_div (b := 12) (by decide) (by decide) (by decide) (by decide), ?_⟩
    refine ⟨_, rfl, _, _, rfl, rfl, hm, ?_⟩
    exact q _ _ sx_upd ⟨_, _, _, upd_same, ⟨a0, a1⟩, ⟨b0, b1⟩, by omega, by omega⟩ (Int.emod_nonneg _ (by omega)) (Int.emod_lt_of_pos _ hm)
end
/-! block Vall: is_valleys, is_start_valleys, least_usages and _law_valleys (behind bSizes) -/
abbrev prD (p : P2) : PyData := .tuple [.int p.1, .int p.2]
abbrev prDs (ps : List P2) : List PyData := ps.map prD
theorem pv_ints {K : PySem.W.Frag} {H : Hp} : ∀ {a : List Int} {xs : List V}, DpAll K H xs (a.map .int) → xs = a.map V.int
  | [], _, h => by
    cases h
    rfl
  | k :: a, _, h => by
    cases h with
    | cons hx hr =>
    cases hx
    rw [pv_ints hr]
    rfl
theorem pr_inv {K : PySem.W.Frag} {H : Hp} {v : V} {p : P2} (h : Dp K H v (prD p)) : ∃ t, v = .ref t ∧ SqT K H t [.int p.1, .int p.2] := by
  obtain ⟨t, xs, rfl, hs, ha⟩ := dp_tup_inv h
  obtain rfl := pv_ints (a := [p.1, p.2]) ha
  exact ⟨t, rfl, hs⟩
theorem prs_at {K : PySem.W.Frag} {H : Hp} {vs : List V} {ps : List P2} {i : Nat} {x : V} (h : DpAll K H vs (prDs ps)) (hi : vs[i]? = some x) : ∃ p, ps[i]? = some p ∧ Dp K H x (prD p) := by
  obtain ⟨d, ed, hd⟩ := dpAll_get h hi
  rw [prDs, List.getElem?_map] at ed
  obtain ⟨p, ep, rfl⟩ := Option.map_eq_some_iff.mp ed
  exact ⟨p, ep, hd⟩
theorem slT {K : PySem.W.Frag} {H : Hp} {Q : VK} {a : Addr} {xs : List V} {lo hi : Option Int} (h1 : SqT K H a xs)
    (h : ∀ (H' : Hp) (t : Addr), Same H H' → SqT K H' t (cutV xs lo hi) → Q (.ref t) H') : rSlA K (.ref a) lo hi H Q := by
  refine ⟨a, xs, rfl, h1, fun z => ?_, fun _ p hp => h _ p (same_new hp) (SqT.of upd_same)⟩
  have e : cutV xs lo hi = xs := by simp [cutV, z.1, z.2]
  exact h H a (Same.refl _) (by rw [e]; exact h1)
theorem cut_1 {us : List V} : cutV us (some 1) none = us.drop 1 := by
  unfold cutV HT.sIx
  simp only [show ¬((1 : Int) < 0) by decide, if_false]
  have e : (1 : Int).toNat = 1 := rfl
  rw [e]
  by_cases h : us.length = 0
  · rw [List.length_eq_zero_iff.mp h]
    rfl
  · have e2 : min 1 us.length = 1 := by omega
    rw [e2, List.take_of_length_le (by rw [List.length_drop]; omega)]
def spPair (K : PySem.W.Frag) : Sp := fun vs H Q _ => ∃ (v : V) (p : P2), vs = [v] ∧ Dp K H v (prD p) ∧ ∀ H', Same H H' → Q (.bl true) H'
def spVal (K : PySem.W.Frag) : Sp := fun vs H Q _ => ∃ (v : V) (ps : List P2), vs = [v] ∧ Dp K H v (.tuple (prDs ps)) ∧ 1 ≤ ps.length ∧ ps.length ≤ 400 ∧ Strict ps ∧ ∀ H', Same H H' → Q (.bl true) H'
def spSVal (K : PySem.W.Frag) : Sp := fun vs H Q _ => ∃ (v : V) (ps : List P2) (l : Int) (W : List P2), vs = [v] ∧ Dp K H v (.tuple (prDs ps)) ∧ ps = (0, l) :: W ∧ l ≤ 0 ∧ ps.length ≤ 400 ∧ Strict ps ∧ ∀ H', Same H H' → Q (.bl true) H'
section
variable {P : Program} {w : World} {K : PySem.W.Frag} {mg : Str → Option Value} {base : Heap}
end
/-! block Vq: valleys over any data: is_short_integer, check_number, _is_pair, is_valleys, _check_valleys (behind bSizesN's first, bVall's first) -/
theorem iteFx {c : Bool} {A B : Prop} (h : c = false) (b : B) : if c = true then A else B := by
  subst h
  exact b
theorem iteTx {c : Bool} {A B : Prop} (h : c = true) (a : A) : if c = true then A else B := by
  subst h
  exact a
def N61 : Int := 10000000000000000000000000000000000000000000000000000000000000
def numB : PyData → Bool
  | .int i => decide (-N61 < i) && decide (i < N61)
  | _ => false
theorem numB_int {i : Int} : numB (.int i) = (decide (-N61 < i) && decide (i < N61)) := rfl
def pairB : PyData → Bool
  | .tuple [.int _, .int _] => true
  | _ => false
theorem pairB_two {a b : PyData} : pairB (.tuple [a, b]) = ((isInt a && !isBoo a) && (isInt b && !isBoo b)) := by
  cases a <;> first | rfl | (cases b <;> rfl)
theorem pairB_no {ds : List PyData} (n : ¬ ds.length = 2) : pairB (.tuple ds) = false := by
  unfold pairB
  split
  · rename_i h
    cases h
    exact absurd rfl n
  · rfl
def toP2 : PyData → P2
  | .tuple [.int a, .int b] => (a, b)
  | _ => (0, 0)
def adjB : List P2 → Bool
  | p :: q :: r => (decide (p.1 < q.1) && decide (q.2 < p.2)) && adjB (q :: r)
  | _ => true
def valB : PyData → Bool
  | .tuple ds => decide (1 ≤ ds.length ∧ ds.length ≤ 400) && ds.all pairB && adjB (ds.map toP2)
  | _ => false
theorem pairB_iff {d : PyData} : pairB d = true ↔ ∃ p : P2, d = prD p := by
  constructor
  · intro h
    unfold pairB at h
    split at h
    · exact ⟨(_, _), rfl⟩
    · cases h
  · rintro ⟨p, rfl⟩
    rfl
theorem toP2_prD (p : P2) : toP2 (prD p) = p := rfl
theorem adjB_iff : ∀ {ps : List P2}, adjB ps = true ↔ Strict ps
  | [] => by simp [adjB]
  | [p] => by simp [adjB]
  | p :: q :: r => by
    have ih := adjB_iff (ps := q :: r)
    simp only [adjB, Bool.and_eq_true, decide_eq_true_eq, ih]
    constructor
    · rintro ⟨⟨h1, h2⟩, h3⟩
      refine List.pairwise_cons.mpr ⟨fun x hx => ?_, h3⟩
      rcases List.mem_cons.mp hx with rfl | hx
      · exact ⟨h1, h2⟩
      · have := (List.pairwise_cons.mp h3).1 x hx
        omega
    · intro h
      obtain ⟨h1, h2⟩ := List.pairwise_cons.mp h
      exact ⟨h1 q (List.mem_cons_self ..), h2⟩
theorem all_pairs {ds : List PyData} (h : ds.all pairB = true) : ds = prDs (ds.map toP2) := by
  induction ds with
  | nil => rfl
  | cons d ds ih =>
    simp only [List.all_cons, Bool.and_eq_true] at h
    obtain ⟨p, rfl⟩ := pairB_iff.mp h.1
    rw [prDs, List.map_cons, List.map_cons, ← prDs, ← ih h.2]
    rfl
theorem valB_iff {d : PyData} : valB d = true ↔ ∃ ps : List P2, d = .tuple (prDs ps) ∧ 1 ≤ ps.length ∧ ps.length ≤ 400 ∧ Strict ps := by
  constructor
  · intro h
    cases d with
    | tuple ds =>
      simp only [valB, Bool.and_eq_true, decide_eq_true_eq] at h
      obtain ⟨⟨⟨h1, h2⟩, h3⟩, h4⟩ := h
      exact ⟨ds.map toP2, by rw [← all_pairs h3], by simpa using h1, by simpa using h2, adjB_iff.mp h4⟩
    | _ => cases h
  · rintro ⟨ps, rfl, h1, h2, h3⟩
    have e : (prDs ps).map toP2 = ps := by
      rw [prDs, List.map_map]
      have : ps.map (toP2 ∘ prD) = ps.map id := List.map_congr_left fun p _ => rfl
      rw [this, List.map_id]
    have e2 : (prDs ps).all pairB = true := by
      rw [List.all_eq_true]
      intro d hd
      obtain ⟨p, _, rfl⟩ := List.mem_map.mp hd
      rfl
    simp only [valB, e, e2, adjB_iff.mpr h3, Bool.and_true, decide_eq_true_eq]
    rw [prDs, List.length_map]
    exact ⟨h1, h2⟩
/-- how neighbours compare -/
def adjs : List P2 → List Bool
  | p :: q :: r => (decide (p.1 < q.1) && decide (q.2 < p.2)) :: adjs (q :: r)
  | _ => []
theorem adjs_len : ∀ {ps : List P2}, (adjs ps).length = ps.length - 1
  | [] => rfl
  | [p] => rfl
  | p :: q :: r => by
    have := adjs_len (ps := q :: r)
    simp only [adjs, List.length_cons] at *
    omega
theorem adjs_all : ∀ {ps : List P2}, (adjs ps).all id = adjB ps
  | [] => rfl
  | [p] => rfl
  | p :: q :: r => by
    have := adjs_all (ps := q :: r)
    simp only [adjs, adjB, List.all_cons, this, id]
theorem adjs_at : ∀ {ps : List P2} {i : Nat} {p q : P2}, ps[i]? = some p → ps[i + 1]? = some q → (adjs ps)[i]? = some (decide (p.1 < q.1) && decide (q.2 < p.2))
  | [], i, p, q, h, _ => by simp at h
  | [x], i, p, q, _, h => by simp at h
  | x :: y :: r, 0, p, q, h, k => by
    cases h
    cases k
    rfl
  | x :: y :: r, i + 1, p, q, h, k => by
    have := adjs_at (ps := y :: r) (i := i) (p := p) (q := q) (by simpa using h) (by simpa using k)
    simpa [adjs] using this
def spShort (K : PySem.W.Frag) : Sp := fun vs H Q _ => ∃ (v : V) (d : PyData), vs = [v] ∧ Dp K H v d ∧ Q (.bl (numB d)) H
def spChkN (K : PySem.W.Frag) (C : Addr) : Sp := fun vs H Q E => ∃ (v : V) (d : PyData), vs = [v] ∧ Dp K H v d ∧ (numB d = true → Q .non H) ∧
  (numB d = false → ∀ (dx : Addr), H dx = none → E (.ref C) (some dx) (upd H dx (.xd [("value", v)])))
def spPairQ (K : PySem.W.Frag) : Sp := fun vs H Q _ => ∃ (v : V) (d : PyData), vs = [v] ∧ Dp K H v d ∧ Q (.bl (pairB d)) H
def spIsV (K : PySem.W.Frag) : Sp := fun vs H Q _ => ∃ (v : V) (d : PyData), vs = [v] ∧ Dp K H v d ∧ ∀ H', Same H H' → Q (.bl (valB d)) H'
def spChkV (K : PySem.W.Frag) (C : Addr) : Sp := fun vs H Q E => ∃ (v : V) (d : PyData), vs = [v] ∧ Dp K H v d ∧ (valB d = true → ∀ H', Same H H' → Q .non H') ∧ (valB d = false → ∀ H', Same H H' → E (.ref C) none H')
section
variable {P : Program} {w : World} {K : PySem.W.Frag} {mg : Str → Option Value} {base : Heap}
theorem ok_inum (T : Txt K mg) : FnOk P w K mg base CX0 1 T.f_InvalidNumber_init T.d_InvalidNumber_init ["self", "value"] (spKeep T.c_InvalidNumber "value") := by
  refine T.F_InvalidNumber_init.ok sc_InvalidNumber_init (fun vs H Q E h => ?_) (fun cdv A outer s H vs Q E hr h => ?_)
  · obtain ⟨a, y, rfl, _⟩ := h
    rfl
  obtain ⟨a, y, rfl, ha, q⟩ := h
  refine ⟨_, (pss_one (ps_keepF (pv 0) (pv 1))), ?_⟩
  exact ⟨_, rfl, _, rfl, a, T.c_InvalidNumber, rfl, T.ox_InvalidNumber, T.no_InvalidNumber, ha, fun dx n ne => q dx n ne⟩
theorem ok_pairq (T : Txt K mg) : FnOk P w K mg base CX0 2 T.f__is_pair T.d__is_pair ["value"] (spPairQ K) := by
  have g_is_integer := ok_isint (P := P) (w := w) (base := base) T
  refine T.F__is_pair.ok sc__is_pair (fun vs H Q E h => ?_) (fun cdv A outer s H vs Q E hr h => ?_)
  · obtain ⟨v, d, rfl, _⟩ := h
    rfl
  obtain ⟨v, d, rfl, hd, q⟩ := h
  refine ⟨_, (pss_one (ps_ret (pe_and (pe_callB (r := rIsD K) call_isD (by rfl) T.n_isinstance (by decide +kernel) (pa_cons (pv 0) (pa_cons (pe_bltn (v := .ty "tuple") (by rfl) T.n_tuple (by decide +kernel) rfl) pa_nil))) (pe_and (pe_cmpR op_eq (pe_callB (r := rLenS K) call_lenS (by rfl) T.n_len (by decide +kernel) (pa_cons (pv 0) pa_nil)) pe_int (nomark _)) (pe_and (pe_call g_is_integer (hr.mono (by omega)) rfl T.m_is_integer T.F_is_integer.kp T.b_is_integer .nil pass0 (pa_cons (pe_ix (r := rIxT K) ix_tup (pv 0) pe_int (fun _ _ => rfl)) pa_nil)) (pe_one (pe_call g_is_integer (hr.mono (by omega)) rfl T.m_is_integer T.F_is_integer.kp T.b_is_integer .nil pass0 (pa_cons (pe_ix (r := rIxT K) ix_tup (pv 0) pe_int (fun _ _ => rfl)) pa_nil)))))))), ?_⟩
  refine ⟨_, rfl, _, _, _, _, rfl, hd, kit_tuple _, _, rfl, ?_⟩
  cases et : isTup d with
  | false =>
    have e : pairB d = false := by cases d <;> first | rfl | cases et
    rw [e] at q
    refine iteF ?_
    exact q
  | true =>
  obtain ⟨ds, rfl⟩ : ∃ ds, d = .tuple ds := by
    cases d <;> first | exact ⟨_, rfl⟩ | cases et
  refine iteT ?_
  obtain ⟨a, xs, rfl, hs, hall⟩ := dp_tup_inv hd
  have hl := dpAll_length hall
  refine ⟨_, rfl, a, xs, rfl, .inr hs, rfl, _, rfl, ?_⟩
  have no : ¬ ds.length = 2 → pairB (.tuple ds) = false := pairB_no
  refine ite2 (fun g => ?_) (fun g => ?_)
  · have g2 : xs.length = 2 := by
      have h := of_decide_eq_true g
      have e : ((xs.length : Nat) : Int) = 2 := by simpa using h
      omega
    cases hall with
    | nil => cases g2
    | cons hx hall =>
    cases hall with
    | nil => cases g2
    | cons hy hall =>
    cases hall with
    | cons hz hall =>
      simp only [List.length_cons] at g2
      omega
    | nil =>
    rename_i x dx y dy
    refine ⟨_, rfl, _, _, _, _, rfl, rfl, hs, atI_at (j := 0) rfl rfl, x, dx, rfl, hx, _, rfl, ?_⟩
    rw [pairB_two] at q
    cases ex : (isInt dx && !isBoo dx) with
    | false =>
      rw [ex, Bool.false_and] at q
      refine iteF ?_
      exact q
    | true =>
      rw [ex, Bool.true_and] at q
      refine iteT ?_
      exact ⟨_, rfl, _, _, _, _, rfl, rfl, hs, atI_at (j := 1) rfl rfl, y, dy, rfl, hy, q⟩
  · rw [no (fun z => g (decide_eq_true (by rw [hl, z]; rfl)))] at q
    exact q
theorem ok_isv (T : Txt K mg) : FnOk P w K mg base CX0 3 T.f_is_valleys T.d_is_valleys ["value"] (spIsV K) := by
  have g__is_pair := ok_pairq (P := P) (w := w) (base := base) T
  refine T.F_is_valleys.ok sc_is_valleys (fun vs H Q E h => ?_) (fun cdv A outer s H vs Q E hr h => ?_)
  · obtain ⟨v, d, rfl, _⟩ := h
    rfl
  obtain ⟨v, d, rfl, hd, q⟩ := h
  refine ⟨_, (pss_cons (ps_if (PW.pt (pw_or (pt_not (pt_val (pe_callB (r := rIsD K) call_isD (by rfl) T.n_isinstance (by decide +kernel) (pa_cons (pv 0) (pa_cons (pe_bltn (v := .ty "tuple") (by rfl) T.n_tuple (by decide +kernel) rfl) pa_nil))))) (pw_or1 (pt_not (pt_chain op_le op_le pe_int (pe_callB (r := rLenS K) call_lenS (by rfl) T.n_len (by decide +kernel) (pa_cons (pv 0) pa_nil)) (pe_glob (v := .int 400) rfl T.g_MAX_VALLEYS ⟨_, rfl⟩)))))) (pss_one (ps_ret pe_bl)) pss_nil)
      (pss_cons (ps_if (pt_not (pt_val (pe_callB (r := rAll K) (cr_all rfl) (by rfl) T.n_all (by decide +kernel) (pa_cons (pe_lc (own := [("pair", 1)]) (g := (gName 1)) (by rfl) sc_is_valleys.nd (pi_tup (pv 0)) (blkOk_by (N := N_is_valleys) (sc := (defScope s_is_valleys)) (by decide +kernel)) (fun _ _ _ _ _ => (pg_name (i := 1) sc_is_valleys.nd rfl (Or.inl rfl))) (fun _ _ _ _ _ => pts_nil) (fun _ _ _ _ _ => (pe_call g__is_pair (hr.mono (by omega)) rfl T.m__is_pair T.F__is_pair.kp T.b__is_pair .nil pass0 (pa_cons (pv 1) pa_nil)))) pa_nil)))) (pss_one (ps_ret pe_bl)) pss_nil)
      (pss_one (ps_ret (pe_callB (r := rAll K) (cr_all rfl) (by rfl) T.n_all (by decide +kernel) (pa_cons (pe_lc (own := [("left", 2), ("right", 3)]) (g := (gTup K 2 (gCons (gName 2) (gCons (gName 3) gNil)))) (by rfl) sc_is_valleys.nd (RZ.pi_zipA (by rfl) T.n_zip (pa_cons (pv 0) (pa_cons (pe_slice (r := rSlA K) sl_tupA (pv 0) (po_some pe_int) po_none) pa_nil))) (blkOk_by (N := N_is_valleys) (sc := (defScope s_is_valleys)) (by decide +kernel)) (fun _ _ _ _ _ => (pg_tup (by rfl) (pgs_cons (pg_name (i := 2) sc_is_valleys.nd rfl (Or.inl rfl)) (pgs_cons (pg_name (i := 3) sc_is_valleys.nd rfl (Or.inl rfl)) pgs_nil)))) (fun _ _ _ _ _ => pts_nil) (fun _ _ _ _ _ => (pe_and (pe_cmpR op_lt (pe_ix (r := rIxT K) ix_tup (pv 2) pe_int (fun _ _ => rfl)) (pe_ix (r := rIxT K) ix_tup (pv 3) pe_int (fun _ _ => rfl)) (nomark _)) (pe_one (pe_cmpR op_gt (pe_ix (r := rIxT K) ix_tup (pv 2) pe_int (fun _ _ => rfl)) (pe_ix (r := rIxT K) ix_tup (pv 3) pe_int (fun _ _ => rfl)) (nomark _)))))) pa_nil)))))), ?_⟩
  refine ⟨_, rfl, _, _, _, _, rfl, hd, kit_tuple _, _, rfl, ?_⟩
  cases et : isTup d with
  | false =>
    have e : valB d = false := by cases d <;> first | rfl | cases et
    rw [e] at q
    refine iteT ?_
    exact q _ (Same.refl _)
  | true =>
  obtain ⟨ds, rfl⟩ : ∃ ds, d = .tuple ds := by
    cases d <;> first | exact ⟨_, rfl⟩ | cases et
  obtain ⟨a, xs, rfl, hs, hall⟩ := dp_tup_inv hd
  have hl : xs.length = ds.length := dpAll_length hall
  refine iteF ?_
  refine ⟨_, rfl, a, _, rfl, .inr hs, ?_⟩
  have no : ¬ (1 ≤ ds.length ∧ ds.length ≤ 400) → Q (.bl false) H := fun n => by
    have e : valB (.tuple ds) = false := by simp only [valB, decide_eq_false n, Bool.false_and]
    rw [e] at q
    exact q _ (Same.refl _)
  refine ⟨_, _, rfl, rfl, _, rfl, ?_⟩
  refine ite2 (fun g => ?_) (fun g => ?_)
  · have g1 : 1 ≤ ds.length := by
      have := of_decide_eq_true g
      omega
    refine ⟨_, _, rfl, rfl, _, rfl, ?_⟩
    show (if (!decide ((xs.length : Int) ≤ 400)) = true then _ else _)
    refine ite2 (fun g4 => ?_) (fun g4 => ?_)
    · refine no fun z => ?_
      rw [decide_eq_true (by rw [hl]; omega)] at g4
      cases g4
    have g400 : ds.length ≤ 400 := by
      rw [Bool.not_eq_true', decide_eq_false_iff_not] at g4
      have := Classical.byContradiction (p := (xs.length : Int) ≤ 400) g4
      omega
    clear g g4 no
    refine ⟨_, rfl, a, rfl, ⟨xs, hs⟩, fun D hD => ?_⟩
    refine lc_tup (K := K) (a := a) (xs := xs) (fun i G => Same H G ∧ G D = some (.lst (((ds.take i).map pairB).map V.bl))) ?_ ?_ ?_ ?_
    · exact ⟨same_new hD, by simpa using upd_same⟩
    · rintro i G _ ⟨s1, _⟩
      exact same_sqT s1 hs
    · rintro i x G hi ⟨s1, eD⟩
      obtain ⟨d, ed, hx⟩ := dpAll_get hall hi
      refine ⟨rfl, ?_⟩
      unfold tYes
      refine iteT ?_
      refine ⟨_, rfl, x, d, rfl, dp_same s1 hx, ?_⟩
      have etk : ds.take (i + 1) = ds.take i ++ [d] := by rw [List.take_add_one, ed]; rfl
      refine ⟨_, eD, ?_, ?_, ?_⟩
      · rw [List.length_map, List.length_map, List.length_take]
        exact small1000 (by omega)
      · intro c o hc
        rw [upd_ne (ne_of_none hc hD)]
        exact s1 _ _ hc
      · rw [upd_same, etk, List.map_append, List.map_append]
        rfl
    rintro G ⟨s1, eD⟩
    rw [hl, List.take_length] at eD
    refine ⟨D, _, rfl, SqL.of eD, ?_⟩
    have eid : ((ds.map pairB).all id) = ds.all pairB := by rw [List.all_map]; rfl
    rw [eid]
    refine ⟨_, rfl, ?_⟩
    cases ep : ds.all pairB with
    | false =>
      have e : valB (.tuple ds) = false := by simp only [valB, ep, Bool.and_false, Bool.false_and]
      rw [e] at q
      refine iteT ?_
      exact q _ s1
    | true =>
    refine iteF ?_
    clear eD eid
    have eps := all_pairs ep
    have e : valB (.tuple ds) = adjB (ds.map toP2) := by simp only [valB, ep, decide_eq_true (And.intro g1 g400), Bool.true_and]
    rw [e] at q
    clear e ep
    have lp : (ds.map toP2).length = ds.length := List.length_map ..
    generalize ds.map toP2 = ps at eps q lp
    subst eps
    -- neighbours
    have hsG := same_sqT s1 hs
    refine ⟨_, rfl, _, rfl, _, rfl, ?_⟩
    unfold tNoPart
    dsimp only
    refine slT hsG (fun G1 b s2 hb => ?_)
    rw [cut_1] at hb
    refine ⟨a, b, _, _, rfl, .inr ⟨same_sqT s2 hsG, hb, fun D hD => ?_⟩⟩
    have hsG1 := same_sqT s2 hsG
    have hall1 := dpAll_same (s1.trans s2) hall
    refine lc_it (walk_zipT2 (xs := xs) (ys := xs.drop 1) (n := xs.length - 1) (by rw [List.length_drop]; omega)) (fun i F => Same G1 F ∧ F D = some (.lst (((adjs ps).take i).map V.bl))) ?_ ?_ ?_ ?_
    · exact ⟨same_new hD, by simpa using upd_same⟩
    · rintro i F _ ⟨s3, _⟩
      exact ⟨same_sqT s3 hsG1, same_sqT s3 hb⟩
    · rintro i z F F' hi ⟨s3, eD⟩ ⟨t, x, y, rfl, ht, rfl, hx, hy⟩
      dsimp only at hx hy
      rw [List.getElem?_drop] at hy
      obtain ⟨p1, ep1, dx⟩ := prs_at hall1 hx
      obtain ⟨p2, ep2, dy⟩ := prs_at hall1 hy
      obtain ⟨t1, rfl, k1⟩ := pr_inv dx
      obtain ⟨t2, rfl, k2⟩ := pr_inv dy
      have s4 : Same F (upd F t (.tup [.ref t1, .ref t2])) := same_new ht
      have kt : SqT K (upd F t (.tup [.ref t1, .ref t2])) t [.ref t1, .ref t2] := SqT.of upd_same
      have eD4 := s4 _ _ eD
      generalize (upd F t (.tup [.ref t1, .ref t2])) = F2 at s4 kt eD4 ⊢
      have s34 := s3.trans s4
      have k1 := same_sqT s34 k1
      have k2 := same_sqT s34 k2
      have etk : (adjs ps).take (i + 1) = (adjs ps).take i ++ [decide (p1.1 < p2.1) && decide (p2.2 < p1.2)] := by
        rw [List.take_add_one, adjs_at ep1 (by rw [← ep2, Nat.add_comm])]
        rfl
      have fin : ∀ b : Bool, b = (decide (p1.1 < p2.1) && decide (p2.2 < p1.2)) → ∃ acc, F2 D = some (.lst acc) ∧ acc.length < sizeLine ∧ Same G1 (upd F2 D (.lst (acc ++ [.bl b]))) ∧ upd F2 D (.lst (acc ++ [.bl b])) D = some (.lst (((adjs ps).take (i + 1)).map V.bl)) := fun b eb => by
        refine ⟨_, eD4, ?_, ?_, ?_⟩
        · rw [List.length_map, List.length_take]
          exact small1000 (by omega)
        · intro c o hc
          rw [upd_ne (ne_of_none hc hD)]
          exact s34 _ _ hc
        · rw [upd_same, etk, List.map_append, ← eb]
          rfl
      refine ⟨t, _, rfl, kt, rfl, _, _, rfl, _, _, rfl, rfl, rfl, ?_⟩
      unfold tYes
      refine iteT ?_
      refine ⟨_, rfl, _, _, _, _, rfl, rfl, k1, atI_at (j := 0) rfl rfl, _, rfl, _, _, _, _, rfl, rfl, k2, atI_at (j := 0) rfl rfl, _, _, rfl, rfl, _, rfl, ?_⟩
      cases g1 : decide (p1.1 < p2.1) with
      | true =>
        refine iteT ?_
        refine ⟨_, rfl, _, _, _, _, rfl, rfl, k1, atI_at (j := 1) rfl rfl, _, rfl, _, _, _, _, rfl, rfl, k2, atI_at (j := 1) rfl rfl, _, _, rfl, rfl, ?_⟩
        exact fin _ (by rw [g1, Bool.true_and])
      | false =>
        refine iteF ?_
        exact fin _ (by rw [g1, Bool.false_and])
    rintro F ⟨s3, eD⟩
    rw [hl, prDs, List.length_map, ← adjs_len, List.take_length] at eD
    refine ⟨D, _, rfl, SqL.of eD, ?_⟩
    rw [adjs_all]
    exact q _ (s1.trans (s2.trans s3))
  · refine ⟨_, rfl, ?_⟩
    refine iteT ?_
    exact no fun z => g (decide_eq_true (by rw [hl]; omega))
theorem ok_chkv (T : Txt K mg) : FnOk P w K mg base (L2.CX P w) 4 T.f__check_valleys T.d__check_valleys ["value"] (spChkV K T.c_InvalidValleys) := by
  have g_is_valleys := ok_isv (P := P) (w := w) (base := base) T
  refine T.F__check_valleys.okX sc__check_valleys (fun vs H Q E h => ?_) (fun cdv A outer s H vs Q E hr h => ?_)
  · obtain ⟨v, d, rfl, _⟩ := h
    rfl
  obtain ⟨v, d, rfl, hd, q, qe⟩ := h
  refine ⟨_, (pss_one (ps_if (pt_not (pt_val (pe_call g_is_valleys (hr.mono (by omega)) rfl T.m_is_valleys T.F_is_valleys.kp T.b_is_valleys .nil pass0 (pa_cons (pv 0) pa_nil)))) (pss_one (ps_raise rfl (takes_of rfl rfl rfl rfl) (pmk_own PySem.F.excBase_ValueError T.x_InvalidValleys T.g_InvalidValleys T.k_InvalidValleys (raises_own T.bb_InvalidValleys T.tt_InvalidValleys) rfl))) pss_nil)), ?_⟩
  refine ⟨_, rfl, v, d, rfl, hd, fun H1 s1 => ⟨_, rfl, ?_⟩⟩
  cases e : valB d with
  | true =>
    refine iteF ?_
    exact q e _ s1
  | false =>
    refine iteT ?_
    exact qe e _ s1
end
/-! block V20f: value_at, moved, valley_at, shifted, from_capacity (behind bVq) -/
def valFrom (c : Int) (a : Option Int) (ps : List P2) : Option Int := ps.foldl (fun v p => if p.1 ≤ c then some p.2 else v) a
def valAt (c : Int) (ps : List P2) : Option Int := valFrom c none ps
def repO : Option Int → V
  | none => .non
  | some x => .int x
def movedP (c l : Int) (ps : List P2) : List P2 := ps.map fun p => (p.1 + c, p.2 + l)
def laterP (c : Int) (ps : List P2) : List P2 := ps.filter fun p => decide (p.1 > c)
def fromP (c : Int) (ps : List P2) : List P2 := (c, (valAt c ps).getD 0) :: laterP c ps
theorem valFrom_some {c : Int} : ∀ {ps : List P2} {x : Int}, ∃ y, valFrom c (some x) ps = some y
  | [], x => ⟨x, rfl⟩
  | p :: ps, x => by
    unfold valFrom
    rw [List.foldl_cons]
    split
    · exact valFrom_some (ps := ps)
    · exact valFrom_some (ps := ps)
theorem valAt_some {c : Int} {p : P2} {ps : List P2} (h : p.1 ≤ c) : valAt c (p :: ps) = some ((valAt c (p :: ps)).getD 0) := by
  obtain ⟨y, e⟩ := valFrom_some (c := c) (ps := ps) (x := p.2)
  have e2 : valAt c (p :: ps) = some y := by
    unfold valAt valFrom
    rw [List.foldl_cons, if_pos h]
    exact e
  rw [e2]
  rfl
theorem valFrom_mem {c : Int} : ∀ {ps : List P2} {a : Option Int} {y : Int}, valFrom c a ps = some y → a = some y ∨ ∃ p ∈ ps, p.1 ≤ c ∧ p.2 = y
  | [], a, y, h => .inl h
  | p :: ps, a, y, h => by
    unfold valFrom at h
    rw [List.foldl_cons] at h
    rcases valFrom_mem (ps := ps) h with z | ⟨q, hq, h1, h2⟩
    · by_cases e : p.1 ≤ c
      · rw [if_pos e] at z
        exact .inr ⟨p, List.mem_cons_self .., e, Option.some.inj z⟩
      · rw [if_neg e] at z
        exact .inl z
    · exact .inr ⟨q, List.mem_cons_of_mem _ hq, h1, h2⟩
theorem strict_before {ps : List P2} (h : Strict ps) {p q : P2} (hp : p ∈ ps) (hq : q ∈ ps) (c : Int) (h1 : p.1 ≤ c) (h2 : q.1 > c) : q.2 < p.2 := by
  obtain ⟨i, hi, rfl⟩ := List.getElem_of_mem hp
  obtain ⟨j, hj, rfl⟩ := List.getElem_of_mem hq
  rcases Nat.lt_trichotomy i j with z | z | z
  · exact ((List.pairwise_iff_getElem.mp h) i j hi hj z).2
  · subst z
    omega
  · have := ((List.pairwise_iff_getElem.mp h) j i hj hi z).1
    omega
theorem strict_from {c : Int} {p : P2} {ps : List P2} (h : Strict (p :: ps)) (hc : p.1 ≤ c) : Strict (fromP c (p :: ps)) := by
  unfold fromP
  refine List.pairwise_cons.mpr ⟨fun q hq => ?_, h.filter _⟩
  unfold laterP at hq
  rw [List.mem_filter, decide_eq_true_eq] at hq
  refine ⟨by dsimp only; omega, ?_⟩
  have e := valAt_some (ps := ps) hc
  rcases valFrom_mem e with z | ⟨r, hr, r1, r2⟩
  · cases z
  · dsimp only
    rw [← r2]
    exact strict_before h hr hq.1 c r1 hq.2
theorem from_len {c : Int} {p : P2} {ps : List P2} (hc : p.1 ≤ c) : (fromP c (p :: ps)).length ≤ (p :: ps).length := by
  unfold fromP laterP
  rw [List.filter_cons_of_neg (by rw [decide_eq_true_eq]; omega), List.length_cons, List.length_cons]
  have := List.length_filter_le (fun p : P2 => decide (p.1 > c)) ps
  omega
theorem noLs_prV : ∀ ps : List P2, noLs (prDs ps) = true
  | [] => rfl
  | p :: ps => by
    have := noLs_prV ps
    show noLs (prD p :: prDs ps) = true
    simp only [noLs, noL, this, Bool.and_self]
theorem noLs_one (p : P2) : noL (prD p) = true := by simp [noL, noLs]
def spVat (K : PySem.W.Frag) : Sp := fun vs H Q _ => ∃ (v : V) (ps : List P2) (c : Int), vs = [v, .int c] ∧ Dp K H v (.tuple (prDs ps)) ∧ Q (repO (valAt c ps)) H
def spMvd (K : PySem.W.Frag) : Sp := fun vs H Q _ => ∃ (v : V) (ps : List P2) (c l : Int), vs = [v, .int c, .int l] ∧ Dp K H v (.tuple (prDs ps)) ∧ ps.length ≤ 400 ∧ ∀ (H' : Hp) (r : V), Same H H' → Dp K H' r (.tuple (prDs (movedP c l ps))) → Q r H'
/-- an error that keeps what it was given -/
def badN (K : PySem.W.Frag) (C : Addr) (H : Hp) (E : XK) (x : V) : Prop := ∀ (H' : Hp) (dx : Addr), Same H H' → H' dx = none → E (.ref C) (some dx) (upd H' dx (.xd [("value", x)]))
@[irreducible] def spVA (K : PySem.W.Frag) (CV CN : Addr) : Sp := fun vs H Q E => ∃ (v x : V) (d e : PyData), vs = [v, x] ∧ Dp K H v d ∧ Dp K H x e ∧ (valB d = false → ∀ H', Same H H' → E (.ref CV) none H') ∧
  (valB d = true → numB e = false → badN K CN H E x) ∧ (∀ ps c, d = .tuple (prDs ps) → e = .int c → valB d = true → numB e = true → ∀ H', Same H H' → Q (repO (valAt c ps)) H')
@[irreducible] def spSh (K : PySem.W.Frag) (CV CN : Addr) : Sp := fun vs H Q E => ∃ (v x y : V) (d e f : PyData), vs = [v, x, y] ∧ Dp K H v d ∧ Dp K H x e ∧ Dp K H y f ∧ (valB d = false → ∀ H', Same H H' → E (.ref CV) none H') ∧
  (valB d = true → numB e = false → badN K CN H E x) ∧ (valB d = true → numB e = true → numB f = false → badN K CN H E y) ∧
  (∀ ps c l, d = .tuple (prDs ps) → e = .int c → f = .int l → valB d = true → numB e = true → numB f = true → ∀ (H' : Hp) (r : V), Same H H' → Dp K H' r (.tuple (prDs (movedP c l ps))) → Q r H')
@[irreducible] def spFC (K : PySem.W.Frag) (CV CN : Addr) : Sp := fun vs H Q E => ∃ (v x : V) (d e : PyData), vs = [v, x] ∧ Dp K H v d ∧ Dp K H x e ∧ (valB d = false → ∀ H', Same H H' → E (.ref CV) none H') ∧
  (valB d = true → numB e = false → badN K CN H E x) ∧ (∀ p ps c, d = .tuple (prDs (p :: ps)) → e = .int c → valB d = true → numB e = true → c < p.1 → badN K CN H E x) ∧
  (∀ p ps c, d = .tuple (prDs (p :: ps)) → e = .int c → valB d = true → numB e = true → p.1 ≤ c → ∀ (H' : Hp) (r : V), Same H H' → Dp K H' r (.tuple (prDs (fromP c (p :: ps)))) → Q r H')
theorem numB_inv {d : PyData} (h : numB d = true) : ∃ i, d = .int i := by
  cases d <;> first | exact ⟨_, rfl⟩ | cases h
section
variable {P : Program} {w : World} {K : PySem.W.Frag} {mg : Str → Option Value} {base : Heap}
end
/-! block V21t: as V20t, over the defs of k21 (behind bV20f) -/
abbrev lamQ (x : Str) (st : Stmt) : Str := (PyProof.Rows.envOfC x (defScope st) 0 0 .none).qual ++ "<lambda>"
def lamT {K : PySem.W.Frag} {mg : Str → Option Value} (T : Txt K mg) : List (Addr × Str) :=
  [(T.ct__law_bounds_right, lamQ "_law_bounds_right" s__law_bounds_right), (T.ct_law, lamQ "law" s_law)]
theorem lamU__law_bounds_right {K : PySem.W.Frag} {mg : Str → Option Value} (T : Txt K mg) : ∀ p ∈ lamT T, p.1 = T.ct__law_bounds_right → p.2 = lamQ "_law_bounds_right" s__law_bounds_right := by
  intro p hp e
  simp only [lamT, List.mem_cons, List.not_mem_nil, or_false] at hp
  rcases hp with rfl | rfl
  · rfl
  · exact absurd e.symm T.ne__law_bounds_right_law
theorem lamU_law {K : PySem.W.Frag} {mg : Str → Option Value} (T : Txt K mg) : ∀ p ∈ lamT T, p.1 = T.ct_law → p.2 = lamQ "law" s_law := by
  intro p hp e
  simp only [lamT, List.mem_cons, List.not_mem_nil, or_false] at hp
  rcases hp with rfl | rfl
  · exact absurd e T.ne__law_bounds_right_law
  · rfl
/-- what is told of an error -/
def toE (CV CN CM : Addr) (Q : VK) : XK := fun cls d H' => (cls = .ref CV ∧ Q (.str "valleys") H') ∨ (∃ dx y, cls = .ref CN ∧ d = some dx ∧ H' dx = some (.xd [("value", y)]) ∧ ∀ t, H' t = none → Q (.ref t) (upd H' t (.tup [.str "number", y]))) ∨
  (∃ dx y, cls = .ref CM ∧ d = some dx ∧ H' dx = some (.xd [("limit", y)]) ∧ ∀ t, H' t = none → Q (.ref t) (upd H' t (.tup [.str "many", y])))
/-- what is told of a call: "returned", or its error -/
def TTo (CV CN CM : Addr) : (XK → Hp → VK → Prop) → Hp → VK → Prop := fun tl H Q => tl (toE CV CN CM Q) H (fun _ H' => Q (.str "returned") H')
theorem gives__law_valley_outcome {K : PySem.W.Frag} {mg : Str → Option Value} (T : Txt K mg) (X : Cx) (e1 : X.K = K) (e2 : X.mg = mg) {q : Str} {cdv : Value} :
    LamX.GivesTo X N__law_valley_outcome "_law_valley_outcome" (defScope s__law_valley_outcome) T.f__law_valley_outcome cdv (defBody s__law_valley_outcome) "_law_call" q (TTo T.c_InvalidValleys T.c_InvalidNumber T.c_TooMany) := by
  subst e1
  subst e2
  intro f c' s H Q tl act hc h
  refine ⟨_, (pss_cons (ps_tryA rfl rfl sc__law_valley_outcome.nd takes0 (fun W pn xe tk _ => (pss_one (ps_expr (pe_acts (fun Ech hW => act _ _ _ Ech _ _ (takes_len tk) hW))))) (.bare ⟨rfl, by decide, .inl T.g_InvalidValleys⟩ (fun a oe cls d pn hz hf => (pss_one (ps_ret pe_str))) (.named (i := 1) rfl rfl ⟨rfl, by decide, .inl T.g_InvalidNumber⟩ (fun a oe cls d pn hz hf => (pss_one (ps_ret (pe_tup (pa_cons pe_str (pa_cons (pe_xfM T.xf_InvalidNumber T.no_InvalidNumber (List.mem_cons_self ..) hz hf (pv 1)) pa_nil)))))) (.named (i := 1) rfl rfl ⟨rfl, by decide, .inl T.g_TooMany⟩ (fun a oe cls d pn hz hf => (pss_one (ps_ret (pe_tup (pa_cons pe_str (pa_cons (pe_xfM T.xf_TooMany T.no_TooMany (List.mem_cons_self ..) hz hf (pv 1)) pa_nil)))))) .nil))))
      (pss_one (ps_ret pe_str))), ?_⟩
  refine ⟨_, fun cls d σ' H' hE hl => ?_, rfl, hc, h⟩
  rcases hE with ⟨rfl, q1⟩ | ⟨dx, y, rfl, rfl, hd, q1⟩ | ⟨dx, y, rfl, rfl, hd, q1⟩
  · exact ⟨true, T.e_InvalidValleys_InvalidValleys, fun _ a ha => q1, fun z => by cases z⟩
  · refine ⟨false, T.e_InvalidNumber_InvalidValleys, (fun z => by cases z), fun _ => ⟨true, T.e_InvalidNumber_InvalidNumber, fun _ a ha => ?_, fun z => by cases z⟩⟩
    exact ⟨_, getSet hl (by decide), rfl, rfl, dx, _, y, rfl, hd, rfl, (by show 2 ≤ sizeLine; decide), q1⟩
  · refine ⟨false, T.e_TooMany_InvalidValleys, (fun z => by cases z), fun _ => ⟨false, T.e_TooMany_InvalidNumber, (fun z => by cases z), fun _ => ⟨true, T.e_TooMany_TooMany, fun _ a ha => ?_, fun z => by cases z⟩⟩⟩
    exact ⟨_, getSet hl (by decide), rfl, rfl, dx, _, y, rfl, hd, rfl, (by show 2 ≤ sizeLine; decide), q1⟩
/-! block V20u: _law_value_at, _law_gaps, _law_random_valleys (behind bV20f) -/
abbrev Asc (gs : List Int) : Prop := gs.Pairwise fun a b => a < b
def spGaps : Sp := fun vs H Q _ => ∃ (p : Addr) (m t : Nat), vs = [.ref p, .int (t : Int)] ∧ Pot H p m ∧ m + 2 * t ≤ 1099511627776 ∧ 1 ≤ t ∧ t ≤ 100 ∧
  ∀ (H' : Hp) (l : Addr) (gs : List Int), Sx p H H' → Pot H' p (m + 2 * t) → H' l = some (.lst (gs.map V.int)) → H l = none → gs.length = t → Asc gs → (∀ g ∈ gs, 0 ≤ g ∧ g ≤ 41 * (t : Int)) → Q (.ref l) H'
/-- valleys as they are drawn -/
structure Rv (most : Nat) (ps : List P2) : Prop where
  one : 1 ≤ ps.length
  len : ps.length ≤ most
  st : Strict ps
  bd : ∀ p ∈ ps, -2000000000000000000000000000000000000000000000000000000000000 ≤ p.1 ∧ p.1 ≤ 2000000000000000000000000000000000000000000000000000000000000 ∧ -2000000000000000000000000000000000000000000000000000000000000 ≤ p.2 ∧ p.2 ≤ 2000000000000000000000000000000000000000000000000000000000000
def spRv (K : PySem.W.Frag) : Sp := fun vs H Q _ => ∃ (p : Addr) (m t : Nat), vs = [.ref p, .int (t : Int)] ∧ Pot H p m ∧ m + 4 * t + 10 ≤ 1099511627776 ∧ 1 ≤ t ∧ t ≤ 100 ∧
  ∀ (H' : Hp) (r : V) (ps : List P2), Sx p H H' → Pot H' p (m + 4 * t + 10) → Dp K H' r (.tuple (prDs ps)) → Rv t ps → Q r H'
theorem asc_snoc {gs : List Int} {x y : Int} (h : Asc gs) (e : gs.getLast? = some x) (l : x < y) : Asc (gs ++ [y]) := by
  refine List.pairwise_append.mpr ⟨h, by simp, fun a ha b hb => ?_⟩
  obtain rfl := List.mem_singleton.mp hb
  obtain ⟨r, rfl⟩ := List.getLast?_eq_some_iff.mp e
  rcases List.mem_append.mp ha with z | z
  · have := (List.pairwise_append.mp h).2.2 a z x (by simp)
    omega
  · rw [List.mem_singleton.mp z]
    exact l
theorem atI_lastZ {ns : List Int} {z : Int} (h : ns.getLast? = some z) : atI (ns.map V.int) (-1) = some (.int z) := by
  obtain ⟨r, rfl⟩ := List.getLast?_eq_some_iff.mp h
  rw [List.map_append]
  exact L2.atI_last _ _
theorem rv_of {first high : Int} {cs ds : List Int} {t most : Nat} (h1 : cs.length = t) (h2 : ds.length = t) (a1 : Asc cs) (a2 : Asc ds) (b1 : ∀ g ∈ cs, 0 ≤ g ∧ g ≤ 41 * (t : Int)) (b2 : ∀ g ∈ ds, 0 ≤ g ∧ g ≤ 41 * (t : Int)) (t1 : 1 ≤ t) (t2 : t ≤ most) (t3 : most ≤ 100)
    (f1 : -1000000000000000000000000000000000000000000000000000000000000 ≤ first ∧ first ≤ 1000000000000000000000000000000000000000000000000000000000000) (f2 : -1000000000000000000000000000000000000000000000000000000000000 ≤ high ∧ high ≤ 1000000000000000000000000000000000000000000000000000000000000) :
    Rv most ((cs.zip ds).map fun z => (first + z.1, high - z.2)) := by
  refine ⟨by rw [List.length_map, List.length_zip]; omega, by rw [List.length_map, List.length_zip]; omega, ?_, ?_⟩
  · rw [Strict, List.pairwise_map, List.pairwise_iff_getElem]
    intro i j hi hj hij
    rw [List.length_zip] at hi hj
    rw [List.getElem_zip, List.getElem_zip]
    have y1 := (List.pairwise_iff_getElem.mp a1) i j (by omega) (by omega) hij
    have y2 := (List.pairwise_iff_getElem.mp a2) i j (by omega) (by omega) hij
    dsimp only
    omega
  · intro p hp
    obtain ⟨z, hz, rfl⟩ := List.mem_map.mp hp
    have y1 := b1 z.1 (List.of_mem_zip hz).1
    have y2 := b2 z.2 (List.of_mem_zip hz).2
    dsimp only
    omega
section
variable {P : Program} {w : World} {K : PySem.W.Frag} {mg : Str → Option Value} {base : Heap}
theorem ok_lvat (T : Txt K mg) : FnOk P w K mg base CX0 1 T.f__law_value_at T.d__law_value_at ["_law_valleys", "_law_bound"] (spVat K) := by
  refine T.F__law_value_at.ok sc__law_value_at (fun vs H Q E h => ?_) (fun cdv A outer s H vs Q E hr h => ?_)
  · obtain ⟨v, ps, c, rfl, _⟩ := h
    rfl
  obtain ⟨v, ps, c, rfl, hd, q⟩ := h
  refine ⟨_, (pss_cons (ps_set (i := 2) sc__law_value_at.nd rfl (Or.inl rfl) pe_non)
      (pss_cons (ps_for PassesOwn.never rfl (pi_tup (pv 0)) (pg_tup (by rfl) (pgs_cons (pg_name (i := 3) sc__law_value_at.nd rfl (Or.inl rfl)) (pgs_cons (pg_name (i := 4) sc__law_value_at.nd rfl (Or.inl rfl)) pgs_nil)))
        (pss_one (ps_if (pt_cmpR op_le (pv 3) (pv 1) (nomark _)) (pss_one (ps_set (i := 2) sc__law_value_at.nd rfl (Or.inl rfl) (pv 4))) pss_nil)))
      (pss_one (ps_ret (pv 2))))), ?_⟩
  obtain ⟨a, xs, rfl, hs, hall⟩ := dp_tup_inv hd
  have hl : xs.length = ps.length := by rw [dpAll_length hall, prDs, List.length_map]
  refine ⟨_, rfl, a, rfl, ⟨xs, hs⟩, ?_⟩
  refine for_tup (K := K) (a := a) (xs := xs) (fun i σ G => ∃ y3 y4 : Option V, σ = [some (.ref a), some (.int c), some (repO (valAt c (ps.take i))), y3, y4] ∧ G = H) ⟨none, none, rfl, rfl⟩ (fun i σ G _ ⟨_, _, _, e⟩ => e ▸ hs) ?_ ?_
  · rintro i x σ G hi ⟨y3, y4, rfl, rfl⟩
    obtain ⟨p, ep, dx⟩ := prs_at hall hi
    obtain ⟨t, rfl, k⟩ := pr_inv dx
    have etk : ps.take (i + 1) = ps.take i ++ [p] := by rw [List.take_add_one, ep]; rfl
    have ev : valAt c (ps.take (i + 1)) = if p.1 ≤ c then some p.2 else valAt c (ps.take i) := by
      rw [etk]
      unfold valAt valFrom
      rw [List.foldl_append]
      rfl
    refine ⟨t, _, rfl, k, rfl, _, _, rfl, _, _, rfl, rfl, ?_⟩
    refine ⟨_, rfl, _, rfl, _, _, rfl, rfl, _, rfl, ?_⟩
    refine ite2 (fun g => ?_) (fun g => ?_)
    · rw [if_pos (of_decide_eq_true g)] at ev
      refine ⟨_, rfl, ?_⟩
      exact ⟨_, _, by rw [ev]; rfl, rfl⟩
    · rw [if_neg (fun z => g (decide_eq_true z))] at ev
      exact ⟨_, _, by rw [ev]; rfl, rfl⟩
  · rintro σ G ⟨y3, y4, rfl, rfl⟩
    rw [hl, List.take_length]
    exact ⟨_, rfl, q⟩
theorem ok_gaps (T : Txt K mg) : FnOk P w K mg base CX0 2 T.f__law_gaps T.d__law_gaps ["_law_source_here", "_law_total"] spGaps := by
  have g__law_draw := ok_take (P := P) (w := w) (base := base) T
  refine T.F__law_gaps.ok sc__law_gaps (fun vs H Q E h => ?_) (fun cdv A outer s H vs Q E hr h => ?_)
  · obtain ⟨p, m, t, rfl, _⟩ := h
    rfl
  obtain ⟨p, m, t, rfl, hp, hm, t1, t2, q⟩ := h
  refine ⟨_, (pss_cons (ps_set (i := 2) sc__law_gaps.nd rfl (Or.inl rfl) (pe_lst (pa_cons pe_int pa_nil)))
      (pss_cons (ps_for PassesOwn.never rfl (pi_range1 rfl T.n_range (pa_cons (pe_op op_sub (pv 1) pe_int) pa_nil)) (pg_name (i := 3) sc__law_gaps.nd rfl (Or.inl rfl))
        (pss_one (ps_expr (pe_bm PySem.F.plainAttrs_list PySem.F.slot_list_append PySem.F.type_list_append mt_append (pv 2) (pa_cons (pe_op op_add (pe_op op_add (pe_ix (r := rIxL K) ix_list (pv 2) (pe_un un_neg pe_int) (fun _ _ => rfl)) pe_int) (pe_call g__law_draw (hr.mono (by omega)) rfl T.m__law_draw T.F__law_draw.kp T.b__law_draw .nil pass0 (pa_cons (pv 0) (pa_cons (pe_ix (r := rIxL K) ix_list (pe_lst (pa_cons pe_int (pa_cons pe_int (pa_cons pe_int (pa_cons pe_int pa_nil))))) (pe_call g__law_draw (hr.mono (by omega)) rfl T.m__law_draw T.F__law_draw.kp T.b__law_draw .nil pass0 (pa_cons (pv 0) (pa_cons pe_int pa_nil))) (fun _ _ => rfl)) pa_nil)))) pa_nil)))))
      (pss_one (ps_ret (pv 2))))), ?_⟩
  obtain ⟨l0, hl0⟩ := hp.lst
  refine ⟨(by show 1 ≤ sizeLine; decide), fun l hl => ?_⟩
  have nlp : l ≠ p := fun z => by rw [z, hl0] at hl; cases hl
  refine ⟨_, rfl, _, _, rfl, rfl, _, rfl, by omega, by omega, ?_⟩
  refine for_range (lo := 0) (n := ((t : Int) - 1).toNat) (fun i σ G => ∃ (y3 : Option V) (gs : List Int) (x : Int), σ = [some (.ref p), some (.int (t : Int)), some (.ref l), y3] ∧ (∀ b o, b ≠ p → H b = some o → G b = some o) ∧ Pot G p (m + 2 * i) ∧
    G l = some (.lst (gs.map V.int)) ∧ gs.length = i + 1 ∧ gs.getLast? = some x ∧ Asc gs ∧ (∀ g ∈ gs, 0 ≤ g ∧ g ≤ 41 * (i : Int)) ∧ 0 ≤ x ∧ x ≤ 41 * (i : Int)) ⟨none, [0], 0, rfl, fun b o _ h => same_new hl _ _ h, hp.same (same_new hl), upd_same, rfl, rfl, by simp, by simp, by omega, by omega⟩ ?_ ?_
  · rintro i σ G hi ⟨y3, gs, x, rfl, sG, hpG, gl, glen, glast, gasc, gbd, x0, x1⟩
    obtain ⟨lg, hlg⟩ := hpG.lst
    refine ⟨_, rfl, ⟨.inl ⟨rfl, _, SqL.of gl⟩, _, rfl, _, rfl, l, _, _, _, rfl, rfl, SqL.of gl, atI_lastZ glast, _, _, rfl, rfl, _, rfl, (by show 4 ≤ sizeLine; decide), fun u hu => ?_⟩⟩
    have nup : u ≠ p := fun z => by rw [z, hlg] at hu; cases hu
    have nul : u ≠ l := fun z => by rw [z, gl] at hu; cases hu
    refine ⟨_, rfl, p, m + 2 * i, 4, rfl, hpG.same (same_new hu), by omega, by decide, by decide, fun G1 r s1 hp1 r0 r1 => ?_⟩
    obtain ⟨z, hz, ez⟩ := atI_int (ns := [1, 2, 6, 40]) r0 r1
    have z1 : 1 ≤ z ∧ z ≤ 40 := by
      simp only [List.mem_cons, List.not_mem_nil, or_false] at hz
      omega
    have eu := s1 u _ nup upd_same
    have gl1 : G1 l = some (.lst (gs.map V.int)) := s1 l _ nlp (by rw [upd_ne nul.symm]; exact gl)
    refine ⟨u, _, _, _, rfl, rfl, SqL.of eu, ez, p, m + 2 * i + 1, z, rfl, hp1, by omega, by omega, Nat.lt_of_le_of_lt (show z.natAbs ≤ 40 by omega) (by decide), fun G2 r2 s2 hp2 c0 c1 => ?_⟩
    have gl2 := s2 l _ nlp gl1
    refine ⟨_, _, rfl, rfl, l, _, _, rfl, rfl, gl2, by rw [List.length_map, sizeLine_eq]; omega, ?_⟩
    refine ⟨_, gs ++ [x + 1 + r2], x + 1 + r2, rfl, fun b o n h => ?_, ?_, ?_, by simp [glen], by simp, asc_snoc gasc glast (by omega), ?_, by omega, by omega⟩
    · have nb : b ≠ l := fun e => by rw [e, hl] at h; cases h
      have nu : b ≠ u := fun e => by
        have := sG b o n h
        rw [e, hu] at this
        cases this
      rw [upd_ne nb]
      exact s2 b _ n (s1 b _ n (by rw [upd_ne nu]; exact sG b o n h))
    · obtain ⟨a1, a2, a3, p1, p2⟩ := hp2.mono (show m + 2 * i + 1 + 1 ≤ m + 2 * (i + 1) by omega)
      exact ⟨a1, a2, a3, by rw [upd_ne nlp.symm]; exact p1, p2⟩
    · rw [upd_same, List.map_append]
      rfl
    · intro g hg
      rcases List.mem_append.mp hg with y | y
      · have := gbd g y
        omega
      · rw [List.mem_singleton.mp y]
        omega
  · rintro σ G ⟨y3, gs, x, rfl, sG, hpG, gl, glen, glast, gasc, gbd, x0, x1⟩
    exact ⟨_, rfl, q G l gs sG (hpG.mono (by omega)) gl hl (by omega) gasc fun g hg => by have := gbd g hg; omega⟩
theorem ok_rvs (T : Txt K mg) : FnOk P w K mg base CX0 3 T.f__law_random_valleys T.d__law_random_valleys ["_law_source_here", "_law_most"] (spRv K) := by
  have g__law_draw := ok_take (P := P) (w := w) (base := base) T
  have g__law_gaps := ok_gaps (P := P) (w := w) (base := base) T
  refine T.F__law_random_valleys.ok sc__law_random_valleys (fun vs H Q E h => ?_) (fun cdv A outer s H vs Q E hr h => ?_)
  · obtain ⟨p, m, t, rfl, _⟩ := h
    rfl
  obtain ⟨p, m, t, rfl, hp, hm, t1, t2, q⟩ := h
  refine ⟨_, (pss_cons (ps_set (i := 2) sc__law_random_valleys.nd rfl (Or.inl rfl) (pe_op op_add pe_int (pe_call g__law_draw (hr.mono (by omega)) rfl T.m__law_draw T.F__law_draw.kp T.b__law_draw .nil pass0 (pa_cons (pv 0) (pa_cons (pv 1) pa_nil)))))
      (pss_cons (ps_par (i := 3) (j := 4) (by rfl) sc__law_random_valleys.nd rfl rfl (by decide) rfl rfl (pa_cons (pe_call g__law_gaps (hr.mono (by omega)) rfl T.m__law_gaps T.F__law_gaps.kp T.b__law_gaps .nil pass0 (pa_cons (pv 0) (pa_cons (pv 2) pa_nil))) (pa_cons (pe_call g__law_gaps (hr.mono (by omega)) rfl T.m__law_gaps T.F__law_gaps.kp T.b__law_gaps .nil pass0 (pa_cons (pv 0) (pa_cons (pv 2) pa_nil))) pa_nil)) (by rfl))
      (pss_cons (ps_set (i := 5) sc__law_random_valleys.nd rfl (Or.inr rfl) (pe_ix (r := rIxL K) ix_list (pe_lst (pa_cons pe_int (pa_cons pe_int (pa_cons pe_int (pa_cons (pe_un un_neg pe_int) (pa_cons (pe_op op_sub pe_int (pe_op op_powW pe_int pe_int)) (pa_cons (pe_op op_powW pe_int pe_int) pa_nil))))))) (pe_call g__law_draw (hr.mono (by omega)) rfl T.m__law_draw T.F__law_draw.kp T.b__law_draw .nil pass0 (pa_cons (pv 0) (pa_cons pe_int pa_nil))) (fun _ _ => rfl)))
      (pss_cons (ps_set (i := 6) sc__law_random_valleys.nd rfl (Or.inr rfl) (pe_ix (r := rIxL K) ix_list (pe_lst (pa_cons pe_int (pa_cons pe_int (pa_cons (pe_un un_neg pe_int) (pa_cons pe_int (pa_cons (pe_op op_powW pe_int pe_int) (pa_cons (pe_op op_sub pe_int (pe_op op_powW pe_int pe_int)) pa_nil))))))) (pe_call g__law_draw (hr.mono (by omega)) rfl T.m__law_draw T.F__law_draw.kp T.b__law_draw .nil pass0 (pa_cons (pv 0) (pa_cons pe_int pa_nil))) (fun _ _ => rfl)))
      (pss_one (ps_ret (pe_callTy (r := rTupS K) call_tupS (by rfl) T.n_tuple (by decide +kernel) (pa_cons (pe_lc (own := [("_law_bound", 7), ("_law_depth", 8)]) (g := (gTup K 2 (gCons (gName 7) (gCons (gName 8) gNil)))) (by rfl) sc__law_random_valleys.nd (pi_zip (by rfl) T.n_zip (pa_cons (pv 3) (pa_cons (pv 4) pa_nil))) (blkOk_by (N := N__law_random_valleys) (sc := (defScope s__law_random_valleys)) (by decide +kernel)) (fun _ _ _ _ _ => (pg_tup (by rfl) (pgs_cons (pg_name (i := 7) sc__law_random_valleys.nd rfl (Or.inl rfl)) (pgs_cons (pg_name (i := 8) sc__law_random_valleys.nd rfl (Or.inl rfl)) pgs_nil)))) (fun _ _ _ _ _ => pts_nil) (fun _ _ _ _ _ => (pe_tup (pa_cons (pe_op op_add (pv 5) (pv 7)) (pa_cons (pe_op op_sub (pv 6) (pv 8)) pa_nil))))) pa_nil)))))))), ?_⟩
  refine ⟨_, rfl, _, rfl, p, m, t, rfl, hp, by omega, by omega, Nat.lt_of_le_of_lt (show ((t : Int)).natAbs ≤ 100 by omega) (by decide), fun H1 r s1 hp1 r0 r1 => ?_⟩
  obtain ⟨n, en⟩ : ∃ n : Nat, 1 + r = (n : Int) := ⟨(1 + r).toNat, by omega⟩
  refine ⟨_, _, rfl, rfl, ?_⟩
  show tSeq _ _ _ [some (.ref p), some (.int (t : Int)), some (.int (1 + r)), none, none, none, none, none, none] H1
  rw [en]
  refine ⟨_, rfl, _, rfl, p, m + 1, n, rfl, hp1, by omega, by omega, by omega, fun H2 lc cs s2 hp2 ec nc lcs asc bc => ?_⟩
  obtain ⟨l1, hl1⟩ := hp1.lst
  have ncp : lc ≠ p := fun z => by rw [z, hl1] at nc; cases nc
  refine ⟨_, rfl, _, rfl, p, m + 1 + 2 * n, n, rfl, hp2, by omega, by omega, by omega, fun H3 ld ds s3 hp3 ed nd lds asd bd => ?_⟩
  obtain ⟨l2, hl2⟩ := hp2.lst
  have ndp : ld ≠ p := fun z => by rw [z, hl2] at nd; cases nd
  have ec3 := s3 lc _ ncp ec
  have S3 := s1.trans (s2.trans s3)
  have e40 : (10 : Int) ^ (40 : Int).toNat = 10000000000000000000000000000000000000000 := by decide
  have e60 : (10 : Int) ^ (60 : Int).toNat = 1000000000000000000000000000000000000000000000000000000000000 := by decide
  have e59 : (10 : Int) ^ (59 : Int).toNat = 100000000000000000000000000000000000000000000000000000000000 := by decide
  refine ⟨_, _, rfl, ?_⟩
  -- the first capacity
  refine ⟨_, rfl, _, _, rfl, rfl, powW_of 4 (by decide) (by decide) (by decide), _, _, rfl, rfl, _, _, rfl, rfl, powW_of 4 (by decide) (by decide) (by decide), ?_⟩
  dsimp only
  rw [e40, e60]
  refine ⟨(by show 6 ≤ sizeLine; decide), fun u hu => ?_⟩
  obtain ⟨l3, hl3⟩ := hp3.lst
  have nup : u ≠ p := fun z => by rw [z, hl3] at hu; cases hu
  refine ⟨_, rfl, p, m + 1 + 2 * n + 2 * n, 6, rfl, hp3.same (same_new hu), by omega, by decide, by decide, fun H4 k s4 hp4 k0 k1 => ?_⟩
  obtain ⟨first, hf, ef⟩ := atI_int (ns := [0, 0, 3, -7, 0 - 10000000000000000000000000000000000000000, 1000000000000000000000000000000000000000000000000000000000000]) k0 k1
  refine ⟨u, _, _, _, rfl, rfl, SqL.of (s4 u _ nup upd_same), ef, ?_⟩
  have S4 : Sx p H H4 := S3.trans ((sx_new hu).trans s4)
  have ec4 := s4 lc _ ncp (same_new hu _ _ ec3)
  have ed4 := s4 ld _ ndp (same_new hu _ _ ed)
  have fb : -1000000000000000000000000000000000000000000000000000000000000 ≤ first ∧ first ≤ 1000000000000000000000000000000000000000000000000000000000000 := by
    simp only [List.mem_cons, List.not_mem_nil, or_false] at hf
    omega
  -- the first usage
  refine ⟨_, rfl, _, _, rfl, rfl, powW_of 4 (by decide) (by decide) (by decide), _, _, rfl, rfl, powW_of 4 (by decide) (by decide) (by decide), _, _, rfl, rfl, ?_⟩
  dsimp only
  rw [e59, e60]
  refine ⟨(by show 6 ≤ sizeLine; decide), fun u2 hu2 => ?_⟩
  obtain ⟨l4, hl4⟩ := hp4.lst
  have nup2 : u2 ≠ p := fun z => by rw [z, hl4] at hu2; cases hu2
  refine ⟨_, rfl, p, m + 1 + 2 * n + 2 * n + 1, 6, rfl, hp4.same (same_new hu2), by omega, by decide, by decide, fun H5 k' s5 hp5 k2 k3 => ?_⟩
  obtain ⟨high, hh, eh⟩ := atI_int (ns := [0, 0, -1, 5, 100000000000000000000000000000000000000000000000000000000000, 0 - 1000000000000000000000000000000000000000000000000000000000000]) k2 k3
  refine ⟨u2, _, _, _, rfl, rfl, SqL.of (s5 u2 _ nup2 upd_same), eh, ?_⟩
  have S5 : Sx p H H5 := S4.trans ((sx_new hu2).trans s5)
  have ec5 := s5 lc _ ncp (same_new hu2 _ _ ec4)
  have ed5 := s5 ld _ ndp (same_new hu2 _ _ ed4)
  have hb : -1000000000000000000000000000000000000000000000000000000000000 ≤ high ∧ high ≤ 1000000000000000000000000000000000000000000000000000000000000 := by
    simp only [List.mem_cons, List.not_mem_nil, or_false] at hh
    omega
  have RV := rv_of (first := first) (high := high) (cs := cs) (ds := ds) (t := n) (most := t) lcs lds asc asd bc bd (by omega) (by omega) (by omega) fb hb
  have zl : (cs.zip ds).length = n := by rw [List.length_zip]; omega
  refine ⟨_, rfl, _, rfl, lc, ld, _, _, rfl, SqL.of ec5, SqL.of ed5, fun C hC => ?_⟩
  have nC : ∀ {b : Addr} {o : HO}, H5 b = some o → b ≠ C := fun e z => by rw [z, hC] at e; cases e
  refine lc_it (walk_zip (xs := cs.map V.int) (ys := ds.map V.int) (n := n) (by rw [List.length_map, List.length_map]; omega)) (fun i F => Same H5 F ∧ ∃ ws : List V, F C = some (.lst ws) ∧ DpAll K F ws (prDs (((cs.zip ds).take i).map fun z => (first + z.1, high - z.2)))) ⟨same_new hC, [], upd_same, .nil⟩ (fun i F _ ⟨s, _⟩ => ⟨s.seq (SqL.of ec5), s.seq (SqL.of ed5)⟩) ?_ ?_
  · rintro i z F F' hi ⟨s6, ws, eC, hw⟩ ⟨t', x, y, rfl, ht', rfl, hx, hy⟩
    dsimp only at hx hy
    rw [List.getElem?_map] at hx hy
    obtain ⟨c, ec, rfl⟩ := Option.map_eq_some_iff.mp hx
    obtain ⟨d, ed, rfl⟩ := Option.map_eq_some_iff.mp hy
    have ez : (cs.zip ds)[i]? = some (c, d) := List.getElem?_zip_eq_some.mpr ⟨ec, ed⟩
    have etk : (cs.zip ds).take (i + 1) = (cs.zip ds).take i ++ [(c, d)] := by rw [List.take_add_one, ez]; rfl
    have s7 : Same F (upd F t' (.tup [.int c, .int d])) := same_new ht'
    have kt : SqT K (upd F t' (.tup [.int c, .int d])) t' [.int c, .int d] := SqT.of upd_same
    have eC7 := s7 _ _ eC
    generalize (upd F t' (.tup [.int c, .int d])) = F2 at s7 kt eC7 ⊢
    refine ⟨t', _, rfl, kt, rfl, _, _, rfl, _, _, rfl, rfl, rfl, ?_⟩
    unfold tYes
    refine iteT ?_
    refine ⟨_, rfl, _, rfl, _, _, rfl, rfl, _, rfl, _, rfl, _, _, rfl, rfl, (by show 2 ≤ sizeLine; decide), fun v hv => ?_⟩
    have s8 : Same F2 (upd F2 v (.tup [.int (first + c), .int (high - d)])) := same_new hv
    have dv : Dp K (upd F2 v (.tup [.int (first + c), .int (high - d)])) (.ref v) (prD (first + c, high - d)) := .tup (SqT.of upd_same) (.cons (.int _) (.cons (.int _) .nil))
    have eC8 := s8 _ _ eC7
    generalize (upd F2 v (.tup [.int (first + c), .int (high - d)])) = F3 at s8 dv eC8 ⊢
    have wl : ws.length ≤ 100 := by
      have := dpAll_length hw
      rw [prDs, List.length_map, List.length_map, List.length_take] at this
      omega
    have kk : ∀ b zs, SqT K F3 b zs → SqT K (upd F3 C (.lst (ws ++ [.ref v]))) b zs := fun b zs h => (sx_upd (p := C)).sqT eC8 h
    refine ⟨ws, eC8, small1000 (by omega), fun b o e => by rw [upd_ne (nC e)]; exact s8 _ _ (s7 _ _ (s6 _ _ e)), _, upd_same, ?_⟩
    rw [etk, List.map_append, prDs, List.map_append]
    exact dpAll_append (dpAll_keep kk (noLs_prV _) (dpAll_same (s7.trans s8) hw)) (.cons (dp_keep kk (noLs_one _) dv) .nil)
  · rintro F ⟨s6, ws, eC, hw⟩
    rw [← zl, List.take_length] at hw
    refine ⟨C, ws, rfl, .inl ⟨SqL.of eC, fun t' ht' => ?_⟩⟩
    have s7 : Same F (upd F t' (.tup ws)) := same_new ht'
    exact q _ _ _ (S5.trans (Same.sx (s6.trans s7))) ((hp5.same (s6.trans s7)).mono (by omega)) (.tup (SqT.of upd_same) (dpAll_same s7 hw)) RV
end
/-! block V20s: _law_shifts_right (behind bV20n) -/
theorem rv_val {t : Nat} {ps : List P2} (h : Rv t ps) (ht : t ≤ 400) : valB (.tuple (prDs ps)) = true := valB_iff.mpr ⟨ps, rfl, h.one, Nat.le_trans h.len ht, h.st⟩
theorem numB_of {i : Int} (h1 : -N61 < i) (h2 : i < N61) : numB (.int i) = true := by
  rw [numB_int, decide_eq_true h1, decide_eq_true h2] <;> rfl
theorem prDs_inj : ∀ {ps qs : List P2}, prDs ps = prDs qs → ps = qs
  | [], [], _ => rfl
  | [], q :: qs, h => by cases h
  | p :: ps, [], h => by cases h
  | (a, b) :: ps, (c, d) :: qs, h => by
    have h1 : prD (a, b) = prD (c, d) := (List.cons.inj h).1
    have h2 : prDs ps = prDs qs := (List.cons.inj h).2
    have e1 : a = c := by injection h1 with h1; injection h1 with h1 _; injection h1
    have e2 : b = d := by injection h1 with h1; injection h1 with _ h1; injection h1 with h1 _; injection h1
    rw [e1, e2, prDs_inj h2]
theorem tup_inj {ps qs : List P2} (h : PyData.tuple (prDs ps) = .tuple (prDs qs)) : ps = qs := by
  injection h with h
  exact prDs_inj h
theorem int_inj {a b : Int} (h : PyData.int a = .int b) : a = b := by injection h
theorem sh_use {K : PySem.W.Frag} {CV CN : Addr} {H : Hp} {Q : VK} {E : XK} {v : V} {ps : List P2} {c l : Int} (hd : Dp K H v (.tuple (prDs ps))) (hv : valB (.tuple (prDs ps)) = true) (hc : numB (.int c) = true) (hl : numB (.int l) = true)
    (q : ∀ (H' : Hp) (r : V), Same H H' → Dp K H' r (.tuple (prDs (movedP c l ps))) → Q r H') : spSh K CV CN [v, .int c, .int l] H Q E := by
  unfold spSh
  refine ⟨v, .int c, .int l, _, _, _, rfl, hd, .int c, .int l, (fun z => by rw [hv] at z; cases z), (fun _ z => by rw [hc] at z; cases z), (fun _ _ z => by rw [hl] at z; cases z), fun qs c' l' e1 e2 e3 _ _ _ H' r s d => ?_⟩
  rw [← tup_inj e1, ← int_inj e2, ← int_inj e3] at d
  exact q H' r s d
theorem va_use {K : PySem.W.Frag} {CV CN : Addr} {H : Hp} {Q : VK} {E : XK} {v : V} {ps : List P2} {c : Int} (hd : Dp K H v (.tuple (prDs ps))) (hv : valB (.tuple (prDs ps)) = true) (hc : numB (.int c) = true)
    (q : ∀ (H' : Hp), Same H H' → Q (repO (valAt c ps)) H') : spVA K CV CN [v, .int c] H Q E := by
  unfold spVA
  refine ⟨v, .int c, _, _, rfl, hd, .int c, (fun z => by rw [hv] at z; cases z), (fun _ z => by rw [hc] at z; cases z), fun qs c' e1 e2 _ _ H' s => ?_⟩
  rw [← tup_inj e1, ← int_inj e2]
  exact q H' s
theorem fc_use {K : PySem.W.Frag} {CV CN : Addr} {H : Hp} {Q : VK} {E : XK} {v : V} {p : P2} {ps : List P2} {c : Int} (hd : Dp K H v (.tuple (prDs (p :: ps)))) (hv : valB (.tuple (prDs (p :: ps))) = true) (hc : numB (.int c) = true) (hp : p.1 ≤ c)
    (q : ∀ (H' : Hp) (r : V), Same H H' → Dp K H' r (.tuple (prDs (fromP c (p :: ps)))) → Q r H') : spFC K CV CN [v, .int c] H Q E := by
  unfold spFC
  refine ⟨v, .int c, _, _, rfl, hd, .int c, (fun z => by rw [hv] at z; cases z), (fun _ z => by rw [hc] at z; cases z), (fun p' qs c' e1 e2 _ _ hlt => ?_), fun p' qs c' e1 e2 _ _ hle H' r s d => ?_⟩
  · have z := tup_inj e1
    cases z
    rw [← int_inj e2] at hlt
    omega
  · have z := tup_inj e1
    cases z
    rw [← int_inj e2] at d
    exact q H' r s d
theorem fc_low {K : PySem.W.Frag} {CV CN : Addr} {H : Hp} {Q : VK} {E : XK} {v : V} {p : P2} {ps : List P2} {c : Int} (hd : Dp K H v (.tuple (prDs (p :: ps)))) (hv : valB (.tuple (prDs (p :: ps))) = true) (hp : c < p.1)
    (q : badN K CN H E (.int c)) : spFC K CV CN [v, .int c] H Q E := by
  unfold spFC
  refine ⟨v, .int c, _, _, rfl, hd, .int c, (fun z => by rw [hv] at z; cases z), (fun _ _ => q), (fun p' qs c' e1 e2 _ _ hlt => q), fun p' qs c' e1 e2 _ _ hle H' r s d => ?_⟩
  have z := tup_inj e1
  cases z
  rw [← int_inj e2] at hle
  omega
theorem eqv_prs : ∀ ps : List P2, PyData.eqvAll (prDs ps) (prDs ps) = true
  | [] => by simp [PyData.eqvAll]
  | p :: ps => by
    have := eqv_prs ps
    simp only [prDs, List.map_cons, PyData.eqvAll] at *
    rw [this]
    simp [PyData.eqv, PyData.eqvAll]
theorem prs_layV : ∀ ps : List P2, PyData.canLayAll0 (prDs ps) = true
  | [] => rfl
  | p :: ps => by
    show PyData.canLayAll0 (prD p :: prDs ps) = true
    simp only [PyData.canLayAll0, prD, PyData.canLay0, prs_layV ps, Bool.and_self]
theorem prs_depthV : ∀ ps : List P2, PyData.depthAll (prDs ps) ≤ 2
  | [] => by simp [prDs, PyData.depthAll]
  | p :: ps => by
    have h1 := prs_depthV ps
    show PyData.depthAll (prD p :: prDs ps) ≤ 2
    simp only [PyData.depthAll, prD, PyData.depth]
    omega
theorem shaped_tps (ps : List P2) : SeqAt.shaped (.tuple (prDs ps)) = true := by
  have h := prs_depthV ps
  unfold SeqAt.shaped
  rw [Bool.and_eq_true, decide_eq_true_eq]
  refine ⟨by simp only [PyData.canLay0]; exact prs_layV ps, ?_⟩
  simp only [PyData.depth]
  omega
theorem shaped_four (a b c d : List P2) : SeqAt.shaped (.list [.tuple (prDs a), .tuple (prDs b), .tuple (prDs c), .tuple (prDs d)]) = true := by
  have h1 := prs_depthV a
  have h2 := prs_depthV b
  have h3 := prs_depthV c
  have h4 := prs_depthV d
  unfold SeqAt.shaped
  rw [Bool.and_eq_true, decide_eq_true_eq]
  refine ⟨by simp only [PyData.canLay0, PyData.canLayAll0, prs_layV, Bool.and_self], ?_⟩
  simp only [PyData.depth, PyData.depthAll]
  omega
theorem eqv_four (a b c d : List P2) : PyData.eqv (.list [.tuple (prDs a), .tuple (prDs b), .tuple (prDs c), .tuple (prDs d)]) (.list [.tuple (prDs a), .tuple (prDs b), .tuple (prDs c), .tuple (prDs d)]) = true := by
  simp only [PyData.eqv, PyData.eqvAll, eqv_prs, Bool.and_self]
def spShR (K : PySem.W.Frag) : Sp := fun vs H Q _ => ∃ (p : Addr) (m : Nat) (v : V) (ps : List P2), vs = [.ref p, v] ∧ Pot H p m ∧ m + 2 ≤ 1099511627776 ∧ Dp K H v (.tuple (prDs ps)) ∧ Rv 12 ps ∧ ∀ H', Sx p H H' → Pot H' p (m + 2) → Q (.bl true) H'
section
variable {P : Program} {w : World} {K : PySem.W.Frag} {mg : Str → Option Value} {base : Heap}
end
/-! block Least: least_usages and _law_valleys (behind bVall) -/
abbrev keyP (p : P2) : List Int := [p.1, p.2]
def backP : List Int → P2
  | a :: b :: _ => (a, b)
  | _ => (0, 0)
theorem keys_pairs {K : PySem.W.Frag} {H : Hp} : ∀ {vs : List V} {ps : List P2}, DpAll K H vs (prDs ps) → KeysT K H vs (ps.map keyP)
  | _, [], h => by
    cases h
    exact .nil
  | _, p :: ps, h => by
    cases h with
    | cons hx hr =>
    obtain ⟨t, rfl, k⟩ := pr_inv hx
    exact .cons k (by simp) (keys_pairs hr)
theorem pairs_keys {K : PySem.W.Frag} {H : Hp} : ∀ {vs : List V} {ps : List P2}, KeysT K H vs (ps.map keyP) → DpAll K H vs (prDs ps)
  | _, [], h => by
    cases h
    exact .nil
  | _, p :: ps, h => by
    cases h with
    | cons k ne r =>
    exact .cons (.tup k (.cons (.int _) (.cons (.int _) .nil))) (pairs_keys r)
theorem sorted_pairs {ls : List (List Int)} {ps : List P2} (ho : ls.Pairwise fun x y => HT.lexLt y x = false) (hp : ls.Perm (ps.map keyP)) :
    ∃ qs : List P2, ls = qs.map keyP ∧ qs.Perm ps ∧ qs.Pairwise fun x y => x.1 < y.1 ∨ (x.1 = y.1 ∧ x.2 ≤ y.2) := by
  have hb : ∀ l ∈ ls, ∃ p : P2, l = keyP p := fun l hl => by
    obtain ⟨p, _, e⟩ := List.mem_map.mp (hp.mem_iff.mp hl)
    exact ⟨p, e.symm⟩
  have e1 : (ls.map backP).map keyP = ls := by
    rw [List.map_map]
    have : ls.map (keyP ∘ backP) = ls.map id := List.map_congr_left fun l hl => by
      obtain ⟨p, rfl⟩ := hb l hl
      rfl
    rw [this, List.map_id]
  have e2 : (ls.map backP).Perm ps := by
    have := hp.map backP
    rw [List.map_map] at this
    have e3 : ps.map (backP ∘ keyP) = ps.map id := List.map_congr_left fun p _ => rfl
    rw [e3, List.map_id] at this
    exact this
  refine ⟨ls.map backP, e1.symm, e2, ?_⟩
  rw [← e1, List.pairwise_map] at ho
  refine ho.imp fun {x y} h => ?_
  rw [HT.lexLt_cons, HT.lexLt_cons] at h
  by_cases e : y.1 = x.1
  · rw [if_pos e] at h
    by_cases e4 : y.2 = x.2
    · exact .inr ⟨e.symm, by omega⟩
    · rw [if_neg e4] at h
      have := of_decide_eq_false h
      exact .inr ⟨e.symm, by omega⟩
  · rw [if_neg e] at h
    have := of_decide_eq_false h
    exact .inl (by omega)
theorem behind_take {qs : List P2} {i : Nat} {p : P2} (ho : qs.Pairwise fun x y => x.1 < y.1 ∨ (x.1 = y.1 ∧ x.2 ≤ y.2)) (hi : qs[i]? = some p) : Behind (qs.take i) p := by
  intro q hq
  obtain ⟨j, hj, rfl⟩ := List.getElem_of_mem hq
  rw [List.length_take] at hj
  obtain ⟨hi1, rfl⟩ := List.getElem?_eq_some_iff.mp hi
  rw [List.getElem_take]
  exact (List.pairwise_iff_getElem.mp ho) j i (by omega) hi1 (by omega)
theorem IsVal.perm {P Q V : List P2} (h : IsVal P V) (e : ∀ p, p ∈ P ↔ p ∈ Q) : IsVal Q V :=
  ⟨h.strict, fun v hv => (e v).mp (h.sub v hv), fun p hp => h.cov p ((e p).mpr hp)⟩
theorem dp_last {K : PySem.W.Frag} {H : Hp} {rs : List V} {ps : List P2} {v : P2} (h : DpAll K H rs (prDs ps)) (e : ps.getLast? = some v) : ∃ t, atI rs (-1) = some (.ref t) ∧ SqT K H t [.int v.1, .int v.2] := by
  obtain ⟨l, rfl⟩ := List.getLast?_eq_some_iff.mp e
  have e2 : prDs (l ++ [v]) = prDs l ++ [prD v] := by rw [prDs, List.map_append]; rfl
  rw [e2] at h
  have hl : rs.length = l.length + 1 := by rw [dpAll_length h, List.length_append, prDs, List.length_map]; rfl
  have hne : rs ≠ [] := fun z => by rw [z] at hl; simp at hl
  obtain ⟨x, r', e3⟩ : ∃ x r', rs = r' ++ [x] := ⟨rs.getLast hne, rs.dropLast, (List.dropLast_concat_getLast hne).symm⟩
  subst e3
  have hi : (r' ++ [x])[l.length]? = some x := by
    rw [List.length_append, List.length_singleton] at hl
    have : l.length = r'.length := by omega
    rw [this]
    simp
  obtain ⟨d, ed, hd⟩ := dpAll_get h hi
  have : d = prD v := by
    rw [List.getElem?_append_right (by rw [prDs, List.length_map]; exact Nat.le_refl _)] at ed
    simpa [prDs] using ed.symm
  subst this
  obtain ⟨t, rfl, k⟩ := pr_inv hd
  exact ⟨t, L2.atI_last _ _, k⟩
def spLeast (K : PySem.W.Frag) : Sp := fun vs H Q _ => ∃ (a : Addr) (xs : List V) (ps : List P2), vs = [.ref a] ∧ SqT K H a xs ∧ DpAll K H xs (prDs ps) ∧ ps.length ≤ 1000 ∧
  ∀ (H' : Hp) (t : Addr) (W : List P2), Same H H' → Dp K H' (.ref t) (.tuple (prDs W)) → IsVal ps W → Q (.ref t) H'
theorem noLs_pr : ∀ ps : List P2, noLs (prDs ps) = true
  | [] => rfl
  | p :: ps => by
    have := noLs_pr ps
    show noLs (prD p :: prDs ps) = true
    simp only [noLs, noL, this, Bool.and_self]
theorem prs_lay : ∀ ps : List P2, PyData.canLayAll0 (prDs ps) = true
  | [] => rfl
  | p :: ps => by
    show PyData.canLayAll0 (prD p :: prDs ps) = true
    simp only [PyData.canLayAll0, prD, PyData.canLay0, prs_lay ps, Bool.and_self]
theorem prs_depth : ∀ ps : List P2, PyData.depthAll (prDs ps) ≤ 2
  | [] => by simp [prDs, PyData.depthAll]
  | p :: ps => by
    have h1 := prs_depth ps
    show PyData.depthAll (prD p :: prDs ps) ≤ 2
    simp only [PyData.depthAll, prD, PyData.depth]
    omega
theorem shaped_prs (ps : List P2) : SeqAt.shaped (.list (prDs ps)) = true := by
  have h := prs_depth ps
  have e : (PyData.list (prDs ps)).depth ≤ 64 := by
    simp only [PyData.depth]
    omega
  unfold SeqAt.shaped
  rw [decide_eq_true e]
  simp only [PyData.canLay0, prs_lay ps, Bool.and_self]
section
variable {P : Program} {w : World} {K : PySem.W.Frag} {mg : Str → Option Value} {base : Heap}
theorem ok_least (T : Txt K mg) : FnOk P w K mg base CX0 1 T.f_least_usages T.d_least_usages ["pairs"] (spLeast K) := by
  refine T.F_least_usages.ok sc_least_usages (fun vs H Q E h => ?_) (fun cdv A outer s H vs Q E hr h => ?_)
  · obtain ⟨a, xs, ps, rfl, _⟩ := h
    rfl
  obtain ⟨a, xs, ps, rfl, hs, hd, hl, q⟩ := h
  refine ⟨_, (pss_cons (ps_set (i := 1) sc_least_usages.nd rfl (Or.inl rfl) (pe_lst pa_nil))
      (pss_cons (ps_for PassesOwn.never rfl (pi_list (pe_callB (r := rSortTT K) cr_sortTT (by rfl) T.n_sorted (by decide +kernel) (pa_cons (pv 0) pa_nil))) (pg_tup (by rfl) (pgs_cons (pg_name (i := 2) sc_least_usages.nd rfl (Or.inl rfl)) (pgs_cons (pg_name (i := 3) sc_least_usages.nd rfl (Or.inl rfl)) pgs_nil)))
        (pss_one (ps_if (PW.pt (pw_or (pt_not (pt_truth (pv 1) (by intro _; rfl))) (pw_or1 (pt_cmpR op_lt (pv 3) (pe_ix (r := rIxT K) ix_tup (pe_ix (r := rIxL K) ix_list (pv 1) (pe_un un_neg pe_int) (fun _ _ => rfl)) pe_int (fun _ _ => rfl)) (nomark _))))) (pss_one (ps_expr (pe_bm PySem.F.plainAttrs_list PySem.F.slot_list_append PySem.F.type_list_append mt_append (pv 1) (pa_cons (pe_tup (pa_cons (pv 2) (pa_cons (pv 3) pa_nil))) pa_nil)))) pss_nil)))
      (pss_one (ps_ret (pe_callTy (r := rTupS K) call_tupS (by rfl) T.n_tuple (by decide +kernel) (pa_cons (pv 1) pa_nil)))))), ?_⟩
  refine ⟨(by show 0 ≤ sizeLine; decide), fun r hr => ?_⟩
  have s0 : Same H (upd H r (.lst [])) := same_new hr
  have er0 : upd H r (.lst []) r = some (.lst []) := upd_same
  generalize (upd H r (.lst [])) = H1 at s0 er0 ⊢
  refine ⟨_, rfl, a, xs, ps.map keyP, rfl, same_sqT s0 hs, keys_pairs (dpAll_same s0 hd), fun ys ls p hk ho hperm hp => ?_⟩
  obtain ⟨qs, rfl, hqp, hqo⟩ := sorted_pairs ho hperm
  have s1 : Same H1 (upd H1 p (.lst ys)) := same_new hp
  have ep : upd H1 p (.lst ys) p = some (.lst ys) := upd_same
  have nrp : p ≠ r := fun z => by rw [z, er0] at hp; cases hp
  have dys := dpAll_same s1 (pairs_keys hk)
  have er1 := s1 _ _ er0
  have s01 := s0.trans s1
  generalize (upd H1 p (.lst ys)) = H2 at s1 ep dys er1 s01 ⊢
  have yl : ys.length = qs.length := by rw [dpAll_length dys, prDs, List.length_map]
  have ql : qs.length ≤ 1000 := by rw [hqp.length_eq]; exact hl
  refine ⟨p, rfl, ⟨ys, SqL.of ep⟩, ?_⟩
  refine for_list (K := K) (a := p) (xs := ys) (fun i σ G => ∃ (y2 y3 : Option V) (rs : List V) (W : List P2), σ = [some (.ref a), some (.ref r), y2, y3] ∧ Sx r H2 G ∧ G r = some (.lst rs) ∧ DpAll K G rs (prDs W) ∧ Found (qs.take i) W ∧ W.length ≤ i)
    ⟨none, none, [], [], rfl, Sx.refl, er1, .nil, by simpa using Found.nil, by simp⟩ ?_ ?_ ?_
  · rintro i σ G _ ⟨_, _, _, _, _, sx, _⟩
    exact SqL.of (sx _ _ nrp ep)
  · rintro i x σ G hi ⟨y2, y3, rs, W, rfl, sx, er, dW, fW, lW⟩
    obtain ⟨pp, epp, dx⟩ := prs_at dys hi
    obtain ⟨t, rfl, kt⟩ := pr_inv (dp_keep (fun b xs h => sx.sqT er1 h) rfl dx)
    have hb := behind_take hqo epp
    have et : qs.take (i + 1) = qs.take i ++ [pp] := by rw [List.take_add_one, epp]; rfl
    have hi1 := (List.getElem?_eq_some_iff.mp epp).1
    have rl : rs.length = W.length := by rw [dpAll_length dW, prDs, List.length_map]
    refine ⟨t, _, rfl, kt, rfl, _, _, rfl, _, _, rfl, rfl, ?_⟩
    -- a new row
    have add : ∀ (c : ∀ v, W.getLast? = some v → pp.2 < v.2) (G2 : Hp) (t2 : Addr), G t2 = none → G2 = upd (upd G t2 (.tup [.int pp.1, .int pp.2])) r (.lst (rs ++ [.ref t2])) →
        ∃ (y2 y3 : Option V) (rs : List V) (W : List P2), [some (.ref a), some (.ref r), some (.int pp.1), some (.int pp.2)] = [some (.ref a), some (.ref r), y2, y3] ∧ Sx r H2 G2 ∧ G2 r = some (.lst rs) ∧ DpAll K G2 rs (prDs W) ∧ Found (qs.take (i + 1)) W ∧ W.length ≤ i + 1 := by
      rintro c G2 t2 ht2 rfl
      have s3 : Same G (upd G t2 (.tup [.int pp.1, .int pp.2])) := same_new ht2
      have k2 : SqT K (upd G t2 (.tup [.int pp.1, .int pp.2])) t2 [.int pp.1, .int pp.2] := SqT.of upd_same
      generalize (upd G t2 (.tup [.int pp.1, .int pp.2])) = G1 at s3 k2 ⊢
      have er3 := s3 _ _ er
      have kk : ∀ b xs, SqT K G1 b xs → SqT K (upd G1 r (.lst (rs ++ [.ref t2]))) b xs := fun b xs h => (sx_upd (p := r)).sqT er3 h
      refine ⟨_, _, _, W ++ [pp], rfl, sx.trans ((Same.sx s3).trans sx_upd), upd_same, ?_, ?_, by rw [List.length_append, List.length_singleton]; omega⟩
      · have e : prDs (W ++ [pp]) = prDs W ++ [prD pp] := by rw [prDs, List.map_append]; rfl
        rw [e]
        exact dpAll_append (dpAll_keep kk (noLs_pr W) (dpAll_same s3 dW)) (.cons (.tup (kk _ _ k2) (.cons (.int _) (.cons (.int _) .nil))) .nil)
      · rw [et]
        exact fW.add hb c
    have skip : ∀ v, W.getLast? = some v → ¬ pp.2 < v.2 →
        ∃ (y2 y3 : Option V) (rs : List V) (W : List P2), [some (.ref a), some (.ref r), some (.int pp.1), some (.int pp.2)] = [some (.ref a), some (.ref r), y2, y3] ∧ Sx r H2 G ∧ G r = some (.lst rs) ∧ DpAll K G rs (prDs W) ∧ Found (qs.take (i + 1)) W ∧ W.length ≤ i + 1 := by
      intro v hv hn
      refine ⟨_, _, rs, W, rfl, sx, er, dW, ?_, by omega⟩
      rw [et]
      exact fW.skip hv hb hn
    cases eW : W.getLast? with
    | none =>
      rw [List.getLast?_eq_none_iff] at eW
      subst eW
      have rs0 : rs = [] := List.length_eq_zero_iff.mp (by rw [rl]; rfl)
      subst rs0
      refine ⟨_, rfl, _, .inl ⟨[], SqL.of er, rfl⟩, ?_⟩
      refine iteT ?_
      refine iteT ?_
      refine ⟨_, rfl, .inl ⟨rfl, [], SqL.of er⟩, _, rfl, _, rfl, (by show 2 ≤ sizeLine; decide), fun t2 ht2 => ?_⟩
      have s3 : Same G (upd G t2 (.tup [.int pp.1, .int pp.2])) := same_new ht2
      refine ⟨r, [], _, rfl, rfl, s3 _ _ er, by decide, ?_⟩
      exact add (fun v hv => by cases hv) _ t2 ht2 rfl
    | some v =>
      obtain ⟨tl, eat, kl⟩ := dp_last dW eW
      have rs1 : rs.isEmpty = false := by
        cases rs with
        | nil => rw [List.getLast?_eq_some_iff] at eW; obtain ⟨l, rfl⟩ := eW; simp at rl
        | cons _ _ => rfl
      refine ⟨_, rfl, _, .inl ⟨rs, SqL.of er, rfl⟩, ?_⟩
      rw [rs1]
      refine iteF ?_
      refine ⟨_, rfl, _, rfl, _, rfl, _, _, _, _, rfl, rfl, SqL.of er, eat, _, _, _, _, rfl, rfl, kl, atI_at (j := 1) rfl rfl, _, _, rfl, rfl, _, rfl, ?_⟩
      refine ite2 (fun g => ?_) (fun g => ?_)
      · refine ⟨_, rfl, .inl ⟨rfl, rs, SqL.of er⟩, _, rfl, _, rfl, (by show 2 ≤ sizeLine; decide), fun t2 ht2 => ?_⟩
        have s3 : Same G (upd G t2 (.tup [.int pp.1, .int pp.2])) := same_new ht2
        refine ⟨r, rs, _, rfl, rfl, s3 _ _ er, small1000 (by omega), ?_⟩
        exact add (fun u hu => by rw [eW] at hu; cases hu; exact of_decide_eq_true g) _ t2 ht2 rfl
      · exact skip v eW fun z => g (decide_eq_true z)
  · rintro σ G ⟨y2, y3, rs, W, rfl, sx, er, dW, fW, lW⟩
    rw [yl, List.take_length] at fW
    refine ⟨_, rfl, r, rs, rfl, .inl ⟨SqL.of er, fun t ht => ?_⟩⟩
    have s3 : Same G (upd G t (.tup rs)) := same_new ht
    exact q _ t W ((Same.sx_free s01 hr sx).trans s3) (.tup (SqT.of upd_same) (dpAll_same s3 dW)) (fW.val.perm fun p => hqp.mem_iff)
end
/-! block V21m: fronts of pairs (behind bV20f) -/
/-- R lies among L, and each of L has one of R that is no later and no higher -/
structure Dom (R L : List P2) : Prop where
  sub : ∀ p ∈ R, p ∈ L
  dom : ∀ q ∈ L, ∃ p ∈ R, p.1 ≤ q.1 ∧ p.2 ≤ q.2
theorem strict_one {R : List P2} (h : Strict R) {p q : P2} (hp : p ∈ R) (hq : q ∈ R) (h1 : p.1 ≤ q.1) (h2 : p.2 ≤ q.2) : p = q := by
  obtain ⟨i, hi, rfl⟩ := List.getElem_of_mem hp
  obtain ⟨j, hj, rfl⟩ := List.getElem_of_mem hq
  rcases Nat.lt_trichotomy i j with z | z | z
  · have := ((List.pairwise_iff_getElem.mp h) i j hi hj z).2
    omega
  · subst z
    rfl
  · have := ((List.pairwise_iff_getElem.mp h) j i hj hi z).1
    omega
theorem front_sub {R S L : List P2} (hR : Strict R) (dR : Dom R L) (dS : Dom S L) : ∀ p ∈ R, p ∈ S := by
  intro p hp
  obtain ⟨s, hs, s1, s2⟩ := dS.dom p (dR.sub p hp)
  obtain ⟨r, hr, r1, r2⟩ := dR.dom s (dS.sub s hs)
  have e := strict_one hR hr hp (by omega) (by omega)
  subst e
  have : s = r := Prod.ext (by omega) (by omega)
  rw [← this]
  exact hs
theorem strict_eq : ∀ {R S : List P2}, Strict R → Strict S → (∀ p, p ∈ R ↔ p ∈ S) → R = S
  | [], [], _, _, _ => rfl
  | [], q :: S, _, _, h => by
    have := (h q).mpr (List.mem_cons_self ..)
    cases this
  | p :: R, [], _, _, h => by
    have := (h p).mp (List.mem_cons_self ..)
    cases this
  | p :: R, q :: S, hR, hS, h => by
    obtain ⟨a1, a2⟩ := List.pairwise_cons.mp hR
    obtain ⟨b1, b2⟩ := List.pairwise_cons.mp hS
    have e : p = q := by
      rcases List.mem_cons.mp ((h p).mp (List.mem_cons_self ..)) with z | z
      · exact z
      · rcases List.mem_cons.mp ((h q).mpr (List.mem_cons_self ..)) with y | y
        · exact y.symm
        · have := (b1 p z).1
          have := (a1 q y).1
          omega
    subst e
    rw [strict_eq a2 b2 fun x => ⟨fun hx => ?_, fun hx => ?_⟩]
    · rcases List.mem_cons.mp ((h x).mp (List.mem_cons_of_mem _ hx)) with z | z
      · have := (a1 x hx).1
        rw [z] at this
        omega
      · exact z
    · rcases List.mem_cons.mp ((h x).mpr (List.mem_cons_of_mem _ hx)) with z | z
      · have := (b1 x hx).1
        rw [z] at this
        omega
      · exact z
theorem front_eq {R S L : List P2} (hR : Strict R) (hS : Strict S) (dR : Dom R L) (dS : Dom S L) : R = S := strict_eq hR hS fun p => ⟨front_sub hR dR dS p, front_sub hS dS dR p⟩
theorem Dom.swap {R L M : List P2} (h : Dom R (L ++ M)) : Dom R (M ++ L) :=
  ⟨fun p hp => List.mem_append.mpr (List.mem_append.mp (h.sub p hp)).symm, fun q hq => h.dom q (List.mem_append.mpr (List.mem_append.mp hq).symm)⟩
theorem Dom.perm {R L M : List P2} (h : Dom R L) (p : L.Perm M) : Dom R M := ⟨fun x hx => p.mem_iff.mp (h.sub x hx), fun q hq => h.dom q (p.mem_iff.mpr hq)⟩
theorem Dom.own {R L M : List P2} (h : Dom R (L ++ M)) : Dom R (R ++ L) :=
  ⟨fun p hp => List.mem_append_left _ hp, fun q hq => (List.mem_append.mp hq).elim (fun z => ⟨q, z, Int.le_refl _, Int.le_refl _⟩) fun z => h.dom q (List.mem_append_left _ z)⟩
theorem Dom.self (L : List P2) : Dom L (L ++ L) := ⟨fun p hp => List.mem_append_left _ hp, fun q hq => ⟨q, (List.mem_append.mp hq).elim id id, Int.le_refl _, Int.le_refl _⟩⟩
theorem strict_nodup {R : List P2} (h : Strict R) : R.Nodup := h.imp fun {p q} z e => by
  have := z.1
  rw [e] at this
  omega
/-- where no one is above another, the front is all -/
theorem front_all {R L : List P2} (hR : Strict R) (d : Dom R L) (nd : L.Nodup) (an : ∀ p ∈ L, ∀ q ∈ L, p.1 ≤ q.1 → p.2 ≤ q.2 → p = q) : R.length = L.length := by
  refine List.Perm.length_eq ((List.perm_ext_iff_of_nodup (strict_nodup hR) nd).mpr fun p => ⟨d.sub p, fun hp => ?_⟩)
  obtain ⟨r, hr, r1, r2⟩ := d.dom p hp
  rw [← an r (d.sub r hr) p hp r1 r2]
  exact hr
theorem strict_snoc {R : List P2} {l p : P2} (h : Strict R) (e : R.getLast? = some l) (h1 : l.1 < p.1) (h2 : p.2 < l.2) : Strict (R ++ [p]) := by
  refine List.pairwise_append.mpr ⟨h, List.pairwise_singleton .., fun r hr q hq => ?_⟩
  rw [List.mem_singleton] at hq
  subst hq
  have hl : l ∈ R := List.mem_of_getLast? e
  obtain ⟨i, hi, rfl⟩ := List.getElem_of_mem hr
  rw [List.getLast?_eq_getElem?] at e
  obtain ⟨hj, rfl⟩ := List.getElem?_eq_some_iff.mp e
  rcases Nat.lt_or_ge i (R.length - 1) with z | z
  · have := (List.pairwise_iff_getElem.mp h) i (R.length - 1) hi hj z
    omega
  · have : i = R.length - 1 := by omega
    subst this
    exact ⟨h1, h2⟩
theorem last_low {R : List P2} {l : P2} (h : Strict R) (e : R.getLast? = some l) : ∀ r ∈ R, r.1 ≤ l.1 ∧ l.2 ≤ r.2 := by
  intro r hr
  obtain ⟨i, hi, rfl⟩ := List.getElem_of_mem hr
  rw [List.getLast?_eq_getElem?] at e
  obtain ⟨hj, rfl⟩ := List.getElem?_eq_some_iff.mp e
  rcases Nat.lt_or_ge i (R.length - 1) with z | z
  · have := (List.pairwise_iff_getElem.mp h) i (R.length - 1) hi hj z
    omega
  · have : i = R.length - 1 := by omega
    subst this
    exact ⟨Int.le_refl _, Int.le_refl _⟩
/-- ascending, the lower first -/
def Lex (L : List P2) : Prop := L.Pairwise fun p q => p.1 < q.1 ∨ p.1 = q.1 ∧ p.2 ≤ q.2
/-- one step of the front: over what came before, p comes -/
theorem front_step {R L : List P2} {p : P2} (hR : Strict R) (d : Dom R L) (hp : ∀ q ∈ L, q.1 < p.1 ∨ q.1 = p.1 ∧ q.2 ≤ p.2) :
    (R = [] → Strict [p] ∧ Dom [p] (L ++ [p])) ∧ (∀ l, R.getLast? = some l → (p.2 < l.2 → Strict (R ++ [p]) ∧ Dom (R ++ [p]) (L ++ [p])) ∧ (¬ p.2 < l.2 → Dom R (L ++ [p]))) := by
  refine ⟨fun e => ?_, fun l e => ?_⟩
  · subst e
    refine ⟨List.pairwise_singleton .., fun q hq => List.mem_append_right _ hq, fun q hq => ?_⟩
    rcases List.mem_append.mp hq with z | z
    · obtain ⟨r, hr, _⟩ := d.dom q z
      cases hr
    · exact ⟨p, List.mem_singleton.mpr rfl, by rw [List.mem_singleton.mp z]; exact ⟨Int.le_refl _, Int.le_refl _⟩⟩
  · have hl := hp l (d.sub l (List.mem_of_getLast? e))
    refine ⟨fun h => ⟨strict_snoc hR e (by omega) h, fun q hq => ?_, fun q hq => ?_⟩, fun h => ⟨fun q hq => List.mem_append_left _ (d.sub q hq), fun q hq => ?_⟩⟩
    · rcases List.mem_append.mp hq with z | z
      · exact List.mem_append_left _ (d.sub q z)
      · exact List.mem_append_right _ z
    · rcases List.mem_append.mp hq with z | z
      · obtain ⟨r, hr, r1⟩ := d.dom q z
        exact ⟨r, List.mem_append_left _ hr, r1⟩
      · exact ⟨p, List.mem_append_right _ (List.mem_singleton.mpr rfl), by rw [List.mem_singleton.mp z]; exact ⟨Int.le_refl _, Int.le_refl _⟩⟩
    · rcases List.mem_append.mp hq with z | z
      · exact d.dom q z
      · rw [List.mem_singleton.mp z]
        exact ⟨l, List.mem_of_getLast? e, by omega, by omega⟩
/-- the value at c is the lowest so far -/
theorem val_low {c : Int} : ∀ {ps : List P2} {a : Option Int}, Strict ps → ((∀ p ∈ ps, c < p.1) ∧ valFrom c a ps = a) ∨ ∃ p ∈ ps, p.1 ≤ c ∧ valFrom c a ps = some p.2 ∧ ∀ q ∈ ps, q.1 ≤ c → p.2 ≤ q.2
  | [], a, _ => .inl ⟨(fun p h => by cases h), rfl⟩
  | p :: ps, a, h => by
    obtain ⟨h1, h2⟩ := List.pairwise_cons.mp h
    have e : valFrom c a (p :: ps) = valFrom c (if p.1 ≤ c then some p.2 else a) ps := by
      unfold valFrom
      rw [List.foldl_cons]
    rw [e]
    rcases val_low (a := if p.1 ≤ c then some p.2 else a) h2 with ⟨z1, z2⟩ | ⟨r, hr, r1, r2, r3⟩
    · rw [z2]
      by_cases g : p.1 ≤ c
      · rw [if_pos g]
        refine .inr ⟨p, List.mem_cons_self .., g, rfl, fun q hq hc => ?_⟩
        rcases List.mem_cons.mp hq with y | y
        · rw [y]
          exact Int.le_refl _
        · have := z1 q y
          omega
      · rw [if_neg g]
        refine .inl ⟨fun q hq => ?_, rfl⟩
        rcases List.mem_cons.mp hq with y | y
        · rw [y]
          omega
        · exact z1 q y
    · refine .inr ⟨r, List.mem_cons_of_mem _ hr, r1, r2, fun q hq hc => ?_⟩
      rcases List.mem_cons.mp hq with y | y
      · rw [y]
        have := (h1 r hr).2
        omega
      · exact r3 q y hc
/-! block V21l: TooMany made, checked_length, least_of_two (behind bV21m) -/
theorem Covers.refl_own (L : List P2) : IsVal L L ↔ Strict L := ⟨fun h => h.strict, fun h => ⟨h, fun _ z => z, Covers.refl L⟩⟩
theorem val_swap {R L M : List P2} (h : IsVal (L ++ M) R) : IsVal (M ++ L) R := h.perm fun p => by rw [List.mem_append, List.mem_append, or_comm]
theorem val_own {R L M : List P2} (h : IsVal (L ++ M) R) : IsVal (R ++ L) R :=
  ⟨h.strict, fun p hp => List.mem_append_left _ hp, fun q hq => (List.mem_append.mp hq).elim (fun z => ⟨q, z, Int.le_refl _, Int.le_refl _⟩) fun z => h.cov q (List.mem_append_left _ z)⟩
theorem val_self {L : List P2} (h : Strict L) : IsVal (L ++ L) L := ⟨h, fun p hp => List.mem_append_left _ hp, fun q hq => ⟨q, (List.mem_append.mp hq).elim id id, Int.le_refl _, Int.le_refl _⟩⟩
theorem val_one {P V W : List P2} (h : IsVal P V) (k : IsVal P W) : V = W := h.uniq k (Alike.refl P)
def spChl (K : PySem.W.Frag) (CM : Addr) : Sp := fun vs H Q E => ∃ (v : V) (R : List P2), vs = [v] ∧ Dp K H v (.tuple (prDs R)) ∧ (R.length ≤ 400 → Q v H) ∧ (400 < R.length → ∀ dx, H dx = none → E (.ref CM) (some dx) (upd H dx (.xd [("limit", .int 400)])))
@[irreducible] def spL2 (K : PySem.W.Frag) (CV CM : Addr) : Sp := fun vs H Q E => ∃ (v x : V) (d e : PyData), vs = [v, x] ∧ Dp K H v d ∧ Dp K H x e ∧ (valB d = false → ∀ H', Same H H' → E (.ref CV) none H') ∧ (valB d = true → valB e = false → ∀ H', Same H H' → E (.ref CV) none H') ∧
  (∀ ps qs R, d = .tuple (prDs ps) → e = .tuple (prDs qs) → valB d = true → valB e = true → IsVal (ps ++ qs) R →
    (R.length ≤ 400 → ∀ (H' : Hp) (r : V), Same H H' → Dp K H' r (.tuple (prDs R)) → Q r H') ∧ (400 < R.length → ∀ (H' : Hp) (dx : Addr), Same H H' → H' dx = none → E (.ref CM) (some dx) (upd H' dx (.xd [("limit", .int 400)]))))
section
variable {P : Program} {w : World} {K : PySem.W.Frag} {mg : Str → Option Value} {base : Heap}
theorem ok_many (T : Txt K mg) : FnOk P w K mg base CX0 1 T.f_TooMany_init T.d_TooMany_init ["self", "limit"] (spKeep T.c_TooMany "limit") := by
  refine T.F_TooMany_init.ok sc_TooMany_init (fun vs H Q E h => ?_) (fun cdv A outer s H vs Q E hr h => ?_)
  · obtain ⟨a, y, rfl, _⟩ := h
    rfl
  obtain ⟨a, y, rfl, ha, q⟩ := h
  refine ⟨_, (pss_one (ps_keepF (pv 0) (pv 1))), ?_⟩
  exact ⟨_, rfl, _, rfl, a, T.c_TooMany, rfl, T.ox_TooMany, T.no_TooMany, ha, fun dx n ne => q dx n ne⟩
theorem ok_chl (T : Txt K mg) : FnOk P w K mg base (L2.CX P w) 3 T.f_checked_length T.d_checked_length ["pairs"] (spChl K T.c_TooMany) := by
  have g_TooMany_init := ok_many (P := P) (w := w) (base := base) T
  refine T.F_checked_length.okX sc_checked_length (fun vs H Q E h => ?_) (fun cdv A outer s H vs Q E hr h => ?_)
  · obtain ⟨v, R, rfl, _⟩ := h
    rfl
  obtain ⟨v, R, rfl, hd, q, qe⟩ := h
  refine ⟨_, (pss_cons (ps_if (pt_cmpR op_gt (pe_callB (r := rLenS K) call_lenS (by rfl) T.n_len (by decide +kernel) (pa_cons (pv 0) pa_nil)) (pe_glob (v := .int 400) rfl T.g_MAX_VALLEYS ⟨_, rfl⟩) (nomark _)) (pss_one (ps_raise rfl (takes_of rfl rfl rfl rfl) (pmk_keep T.ox_TooMany T.iC_TooMany T.tI_TooMany g_TooMany_init (hr.mono (by omega)) T.b_TooMany_init pass0 rfl T.g_TooMany (pa_cons (pe_glob (v := .int 400) rfl T.g_MAX_VALLEYS ⟨_, rfl⟩) pa_nil)))) pss_nil)
      (pss_one (ps_ret (pv 0)))), ?_⟩
  obtain ⟨a, xs, rfl, hs, hall⟩ := dp_tup_inv hd
  have hl : xs.length = R.length := by rw [dpAll_length hall, prDs, List.length_map]
  refine ⟨_, rfl, a, _, rfl, .inr hs, _, _, rfl, rfl, _, rfl, ?_⟩
  refine ite2 (fun z => ?_) (fun z => ?_)
  · have z' := of_decide_eq_true z
    exact ⟨_, rfl, fun dx hx => qe (by omega) dx hx⟩
  · have z' : ¬ (400 : Int) < ((xs.length : Nat) : Int) := fun y => z (decide_eq_true y)
    exact ⟨_, rfl, q (by omega)⟩
theorem ok_l2 (T : Txt K mg) : FnOk P w K mg base (L2.CX P w) 5 T.f_least_of_two T.d_least_of_two ["first", "second"] (spL2 K T.c_InvalidValleys T.c_TooMany) := by
  have g__check_valleys := ok_chkv (P := P) (w := w) (base := base) T
  have g_least_usages := ok_least (P := P) (w := w) (base := base) T
  have g_checked_length := ok_chl (P := P) (w := w) (base := base) T
  refine T.F_least_of_two.okX sc_least_of_two (fun vs H Q E h => ?_) (fun cdv A outer s H vs Q E hr h => ?_)
  · unfold spL2 at h
    obtain ⟨v, x, d, e, rfl, _⟩ := h
    rfl
  unfold spL2 at h
  obtain ⟨v, x, d, e, rfl, hd, he, q1, q2, q⟩ := h
  refine ⟨_, (pss_cons (ps_expr (pe_callS g__check_valleys (hr.mono (by omega)) rfl T.m__check_valleys T.F__check_valleys.kp T.b__check_valleys (fun σ => passAt (takes_of rfl rfl rfl rfl) σ) (pa_cons (pv 0) pa_nil)))
      (pss_cons (ps_expr (pe_callS g__check_valleys (hr.mono (by omega)) rfl T.m__check_valleys T.F__check_valleys.kp T.b__check_valleys (fun σ => passAt (takes_of rfl rfl rfl rfl) σ) (pa_cons (pv 1) pa_nil)))
      (pss_one (ps_ret (pe_callS g_checked_length (hr.mono (by omega)) rfl T.m_checked_length T.F_checked_length.kp T.b_checked_length (fun σ => passAt (takes_of rfl rfl rfl rfl) σ) (pa_cons (pe_call g_least_usages (hr.mono (by omega)) rfl T.m_least_usages T.F_least_usages.kp T.b_least_usages .nil pass0 (pa_cons (pe_op (r := rCatA K) op_catA (pv 0) (pv 1)) pa_nil)) pa_nil)))))), ?_⟩
  refine ⟨_, rfl, v, d, rfl, hd, fun ev H1 s1 => ?_, fun ev H1 s1 => q1 ev H1 s1⟩
  refine ⟨_, rfl, x, e, rfl, dp_same s1 he, fun en H2 s2 => ?_, fun en H2 s2 => q2 ev en H2 (s1.trans s2)⟩
  obtain ⟨ps, rfl, h1, h400, hst⟩ := valB_iff.mp ev
  obtain ⟨qs, rfl, k1, k400, kst⟩ := valB_iff.mp en
  have s12 := s1.trans s2
  obtain ⟨a, xs, rfl, hs, hall⟩ := dp_tup_inv (dp_same s12 hd)
  obtain ⟨b, ys, rfl, ks, kall⟩ := dp_tup_inv (dp_same s12 he)
  have hl : xs.length = ps.length := by rw [dpAll_length hall, prDs, List.length_map]
  have kl : ys.length = qs.length := by rw [dpAll_length kall, prDs, List.length_map]
  refine ⟨_, rfl, _, rfl, a, b, xs, ys, rfl, rfl, hs, ks, (by rw [sizeLine_eq]; omega), (fun z => absurd (congrArg List.length z) (by rw [hl, List.length_nil]; omega)), (fun _ z => absurd (congrArg List.length z) (by rw [kl, List.length_nil]; omega)), fun _ _ t ht => ?_⟩
  have s3 : Same H2 (upd H2 t (.tup (xs ++ ys))) := same_new ht
  have et : SqT K (upd H2 t (.tup (xs ++ ys))) t (xs ++ ys) := SqT.of upd_same
  have dall : DpAll K (upd H2 t (.tup (xs ++ ys))) (xs ++ ys) (prDs (ps ++ qs)) := by
    rw [prDs, List.map_append]
    exact dpAll_append (dpAll_same s3 hall) (dpAll_same s3 kall)
  generalize (upd H2 t (.tup (xs ++ ys))) = H3 at s3 et dall ⊢
  refine ⟨t, xs ++ ys, ps ++ qs, rfl, et, dall, by rw [List.length_append]; omega, fun H4 u R s4 dR hv => ?_⟩
  obtain ⟨p1, p2⟩ := q ps qs R rfl rfl ev en hv
  have S := s12.trans (s3.trans s4)
  exact ⟨.ref u, R, rfl, dR, fun z => p1 z H4 _ S dR, fun z dx hx => p2 z H4 dx S hx⟩
end
/-! block V21s: _law_random_start (behind bV20u; printed by mkV21s.py out of it) -/
section
variable {P : Program} {w : World} {K : PySem.W.Frag} {mg : Str → Option Value} {base : Heap}
theorem ok_rst (T : Txt K mg) : FnOk P w K mg base CX0 3 T.f__law_random_start T.d__law_random_start ["_law_source_here", "_law_most"] (spRv K) := by
  have g__law_draw := ok_take (P := P) (w := w) (base := base) T
  have g__law_gaps := ok_gaps (P := P) (w := w) (base := base) T
  refine T.F__law_random_start.ok sc__law_random_start (fun vs H Q E h => ?_) (fun cdv A outer s H vs Q E hr h => ?_)
  · obtain ⟨p, m, t, rfl, _⟩ := h
    rfl
  obtain ⟨p, m, t, rfl, hp, hm, t1, t2, q⟩ := h
  refine ⟨_, (pss_cons (ps_set (i := 2) sc__law_random_start.nd rfl (Or.inl rfl) (pe_op op_add pe_int (pe_call g__law_draw (hr.mono (by omega)) rfl T.m__law_draw T.F__law_draw.kp T.b__law_draw .nil pass0 (pa_cons (pv 0) (pa_cons (pv 1) pa_nil)))))
      (pss_cons (ps_par (i := 3) (j := 4) (by rfl) sc__law_random_start.nd rfl rfl (by decide) rfl rfl (pa_cons (pe_call g__law_gaps (hr.mono (by omega)) rfl T.m__law_gaps T.F__law_gaps.kp T.b__law_gaps .nil pass0 (pa_cons (pv 0) (pa_cons (pv 2) pa_nil))) (pa_cons (pe_call g__law_gaps (hr.mono (by omega)) rfl T.m__law_gaps T.F__law_gaps.kp T.b__law_gaps .nil pass0 (pa_cons (pv 0) (pa_cons (pv 2) pa_nil))) pa_nil)) (by rfl))
      (pss_cons (ps_set (i := 5) sc__law_random_start.nd rfl (Or.inr rfl) (pe_ix (r := rIxL K) ix_list (pe_lst (pa_cons pe_int (pa_cons pe_int (pa_cons pe_int (pa_cons pe_int (pa_cons pe_int pa_nil)))))) (pe_call g__law_draw (hr.mono (by omega)) rfl T.m__law_draw T.F__law_draw.kp T.b__law_draw .nil pass0 (pa_cons (pv 0) (pa_cons pe_int pa_nil))) (fun _ _ => rfl)))
      (pss_one (ps_ret (pe_callTy (r := rTupS K) call_tupS (by rfl) T.n_tuple (by decide +kernel) (pa_cons (pe_lc (own := [("_law_bound", 6), ("_law_depth", 7)]) (g := (gTup K 2 (gCons (gName 6) (gCons (gName 7) gNil)))) (by rfl) sc__law_random_start.nd (pi_zip (by rfl) T.n_zip (pa_cons (pv 3) (pa_cons (pv 4) pa_nil))) (blkOk_by (N := N__law_random_start) (sc := (defScope s__law_random_start)) (by decide +kernel)) (fun _ _ _ _ _ => (pg_tup (by rfl) (pgs_cons (pg_name (i := 6) sc__law_random_start.nd rfl (Or.inl rfl)) (pgs_cons (pg_name (i := 7) sc__law_random_start.nd rfl (Or.inl rfl)) pgs_nil)))) (fun _ _ _ _ _ => pts_nil) (fun _ _ _ _ _ => (pe_tup (pa_cons (pv 6) (pa_cons (pe_op op_sub (pe_op op_sub pe_int (pv 5)) (pv 7)) pa_nil))))) pa_nil))))))), ?_⟩
  refine ⟨_, rfl, _, rfl, p, m, t, rfl, hp, by omega, by omega, Nat.lt_of_le_of_lt (show ((t : Int)).natAbs ≤ 100 by omega) (by decide), fun H1 r s1 hp1 r0 r1 => ?_⟩
  obtain ⟨n, en⟩ : ∃ n : Nat, 1 + r = (n : Int) := ⟨(1 + r).toNat, by omega⟩
  refine ⟨_, _, rfl, rfl, ?_⟩
  show tSeq _ _ _ [some (.ref p), some (.int (t : Int)), some (.int (1 + r)), none, none, none, none, none] H1
  rw [en]
  refine ⟨_, rfl, _, rfl, p, m + 1, n, rfl, hp1, by omega, by omega, by omega, fun H2 lc cs s2 hp2 ec nc lcs asc bc => ?_⟩
  obtain ⟨l1, hl1⟩ := hp1.lst
  have ncp : lc ≠ p := fun z => by rw [z, hl1] at nc; cases nc
  refine ⟨_, rfl, _, rfl, p, m + 1 + 2 * n, n, rfl, hp2, by omega, by omega, by omega, fun H3 ld ds s3 hp3 ed nd lds asd bd => ?_⟩
  obtain ⟨l2, hl2⟩ := hp2.lst
  have ndp : ld ≠ p := fun z => by rw [z, hl2] at nd; cases nd
  have ec3 := s3 lc _ ncp ec
  have S3 := s1.trans (s2.trans s3)
  refine ⟨_, _, rfl, ?_⟩
  -- the first usage
  refine ⟨(by show 5 ≤ sizeLine; decide), fun u hu => ?_⟩
  obtain ⟨l3, hl3⟩ := hp3.lst
  have nup : u ≠ p := fun z => by rw [z, hl3] at hu; cases hu
  refine ⟨_, rfl, p, m + 1 + 2 * n + 2 * n, 5, rfl, hp3.same (same_new hu), by omega, by decide, by decide, fun H5 k s4 hp5 k0 k1 => ?_⟩
  obtain ⟨first, hf, ef⟩ := atI_int (ns := [0, 0, 0, 1, 4]) k0 k1
  refine ⟨u, _, _, _, rfl, rfl, SqL.of (s4 u _ nup upd_same), ef, ?_⟩
  have S5 : Sx p H H5 := S3.trans ((sx_new hu).trans s4)
  have ec5 := s4 lc _ ncp (same_new hu _ _ ec3)
  have ed5 := s4 ld _ ndp (same_new hu _ _ ed)
  have fb : -1000000000000000000000000000000000000000000000000000000000000 ≤ first ∧ first ≤ 1000000000000000000000000000000000000000000000000000000000000 := by
    simp only [List.mem_cons, List.not_mem_nil, or_false] at hf
    omega
  have RV := rv_of (first := 0) (high := 0 - first) (cs := cs) (ds := ds) (t := n) (most := t) lcs lds asc asd bc bd (by omega) (by omega) (by omega) (by omega) (by omega)
  have zl : (cs.zip ds).length = n := by rw [List.length_zip]; omega
  refine ⟨_, rfl, _, rfl, lc, ld, _, _, rfl, SqL.of ec5, SqL.of ed5, fun C hC => ?_⟩
  have nC : ∀ {b : Addr} {o : HO}, H5 b = some o → b ≠ C := fun e z => by rw [z, hC] at e; cases e
  refine lc_it (walk_zip (xs := cs.map V.int) (ys := ds.map V.int) (n := n) (by rw [List.length_map, List.length_map]; omega)) (fun i F => Same H5 F ∧ ∃ ws : List V, F C = some (.lst ws) ∧ DpAll K F ws (prDs (((cs.zip ds).take i).map fun z => (0 + z.1, 0 - first - z.2)))) ⟨same_new hC, [], upd_same, .nil⟩ (fun i F _ ⟨s, _⟩ => ⟨s.seq (SqL.of ec5), s.seq (SqL.of ed5)⟩) ?_ ?_
  · rintro i z F F' hi ⟨s6, ws, eC, hw⟩ ⟨t', x, y, rfl, ht', rfl, hx, hy⟩
    dsimp only at hx hy
    rw [List.getElem?_map] at hx hy
    obtain ⟨c, ec, rfl⟩ := Option.map_eq_some_iff.mp hx
    obtain ⟨d, ed, rfl⟩ := Option.map_eq_some_iff.mp hy
    have ez : (cs.zip ds)[i]? = some (c, d) := List.getElem?_zip_eq_some.mpr ⟨ec, ed⟩
    have etk : (cs.zip ds).take (i + 1) = (cs.zip ds).take i ++ [(c, d)] := by rw [List.take_add_one, ez]; rfl
    have s7 : Same F (upd F t' (.tup [.int c, .int d])) := same_new ht'
    have kt : SqT K (upd F t' (.tup [.int c, .int d])) t' [.int c, .int d] := SqT.of upd_same
    have eC7 := s7 _ _ eC
    generalize (upd F t' (.tup [.int c, .int d])) = F2 at s7 kt eC7 ⊢
    refine ⟨t', _, rfl, kt, rfl, _, _, rfl, _, _, rfl, rfl, rfl, ?_⟩
    unfold tYes
    refine iteT ?_
    refine ⟨_, rfl, _, rfl, _, _, rfl, rfl, _, rfl, _, _, rfl, rfl, (by show 2 ≤ sizeLine; decide), fun v hv => ?_⟩
    have s8 : Same F2 (upd F2 v (.tup [.int c, .int (0 - first - d)])) := same_new hv
    have dv : Dp K (upd F2 v (.tup [.int c, .int (0 - first - d)])) (.ref v) (prD (0 + c, 0 - first - d)) := by
      have e0 : (0 : Int) + c = c := by omega
      rw [e0]
      exact .tup (SqT.of upd_same) (.cons (.int _) (.cons (.int _) .nil))
    have eC8 := s8 _ _ eC7
    generalize (upd F2 v (.tup [.int c, .int (0 - first - d)])) = F3 at s8 dv eC8 ⊢
    have wl : ws.length ≤ 100 := by
      have := dpAll_length hw
      rw [prDs, List.length_map, List.length_map, List.length_take] at this
      omega
    have kk : ∀ b zs, SqT K F3 b zs → SqT K (upd F3 C (.lst (ws ++ [.ref v]))) b zs := fun b zs h => (sx_upd (p := C)).sqT eC8 h
    refine ⟨ws, eC8, small1000 (by omega), fun b o e => by rw [upd_ne (nC e)]; exact s8 _ _ (s7 _ _ (s6 _ _ e)), _, upd_same, ?_⟩
    rw [etk, List.map_append, prDs, List.map_append]
    exact dpAll_append (dpAll_keep kk (noLs_prV _) (dpAll_same (s7.trans s8) hw)) (.cons (dp_keep kk (noLs_one _) dv) .nil)
  · rintro F ⟨s6, ws, eC, hw⟩
    rw [← zl, List.take_length] at hw
    refine ⟨C, ws, rfl, .inl ⟨SqL.of eC, fun t' ht' => ?_⟩⟩
    have s7 : Same F (upd F t' (.tup ws)) := same_new ht'
    exact q _ _ _ (S5.trans (Same.sx (s6.trans s7))) ((hp5.same (s6.trans s7)).mono (by omega)) (.tup (SqT.of upd_same) (dpAll_same s7 hw)) RV
end
/-! block V21r: _law_least_at (behind bV21s) -/
/-- the front as the law looks for it: by the capacities cs, ascending -/
structure Exq (L : List P2) (cs : List Int) (W : List P2) : Prop where
  st : Strict W
  sub : ∀ p ∈ W, p ∈ L
  caps : ∀ p ∈ W, p.1 ∈ cs
  dom : ∀ q ∈ L, q.1 ∈ cs → ∃ p ∈ W, p.1 ≤ q.1 ∧ p.2 ≤ q.2
theorem Exq.zero (L : List P2) : Exq L [] [] := ⟨List.Pairwise.nil, (fun p h => by cases h), (fun p h => by cases h), fun q _ h => by cases h⟩
theorem Exq.step {L W : List P2} {cs : List Int} {c z : Int} (e : Exq L cs W) (lt : ∀ k ∈ cs, k < c) (old : ∀ q ∈ L, q.1 < c → q.1 ∈ cs) (at0 : ∃ q ∈ L, q.1 ≤ c ∧ q.2 = z) (low : ∀ q ∈ L, q.1 ≤ c → z ≤ q.2) :
    (W = [] → Exq L (cs ++ [c]) [(c, z)]) ∧ (∀ l, W.getLast? = some l → (z < l.2 → Exq L (cs ++ [c]) (W ++ [(c, z)])) ∧ (¬ z < l.2 → Exq L (cs ++ [c]) W)) := by
  obtain ⟨q0, hq0, c0, rfl⟩ := at0
  have new : (∀ p ∈ W, q0.2 < p.2) → (c, q0.2) ∈ L := fun h => by
    rcases Int.lt_or_eq_of_le c0 with y | y
    · obtain ⟨p, hp, p1, p2⟩ := e.dom q0 hq0 (old q0 hq0 y)
      have := h p hp
      omega
    · rw [← y]
      exact hq0
  have dm : ∀ q ∈ L, q.1 ∈ cs ++ [c] → q.1 ∈ cs ∨ q.1 = c := fun q _ h => by
    rcases List.mem_append.mp h with y | y
    · exact .inl y
    · exact .inr (List.mem_singleton.mp y)
  refine ⟨fun h => ?_, fun l el => ?_⟩
  · subst h
    have m := new fun p hp => by cases hp
    refine ⟨List.pairwise_singleton .., fun p hp => by rw [List.mem_singleton.mp hp]; exact m, fun p hp => by rw [List.mem_singleton.mp hp]; exact List.mem_append_right _ (List.mem_singleton.mpr rfl), fun q hq hc => ?_⟩
    rcases dm q hq hc with y | y
    · obtain ⟨p, hp, _⟩ := e.dom q hq y
      cases hp
    · exact ⟨_, List.mem_singleton.mpr rfl, by rw [y]; exact Int.le_refl _, low q hq (by omega)⟩
  · have hl := List.mem_of_getLast? el
    have lc := lt l.1 (e.caps l hl)
    have ll := last_low e.st el
    refine ⟨fun g => ?_, fun g => ⟨e.st, e.sub, fun p hp => List.mem_append_left _ (e.caps p hp), fun q hq hc => ?_⟩⟩
    · have m := new fun p hp => by have := (ll p hp).2; omega
      refine ⟨strict_snoc e.st el (p := (c, q0.2)) lc g, fun p hp => ?_, fun p hp => ?_, fun q hq hc => ?_⟩
      · rcases List.mem_append.mp hp with y | y
        · exact e.sub p y
        · rw [List.mem_singleton.mp y]
          exact m
      · rcases List.mem_append.mp hp with y | y
        · exact List.mem_append_left _ (e.caps p y)
        · rw [List.mem_singleton.mp y]
          exact List.mem_append_right _ (List.mem_singleton.mpr rfl)
      · rcases dm q hq hc with y | y
        · obtain ⟨p, hp, r⟩ := e.dom q hq y
          exact ⟨p, List.mem_append_left _ hp, r⟩
        · exact ⟨_, List.mem_append_right _ (List.mem_singleton.mpr rfl), by rw [y]; exact Int.le_refl _, low q hq (by omega)⟩
    · rcases dm q hq hc with y | y
      · exact e.dom q hq y
      · exact ⟨l, hl, by omega, by have := low q hq (by omega); omega⟩
theorem Exq.val {L W : List P2} {cs : List Int} (e : Exq L cs W) (all : ∀ q ∈ L, q.1 ∈ cs) : IsVal L W := ⟨e.st, e.sub, fun q hq => e.dom q hq (all q hq)⟩
def spLAt (K : PySem.W.Frag) : Sp := fun vs H Q _ => ∃ (v x : V) (c : Int) (ps qs : List P2), vs = [v, x, .int c] ∧ Dp K H v (.tuple (prDs ps)) ∧ Dp K H x (.tuple (prDs qs)) ∧ Strict ps ∧ Strict qs ∧ (∃ q ∈ ps ++ qs, q.1 ≤ c) ∧
  ∀ (H' : Hp) (z : Int), Same H H' → (∃ q ∈ ps ++ qs, q.1 ≤ c ∧ q.2 = z) → (∀ q ∈ ps ++ qs, q.1 ≤ c → z ≤ q.2) → Q (.int z) H'
/-- of two values, what is there -/
def someV (os : List (Option Int)) : List Int := os.filterMap id
section
variable {P : Program} {w : World} {K : PySem.W.Frag} {mg : Str → Option Value} {base : Heap}
theorem ok_lat21 (T : Txt K mg) : FnOk P w K mg base CX0 2 T.f__law_least_at T.d__law_least_at ["_law_first", "_law_second", "_law_bound"] (spLAt K) := by
  have g__law_value_at := ok_lvat (P := P) (w := w) (base := base) T
  refine T.F__law_least_at.ok sc__law_least_at (fun vs H Q E h => ?_) (fun cdv A outer s H vs Q E hr h => ?_)
  · obtain ⟨v, x, c, ps, qs, rfl, _⟩ := h
    rfl
  obtain ⟨v, x, c, ps, qs, rfl, hd, he, sp, sq, ⟨q0, hq0, c0⟩, q⟩ := h
  refine ⟨_, (pss_cons (ps_set (i := 3) sc__law_least_at.nd rfl (Or.inl rfl) (pe_lst (pa_cons (pe_call g__law_value_at (hr.mono (by omega)) rfl T.m__law_value_at T.F__law_value_at.kp T.b__law_value_at .nil pass0 (pa_cons (pv 0) (pa_cons (pv 2) pa_nil))) (pa_cons (pe_call g__law_value_at (hr.mono (by omega)) rfl T.m__law_value_at T.F__law_value_at.kp T.b__law_value_at .nil pass0 (pa_cons (pv 1) (pa_cons (pv 2) pa_nil))) pa_nil))))
      (pss_one (ps_ret (pe_callB (r := rMin K) (cr_min rfl) (by rfl) T.n_min (by decide +kernel) (pa_cons (pe_lc (own := [("_law_held", 4)]) (g := (gName 4)) (by rfl) sc__law_least_at.nd (pi_list (pv 3)) (blkOk_by (N := N__law_least_at) (sc := (defScope s__law_least_at)) (by decide +kernel)) (fun _ _ _ _ _ => (pg_name (i := 4) sc__law_least_at.nd rfl (Or.inl rfl))) (fun _ _ _ _ _ => (pts_one (pt_cmpR op_notN (pv 4) pe_non (nomark _)))) (fun _ _ _ _ _ => (pv 4))) pa_nil))))), ?_⟩
  refine ⟨_, rfl, _, rfl, v, ps, c, rfl, hd, _, rfl, _, rfl, x, qs, c, rfl, he, (by show 2 ≤ sizeLine; decide), fun u hu => ?_⟩
  have s1 : Same H (upd H u (.lst [repO (valAt c ps), repO (valAt c qs)])) := same_new hu
  have eu : (upd H u (.lst [repO (valAt c ps), repO (valAt c qs)])) u = some (.lst ([valAt c ps, valAt c qs].map repO)) := upd_same
  generalize (upd H u (.lst [repO (valAt c ps), repO (valAt c qs)])) = H1 at s1 eu ⊢
  refine ⟨_, rfl, u, rfl, ⟨_, SqL.of eu⟩, fun D hD => ?_⟩
  have nH : ∀ {b : Addr} {o : HO}, H1 b = some o → b ≠ D := fun e z => by rw [z, hD] at e; cases e
  refine lc_list (K := K) (a := u) (xs := [valAt c ps, valAt c qs].map repO) (fun i F => Same H1 F ∧ F D = some (.lst ((someV ([valAt c ps, valAt c qs].take i)).map V.int))) ⟨same_new hD, upd_same⟩ (fun i F _ ⟨s, _⟩ => SqL.of (s _ _ eu)) ?_ ?_
  · rintro i y F hi ⟨s2, eD⟩
    rw [List.getElem?_map] at hi
    obtain ⟨o, eo, rfl⟩ := Option.map_eq_some_iff.mp hi
    have etk : [valAt c ps, valAt c qs].take (i + 1) = [valAt c ps, valAt c qs].take i ++ [o] := by rw [List.take_add_one, eo]; rfl
    have il : i < 2 := (List.getElem?_eq_some_iff.mp eo).1
    refine ⟨rfl, ?_⟩
    refine ⟨_, rfl, rfl, _, rfl, ?_⟩
    have es : someV ([valAt c ps, valAt c qs].take (i + 1)) = someV ([valAt c ps, valAt c qs].take i) ++ someV [o] := by
      rw [etk]
      unfold someV
      rw [List.filterMap_append]
    cases o with
    | none =>
      refine iteFx (by simp [repO]) ?_
      rw [es]
      exact ⟨s2, by rw [eD]; simp [someV]⟩
    | some y =>
      refine iteTx (by simp [repO]) ?_
      refine ⟨_, rfl, _, eD, ?_, fun b o e => by rw [upd_ne (nH e)]; exact s2 _ _ e, ?_⟩
      · rw [List.length_map]
        have := List.length_filterMap_le id ([valAt c ps, valAt c qs].take i)
        rw [List.length_take] at this
        refine small1000 ?_
        unfold someV
        omega
      · rw [upd_same, es, List.map_append]
        rfl
  · rintro F ⟨s2, eD⟩
    have eD' : F D = some (.lst ((someV [valAt c ps, valAt c qs]).map V.int)) := eD
    have k1 := val_low (c := c) (a := none) sp
    have k2 := val_low (c := c) (a := none) sq
    have mem : ∀ m, m ∈ someV [valAt c ps, valAt c qs] ↔ valAt c ps = some m ∨ valAt c qs = some m := fun m => by
      unfold someV
      rw [List.mem_filterMap]
      simp only [List.mem_cons, List.not_mem_nil, or_false, id_eq]
      exact ⟨fun ⟨o, h, e⟩ => by
        rcases h with rfl | rfl
        · exact .inl e
        · exact .inr e, fun h => by
        rcases h with h | h
        · exact ⟨_, .inl rfl, h⟩
        · exact ⟨_, .inr rfl, h⟩⟩
    have at1 : ∀ m, m ∈ someV [valAt c ps, valAt c qs] → ∃ q ∈ ps ++ qs, q.1 ≤ c ∧ q.2 = m := fun m hm => by
      rcases (mem m).mp hm with h | h
      · rcases valFrom_mem h with z | ⟨q, hq, h1, h2⟩
        · cases z
        · exact ⟨q, List.mem_append_left _ hq, h1, h2⟩
      · rcases valFrom_mem h with z | ⟨q, hq, h1, h2⟩
        · cases z
        · exact ⟨q, List.mem_append_right _ hq, h1, h2⟩
    have low1 : ∀ q ∈ ps ++ qs, q.1 ≤ c → ∃ m ∈ someV [valAt c ps, valAt c qs], m ≤ q.2 := fun q hq hc => by
      rcases List.mem_append.mp hq with y | y
      · rcases k1 with ⟨z, _⟩ | ⟨r, hr, r1, r2, r3⟩
        · have := z q y
          omega
        · exact ⟨r.2, (mem _).mpr (.inl r2), r3 q y hc⟩
      · rcases k2 with ⟨z, _⟩ | ⟨r, hr, r1, r2, r3⟩
        · have := z q y
          omega
        · exact ⟨r.2, (mem _).mpr (.inr r2), r3 q y hc⟩
    refine ⟨D, _, rfl, SqL.of eD', ?_, fun m hm hmin => q F m (s1.trans s2) (at1 m hm) fun r hr hc => ?_⟩
    · obtain ⟨m, hm, _⟩ := low1 q0 hq0 c0
      exact List.length_pos_of_mem hm
    · obtain ⟨m', hm', e⟩ := low1 r hr hc
      have := hmin m' hm'
      omega
end
/-! block V21q: _law_least_right (behind bV21r) -/
/-- valleys that the law sets side by side -/
structure Rw (ps : List P2) : Prop where
  one : 1 ≤ ps.length
  len : ps.length ≤ 20
  st : Strict ps
  bd : ∀ p ∈ ps, -4000000000000000000000000000000000000000000000000000000000000 ≤ p.1 ∧ p.1 ≤ 4000000000000000000000000000000000000000000000000000000000000 ∧ -4000000000000000000000000000000000000000000000000000000000000 ≤ p.2 ∧ p.2 ≤ 4000000000000000000000000000000000000000000000000000000000000
theorem Rw.val {ps : List P2} (h : Rw ps) : valB (.tuple (prDs ps)) = true := valB_iff.mpr ⟨ps, rfl, h.one, by have := h.len; omega, h.st⟩
theorem prs_fine : ∀ {ps : List P2}, (∀ p ∈ ps, -4000000000000000000000000000000000000000000000000000000000000 ≤ p.1 ∧ p.1 ≤ 4000000000000000000000000000000000000000000000000000000000000 ∧ -4000000000000000000000000000000000000000000000000000000000000 ≤ p.2 ∧ p.2 ≤ 4000000000000000000000000000000000000000000000000000000000000) → fines (prDs ps)
  | [], _ => trivial
  | q :: ps, hb => by
    have h0 := hb q (List.mem_cons_self ..)
    have h1 := prs_fine fun z hz => hb z (List.mem_cons_of_mem _ hz)
    have big : (4000000000000000000000000000000000000000000000000000000000000 : Nat) < 10 ^ 180 := by decide +kernel
    show fine (prD q) ∧ fines (prDs ps)
    refine ⟨?_, h1⟩
    simp only [fine, fines, and_true]
    exact ⟨Nat.lt_of_le_of_lt (by omega) big, Nat.lt_of_le_of_lt (by omega) big⟩
theorem prs_bulk21 : ∀ ps : List P2, PyData.bulkAll (prDs ps) ≤ 1000 * ps.length
  | [] => by simp [prDs, PyData.bulkAll]
  | q :: ps => by
    have h := prs_bulk21 ps
    show PyData.bulkAll (prD q :: prDs ps) ≤ _
    simp only [PyData.bulkAll, PyData.bulk, List.length_cons]
    omega
theorem bulk_tps {ps : List P2} (h : ps.length ≤ 60) : (PyData.tuple (prDs ps)).bulk ≤ 80000 := by
  have h1 := prs_bulk21 ps
  simp only [PyData.bulk]
  omega
theorem depth_tps (ps : List P2) : (PyData.tuple (prDs ps)).depth ≤ 64 := by
  have h1 := prs_depthV ps
  simp only [PyData.depth]
  omega
theorem eqv_tps21 (ps : List P2) : PyData.eqv (.tuple (prDs ps)) (.tuple (prDs ps)) = true := by simp only [PyData.eqv, eqv_prs]
section
variable {K : PySem.W.Frag} {CV CM : Addr} {H : Hp} {Q : VK} {E : XK} {v x : V} {ps qs R : List P2} {d e : PyData}
theorem l2_use (hd : Dp K H v (.tuple (prDs ps))) (he : Dp K H x (.tuple (prDs qs))) (vd : valB (.tuple (prDs ps)) = true) (ve : valB (.tuple (prDs qs)) = true)
    (q : ∀ R, IsVal (ps ++ qs) R → R.length ≤ 400 ∧ ∀ (H' : Hp) (r : V), Same H H' → Dp K H' r (.tuple (prDs R)) → Q r H') : spL2 K CV CM [v, x] H Q E := by
  unfold spL2
  refine ⟨v, x, _, _, rfl, hd, he, (fun z => by rw [vd] at z; cases z), (fun _ z => by rw [ve] at z; cases z), fun ps' qs' R e1 e2 _ _ hv => ?_⟩
  rw [← tup_inj e1, ← tup_inj e2] at hv
  obtain ⟨h1, h2⟩ := q R hv
  exact ⟨fun _ H' r s d => h2 H' r s d, fun z => absurd h1 (by omega)⟩
theorem l2_eq (hd : Dp K H v (.tuple (prDs ps))) (he : Dp K H x (.tuple (prDs qs))) (vd : valB (.tuple (prDs ps)) = true) (ve : valB (.tuple (prDs qs)) = true) (hR : IsVal (ps ++ qs) R) (hl : R.length ≤ 400)
    (q : ∀ (H' : Hp) (r : V), Same H H' → Dp K H' r (.tuple (prDs R)) → Q r H') : spL2 K CV CM [v, x] H Q E :=
  l2_use hd he vd ve fun R' h => by
    rw [val_one h hR]
    exact ⟨hl, q⟩
theorem l2_bad1 (hd : Dp K H v d) (he : Dp K H x e) (vd : valB d = false) (q : ∀ H', Same H H' → E (.ref CV) none H') : spL2 K CV CM [v, x] H Q E := by
  unfold spL2
  exact ⟨v, x, _, _, rfl, hd, he, fun _ H' s => q H' s, (fun z => by rw [vd] at z; cases z), fun _ _ _ _ _ z => by rw [vd] at z; cases z⟩
theorem l2_bad2 (hd : Dp K H v d) (he : Dp K H x e) (ve : valB e = false) (q : ∀ H', Same H H' → E (.ref CV) none H') : spL2 K CV CM [v, x] H Q E := by
  unfold spL2
  exact ⟨v, x, _, _, rfl, hd, he, fun _ H' s => q H' s, fun _ _ H' s => q H' s, fun _ _ _ _ _ _ z => by rw [ve] at z; cases z⟩
theorem l2_many (hd : Dp K H v (.tuple (prDs ps))) (he : Dp K H x (.tuple (prDs qs))) (vd : valB (.tuple (prDs ps)) = true) (ve : valB (.tuple (prDs qs)) = true) (big : ∀ R, IsVal (ps ++ qs) R → 400 < R.length)
    (q : ∀ (H' : Hp) (dx : Addr), Same H H' → H' dx = none → E (.ref CM) (some dx) (upd H' dx (.xd [("limit", .int 400)]))) : spL2 K CV CM [v, x] H Q E := by
  unfold spL2
  refine ⟨v, x, _, _, rfl, hd, he, (fun z => by rw [vd] at z; cases z), (fun _ z => by rw [ve] at z; cases z), fun ps' qs' R e1 e2 _ _ hv => ?_⟩
  rw [← tup_inj e1, ← tup_inj e2] at hv
  have := big R hv
  exact ⟨fun z => absurd z (by omega), fun _ => q⟩
end
def spLR (K : PySem.W.Frag) : Sp := fun vs H Q _ => ∃ (v x : V) (ps qs : List P2), vs = [v, x] ∧ Dp K H v (.tuple (prDs ps)) ∧ Dp K H x (.tuple (prDs qs)) ∧ Rw ps ∧ Rw qs ∧ ∀ H', Same H H' → Q (.bl true) H'
section
variable {P : Program} {w : World} {K : PySem.W.Frag} {mg : Str → Option Value} {base : Heap}
theorem ok_lr (T : Txt K mg) : FnG P w K mg base CX0 8 T.f__law_least_right T.d__law_least_right ["_law_first", "_law_second"] (spLR K) := by
  have g_least_of_two := ok_l2 (P := P) (w := w) (base := base) T
  have g__law_least_at := ok_lat21 (P := P) (w := w) (base := base) T
  have g_is_valleys := ok_isv (P := P) (w := w) (base := base) T
  refine okG T.F__law_least_right sc__law_least_right (fun vs H Q E h => ?_) (fun cdv A outer s H vs Q E hr gd h => ?_)
  · obtain ⟨v, x, ps, qs, rfl, _⟩ := h
    rfl
  obtain ⟨v, x, ps, qs, rfl, hd, he, rp, rq, q⟩ := h
  refine ⟨_, (pss_cons (ps_par (i := 2) (j := 3) (by rfl) sc__law_least_right.nd rfl rfl (by decide) rfl rfl (pa_cons (pe_call g_least_of_two (hr.mono (by omega)) rfl T.m_least_of_two T.F_least_of_two.kp T.b_least_of_two .nil passN (pa_cons (pv 0) (pa_cons (pv 1) pa_nil))) (pa_cons (pe_callB (r := rSortedSet w) (cr_sortedSet rfl) (by rfl) T.n_sorted (by decide +kernel) (pa_cons (pe_callTy (r := rSetLI K w) (cr_setLI rfl) (by rfl) T.n_set (by decide +kernel) (pa_cons (pe_lc (own := [("_law_pair", 7)]) (g := (gName 7)) (by rfl) sc__law_least_right.nd (pi_tup (pe_op (r := rCatA K) op_catA (pv 0) (pv 1))) (blkOk_by (N := N__law_least_right) (sc := (defScope s__law_least_right)) (by decide +kernel)) (fun _ _ _ _ _ => (pg_name (i := 7) sc__law_least_right.nd rfl (Or.inl rfl))) (fun _ _ _ _ _ => pts_nil) (fun _ _ _ _ _ => (pe_ix (r := rIxT K) ix_tup (pv 7) pe_int (fun _ _ => rfl)))) pa_nil)) pa_nil)) pa_nil)) (by rfl))
      (pss_cons (ps_set (i := 4) sc__law_least_right.nd rfl (Or.inl rfl) (pe_lst pa_nil))
      (pss_cons (ps_for PassesOwn.never rfl (pi_list (pv 3)) (pg_name (i := 5) sc__law_least_right.nd rfl (Or.inl rfl))
        (pss_cons (ps_set (i := 6) sc__law_least_right.nd rfl (Or.inl rfl) (pe_call g__law_least_at (hr.mono (by omega)) rfl T.m__law_least_at T.F__law_least_at.kp T.b__law_least_at .nil pass0 (pa_cons (pv 0) (pa_cons (pv 1) (pa_cons (pv 5) pa_nil)))))
        (pss_one (ps_if (PW.pt (pw_or (pt_cmpR (r := rEqD K) (op_eqD hr.units) (pv 4) (pe_lst pa_nil) (nomark _)) (pw_or1 (pt_cmpR op_lt (pv 6) (pe_ix (r := rIxT K) ix_tup (pe_ix (r := rIxL K) ix_list (pv 4) (pe_un un_neg pe_int) (fun _ _ => rfl)) pe_int (fun _ _ => rfl)) (nomark _))))) (pss_one (ps_expr (pe_bm PySem.F.plainAttrs_list PySem.F.slot_list_append PySem.F.type_list_append mt_append (pv 4) (pa_cons (pe_tup (pa_cons (pv 5) (pa_cons (pv 6) pa_nil))) pa_nil)))) pss_nil))))
      (pss_cons (ps_if (PW.pt (pw_or (pt_cmpR op_ne (pe_callB (r := rRepr K) (call_reprD gd (room66 hr)) (by rfl) T.n_repr (by decide +kernel) (pa_cons (pv 2) pa_nil)) (pe_callB (r := rRepr K) (call_reprD gd (room66 hr)) (by rfl) T.n_repr (by decide +kernel) (pa_cons (pe_callTy (r := rTupS K) call_tupS (by rfl) T.n_tuple (by decide +kernel) (pa_cons (pv 4) pa_nil)) pa_nil)) (nomark _)) (pw_or1 (pt_cmpR op_notBl (pe_call g_is_valleys (hr.mono (by omega)) rfl T.m_is_valleys T.F_is_valleys.kp T.b_is_valleys .nil pass0 (pa_cons (pv 2) pa_nil)) pe_bl (nomark _))))) (pss_one (ps_ret pe_bl)) pss_nil)
      (pss_cons (ps_if (PW.pt (pw_or (pt_cmpR (r := rNeD K) (op_neD hr.units) (pe_call g_least_of_two (hr.mono (by omega)) rfl T.m_least_of_two T.F_least_of_two.kp T.b_least_of_two .nil passN (pa_cons (pv 1) (pa_cons (pv 0) pa_nil))) (pv 2) (nomark _)) (pw_or1 (pt_cmpR (r := rNeD K) (op_neD hr.units) (pe_call g_least_of_two (hr.mono (by omega)) rfl T.m_least_of_two T.F_least_of_two.kp T.b_least_of_two .nil passN (pa_cons (pv 0) (pa_cons (pv 1) pa_nil))) (pv 2) (nomark _))))) (pss_one (ps_ret pe_bl)) pss_nil)
      (pss_one (ps_ret (pe_and (pe_cmpR (r := rEqD K) (op_eqD hr.units) (pe_call g_least_of_two (hr.mono (by omega)) rfl T.m_least_of_two T.F_least_of_two.kp T.b_least_of_two .nil passN (pa_cons (pv 2) (pa_cons (pv 0) pa_nil))) (pv 2) (nomark _)) (pe_one (pe_cmpR (r := rEqD K) (op_eqD hr.units) (pe_call g_least_of_two (hr.mono (by omega)) rfl T.m_least_of_two T.F_least_of_two.kp T.b_least_of_two .nil passN (pa_cons (pv 0) (pa_cons (pv 0) pa_nil))) (pv 0) (nomark _))))))))))), ?_⟩
  have l1 := rp.len
  have l2 := rq.len
  have o1 := rp.one
  have o2 := rq.one
  refine ⟨_, rfl, _, rfl, l2_use hd he rp.val rq.val fun R hR => ⟨by have := hR.len; rw [List.length_append] at this; omega, fun H1 f s1 df => ?_⟩⟩
  have Rl : R.length ≤ 40 := by
    have := hR.len
    rw [List.length_append] at this
    omega
  have R1 : 1 ≤ R.length := by
    obtain ⟨p, pr, rfl⟩ : ∃ p pr, ps = p :: pr := by
      cases ps with
      | nil => simp at o1
      | cons p pr => exact ⟨p, pr, rfl⟩
    have := hR.ne (List.mem_append_left _ (List.mem_cons_self ..))
    cases R with
    | nil => exact absurd rfl this
    | cons _ _ => simp
  have Rb : ∀ p ∈ R, -4000000000000000000000000000000000000000000000000000000000000 ≤ p.1 ∧ p.1 ≤ 4000000000000000000000000000000000000000000000000000000000000 ∧ -4000000000000000000000000000000000000000000000000000000000000 ≤ p.2 ∧ p.2 ≤ 4000000000000000000000000000000000000000000000000000000000000 := fun p hp => (List.mem_append.mp (hR.sub p hp)).elim (rp.bd p) (rq.bd p)
  have Rv : valB (.tuple (prDs R)) = true := valB_iff.mpr ⟨R, rfl, R1, by omega, hR.strict⟩
  have hd1 := dp_same s1 hd
  have he1 := dp_same s1 he
  obtain ⟨a, xs, rfl, hs, hall⟩ := dp_tup_inv hd1
  obtain ⟨b, ys, rfl, ks, kall⟩ := dp_tup_inv he1
  have hl : xs.length = ps.length := by rw [dpAll_length hall, prDs, List.length_map]
  have kl : ys.length = qs.length := by rw [dpAll_length kall, prDs, List.length_map]
  refine ⟨_, rfl, _, rfl, a, b, xs, ys, rfl, rfl, hs, ks, (by rw [sizeLine_eq]; omega), (fun z => absurd (congrArg List.length z) (by rw [hl, List.length_nil]; omega)), (fun _ z => absurd (congrArg List.length z) (by rw [kl, List.length_nil]; omega)), fun _ _ t ht => ?_⟩
  have s3 : Same H1 (upd H1 t (.tup (xs ++ ys))) := same_new ht
  have et : SqT K (upd H1 t (.tup (xs ++ ys))) t (xs ++ ys) := SqT.of upd_same
  have dall : DpAll K (upd H1 t (.tup (xs ++ ys))) (xs ++ ys) (prDs (ps ++ qs)) := by
    rw [prDs, List.map_append]
    exact dpAll_append (dpAll_same s3 hall) (dpAll_same s3 kall)
  generalize (upd H1 t (.tup (xs ++ ys))) = H2 at s3 et dall ⊢
  refine ⟨t, rfl, ⟨_, et⟩, fun D hD => ?_⟩
  have al : (xs ++ ys).length = (ps ++ qs).length := by rw [List.length_append, List.length_append, hl, kl]
  have pl : (ps ++ qs).length ≤ 40 := by rw [List.length_append]; omega
  refine lc_tup (K := K) (a := t) (xs := xs ++ ys) (fun i F => Same H2 F ∧ F D = some (.lst ((((ps ++ qs).take i).map fun p => p.1).map V.int))) ⟨same_new hD, upd_same⟩ (fun i F _ ⟨s, _⟩ => same_sqT s et) ?_ ?_
  · rintro i y F hi ⟨s4, eD⟩
    obtain ⟨p, ep, dx⟩ := prs_at dall hi
    obtain ⟨u, rfl, k⟩ := pr_inv dx
    have etk : (ps ++ qs).take (i + 1) = (ps ++ qs).take i ++ [p] := by rw [List.take_add_one, ep]; rfl
    refine ⟨rfl, ?_⟩
    unfold tYes
    refine iteT ?_
    refine ⟨_, rfl, _, _, _, _, rfl, rfl, same_sqT s4 k, atI_at (j := 0) rfl rfl, _, eD, ?_, fun b o e => by rw [upd_ne (ne_of_none e hD)]; exact s4 _ _ e, ?_⟩
    · rw [List.length_map, List.length_map, List.length_take]
      exact small1000 (by omega)
    · rw [upd_same, etk, List.map_append, List.map_append]
      rfl
  rintro F ⟨s4, eD⟩
  rw [al, List.take_length] at eD
  have cl : ((ps ++ qs).map fun p => p.1).length ≤ 40 := by rw [List.length_map]; exact pl
  refine ⟨D, _, rfl, SqL.of eD, by omega, fun sa SB sn ha hS hn => ?_⟩
  have s5 : Same F (upd F sa (SetO w sa SB sn)) := same_new ha
  have esa : (upd F sa (SetO w sa SB sn)) sa = some (SetO w sa SB sn) := upd_same
  generalize (upd F sa (SetO w sa SB sn)) = F2 at s5 esa ⊢
  refine ⟨sa, SB, sn, rfl, esa, by omega, fun cs c hasc hmem hlen hc => ?_⟩
  have s6 : Same F2 (upd F2 c (.lst (cs.map V.int))) := same_new hc
  have ec : (upd F2 c (.lst (cs.map V.int))) c = some (.lst (cs.map V.int)) := upd_same
  have S6 := s1.trans (s3.trans (s4.trans (s5.trans s6)))
  have df6 := dp_same (s3.trans (s4.trans (s5.trans s6))) df
  generalize (upd F2 c (.lst (cs.map V.int))) = F3 at s6 ec S6 df6 ⊢
  have csm : ∀ k, k ∈ cs ↔ ∃ p ∈ ps ++ qs, p.1 = k := fun k => by rw [hmem k, hS k, List.mem_map]
  have csl : cs.length ≤ 40 := by omega
  have hd6 := dp_same S6 hd
  have he6 := dp_same S6 he
  clear hS hmem esa eD ha hc ht et dall hall kall hs ks hD s6 s5 s4 s3 s1 df hd1 he1
  refine ⟨_, _, rfl, ?_⟩
  refine ⟨(by show 0 ≤ sizeLine; decide), fun r hr => ?_⟩
  have hrH : H r = none := by
    cases e : H r with
    | none => rfl
    | some o => rw [S6 r o e] at hr; cases hr
  have s7 : Same F3 (upd F3 r (.lst [])) := same_new hr
  have er0 : (upd F3 r (.lst [])) r = some (.lst []) := upd_same
  have ec7 := s7 _ _ ec
  have nrc : c ≠ r := fun z => by rw [z, hr] at ec; cases ec
  have hd7 := dp_same s7 hd6
  have he7 := dp_same s7 he6
  have df7 := dp_same s7 df6
  have S7 := S6.trans s7
  generalize (upd F3 r (.lst [])) = F4 at s7 er0 ec7 hd7 he7 df7 S7 ⊢
  have noP : ∀ L : List P2, noL (.tuple (prDs L)) = true := fun L => by simp only [noL]; exact noLs_prV _
  refine ⟨_, rfl, c, rfl, ⟨_, SqL.of ec7⟩, ?_⟩
  refine for_list (K := K) (a := c) (xs := cs.map V.int) (fun i σ G => ∃ (y5 y6 : Option V) (rs : List V) (W : List P2), σ = [some (.ref a), some (.ref b), some f, some (.ref c), some (.ref r), y5, y6, none] ∧ Sx r F4 G ∧ G r = some (.lst rs) ∧ DpAll K G rs (prDs W) ∧ Exq (ps ++ qs) (cs.take i) W ∧ W.length ≤ i)
    ⟨none, none, [], [], rfl, Sx.refl, er0, .nil, Exq.zero _, by simp⟩ (fun i σ G _ ⟨_, _, _, _, _, sx, _⟩ => SqL.of (sx _ _ nrc ec7)) ?_ ?_
  · rintro i y σ G hi ⟨y5, y6, rs, W, rfl, sx, er, dW, eW0, lW⟩
    rw [List.getElem?_map] at hi
    obtain ⟨k, ek, rfl⟩ := Option.map_eq_some_iff.mp hi
    have il := (List.getElem?_eq_some_iff.mp ek).1
    have lt : ∀ j ∈ cs.take i, j < k := fun j hj => by
      obtain ⟨m, hm, rfl⟩ := List.getElem_of_mem hj
      rw [List.length_take] at hm
      rw [List.getElem_take]
      obtain ⟨_, ek'⟩ := List.getElem?_eq_some_iff.mp ek
      rw [← ek']
      exact (List.pairwise_iff_getElem.mp hasc) m i (by omega) il (by omega)
    have old : ∀ q ∈ ps ++ qs, q.1 < k → q.1 ∈ cs.take i := fun q hq hk => by
      obtain ⟨m, hm, em⟩ := List.getElem_of_mem ((csm q.1).mpr ⟨q, hq, rfl⟩)
      obtain ⟨_, ek'⟩ := List.getElem?_eq_some_iff.mp ek
      rcases Nat.lt_or_ge m i with y | y
      · exact List.mem_iff_getElem.mpr ⟨m, by rw [List.length_take]; omega, by rw [List.getElem_take]; exact em⟩
      · rcases Nat.lt_or_eq_of_le y with w | w
        · have := (List.pairwise_iff_getElem.mp hasc) i m il hm w
          omega
        · subst w
          omega
    have etk : cs.take (i + 1) = cs.take i ++ [k] := by rw [List.take_add_one, ek]; rfl
    obtain ⟨q0, hq0, c0⟩ := (csm k).mp (List.mem_of_getElem? ek)
    have rl : rs.length = W.length := by rw [dpAll_length dW, prDs, List.length_map]
    show tSeq _ _ _ [some (.ref a), some (.ref b), some f, some (.ref c), some (.ref r), some (.int k), y6, none] G
    refine ⟨_, rfl, _, rfl, _, rfl, .ref a, .ref b, k, ps, qs, rfl, sx.dp er0 (noP _) hd7, sx.dp er0 (noP _) he7, rp.st, rq.st, ⟨q0, hq0, by omega⟩, fun G1 z s8 at0 low => ?_⟩
    have stp := eW0.step lt old at0 low
    rw [← etk] at stp
    clear lt old at0 low eW0
    refine ⟨_, rfl, (by show 0 ≤ sizeLine; decide), fun e0 he0 => ?_⟩
    have se : Same G (upd G1 e0 (.lst [])) := s8.trans (same_new he0)
    have de : Dp K (upd G1 e0 (.lst [])) (.ref e0) (.list []) := .lst (SqL.of upd_same) .nil
    generalize (upd G1 e0 (.lst [])) = Ge at se de ⊢
    have sx := sx.trans (Same.sx se)
    have er := se _ _ er
    have dW := dpAll_same se dW
    -- a new row
    have add : ∀ (hW : Exq (ps ++ qs) (cs.take (i + 1)) (W ++ [(k, z)])) (G2 : Hp) (t2 : Addr), Ge t2 = none → G2 = upd (upd Ge t2 (.tup [.int k, .int z])) r (.lst (rs ++ [.ref t2])) →
        ∃ (y5 y6 : Option V) (rs : List V) (W : List P2), [some (.ref a), some (.ref b), some f, some (.ref c), some (.ref r), some (.int k), some (.int z), none] = [some (.ref a), some (.ref b), some f, some (.ref c), some (.ref r), y5, y6, none] ∧ Sx r F4 G2 ∧ G2 r = some (.lst rs) ∧ DpAll K G2 rs (prDs W) ∧ Exq (ps ++ qs) (cs.take (i + 1)) W ∧ W.length ≤ i + 1 := by
      rintro hW G2 t2 ht2 rfl
      have s3 : Same Ge (upd Ge t2 (.tup [.int k, .int z])) := same_new ht2
      have k2 : SqT K (upd Ge t2 (.tup [.int k, .int z])) t2 [.int k, .int z] := SqT.of upd_same
      generalize (upd Ge t2 (.tup [.int k, .int z])) = G1 at s3 k2 ⊢
      have er3 := s3 _ _ er
      have kk : ∀ b xs, SqT K G1 b xs → SqT K (upd G1 r (.lst (rs ++ [.ref t2]))) b xs := fun b xs h => (sx_upd (p := r)).sqT er3 h
      refine ⟨_, _, _, W ++ [(k, z)], rfl, sx.trans ((Same.sx s3).trans sx_upd), upd_same, ?_, hW, by rw [List.length_append, List.length_singleton]; omega⟩
      have e : prDs (W ++ [(k, z)]) = prDs W ++ [prD (k, z)] := by rw [prDs, List.map_append]; rfl
      rw [e]
      exact dpAll_append (dpAll_keep kk (noLs_prV W) (dpAll_same s3 dW)) (.cons (.tup (kk _ _ k2) (.cons (.int _) (.cons (.int _) .nil))) .nil)
    cases eW : W.getLast? with
    | none =>
      rw [List.getLast?_eq_none_iff] at eW
      subst eW
      have rs0 : rs = [] := List.length_eq_zero_iff.mp (by rw [rl]; rfl)
      subst rs0
      refine ⟨.list [], .list [], .lst (SqL.of er) .nil, de, by decide, by decide, _, rfl, ?_⟩
      refine iteT ?_
      refine iteT ?_
      refine ⟨_, rfl, .inl ⟨rfl, [], SqL.of er⟩, _, rfl, _, rfl, (by show 2 ≤ sizeLine; decide), fun t2 ht2 => ?_⟩
      have s3 : Same Ge (upd Ge t2 (.tup [.int k, .int z])) := same_new ht2
      refine ⟨r, [], _, rfl, rfl, s3 _ _ er, by decide, ?_⟩
      exact add (stp.1 rfl) _ t2 ht2 rfl
    | some l =>
      obtain ⟨tl, eat, kl⟩ := dp_last dW eW
      refine ⟨.list (prDs W), .list [], .lst (SqL.of er) dW, de, shaped_prs W, by decide, _, rfl, ?_⟩
      have ne : PyData.eqv (.list (prDs W)) (.list []) = false := by
        obtain ⟨l, rfl⟩ := List.getLast?_eq_some_iff.mp eW
        cases l <;> simp [prDs, PyData.eqv, PyData.eqvAll]
      rw [ne]
      refine iteF ?_
      refine ⟨_, rfl, _, rfl, _, rfl, _, _, _, _, rfl, rfl, SqL.of er, eat, _, _, _, _, rfl, rfl, kl, atI_at (j := 1) rfl rfl, _, _, rfl, rfl, _, rfl, ?_⟩
      refine ite2 (fun g => ?_) (fun g => ?_)
      · refine ⟨_, rfl, .inl ⟨rfl, rs, SqL.of er⟩, _, rfl, _, rfl, (by show 2 ≤ sizeLine; decide), fun t2 ht2 => ?_⟩
        have s3 : Same Ge (upd Ge t2 (.tup [.int k, .int z])) := same_new ht2
        refine ⟨r, rs, _, rfl, rfl, s3 _ _ er, small1000 (by omega), ?_⟩
        exact add ((stp.2 l eW).1 (of_decide_eq_true g)) _ t2 ht2 rfl
      · exact ⟨_, _, rs, W, rfl, sx, er, dW, (stp.2 l eW).2 fun y => g (decide_eq_true y), by omega⟩
  · rintro σ G ⟨y5, y6, rs, W, rfl, sx, er, dW, eW0, lW⟩
    rw [List.length_map, List.take_length] at eW0
    have WR : W = R := val_one (eW0.val fun p hp => (csm p.1).mpr ⟨p, hp, rfl⟩) hR
    subst WR
    have dfG := sx.dp er0 (noP _) df7
    have fin1 : fine (.tuple (prDs W)) := by simp only [fine]; exact prs_fine Rb
    refine ⟨_, rfl, _, _, rfl, dfG, fin1, depth_tps _, bulk_tps (by omega), ?_⟩
    refine ⟨_, rfl, r, rs, rfl, .inl ⟨SqL.of er, fun t ht => ?_⟩⟩
    have s8 : Same G (upd G t (.tup rs)) := same_new ht
    have dt : Dp K (upd G t (.tup rs)) (.ref t) (.tuple (prDs W)) := .tup (SqT.of upd_same) (dpAll_same s8 dW)
    have sG := (Same.sx_free S7 hrH sx).trans s8
    have d0 := dp_same sG hd
    have d1 := dp_same sG he
    have d2 := dp_same s8 dfG
    generalize (upd G t (.tup rs)) = G2 at dt sG d0 d1 d2 ⊢
    clear s8 dfG
    have W4 : W.length ≤ 400 := by omega
    refine ⟨_, _, rfl, dt, fin1, depth_tps _, bulk_tps (by omega), rfl, _, rfl, ?_⟩
    refine iteFx (by simp) ?_
    refine ⟨_, rfl, f, _, rfl, d2, fun G3 s9 => ⟨_, _, rfl, rfl, _, rfl, ?_⟩⟩
    rw [Rv]
    refine iteFx (by decide) ?_
    have e0 := dp_same s9 d0
    have e1 := dp_same s9 d1
    have e2 := dp_same s9 d2
    have sG3 := sG.trans s9
    clear d0 d1 d2 sG s9 dt
    -- the other way round
    show tSeq _ _ _ [some (.ref a), some (.ref b), some f, some (.ref c), some (.ref r), y5, y6, none] G3
    refine ⟨_, rfl, _, rfl, l2_eq e1 e0 rq.val rp.val (val_swap hR) W4 fun G4 u4 s4 d4 => ?_⟩
    refine ⟨_, rfl, _, _, d4, dp_same s4 e2, shaped_tps _, shaped_tps _, _, rfl, ?_⟩
    refine iteFx (by rw [eqv_tps21]; rfl) ?_
    refine ⟨_, rfl, _, rfl, l2_eq (dp_same s4 e0) (dp_same s4 e1) rp.val rq.val hR W4 fun G5 u5 s5 d5 => ?_⟩
    have s45 := s4.trans s5
    refine ⟨_, rfl, _, _, d5, dp_same s45 e2, shaped_tps _, shaped_tps _, _, rfl, ?_⟩
    refine iteFx (by rw [eqv_tps21]; rfl) ?_
    refine ⟨_, rfl, _, rfl, l2_eq (dp_same s45 e2) (dp_same s45 e0) Rv rp.val (val_own hR) W4 fun G6 u6 s6 d6 => ?_⟩
    have s46 := s45.trans s6
    refine ⟨_, rfl, _, _, d6, dp_same s46 e2, shaped_tps _, shaped_tps _, _, rfl, ?_⟩
    refine iteTx (eqv_tps21 _) ?_
    refine ⟨_, rfl, _, rfl, l2_eq (dp_same s46 e0) (dp_same s46 e0) rp.val rp.val (val_self rp.st) (by omega) fun G7 u7 s7 d7 => ?_⟩
    have s47 := s46.trans s7
    refine ⟨_, rfl, _, _, d7, dp_same s47 e0, shaped_tps _, shaped_tps _, ?_⟩
    rw [eqv_tps21]
    exact q _ (sG3.trans s47)
end
/-! block V21b: _law_bounds_right (behind bV21q; printed by mkV21b.py) -/
def evP (n : Nat) : List P2 := (List.range n).map fun (k : Nat) => (2 * (k : Int), 0 - 2 * (k : Int))
def odP (n : Nat) : List P2 := (List.range n).map fun (k : Nat) => (2 * (k : Int) + 1, 0 - 2 * (k : Int) - 1)
theorem evP_len (n : Nat) : (evP n).length = n := by simp [evP]
theorem odP_len (n : Nat) : (odP n).length = n := by simp [odP]
theorem evP_succ (n : Nat) : evP (n + 1) = evP n ++ [(2 * (n : Int), 0 - 2 * (n : Int))] := by simp [evP, List.range_succ]
theorem odP_succ (n : Nat) : odP (n + 1) = odP n ++ [(2 * (n : Int) + 1, 0 - 2 * (n : Int) - 1)] := by simp [odP, List.range_succ]
theorem evP_mem {n : Nat} {p : P2} : p ∈ evP n ↔ ∃ k : Nat, k < n ∧ p = (2 * (k : Int), 0 - 2 * (k : Int)) := by
  simp only [evP, List.mem_map, List.mem_range]
  exact ⟨fun ⟨k, h, e⟩ => ⟨k, h, e.symm⟩, fun ⟨k, h, e⟩ => ⟨k, h, e.symm⟩⟩
theorem odP_mem {n : Nat} {p : P2} : p ∈ odP n ↔ ∃ k : Nat, k < n ∧ p = (2 * (k : Int) + 1, 0 - 2 * (k : Int) - 1) := by
  simp only [odP, List.mem_map, List.mem_range]
  exact ⟨fun ⟨k, h, e⟩ => ⟨k, h, e.symm⟩, fun ⟨k, h, e⟩ => ⟨k, h, e.symm⟩⟩
theorem evP_st (n : Nat) : Strict (evP n) := by
  unfold evP Strict
  rw [List.pairwise_map]
  exact List.pairwise_lt_range.imp fun {a b} h => by dsimp only; omega
theorem odP_st (n : Nat) : Strict (odP n) := by
  unfold odP Strict
  rw [List.pairwise_map]
  exact List.pairwise_lt_range.imp fun {a b} h => by dsimp only; omega
theorem evP_val {n : Nat} (h1 : 1 ≤ n) (h2 : n ≤ 400) : valB (.tuple (prDs (evP n))) = true := valB_iff.mpr ⟨_, rfl, by rw [evP_len]; exact h1, by rw [evP_len]; exact h2, evP_st n⟩
theorem odP_val {n : Nat} (h1 : 1 ≤ n) (h2 : n ≤ 400) : valB (.tuple (prDs (odP n))) = true := valB_iff.mpr ⟨_, rfl, by rw [odP_len]; exact h1, by rw [odP_len]; exact h2, odP_st n⟩
theorem strict_nd {R : List P2} (h : Strict R) : R.Nodup := h.imp fun {p q} z e => by
  have := z.1
  rw [e] at this
  omega
/-- even and odd capacities: all of them are of the front -/
theorem front_eo {n m : Nat} {L R : List P2} (hp : L.Perm (evP n ++ odP m)) (h : IsVal L R) : R.length = n + m := by
  have nd : (evP n ++ odP m).Nodup := by
    refine List.nodup_append.mpr ⟨strict_nd (evP_st n), strict_nd (odP_st m), fun p hp q hq e => ?_⟩
    obtain ⟨k, _, rfl⟩ := evP_mem.mp hp
    obtain ⟨j, _, rfl⟩ := odP_mem.mp hq
    have := congrArg Prod.fst e
    dsimp only at this
    omega
  have neg : ∀ p ∈ L, p.2 = 0 - p.1 := fun p hpL => by
    rcases List.mem_append.mp (hp.mem_iff.mp hpL) with z | z
    · obtain ⟨k, _, rfl⟩ := evP_mem.mp z
      rfl
    · obtain ⟨k, _, rfl⟩ := odP_mem.mp z
      dsimp only
      omega
  have := front_all h.strict ⟨h.sub, h.cov⟩ (hp.nodup_iff.mpr nd) fun p hp q hq h1 h2 => by
    have e1 := neg p hp
    have e2 := neg q hq
    exact Prod.ext (by omega) (by omega)
  rw [this, hp.length_eq, List.length_append, evP_len, odP_len]
theorem cut_hd {us : List V} {j : Int} (h : 0 ≤ j) : cutV us none (some j) = us.take j.toNat := by
  unfold cutV HT.sIx
  simp only [show ¬(j < 0) by omega, if_false, List.drop_zero, Nat.sub_zero]
  rcases Nat.le_total j.toNat us.length with z | z
  · simp [Nat.min_eq_left z]
  · simp [Nat.min_eq_right z, List.take_of_length_le z]
theorem Pot.ext {H H' : Hp} {p : Addr} {n : Nat} (h : Pot H p n) (s : LamX.ExtN H H') : Pot H' p n := by
  obtain ⟨a, b, c, h1, h2⟩ := h
  exact ⟨a, b, c, extN_lst s h1, h2⟩
def dMany : PyData := .tuple [.str "many", .int 400]
def spBR {mg : Str → Option Value} (K : PySem.W.Frag) (T : Txt K mg) : Sp := fun vs H Q _ => ∃ (p : Addr) (m : Nat), vs = [.ref p] ∧ Pot H p m ∧ m + 1 ≤ 1099511627776 ∧ LamX.Tabs (lamT T) H ∧
  ∀ H', SxN p H H' → LamX.Tabs (lamT T) H' → Pot H' p (m + 1) → Q (.bl true) H'
section
variable {P : Program} {w : World} {K : PySem.W.Frag} {mg : Str → Option Value} {base : Heap}
theorem ok_br (T : Txt K mg) (TB__law_bounds_right : LamX.TabB base mg T.cc__law_bounds_right T.ct__law_bounds_right) : FnOk P w K mg base CX0 14 T.f__law_bounds_right T.d__law_bounds_right ["_law_source_here"] (spBR K T) := by
  have g__law_draw := ok_take (P := P) (w := w) (base := base) T
  have g_least_of_two := ok_l2 (P := P) (w := w) (base := base) T
  refine okC T.F__law_bounds_right T.hc__law_bounds_right sc__law_bounds_right (fun vs H Q E h => ?_) (fun A outer s H vs Q E hr h => ?_)
  · obtain ⟨p, m, rfl, _⟩ := h
    rfl
  obtain ⟨p, m, rfl, hp, hm, hT, q⟩ := h
  refine ⟨_, (pss_cons (ps_set (i := 1) sc__law_bounds_right.nd rfl (Or.inl rfl) (pe_op op_add pe_int (pe_call g__law_draw (hr.mono (by omega)) rfl T.m__law_draw T.F__law_draw.kp T.b__law_draw .nil pass0 (pa_cons (pv 0) (pa_cons pe_int pa_nil)))))
      (pss_cons (ps_set (i := 2) sc__law_bounds_right.nd rfl (Or.inl rfl) (pe_callTy (r := rTupS K) call_tupS (by rfl) T.n_tuple (by decide +kernel) (pa_cons (pe_lc (own := [("_law_number", 6)]) (g := (gName 6)) (by rfl) sc__law_bounds_right.nd (pi_range1 rfl T.n_range (pa_cons (pv 1) pa_nil)) (blkOk_by (N := N__law_bounds_right) (sc := (defScope s__law_bounds_right)) (by decide +kernel)) (fun _ _ _ _ _ => (pg_name (i := 6) sc__law_bounds_right.nd rfl (Or.inl rfl))) (fun _ _ _ _ _ => pts_nil) (fun _ _ _ _ _ => (pe_tup (pa_cons (pe_op op_mulW pe_int (pv 6)) (pa_cons (pe_op op_sub pe_int (pe_op op_mulW pe_int (pv 6))) pa_nil))))) pa_nil)))
      (pss_cons (ps_set (i := 3) sc__law_bounds_right.nd rfl (Or.inl rfl) (pe_callTy (r := rTupS K) call_tupS (by rfl) T.n_tuple (by decide +kernel) (pa_cons (pe_lc (own := [("_law_number", 6)]) (g := (gName 6)) (by rfl) sc__law_bounds_right.nd (pi_range1 rfl T.n_range (pa_cons (pe_op op_sub pe_int (pv 1)) pa_nil)) (blkOk_by (N := N__law_bounds_right) (sc := (defScope s__law_bounds_right)) (by decide +kernel)) (fun _ _ _ _ _ => (pg_name (i := 6) sc__law_bounds_right.nd rfl (Or.inl rfl))) (fun _ _ _ _ _ => pts_nil) (fun _ _ _ _ _ => (pe_tup (pa_cons (pe_op op_add (pe_op op_mulW pe_int (pv 6)) pe_int) (pa_cons (pe_op op_sub (pe_op op_sub pe_int (pe_op op_mulW pe_int (pv 6))) pe_int) pa_nil))))) pa_nil)))
      (pss_cons (ps_if (PW.pt (pw_and (pt_cmpR (r := rNeD K) (op_neD hr.units) (pv 3) (pw_tup (pws_nil (E := [])) (by decide)) (nomark _)) (pw_and1 (pt_cmpR op_ne (pe_callB (r := rLenS K) call_lenS (by rfl) T.n_len (by decide +kernel) (pa_cons (pe_call g_least_of_two (hr.mono (by omega)) rfl T.m_least_of_two T.F_least_of_two.kp T.b_least_of_two .nil passN (pa_cons (pv 2) (pa_cons (pv 3) pa_nil))) pa_nil)) (pe_callB (r := rLenS K) call_lenS (by rfl) T.n_len (by decide +kernel) (pa_cons (pe_slice (r := rSlL K) sl_list (pe_callB (r := rSortTT K) cr_sortTT (by rfl) T.n_sorted (by decide +kernel) (pa_cons (pe_op (r := rCatA K) op_catA (pv 2) (pv 3)) pa_nil)) po_none (po_some pe_int)) pa_nil)) (nomark _))))) (pss_one (ps_ret pe_bl)) pss_nil)
      (pss_cons (ps_set (i := 4) sc__law_bounds_right.nd rfl (Or.inr rfl) (pe_callTy (r := rTupS K) call_tupS (by rfl) T.n_tuple (by decide +kernel) (pa_cons (pe_lc (own := [("_law_number", 6)]) (g := (gName 6)) (by rfl) sc__law_bounds_right.nd (pi_range1 rfl T.n_range (pa_cons (pv 1) pa_nil)) (blkOk_by (N := N__law_bounds_right) (sc := (defScope s__law_bounds_right)) (by decide +kernel)) (fun _ _ _ _ _ => (pg_name (i := 6) sc__law_bounds_right.nd rfl (Or.inl rfl))) (fun _ _ _ _ _ => pts_nil) (fun _ _ _ _ _ => (pe_tup (pa_cons (pe_op op_add (pe_op op_mulW pe_int (pv 6)) pe_int) (pa_cons (pe_op op_sub (pe_op op_sub pe_int (pe_op op_mulW pe_int (pv 6))) pe_int) pa_nil))))) pa_nil)))
      (pss_cons (ps_set (i := 5) sc__law_bounds_right.nd rfl (Or.inr rfl) (pe_callTy (r := rTupS K) call_tupS (by rfl) T.n_tuple (by decide +kernel) (pa_cons (pe_lc (own := [("_law_number", 6)]) (g := (gName 6)) (by rfl) sc__law_bounds_right.nd (pi_range1 rfl T.n_range (pa_cons pe_int pa_nil)) (blkOk_by (N := N__law_bounds_right) (sc := (defScope s__law_bounds_right)) (by decide +kernel)) (fun _ _ _ _ _ => (pg_name (i := 6) sc__law_bounds_right.nd rfl (Or.inl rfl))) (fun _ _ _ _ _ => pts_nil) (fun _ _ _ _ _ => (pe_tup (pa_cons (pe_op op_mulW pe_int (pv 6)) (pa_cons (pe_op op_sub pe_int (pe_op op_mulW pe_int (pv 6))) pa_nil))))) pa_nil)))
      (pss_cons (ps_if (pt_cmpR (r := rNeD K) (op_neD hr.units) (pe_lamF (T := lamT T) (k := 8) (c := T.cc__law_bounds_right) (P := T.ct__law_bounds_right) T.F__law_valley_outcome T.b__law_valley_outcome rfl T.m__law_valley_outcome sc__law_valley_outcome rfl (.inl rfl) (fun cdv => gives__law_valley_outcome T _ rfl rfl) TB__law_bounds_right rfl (.head _) (lamU__law_bounds_right T) (hr.mono (by omega)) (LamX.lamS_by (sc := defScope s__law_bounds_right) (by decide +kernel)) rfl (fun _ _ _ _ _ => rfl) (fun A outer s H E f c hr => (pe_call (E := E) g_least_of_two (hr.mono (by omega)) rfl T.m_least_of_two T.F_least_of_two.kp T.b_least_of_two .nil (passes_call (takes_of rfl rfl rfl rfl) (fun _ _ _ _ h => h)) (pa_cons (pv 5) (pa_cons (pv 4) pa_nil))))) (pw_tup (pws_cons (pw_str (E := [])) (pws_cons (pw_int (E := []) (n := 400) pe_int (by decide +kernel) (fun σ H Q q => q)) (pws_nil (E := [])))) (by decide)) (nomark _)) (pss_one (ps_ret pe_bl)) pss_nil)
      (pss_cons (ps_if (pt_cmpR (r := rNeD K) (op_neD hr.units) (pe_lamF (T := lamT T) (k := 8) (c := T.cc__law_bounds_right) (P := T.ct__law_bounds_right) T.F__law_valley_outcome T.b__law_valley_outcome rfl T.m__law_valley_outcome sc__law_valley_outcome rfl (.inl rfl) (fun cdv => gives__law_valley_outcome T _ rfl rfl) TB__law_bounds_right rfl (.head _) (lamU__law_bounds_right T) (hr.mono (by omega)) (LamX.lamS_by (sc := defScope s__law_bounds_right) (by decide +kernel)) rfl (fun _ _ _ _ _ => rfl) (fun A outer s H E f c hr => (pe_call (E := E) g_least_of_two (hr.mono (by omega)) rfl T.m_least_of_two T.F_least_of_two.kp T.b_least_of_two .nil (passes_call (takes_of rfl rfl rfl rfl) (fun _ _ _ _ h => h)) (pa_cons (pe_slice (r := rSlA K) sl_tupA (pv 4) po_none (po_some pe_int)) (pa_cons (pv 5) pa_nil))))) (pw_tup (pws_cons (pw_str (E := [])) (pws_cons (pw_int (E := []) (n := 400) pe_int (by decide +kernel) (fun σ H Q q => q)) (pws_nil (E := [])))) (by decide)) (nomark _)) (pss_one (ps_ret pe_bl)) pss_nil)
      (pss_one (ps_ret (pe_cmpR (r := rEqD K) (op_eqD hr.units) (pe_call g_least_of_two (hr.mono (by omega)) rfl T.m_least_of_two T.F_least_of_two.kp T.b_least_of_two .nil passN (pa_cons (pv 5) (pa_cons (pv 5) pa_nil))) (pv 5) (nomark _)))))))))))), ?_⟩
  have mul : ∀ (k : Int), 0 ≤ k → k ≤ 400 → CMulW 2 k := fun k h3 h4 => wide_mul (a := 64) (b := 64) (by decide) (by omega) (by decide) (by decide) (by decide)
  obtain ⟨l0, hl0⟩ := hp.lst
  refine ⟨_, rfl, p, m, 399, rfl, hp, by omega, by decide, by decide, fun G0 r S0 hp0 r0 r1 => ⟨_, _, rfl, rfl, ?_⟩⟩
  obtain ⟨n, en⟩ : ∃ n : Nat, 1 + r = (n : Int) := ⟨(1 + r).toNat, by omega⟩
  show tSeq _ _ _ [some (.ref p), some (.int (1 + r)), none, none, none, none, none] G0
  rw [en]
  have n1 : 1 ≤ n ∧ n ≤ 399 := by omega
  clear en r0 r1
  refine ⟨_, rfl, _, rfl, by omega, by omega, fun D hD => ?_⟩
  refine lc_range (lo := 0) (n := ((n : Int)).toNat) (fun i F => Same G0 F ∧ ∃ ws, F D = some (.lst ws) ∧ DpAll K F ws (prDs (evP i))) ⟨same_new hD, [], upd_same, .nil⟩ ?_ ?_
  · rintro i F hi ⟨s4, ws, eD, hw⟩
    have hi' : i < 400 := by omega
    have wl : ws.length = i := by rw [dpAll_length hw, prDs, List.length_map, evP_len]
    have e0 : (0 : Int) + (i : Int) = (i : Int) := by omega
    rw [e0]
    refine ⟨rfl, ?_⟩
    unfold tYes
    refine iteT ?_
    refine ⟨_, rfl, _, _, rfl, rfl, mul _ (by omega) (by omega), _, rfl, _, _, rfl, rfl, mul _ (by omega) (by omega), _, _, rfl, rfl, (by show 2 ≤ sizeLine; decide), fun y hy => ?_⟩
    have s5 : Same F (upd F y (.tup [.int (2 * (i : Int)), .int (0 - 2 * (i : Int))])) := same_new hy
    have dy : Dp K (upd F y (.tup [.int (2 * (i : Int)), .int (0 - 2 * (i : Int))])) (.ref y) (prD (2 * (i : Int), 0 - 2 * (i : Int))) := .tup (SqT.of upd_same) (.cons (.int _) (.cons (.int _) .nil))
    have eD5 := s5 _ _ eD
    generalize (upd F y (.tup [.int (2 * (i : Int)), .int (0 - 2 * (i : Int))])) = F2 at s5 dy eD5 ⊢
    have kk : ∀ b zs, SqT K F2 b zs → SqT K (upd F2 D (.lst (ws ++ [.ref y]))) b zs := fun b zs h => (sx_upd (p := D)).sqT eD5 h
    refine ⟨ws, eD5, small1000 (by omega), fun b o e => by rw [upd_ne (ne_of_none e hD)]; exact s5 _ _ (s4 _ _ e), _, upd_same, ?_⟩
    rw [evP_succ, prDs, List.map_append]
    exact dpAll_append (dpAll_keep kk (noLs_prV _) (dpAll_same s5 hw)) (.cons (dp_keep kk (noLs_one _) dy) .nil)
  rintro F ⟨s4, ws, eD, hw⟩
  refine ⟨D, ws, rfl, .inl ⟨SqL.of eD, fun a2 ha => ?_⟩⟩
  have d2 : Dp K (upd F a2 (.tup ws)) (.ref a2) (.tuple (prDs (evP (((n : Int)).toNat)))) := .tup (SqT.of upd_same) (dpAll_same (same_new ha) hw)
  have s1 : Same G0 (upd F a2 (.tup ws)) := s4.trans (same_new ha)
  generalize (upd F a2 (.tup ws)) = G1 at d2 s1 ⊢
  clear hw eD s4 ha hD
  refine ⟨_, rfl, _, _, rfl, rfl, _, rfl, by omega, by omega, fun D hD => ?_⟩
  refine lc_range (lo := 0) (n := (400 - (n : Int)).toNat) (fun i F => Same G1 F ∧ ∃ ws, F D = some (.lst ws) ∧ DpAll K F ws (prDs (odP i))) ⟨same_new hD, [], upd_same, .nil⟩ ?_ ?_
  · rintro i F hi ⟨s4, ws, eD, hw⟩
    have hi' : i < 400 := by omega
    have wl : ws.length = i := by rw [dpAll_length hw, prDs, List.length_map, odP_len]
    have e0 : (0 : Int) + (i : Int) = (i : Int) := by omega
    rw [e0]
    refine ⟨rfl, ?_⟩
    unfold tYes
    refine iteT ?_
    refine ⟨_, rfl, _, _, rfl, rfl, mul _ (by omega) (by omega), _, _, rfl, rfl, _, rfl, _, _, rfl, rfl, mul _ (by omega) (by omega), _, _, rfl, rfl, _, _, rfl, rfl, (by show 2 ≤ sizeLine; decide), fun y hy => ?_⟩
    have s5 : Same F (upd F y (.tup [.int (2 * (i : Int) + 1), .int (0 - 2 * (i : Int) - 1)])) := same_new hy
    have dy : Dp K (upd F y (.tup [.int (2 * (i : Int) + 1), .int (0 - 2 * (i : Int) - 1)])) (.ref y) (prD (2 * (i : Int) + 1, 0 - 2 * (i : Int) - 1)) := .tup (SqT.of upd_same) (.cons (.int _) (.cons (.int _) .nil))
    have eD5 := s5 _ _ eD
    generalize (upd F y (.tup [.int (2 * (i : Int) + 1), .int (0 - 2 * (i : Int) - 1)])) = F2 at s5 dy eD5 ⊢
    have kk : ∀ b zs, SqT K F2 b zs → SqT K (upd F2 D (.lst (ws ++ [.ref y]))) b zs := fun b zs h => (sx_upd (p := D)).sqT eD5 h
    refine ⟨ws, eD5, small1000 (by omega), fun b o e => by rw [upd_ne (ne_of_none e hD)]; exact s5 _ _ (s4 _ _ e), _, upd_same, ?_⟩
    rw [odP_succ, prDs, List.map_append]
    exact dpAll_append (dpAll_keep kk (noLs_prV _) (dpAll_same s5 hw)) (.cons (dp_keep kk (noLs_one _) dy) .nil)
  rintro F ⟨s4, ws, eD, hw⟩
  refine ⟨D, ws, rfl, .inl ⟨SqL.of eD, fun a3 ha => ?_⟩⟩
  have d3 : Dp K (upd F a3 (.tup ws)) (.ref a3) (.tuple (prDs (odP ((400 - (n : Int)).toNat)))) := .tup (SqT.of upd_same) (dpAll_same (same_new ha) hw)
  have s2 : Same G1 (upd F a3 (.tup ws)) := s4.trans (same_new ha)
  generalize (upd F a3 (.tup ws)) = G2 at d3 s2 ⊢
  clear hw eD s4 ha hD
  have t1 : ((n : Int)).toNat = n := by omega
  obtain ⟨k, ek⟩ : ∃ k : Nat, (400 - (n : Int)).toNat = k := ⟨_, rfl⟩
  rw [t1] at d2
  rw [ek] at d3
  have kn : n + k = 400 := by omega
  have d2' := dp_same s2 d2
  have v2 := evP_val n1.1 (by omega)
  have v3 := odP_val (n := k) (by omega) (by omega)
  show tSeq _ _ _ [some (.ref p), some (.int (n : Int)), some (.ref a2), some (.ref a3), none, none, none] G2
  refine ⟨_, rfl, Ns.nil, fun G3 v3' s3 dn => ?_⟩
  refine ⟨_, _, dp_same s3 d3, dn, shaped_tps _, by rfl, _, rfl, ?_⟩
  have ne : PyData.eqv (.tuple (prDs (odP k))) (.tuple []) = false := by
    obtain ⟨j, rfl⟩ : ∃ j, k = j + 1 := ⟨k - 1, by omega⟩
    rw [odP_succ]
    cases odP j <;> simp [prDs, PyData.eqv, PyData.eqvAll]
  rw [ne]
  refine iteTx rfl ?_
  have d23 := dp_same s3 d2'
  have d33 := dp_same s3 d3
  refine ⟨_, rfl, _, rfl, l2_use d23 d33 v2 v3 fun R hR => ?_⟩
  have Rl : R.length = 400 := by rw [front_eo (List.Perm.refl _) hR]; exact kn
  refine ⟨by omega, fun G4 f s4 df => ?_⟩
  obtain ⟨af, fs, rfl, hf, hfall⟩ := dp_tup_inv df
  have fl : fs.length = 400 := by rw [dpAll_length hfall, prDs, List.length_map]; exact Rl
  refine ⟨af, _, rfl, .inr hf, ?_⟩
  obtain ⟨b2, xs, e2, hs, hall⟩ := dp_tup_inv (dp_same s4 d23)
  cases e2
  obtain ⟨b3, ys, e3, ks, kall⟩ := dp_tup_inv (dp_same s4 d33)
  cases e3
  have hl : xs.length = n := by rw [dpAll_length hall, prDs, List.length_map, evP_len]
  have kl : ys.length = k := by rw [dpAll_length kall, prDs, List.length_map, odP_len]
  refine ⟨_, rfl, _, rfl, a2, a3, xs, ys, rfl, rfl, hs, ks, (by rw [sizeLine_eq]; omega), (fun z => absurd (congrArg List.length z) (by rw [hl, List.length_nil]; omega)), (fun _ z => absurd (congrArg List.length z) (by rw [kl, List.length_nil]; omega)), fun _ _ t ht => ?_⟩
  have s5 : Same G4 (upd G4 t (.tup (xs ++ ys))) := same_new ht
  have et : SqT K (upd G4 t (.tup (xs ++ ys))) t (xs ++ ys) := SqT.of upd_same
  have dall : DpAll K (upd G4 t (.tup (xs ++ ys))) (xs ++ ys) (prDs (evP n ++ odP k)) := by
    rw [prDs, List.map_append]
    exact dpAll_append (dpAll_same s5 hall) (dpAll_same s5 kall)
  generalize (upd G4 t (.tup (xs ++ ys))) = G5 at s5 et dall ⊢
  refine ⟨t, xs ++ ys, (evP n ++ odP k).map keyP, rfl, et, keys_pairs dall, fun zs ls u hk ho hperm hu => ?_⟩
  have s6 : Same G5 (upd G5 u (.lst zs)) := same_new hu
  have eu : (upd G5 u (.lst zs)) u = some (.lst zs) := upd_same
  have zl : zs.length = 400 := by
    obtain ⟨qs, rfl, hqp, _⟩ := sorted_pairs ho hperm
    rw [dpAll_length (pairs_keys hk), prDs, List.length_map, hqp.length_eq, List.length_append, evP_len, odP_len]
    exact kn
  generalize (upd G5 u (.lst zs)) = G6 at s6 eu ⊢
  unfold tNoPart
  dsimp only
  refine ⟨_, rfl, u, zs, rfl, SqL.of eu, fun u2 hu2 => ⟨u2, _, rfl, .inl (SqL.of upd_same), rfl, _, rfl, ?_⟩⟩
  refine iteFx (by rw [cut_hd (by decide)]; simp [fl, zl]) ?_
  have S7 : Same G2 (upd G6 u2 (.lst (cutV zs none (some 400)))) := s3.trans (s4.trans (s5.trans (s6.trans (same_new hu2))))
  generalize (upd G6 u2 (.lst (cutV zs none (some 400)))) = G7 at S7 ⊢
  clear hu2 eu s6 hu hk ho hperm dall et s5 ht hall kall hs ks hf hfall s4 df d23 d33 dn s3 d3 d2 d2' hR Rl
  show tSeq _ _ _ [some (.ref p), some (.int (n : Int)), some (.ref a2), some (.ref a3), none, none, none] G7
  refine ⟨_, rfl, _, rfl, by omega, by omega, fun D hD => ?_⟩
  refine lc_range (lo := 0) (n := ((n : Int)).toNat) (fun i F => Same G7 F ∧ ∃ ws, F D = some (.lst ws) ∧ DpAll K F ws (prDs (odP i))) ⟨same_new hD, [], upd_same, .nil⟩ ?_ ?_
  · rintro i F hi ⟨s4, ws, eD, hw⟩
    have hi' : i < 400 := by omega
    have wl : ws.length = i := by rw [dpAll_length hw, prDs, List.length_map, odP_len]
    have e0 : (0 : Int) + (i : Int) = (i : Int) := by omega
    rw [e0]
    refine ⟨rfl, ?_⟩
    unfold tYes
    refine iteT ?_
    refine ⟨_, rfl, _, _, rfl, rfl, mul _ (by omega) (by omega), _, _, rfl, rfl, _, rfl, _, _, rfl, rfl, mul _ (by omega) (by omega), _, _, rfl, rfl, _, _, rfl, rfl, (by show 2 ≤ sizeLine; decide), fun y hy => ?_⟩
    have s5 : Same F (upd F y (.tup [.int (2 * (i : Int) + 1), .int (0 - 2 * (i : Int) - 1)])) := same_new hy
    have dy : Dp K (upd F y (.tup [.int (2 * (i : Int) + 1), .int (0 - 2 * (i : Int) - 1)])) (.ref y) (prD (2 * (i : Int) + 1, 0 - 2 * (i : Int) - 1)) := .tup (SqT.of upd_same) (.cons (.int _) (.cons (.int _) .nil))
    have eD5 := s5 _ _ eD
    generalize (upd F y (.tup [.int (2 * (i : Int) + 1), .int (0 - 2 * (i : Int) - 1)])) = F2 at s5 dy eD5 ⊢
    have kk : ∀ b zs, SqT K F2 b zs → SqT K (upd F2 D (.lst (ws ++ [.ref y]))) b zs := fun b zs h => (sx_upd (p := D)).sqT eD5 h
    refine ⟨ws, eD5, small1000 (by omega), fun b o e => by rw [upd_ne (ne_of_none e hD)]; exact s5 _ _ (s4 _ _ e), _, upd_same, ?_⟩
    rw [odP_succ, prDs, List.map_append]
    exact dpAll_append (dpAll_keep kk (noLs_prV _) (dpAll_same s5 hw)) (.cons (dp_keep kk (noLs_one _) dy) .nil)
  rintro F ⟨s4, ws, eD, hw⟩
  refine ⟨D, ws, rfl, .inl ⟨SqL.of eD, fun a4 ha => ?_⟩⟩
  have d4 : Dp K (upd F a4 (.tup ws)) (.ref a4) (.tuple (prDs (odP (((n : Int)).toNat)))) := .tup (SqT.of upd_same) (dpAll_same (same_new ha) hw)
  have s8 : Same G7 (upd F a4 (.tup ws)) := s4.trans (same_new ha)
  generalize (upd F a4 (.tup ws)) = G8 at d4 s8 ⊢
  clear hw eD s4 ha hD
  rw [t1] at d4
  show tSeq _ _ _ [some (.ref p), some (.int (n : Int)), some (.ref a2), some (.ref a3), some (.ref a4), none, none] G8
  refine ⟨_, rfl, by decide, by decide, fun D hD => ?_⟩
  refine lc_range (lo := 0) (n := (400 : Int).toNat) (fun i F => Same G8 F ∧ ∃ ws, F D = some (.lst ws) ∧ DpAll K F ws (prDs (evP i))) ⟨same_new hD, [], upd_same, .nil⟩ ?_ ?_
  · rintro i F hi ⟨s4, ws, eD, hw⟩
    have hi' : i < 400 := by omega
    have wl : ws.length = i := by rw [dpAll_length hw, prDs, List.length_map, evP_len]
    have e0 : (0 : Int) + (i : Int) = (i : Int) := by omega
    rw [e0]
    refine ⟨rfl, ?_⟩
    unfold tYes
    refine iteT ?_
    refine ⟨_, rfl, _, _, rfl, rfl, mul _ (by omega) (by omega), _, rfl, _, _, rfl, rfl, mul _ (by omega) (by omega), _, _, rfl, rfl, (by show 2 ≤ sizeLine; decide), fun y hy => ?_⟩
    have s5 : Same F (upd F y (.tup [.int (2 * (i : Int)), .int (0 - 2 * (i : Int))])) := same_new hy
    have dy : Dp K (upd F y (.tup [.int (2 * (i : Int)), .int (0 - 2 * (i : Int))])) (.ref y) (prD (2 * (i : Int), 0 - 2 * (i : Int))) := .tup (SqT.of upd_same) (.cons (.int _) (.cons (.int _) .nil))
    have eD5 := s5 _ _ eD
    generalize (upd F y (.tup [.int (2 * (i : Int)), .int (0 - 2 * (i : Int))])) = F2 at s5 dy eD5 ⊢
    have kk : ∀ b zs, SqT K F2 b zs → SqT K (upd F2 D (.lst (ws ++ [.ref y]))) b zs := fun b zs h => (sx_upd (p := D)).sqT eD5 h
    refine ⟨ws, eD5, small1000 (by omega), fun b o e => by rw [upd_ne (ne_of_none e hD)]; exact s5 _ _ (s4 _ _ e), _, upd_same, ?_⟩
    rw [evP_succ, prDs, List.map_append]
    exact dpAll_append (dpAll_keep kk (noLs_prV _) (dpAll_same s5 hw)) (.cons (dp_keep kk (noLs_one _) dy) .nil)
  rintro F ⟨s4, ws, eD, hw⟩
  refine ⟨D, ws, rfl, .inl ⟨SqL.of eD, fun a5 ha => ?_⟩⟩
  have d5 : Dp K (upd F a5 (.tup ws)) (.ref a5) (.tuple (prDs (evP ((400 : Int).toNat)))) := .tup (SqT.of upd_same) (dpAll_same (same_new ha) hw)
  have s9 : Same G8 (upd F a5 (.tup ws)) := s4.trans (same_new ha)
  generalize (upd F a5 (.tup ws)) = G9 at d5 s9 ⊢
  clear hw eD s4 ha hD
  have d5 : Dp K G9 (.ref a5) (.tuple (prDs (evP 400))) := d5
  have d4 := dp_same s9 d4
  have S9 : Sx p H G9 := S0.trans (Same.sx (s1.trans (s2.trans (S7.trans (s8.trans s9)))))
  have hp9 := hp0.same (s1.trans (s2.trans (S7.trans (s8.trans s9))))
  have T9 := tabs_sx hT S9 hl0
  have v5 := evP_val (n := 400) (by decide) (by decide)
  have v4 := odP_val (n := n) n1.1 (by omega)
  clear s1 s2 S7 s8 s9
  have dmk : ∀ {G : Hp} {t : Addr}, G t = some (.tup [.str "many", .int 400]) → Dp K G (.ref t) (.tuple [.str "many", .int 400]) := fun e => .tup (SqT.of e) (.cons (.str _) (.cons (.int _) .nil))
  have shm : SeqAt.shaped (.tuple [.str "many", .int 400]) = true := by decide +kernel
  have eqm : PyData.eqv (.tuple [.str "many", .int 400]) (.tuple [.str "many", .int 400]) = true := by simp [PyData.eqv, PyData.eqvAll]
  show tSeq _ _ _ [some (.ref p), some (.int (n : Int)), some (.ref a2), some (.ref a3), some (.ref a4), some (.ref a5), none] G9
  refine ⟨T9, fun K1 x1 T1 => ?_⟩
  refine ⟨_, rfl, _, rfl, ?_⟩
  refine l2_many (dp_ext x1 d5) (dp_ext x1 d4) v5 v4 (fun R hR => by rw [front_eo (List.Perm.refl _) hR]; omega) fun K2 dx s2 hdx => .inr (.inr ⟨dx, _, rfl, rfl, upd_same, fun t2 ht2 => ?_⟩)
  have S2 := s2.trans ((same_new (o := .xd [("limit", .int 400)]) hdx).trans (same_new (o := .tup [.str "many", .int 400]) ht2))
  have dt := dmk (G := upd (upd K2 dx (.xd [("limit", .int 400)])) t2 (.tup [.str "many", .int 400])) upd_same
  generalize (upd (upd K2 dx (.xd [("limit", .int 400)])) t2 (.tup [.str "many", .int 400])) = K3 at S2 dt ⊢
  refine ⟨Ns.nil, fun K4 v' s4 d' => ⟨_, _, dp_same s4 dt, d', shm, shm, _, rfl, ?_⟩⟩
  refine iteFx (by rw [eqm]; rfl) ?_
  have x4 : LamX.ExtN G9 K4 := x1.trans (extN_same (S2.trans s4))
  have T4 := tabs_same T1 (S2.trans s4)
  clear x1 T1 S2 dt d' s4 hdx ht2
  show tSeq _ _ _ [some (.ref p), some (.int (n : Int)), some (.ref a2), some (.ref a3), some (.ref a4), some (.ref a5), none] K4
  refine ⟨T4, fun M1 y1 U1 => ?_⟩
  have x5 := x4.trans y1
  obtain ⟨b4, fs, e4, hf, hfall⟩ := dp_tup_inv (dp_ext x5 d4)
  cases e4
  refine ⟨_, rfl, _, rfl, ?_⟩
  refine slT hf fun M2 b s2 hb => ?_
  rw [cut_hd (by decide)] at hb
  have db : Dp K M2 (.ref b) (.tuple (prDs (odP 1))) := by
    refine .tup hb ?_
    obtain ⟨w0, wr, rfl, dw⟩ : ∃ w0 wr, fs = w0 :: wr ∧ Dp K M1 w0 (prD (1, -1)) := by
      obtain ⟨j, rfl⟩ : ∃ j, n = j + 1 := ⟨n - 1, by omega⟩
      have e : odP (j + 1) = (1, -1) :: (List.range j).map fun (k : Nat) => (2 * ((k + 1 : Nat) : Int) + 1, 0 - 2 * ((k + 1 : Nat) : Int) - 1) := by
        unfold odP
        rw [List.range_succ_eq_map, List.map_cons, List.map_map]
        rfl
      rw [e] at hfall
      cases hfall with
      | cons h1 h2 => exact ⟨_, _, rfl, h1⟩
    exact .cons (dp_same s2 dw) .nil
  refine ⟨_, rfl, ?_⟩
  refine l2_many db (dp_same s2 (dp_ext x5 d5)) (odP_val (by decide) (by decide)) v5 (fun R hR => by rw [front_eo List.perm_append_comm hR]; decide) fun M3 dx s3 hdx => .inr (.inr ⟨dx, _, rfl, rfl, upd_same, fun t2 ht2 => ?_⟩)
  have S2 := s2.trans (s3.trans ((same_new (o := .xd [("limit", .int 400)]) hdx).trans (same_new (o := .tup [.str "many", .int 400]) ht2)))
  have dt := dmk (G := upd (upd M3 dx (.xd [("limit", .int 400)])) t2 (.tup [.str "many", .int 400])) upd_same
  generalize (upd (upd M3 dx (.xd [("limit", .int 400)])) t2 (.tup [.str "many", .int 400])) = M4 at S2 dt ⊢
  refine ⟨Ns.nil, fun M5 v' s4 d' => ⟨_, _, dp_same s4 dt, d', shm, shm, _, rfl, ?_⟩⟩
  refine iteFx (by rw [eqm]; rfl) ?_
  have x6 : LamX.ExtN G9 M5 := x5.trans (extN_same (S2.trans s4))
  have U4 := tabs_same U1 (S2.trans s4)
  have d6 := dp_ext x6 d5
  refine ⟨_, rfl, _, rfl, l2_eq d6 d6 v5 v5 (val_self (evP_st 400)) (by rw [evP_len]; decide) fun M6 r6 s6 dr => ?_⟩
  refine ⟨_, rfl, _, _, dr, dp_same s6 d6, shaped_tps _, shaped_tps _, ?_⟩
  rw [eqv_tps21]
  exact q _ ((SxN.of S9).trans ((SxN.ext x6).trans (SxN.of (Same.sx s6)))) (tabs_same U4 s6) ((hp9.ext x6).same s6)
end
/-! block Law21 (behind bV21b) -/
def spLaw (K : PySem.W.Frag) (cs : List (Addr × Addr)) : Sp := fun vs H Q _ => ∃ (a : Addr) (ns : List Int), vs = [.ref a] ∧ (∀ p ∈ cs, H p.2 = some (.tbl #[])) ∧ SqL K H a (ns.map V.int) ∧ ns.length ≤ 63 ∧ ∀ H', Q (.bl true) H'
theorem tabs_start {mg : Str → Option Value} {K : PySem.W.Frag} {T : Txt K mg} {H : Hp} (h : ∀ p ∈ [(T.cc__law_bounds_right, T.ct__law_bounds_right), (T.cc_law, T.ct_law)], H p.2 = some (.tbl #[])) : LamX.Tabs (lamT T) H := by
  intro q hq
  simp only [lamT, List.mem_cons, List.not_mem_nil, or_false] at hq
  rcases hq with rfl | rfl
  · exact LamX.TabS.nil (h (T.cc__law_bounds_right, T.ct__law_bounds_right) (by simp))
  · exact LamX.TabS.nil (h (T.cc_law, T.ct_law) (by simp))
theorem ext_free {H H1 H2 : Hp} {p : Addr} (s : LamX.ExtN H H1) (h : H1 p = none) (t : SxN p H1 H2) : LamX.ExtN H H2 := fun b o e z => by
  have e1 := s b o e z
  exact t b o (fun y => by rw [y, h] at e1; cases e1) e1 z
theorem Rv.rw {t : Nat} {ps : List P2} (h : Rv t ps) (ht : t ≤ 20) : Rw ps := ⟨h.one, Nat.le_trans h.len ht, h.st, fun p hp => by have := h.bd p hp; omega⟩
theorem cut_12 {x0 : V} {xr : List V} : cutV (x0 :: xr) (some 1) (some 2) = xr.take 1 := by
  cases xr with
  | nil => rfl
  | cons x1 xr => simp [cutV, HT.sIx]
theorem dpAll_take {K : PySem.W.Frag} {H : Hp} : ∀ (n : Nat) {vs : List V} {ds : List PyData}, DpAll K H vs ds → DpAll K H (vs.take n) (ds.take n)
  | 0, _, _, _ => by simpa using .nil
  | n + 1, _, _, .nil => by simpa using .nil
  | n + 1, _, _, .cons h t => .cons h (dpAll_take n t)
/-- two valleys that the law sets side by side, as a tuple -/
def Pr2 (K : PySem.W.Frag) (H : Hp) (w : V) : Prop := ∃ (t : Addr) (v x : V) (ps qs : List P2), w = .ref t ∧ SqT K H t [v, x] ∧ Dp K H v (.tuple (prDs ps)) ∧ Dp K H x (.tuple (prDs qs)) ∧ Rw ps ∧ Rw qs
theorem Pr2.same {K : PySem.W.Frag} {H H' : Hp} {w : V} (h : Pr2 K H w) (s : Same H H') : Pr2 K H' w := by
  obtain ⟨t, v, x, ps, qs, e, h1, h2, h3, h4⟩ := h
  exact ⟨t, v, x, ps, qs, e, same_sqT s h1, dp_same s h2, dp_same s h3, h4⟩
theorem Pr2.sx {K : PySem.W.Frag} {H H' : Hp} {p : Addr} {l : List V} {w : V} (h : Pr2 K H w) (s : Sx p H H') (hp : H p = some (.lst l)) : Pr2 K H' w := by
  obtain ⟨t, v, x, ps, qs, e, h1, h2, h3, h4⟩ := h
  exact ⟨t, v, x, ps, qs, e, s.sqT hp h1, s.dp hp (by simp only [noL]; exact noLs_prV _) h2, s.dp hp (by simp only [noL]; exact noLs_prV _) h3, h4⟩
theorem Pr2.new {K : PySem.W.Frag} {H : Hp} {v x : V} {ps qs : List P2} {t : Addr} (h : H t = none) (d1 : Dp K H v (.tuple (prDs ps))) (d2 : Dp K H x (.tuple (prDs qs))) (r1 : Rw ps) (r2 : Rw qs) : Pr2 K (upd H t (.tup [v, x])) (.ref t) :=
  ⟨t, v, x, ps, qs, rfl, SqT.of upd_same, dp_same (same_new h) d1, dp_same (same_new h) d2, r1, r2⟩
theorem catT {K : PySem.W.Frag} {H : Hp} {Q : VK} {a b : Addr} {xs ys : List V} (h1 : SqT K H a xs) (h2 : SqT K H b ys) (hz : xs.length + ys.length ≤ sizeLine)
    (h : ∀ (H' : Hp) (t : Addr), Same H H' → SqT K H' t (xs ++ ys) → Q (.ref t) H') : rCatA K (.ref a) (.ref b) H Q := by
  refine ⟨a, b, xs, ys, rfl, rfl, h1, h2, hz, fun z => ?_, fun _ z => ?_, fun _ _ p hp => h _ p (same_new hp) (SqT.of upd_same)⟩
  · subst z
    exact h H b (Same.refl _) h2
  · subst z
    exact h H a (Same.refl _) (by rw [List.append_nil]; exact h1)
section
variable {P : Program} {w : World} {K : PySem.W.Frag} {mg : Str → Option Value} {base : Heap}
theorem ok_law {f : Addr} {fd : FuncData} (F : Fun K "law" "law" s_law f fd) (T : Txt K mg) (hcL : CodeIs K f T.cc_law) (TB__law_bounds_right : LamX.TabB base mg T.cc__law_bounds_right T.ct__law_bounds_right) (TB_law : LamX.TabB base mg T.cc_law T.ct_law) :
    FnG P w K mg base CX0 60 f fd ["_law_script"] (spLaw K [(T.cc__law_bounds_right, T.ct__law_bounds_right), (T.cc_law, T.ct_law)]) := by
  have g__law_source := ok_source (P := P) (w := w) (base := base) T
  have g__law_random_valleys := ok_rvs (P := P) (w := w) (base := base) T
  have g__law_random_start := ok_rst (P := P) (w := w) (base := base) T
  have g__law_draw := ok_take (P := P) (w := w) (base := base) T
  have g_is_valleys := ok_isv (P := P) (w := w) (base := base) T
  have g__law_least_right := ok_lr (P := P) (w := w) (base := base) T
  have g_least_of_two := ok_l2 (P := P) (w := w) (base := base) T
  have g__law_bounds_right := ok_br (P := P) (w := w) (base := base) T TB__law_bounds_right
  refine okCG F hcL sc_law (fun vs H Q E h => ?_) (fun A outer s H vs Q E hr gd h => ?_)
  · obtain ⟨a, ns, rfl, _⟩ := h
    rfl
  obtain ⟨a, ns, rfl, hT0, hS, hlen, q⟩ := h
  have hT := tabs_start (T := T) hT0
  refine ⟨_, (pss_cons (ps_for PassesOwn.never rfl (pi_range1 rfl T.n_range (pa_cons (pe_callB (call_max2 rfl) (by rfl) T.n_max (by decide +kernel) (pa_cons pe_int (pa_cons (pe_callB (call_min2 rfl) (by rfl) T.n_min (by decide +kernel) (pa_cons pe_int (pa_cons (pe_callB (r := rLenS K) call_lenS (by rfl) T.n_len (by decide +kernel) (pa_cons (pv 0) pa_nil)) pa_nil))) pa_nil))) pa_nil)) (pg_name (i := 1) sc_law.nd rfl (Or.inl rfl))
        (pss_cons (ps_set (i := 2) sc_law.nd rfl (Or.inr rfl) (pe_call g__law_source (hr.mono (by omega)) rfl T.m__law_source T.F__law_source.kp T.b__law_source .nil pass0 (pa_cons (pv 0) (pa_cons (pv 1) pa_nil))))
        (pss_cons (ps_asg (pe_tup (pa_cons (pe_call g__law_random_valleys (hr.mono (by omega)) rfl T.m__law_random_valleys T.F__law_random_valleys.kp T.b__law_random_valleys .nil pass0 (pa_cons (pv 2) (pa_cons pe_int pa_nil))) (pa_cons (pe_call g__law_random_start (hr.mono (by omega)) rfl T.m__law_random_start T.F__law_random_start.kp T.b__law_random_start .nil pass0 (pa_cons (pv 2) (pa_cons pe_int pa_nil))) pa_nil))) (pg_tup (by rfl) (pgs_cons (pg_name (i := 3) sc_law.nd rfl (Or.inr rfl)) (pgs_cons (pg_name (i := 4) sc_law.nd rfl (Or.inl rfl)) pgs_nil))))
        (pss_cons (ps_set (i := 5) sc_law.nd rfl (Or.inl rfl) (pe_op (r := rCatA K) op_catA (pe_callTy (r := rTupS K) call_tupS (by rfl) T.n_tuple (by decide +kernel) (pa_cons (pe_lc (own := [("_law_bound", 9), ("_law_held", 10)]) (g := (gTup K 2 (gCons (gName 9) (gCons (gName 10) gNil)))) (by rfl) sc_law.nd (pi_tup (pe_slice (r := rSlA K) sl_tupA (pv 3) po_none (po_some pe_int))) (blkOk_by (N := N_law) (sc := (defScope s_law)) (by decide +kernel)) (fun _ _ _ _ _ => (pg_tup (by rfl) (pgs_cons (pg_name (i := 9) sc_law.nd rfl (Or.inl rfl)) (pgs_cons (pg_name (i := 10) sc_law.nd rfl (Or.inl rfl)) pgs_nil)))) (fun _ _ _ _ _ => pts_nil) (fun _ _ _ _ _ => (pe_tup (pa_cons (pv 9) (pa_cons (pe_op op_sub (pv 10) (pe_call g__law_draw (hr.mono (by omega)) rfl T.m__law_draw T.F__law_draw.kp T.b__law_draw .nil pass0 (pa_cons (pv 2) (pa_cons pe_int pa_nil)))) pa_nil))))) pa_nil)) (pe_slice (r := rSlA K) sl_tupA (pv 3) (po_some pe_int) (po_some pe_int))))
        (pss_cons (ps_set (i := 6) sc_law.nd rfl (Or.inl rfl) (pe_lst (pa_cons (pe_tup (pa_cons (pv 3) (pa_cons (pv 4) pa_nil))) (pa_cons (pe_tup (pa_cons (pv 4) (pa_cons (pv 3) pa_nil))) (pa_cons (pe_tup (pa_cons (pv 3) (pa_cons (pe_slice (r := rSlA K) sl_tupA (pv 3) po_none (po_some pe_int)) pa_nil))) (pa_cons (pe_tup (pa_cons (pv 4) (pa_cons (pe_call g__law_random_start (hr.mono (by omega)) rfl T.m__law_random_start T.F__law_random_start.kp T.b__law_random_start .nil pass0 (pa_cons (pv 2) (pa_cons pe_int pa_nil))) pa_nil))) pa_nil))))))
        (C8.pss_cut (ps_if (pt_val (pe_call g_is_valleys (hr.mono (by omega)) rfl T.m_is_valleys T.F_is_valleys.kp T.b_is_valleys .nil pass0 (pa_cons (pv 5) pa_nil))) (pss_one (ps_expr (pe_bm PySem.F.plainAttrs_list PySem.F.slot_list_append PySem.F.type_list_append mt_append (pv 6) (pa_cons (pe_tup (pa_cons (pv 3) (pa_cons (pv 5) pa_nil))) pa_nil)))) pss_nil)
        (pss_cons (ps_if (pt_cmpR (r := rNeD K) (op_neD hr.units) (pe_lc (own := [("_law_one", 11), ("_law_other", 12)]) (g := (gTup K 2 (gCons (gName 11) (gCons (gName 12) gNil)))) (by rfl) sc_law.nd (pi_list (pv 6)) (blkOk_by (N := N_law) (sc := (defScope s_law)) (by decide +kernel)) (fun _ _ _ _ _ => (pg_tup (by rfl) (pgs_cons (pg_name (i := 11) sc_law.nd rfl (Or.inl rfl)) (pgs_cons (pg_name (i := 12) sc_law.nd rfl (Or.inl rfl)) pgs_nil)))) (fun _ _ _ _ _ => (pts_one (pt_not (pt_val (pe_callG g__law_least_right (hr.mono (by omega)) gd rfl T.m__law_least_right T.F__law_least_right.kp T.b__law_least_right .nil (pa_cons (pv 11) (pa_cons (pv 12) pa_nil))))))) (fun _ _ _ _ _ => pe_int)) (pe_lst pa_nil) (nomark _)) (pss_one (ps_ret pe_bl)) pss_nil)
        (pss_cons (ps_set (i := 7) sc_law.nd rfl (Or.inr rfl) (pe_ix (r := rIxL K) ix_list (pe_lst (pa_cons pe_non (pa_cons (pw_tup (pws_nil (E := [])) (by decide)) (pa_cons (pe_lst (pa_cons (pw_tup (pws_cons (pw_int (E := []) (n := 0) pe_int (by decide +kernel) (fun σ H Q q => q)) (pws_cons (pw_int (E := []) (n := 0) pe_int (by decide +kernel) (fun σ H Q q => q)) (pws_nil (E := [])))) (by decide)) pa_nil)) (pa_cons (pw_tup (pws_cons (pw_tup (pws_cons (pw_int (E := []) (n := 0) pe_int (by decide +kernel) (fun σ H Q q => q)) (pws_cons (pw_int (E := []) (n := 0) pe_int (by decide +kernel) (fun σ H Q q => q)) (pws_nil (E := [])))) (by decide)) (pws_cons (pw_tup (pws_cons (pw_int (E := []) (n := 0) pe_int (by decide +kernel) (fun σ H Q q => q)) (pws_cons (pw_int (E := []) (n := -1) (pe_un un_neg pe_int) (by decide +kernel) (fun σ H Q q => ⟨_, rfl, q⟩)) (pws_nil (E := [])))) (by decide)) (pws_nil (E := [])))) (by decide)) (pa_cons (pw_tup (pws_cons (pw_tup (pws_cons (pw_int (E := []) (n := 0) pe_int (by decide +kernel) (fun σ H Q q => q)) (pws_cons (pw_int (E := []) (n := 0) pe_int (by decide +kernel) (fun σ H Q q => q)) (pws_nil (E := [])))) (by decide)) (pws_cons (pw_tup (pws_cons (pw_int (E := []) (n := 1) pe_int (by decide +kernel) (fun σ H Q q => q)) (pws_cons (pw_int (E := []) (n := 0) pe_int (by decide +kernel) (fun σ H Q q => q)) (pws_nil (E := [])))) (by decide)) (pws_nil (E := [])))) (by decide)) (pa_cons (pw_tup (pws_cons (pw_tup (pws_cons (pw_int (E := []) (n := 0) pe_int (by decide +kernel) (fun σ H Q q => q)) (pws_cons (pw_bl (E := [])) (pws_nil (E := [])))) (by decide)) (pws_nil (E := []))) (by decide)) (pa_cons pe_int pa_nil)))))))) (pe_call g__law_draw (hr.mono (by omega)) rfl T.m__law_draw T.F__law_draw.kp T.b__law_draw .nil pass0 (pa_cons (pv 2) (pa_cons pe_int pa_nil))) (fun _ _ => rfl)))
        (pss_cons (ps_set (i := 8) sc_law.nd rfl (Or.inl rfl) (pe_lst (pa_cons (pe_lamF (T := lamT T) (k := 8) (c := T.cc_law) (P := T.ct_law) T.F__law_valley_outcome T.b__law_valley_outcome rfl T.m__law_valley_outcome sc__law_valley_outcome rfl (.inl rfl) (fun cdv => gives__law_valley_outcome T _ rfl rfl) TB_law rfl (.tail _ (.head _)) (lamU_law T) (hr.mono (by omega)) (LamX.lamS_by (sc := defScope s_law) (by decide +kernel)) rfl (fun _ _ _ _ _ => rfl) (fun A outer s H E f c hr => (pe_call (E := E) g_least_of_two (hr.mono (by omega)) rfl T.m_least_of_two T.F_least_of_two.kp T.b_least_of_two .nil (passes_call (takes_of rfl rfl rfl rfl) (fun _ _ _ _ h => h)) (pa_cons (pv 7) (pa_cons (pv 3) pa_nil))))) pa_nil)))
        (pss_cons (ps_expr (pe_bm PySem.F.plainAttrs_list PySem.F.slot_list_append PySem.F.type_list_append mt_append (pv 8) (pa_cons (pe_lamF (T := lamT T) (k := 8) (c := T.cc_law) (P := T.ct_law) T.F__law_valley_outcome T.b__law_valley_outcome rfl T.m__law_valley_outcome sc__law_valley_outcome rfl (.inl rfl) (fun cdv => gives__law_valley_outcome T _ rfl rfl) TB_law rfl (.tail _ (.head _)) (lamU_law T) (hr.mono (by omega)) (LamX.lamS_by (sc := defScope s_law) (by decide +kernel)) rfl (fun _ _ _ _ _ => rfl) (fun A outer s H E f c hr => (pe_call (E := E) g_least_of_two (hr.mono (by omega)) rfl T.m_least_of_two T.F_least_of_two.kp T.b_least_of_two .nil (passes_call (takes_of rfl rfl rfl rfl) (fun _ _ _ _ h => h)) (pa_cons (pv 3) (pa_cons (pv 7) pa_nil))))) pa_nil)))
        (pss_cons (ps_expr (pe_bm PySem.F.plainAttrs_list PySem.F.slot_list_append PySem.F.type_list_append mt_append (pv 8) (pa_cons (pe_lamF (T := lamT T) (k := 8) (c := T.cc_law) (P := T.ct_law) T.F__law_valley_outcome T.b__law_valley_outcome rfl T.m__law_valley_outcome sc__law_valley_outcome rfl (.inl rfl) (fun cdv => gives__law_valley_outcome T _ rfl rfl) TB_law rfl (.tail _ (.head _)) (lamU_law T) (hr.mono (by omega)) (LamX.lamS_by (sc := defScope s_law) (by decide +kernel)) rfl (fun _ _ _ _ _ => rfl) (fun A outer s H E f c hr => (pe_call (E := E) g_least_of_two (hr.mono (by omega)) rfl T.m_least_of_two T.F_least_of_two.kp T.b_least_of_two .nil (passes_call (takes_of rfl rfl rfl rfl) (fun _ _ _ _ h => h)) (pa_cons (pv 7) (pa_cons pe_non pa_nil))))) pa_nil)))
        (pss_one (ps_if (PW.pt (pw_or (pt_cmpR (r := rNeD K) (op_neD hr.units) (pv 8) (pe_op op_rep (pe_lst (pa_cons pe_str pa_nil)) pe_int) (nomark _)) (pw_or1 (pt_not (pt_val (pe_call g__law_bounds_right (hr.mono (by omega)) rfl T.m__law_bounds_right T.F__law_bounds_right.kp T.b__law_bounds_right .nil pass0 (pa_cons (pv 2) pa_nil))))))) (pss_one (ps_ret pe_bl)) pss_nil)))))))))))))
      (pss_one (ps_ret (pe_cmpR (r := rEqD K) (op_eqD hr.units) (pe_call g_least_of_two (hr.mono (by omega)) rfl T.m_least_of_two T.F_least_of_two.kp T.b_least_of_two .nil passN (pa_cons (pw_tup (pws_cons (pw_tup (pws_cons (pw_int (E := []) (n := 0) pe_int (by decide +kernel) (fun σ H Q q => q)) (pws_cons (pw_int (E := []) (n := 0) pe_int (by decide +kernel) (fun σ H Q q => q)) (pws_nil (E := [])))) (by decide)) (pws_nil (E := []))) (by decide)) (pa_cons (pw_tup (pws_cons (pw_tup (pws_cons (pw_int (E := []) (n := -2) (pe_un un_neg pe_int) (by decide +kernel) (fun σ H Q q => ⟨_, rfl, q⟩)) (pws_cons (pw_int (E := []) (n := 5) pe_int (by decide +kernel) (fun σ H Q q => q)) (pws_nil (E := [])))) (by decide)) (pws_cons (pw_tup (pws_cons (pw_int (E := []) (n := 3) pe_int (by decide +kernel) (fun σ H Q q => q)) (pws_cons (pw_int (E := []) (n := -1) (pe_un un_neg pe_int) (by decide +kernel) (fun σ H Q q => ⟨_, rfl, q⟩)) (pws_nil (E := [])))) (by decide)) (pws_nil (E := [])))) (by decide)) pa_nil))) (pw_tup (pws_cons (pw_tup (pws_cons (pw_int (E := []) (n := -2) (pe_un un_neg pe_int) (by decide +kernel) (fun σ H Q q => ⟨_, rfl, q⟩)) (pws_cons (pw_int (E := []) (n := 5) pe_int (by decide +kernel) (fun σ H Q q => q)) (pws_nil (E := [])))) (by decide)) (pws_cons (pw_tup (pws_cons (pw_int (E := []) (n := 0) pe_int (by decide +kernel) (fun σ H Q q => q)) (pws_cons (pw_int (E := []) (n := 0) pe_int (by decide +kernel) (fun σ H Q q => q)) (pws_nil (E := [])))) (by decide)) (pws_cons (pw_tup (pws_cons (pw_int (E := []) (n := 3) pe_int (by decide +kernel) (fun σ H Q q => q)) (pws_cons (pw_int (E := []) (n := -1) (pe_un un_neg pe_int) (by decide +kernel) (fun σ H Q q => ⟨_, rfl, q⟩)) (pws_nil (E := [])))) (by decide)) (pws_nil (E := []))))) (by decide)) (nomark _))))), ?_⟩
  refine ⟨_, rfl, a, _, rfl, .inl hS, _, _, rfl, _, _, rfl, _, rfl, ?_, ?_, ?_⟩
  · show -(2 ^ 62) ≤ (if (if (((ns.map V.int).length : Nat) : Int) < 10 then (((ns.map V.int).length : Nat) : Int) else 10) > 1 then (if (((ns.map V.int).length : Nat) : Int) < 10 then (((ns.map V.int).length : Nat) : Int) else 10) else 1)
    split <;> (try split) <;> omega
  · show (if (if (((ns.map V.int).length : Nat) : Int) < 10 then (((ns.map V.int).length : Nat) : Int) else 10) > 1 then (if (((ns.map V.int).length : Nat) : Int) < 10 then (((ns.map V.int).length : Nat) : Int) else 10) else 1) < 2 ^ 62
    split <;> (try split) <;> omega
  have hturns : (if (if (((ns.map V.int).length : Nat) : Int) < 10 then (((ns.map V.int).length : Nat) : Int) else 10) > 1 then (if (((ns.map V.int).length : Nat) : Int) < 10 then (((ns.map V.int).length : Nat) : Int) else 10) else 1).toNat ≤ 10 := by
    split <;> (try split) <;> omega
  generalize (if (if (((ns.map V.int).length : Nat) : Int) < 10 then (((ns.map V.int).length : Nat) : Int) else 10) > 1 then (if (((ns.map V.int).length : Nat) : Int) < 10 then (((ns.map V.int).length : Nat) : Int) else 10) else 1) = turns at hturns ⊢
  refine for_range (lo := 0) (n := turns.toNat) (fun i σ G => ∃ y1 y2 y3 y4 y5 y6 y7 y8 y9 z1 z2 z3 : Option V, σ = [some (.ref a), y1, y2, y3, y4, y5, y6, y7, y8, y9, z1, z2, z3] ∧ LamX.ExtN H G ∧ LamX.Tabs (lamT T) G) ⟨none, none, none, none, none, none, none, none, none, none, none, none, rfl, LamX.ExtN.refl _, hT⟩ ?_ ?_
  · rintro i σ G hi ⟨y1, y2, y3, y4, y5, y6, y7, y8, y9, z1, z2, z3, rfl, xG, tG⟩
    refine ⟨_, rfl, _, rfl, a, ns, 0 + (i : Int), rfl, extN_L xG hS, by omega, by omega, by omega, fun G1 p s1 hpn hp => ?_⟩
    refine ⟨_, rfl, p, 0, 12, rfl, hp, by decide, by decide, by decide, fun G2 v ps s2 hp2 dv hv => ?_⟩
    obtain ⟨l1, hl1⟩ := hp.lst
    have tG2 := tabs_sx (tabs_same tG s1) s2 hl1
    obtain ⟨l2, hl2⟩ := hp2.lst
    have noP : ∀ L : List P2, noL (.tuple (prDs L)) = true := fun L => by simp only [noL]; exact noLs_prV _
    refine ⟨_, rfl, p, 58, 12, rfl, hp2, by decide, by decide, by decide, fun G3 x qs s3 hp3 dx hx => ?_⟩
    have dv3 := s3.dp hl2 (noP _) dv
    obtain ⟨l3, hl3⟩ := hp3.lst
    have tG3 := tabs_sx tG2 s3 hl2
    have rp := hv.rw (by decide)
    have rq := hx.rw (by decide)
    have h12 := hv.len
    have hbd := hv.bd
    refine ⟨(by show 2 ≤ sizeLine; decide), fun u hu => ?_⟩
    have s4 : Same G3 (upd G3 u (.tup [v, x])) := same_new hu
    have ku : SqT K (upd G3 u (.tup [v, x])) u [v, x] := SqT.of upd_same
    have S4 : Sx p G (upd G3 u (.tup [v, x])) := (Same.sx s1).trans (s2.trans (s3.trans (Same.sx s4)))
    have dv4 := dp_same s4 dv3
    have dx4 := dp_same s4 dx
    have hp4 := hp3.same s4
    have tG4 := tabs_same tG3 s4
    generalize (upd G3 u (.tup [v, x])) = G4 at ku S4 dv4 dx4 hp4 tG4 ⊢
    clear dv dx dv3 s4 hu s3 hp3 tG3 hl3 s2 hp2 tG2 hl2 hp s1 hl1
    refine ⟨u, _, rfl, ku, rfl, _, _, rfl, _, _, rfl, rfl, ?_⟩
    show tSeq _ _ _ [some (.ref a), some (.int (0 + (i : Int))), some (.ref p), some v, some x, y5, y6, y7, y8, y9, z1, z2, z3] G4
    generalize (0 + (i : Int)) = n0
    -- third
    obtain ⟨p0, pr, rfl⟩ : ∃ p0 pr, ps = p0 :: pr := by
      cases hp0 : ps with
      | nil => exact absurd hv.one (by rw [hp0]; decide)
      | cons p0 pr => exact ⟨p0, pr, rfl⟩
    obtain ⟨av, xs, rfl, hs, hall⟩ := dp_tup_inv dv4
    refine ⟨_, rfl, ?_⟩
    unfold tNoPart
    dsimp only
    refine ⟨_, rfl, ?_⟩
    refine slT hs fun G5 b s5 hb => ?_
    rw [cut_hd (by decide)] at hb
    refine ⟨b, rfl, ⟨_, hb⟩, fun D hD => ?_⟩
    obtain ⟨x0, xr, rfl, dx0⟩ : ∃ x0 xr, xs = x0 :: xr ∧ Dp K G4 x0 (prD p0) := by
      cases hall with
      | cons h1 h2 => exact ⟨_, _, rfl, h1⟩
    obtain ⟨t0, rfl, k0⟩ := pr_inv dx0
    have hp5 := hp4.same s5
    obtain ⟨l5, hl5⟩ := hp5.lst
    have nDp : D ≠ p := fun z => by rw [z, hl5] at hD; cases hD
    refine lc_tup (K := K) (a := b) (xs := [.ref t0]) (fun i F => Sx p G5 F ∧ Pot F p (116 + i) ∧ ∃ ws ts, F D = some (.lst ws) ∧ DpAll K F ws (prDs ts) ∧ ts.length = i ∧ ∀ q ∈ ts, ∃ r : Int, 0 ≤ r ∧ r ≤ 2 ∧ q = (p0.1, p0.2 - r)) ⟨sx_new hD, hp5.same (same_new hD), [], [], upd_same, .nil, rfl, fun q h => by cases h⟩ (fun i F _ ⟨s, _⟩ => s.sqT hl5 hb) ?_ ?_
    · rintro i y F hi ⟨s6, hp6, ws, ts, eD, hw, tl, tb⟩
      obtain ⟨rfl, rfl⟩ : i = 0 ∧ y = .ref t0 := by
        cases i with
        | zero => exact ⟨rfl, by simpa using hi.symm⟩
        | succ j => simp at hi
      have k6 := s6.sqT hl5 (same_sqT s5 k0)
      refine ⟨t0, _, rfl, k6, rfl, _, _, rfl, _, _, rfl, rfl, rfl, ?_⟩
      unfold tYes
      refine iteT ?_
      refine ⟨_, rfl, _, rfl, _, rfl, p, 116, 3, rfl, hp6, by decide, by decide, by decide, fun F1 r s7 hp7 r0 r1 => ⟨_, _, rfl, rfl, (by show 2 ≤ sizeLine; decide), fun y hy => ?_⟩⟩
      obtain ⟨l6, hl6⟩ := hp6.lst
      have ts0 : ts = [] := List.length_eq_zero_iff.mp tl
      subst ts0
      have s8 : Same F1 (upd F1 y (.tup [.int p0.1, .int (p0.2 - r)])) := same_new hy
      have dy : Dp K (upd F1 y (.tup [.int p0.1, .int (p0.2 - r)])) (.ref y) (prD (p0.1, p0.2 - r)) := .tup (SqT.of upd_same) (.cons (.int _) (.cons (.int _) .nil))
      have eD8 := s8 _ _ (s7 D _ nDp eD)
      have hp8 := hp7.same s8
      have hw8 := dpAll_same s8 (dpAll_keep (fun b zs h => s7.sqT hl6 h) (noLs_prV _) hw)
      have S8 : Sx p G5 (upd F1 y (.tup [.int p0.1, .int (p0.2 - r)])) := s6.trans (s7.trans (Same.sx s8))
      show ∃ acc, (upd F1 y (.tup [.int p0.1, .int (p0.2 - r)])) D = some (.lst acc) ∧ _
      generalize (upd F1 y (.tup [.int p0.1, .int (p0.2 - r)])) = F2 at dy eD8 hp8 hw8 S8 ⊢
      have kk : ∀ b zs, SqT K F2 b zs → SqT K (upd F2 D (.lst (ws ++ [.ref y]))) b zs := fun b zs h => (sx_upd (p := D)).sqT eD8 h
      have wl : ws.length = 0 := dpAll_length hw
      refine ⟨ws, eD8, small1000 (by omega), fun b o n e => by rw [upd_ne (ne_of_none e hD)]; exact S8 b o n e, ?_, _, [(p0.1, p0.2 - r)], upd_same, ?_, rfl, fun q hq => ⟨r, r0, by omega, List.mem_singleton.mp hq⟩⟩
      · obtain ⟨a1, a2, a3, p1, p2⟩ := hp8
        exact ⟨a1, a2, a3, by rw [upd_ne nDp.symm]; exact p1, p2⟩
      · exact dpAll_append (dpAll_keep kk (noLs_prV _) hw8) (.cons (dp_keep kk (noLs_one _) dy) .nil)
    rintro F ⟨s6, hp6, ws, ts, eD, hw, tl, tb⟩
    obtain ⟨r, r0, r1, rfl⟩ : ∃ r : Int, 0 ≤ r ∧ r ≤ 2 ∧ ts = [(p0.1, p0.2 - r)] := by
      obtain ⟨q, rfl⟩ := List.length_eq_one_iff.mp tl
      obtain ⟨r, h1, h2, rfl⟩ := tb q (List.mem_singleton.mpr rfl)
      exact ⟨r, h1, h2, rfl⟩
    refine ⟨D, ws, rfl, .inl ⟨SqL.of eD, fun t1 ht1 => ?_⟩⟩
    have s7 : Same F (upd F t1 (.tup ws)) := same_new ht1
    have e1 : SqT K (upd F t1 (.tup ws)) t1 ws := SqT.of upd_same
    have hw7 := dpAll_same s7 hw
    have hp7 := hp6.same s7
    have S7 : Sx p G (upd F t1 (.tup ws)) := S4.trans ((Same.sx s5).trans (s6.trans (Same.sx s7)))
    obtain ⟨l4, hl4⟩ := hp4.lst
    have T7 : Sx p G4 (upd F t1 (.tup ws)) := (Same.sx s5).trans (s6.trans (Same.sx s7))
    have hs7 := T7.sqT hl4 hs
    have dv7 := T7.dp hl4 (noP _) (.tup hs hall)
    have dx7 := T7.dp hl4 (noP _) dx4
    have hall7 := dpAll_keep (fun b zs h => T7.sqT hl4 h) (noLs_prV _) hall
    have tG7 := tabs_sx tG4 T7 hl4
    have wl : ws.length = 1 := dpAll_length hw
    generalize (upd F t1 (.tup ws)) = F1 at e1 hw7 hp7 S7 hs7 dv7 dx7 tG7 hall7 ⊢
    clear s7 s6 hp6 eD hw ht1 hD hb s5 hp5 hl5 T7 S4 dv4 dx4 hp4 tG4 hl4 ku k0 tb tl
    refine ⟨_, rfl, _, rfl, _, rfl, ?_⟩
    refine slT hs7 fun F2 b2 s2 hb2 => ?_
    rw [cut_12] at hb2
    have xrl : xr.length = pr.length := by
      have := dpAll_length hall
      simpa [prDs] using this
    have dall2 : DpAll K F2 (xr.take 1) (prDs (pr.take 1)) := by
      cases hall7 with
      | cons h4 h5 =>
        have h6 := dpAll_take 1 h5
        rw [show (prDs pr).take 1 = prDs (pr.take 1) from by simp [prDs, List.map_take]] at h6
        exact dpAll_same s2 h6
    refine catT (same_sqT s2 e1) hb2 (by rw [sizeLine_eq, List.length_take]; omega) fun F3 b3 s3 hb3 => ?_
    have s23 := s2.trans s3
    have d3 : Dp K F3 (.ref b3) (.tuple (prDs ((p0.1, p0.2 - r) :: pr.take 1))) := .tup hb3 (dpAll_append (dpAll_same s23 hw7) (dpAll_same s3 dall2))
    have dv8 := dp_same s23 dv7
    have dx8 := dp_same s23 dx7
    have hp8 := hp7.same s23
    have S8 := S7.trans (Same.sx s23)
    have tG8 := tabs_same tG7 s23
    have hs8 := same_sqT s23 hs7
    have dh8 : Dp K F3 (.ref t0) (prD p0) := by
      cases hall7 with
      | cons h4 h5 => exact dp_same s23 h4
    have w3 : valB (.tuple (prDs ((p0.1, p0.2 - r) :: pr.take 1))) = true → Rw ((p0.1, p0.2 - r) :: pr.take 1) := fun h => by
      obtain ⟨qs', e, _, _, st⟩ := valB_iff.mp h
      rw [← tup_inj e] at st
      refine ⟨by simp, by rw [List.length_cons, List.length_take]; omega, st, fun q hq => ?_⟩
      rcases List.mem_cons.mp hq with y | y
      · rw [y]
        have := hbd p0 (List.mem_cons_self ..)
        dsimp only
        omega
      · have := hbd q (List.mem_cons_of_mem _ (List.mem_of_mem_take y))
        omega
    generalize ((p0.1, p0.2 - r) :: pr.take 1) = third at d3 w3
    clear s23 s2 s3 hb3 hb2 dall2 e1 hw7 hp7 S7 hs7 dv7 dx7 tG7 hall7 wl xrl r0 r1
    show tSeq _ _ _ [some (.ref a), some (.int n0), some (.ref p), some (.ref av), some x, some (.ref b3), y6, y7, y8, y9, z1, z2, z3] F3
    -- the pairs
    obtain ⟨l8, hl8⟩ := hp8.lst
    refine ⟨_, rfl, _, rfl, (by show 2 ≤ sizeLine; decide), fun u1 hu1 => ?_⟩
    have q1 := Pr2.new hu1 dv8 dx8 rp rq
    have s1 : Same F3 (upd F3 u1 (.tup [.ref av, x])) := same_new hu1
    generalize (upd F3 u1 (.tup [.ref av, x])) = F4 at q1 s1 ⊢
    refine ⟨_, rfl, _, rfl, (by show 2 ≤ sizeLine; decide), fun u2 hu2 => ?_⟩
    have q2 := Pr2.new hu2 (dp_same s1 dx8) (dp_same s1 dv8) rq rp
    have s2 : Same F4 (upd F4 u2 (.tup [x, .ref av])) := same_new hu2
    generalize (upd F4 u2 (.tup [x, .ref av])) = F5 at q2 s2 ⊢
    refine ⟨_, rfl, _, rfl, _, rfl, ?_⟩
    refine slT (same_sqT (s1.trans s2) hs8) fun F6 b6 s6 hb6 => ⟨(by show 2 ≤ sizeLine; decide), fun u3 hu3 => ?_⟩
    rw [cut_hd (by decide)] at hb6
    have s16 := s1.trans (s2.trans s6)
    have q3 := Pr2.new (x := .ref b6) (qs := [p0]) hu3 (dp_same s16 dv8) (.tup hb6 (.cons (dp_same s16 dh8) .nil)) rp ⟨by simp, by simp, List.pairwise_singleton .., fun q hq => by rw [List.mem_singleton.mp hq]; exact rp.bd p0 (List.mem_cons_self ..)⟩
    have s7 : Same F6 (upd F6 u3 (.tup [.ref av, .ref b6])) := same_new hu3
    generalize (upd F6 u3 (.tup [.ref av, .ref b6])) = F7 at q3 s7 ⊢
    have s17 := s16.trans s7
    have q1 := q1.same (s2.trans (s6.trans s7))
    have q2 := q2.same (s6.trans s7)
    have hp9 := hp8.same s17
    obtain ⟨l9, hl9⟩ := hp9.lst
    refine ⟨_, rfl, _, rfl, p, 117, 12, rfl, hp9, by decide, by decide, by decide, fun F8 y qs2 s8 hp10 dy hy => ⟨(by show 2 ≤ sizeLine; decide), fun u4 hu4 => ?_⟩⟩
    have dx10 := s8.dp hl9 (noP _) (dp_same s17 dx8)
    have q4 := Pr2.new hu4 dx10 dy rq (hy.rw (by decide))
    have s9 : Same F8 (upd F8 u4 (.tup [x, y])) := same_new hu4
    have q1 := (q1.sx s8 hl9).same s9
    have q2 := (q2.sx s8 hl9).same s9
    have q3 := (q3.sx s8 hl9).same s9
    have S9 : Sx p F3 (upd F8 u4 (.tup [x, y])) := (Same.sx s17).trans (s8.trans (Same.sx s9))
    have hp11 := hp10.same s9
    generalize (upd F8 u4 (.tup [x, y])) = F9 at q1 q2 q3 q4 S9 hp11 ⊢
    refine ⟨(by show 4 ≤ sizeLine; decide), fun pl hpl => ?_⟩
    have dv9 := S9.dp hl8 (noP _) dv8
    have d39 := S9.dp hl8 (noP _) d3
    have tG9 := tabs_sx tG8 S9 hl8
    have S10 := S8.trans S9
    obtain ⟨l11, hl11⟩ := hp11.lst
    have npl : pl ≠ p := fun z => by rw [z, hl11] at hpl; cases hpl
    have sp : Same F9 (upd F9 pl (.lst [.ref u1, .ref u2, .ref u3, .ref u4])) := same_new hpl
    have epl : (upd F9 pl (.lst [.ref u1, .ref u2, .ref u3, .ref u4])) pl = some (.lst [.ref u1, .ref u2, .ref u3, .ref u4]) := upd_same
    have hpr : ∀ w ∈ [V.ref u1, .ref u2, .ref u3, .ref u4], Pr2 K (upd F9 pl (.lst [.ref u1, .ref u2, .ref u3, .ref u4])) w := fun w hw => by
      simp only [List.mem_cons, List.not_mem_nil, or_false] at hw
      rcases hw with rfl | rfl | rfl | rfl
      · exact q1.same sp
      · exact q2.same sp
      · exact q3.same sp
      · exact q4.same sp
    generalize (upd F9 pl (.lst [.ref u1, .ref u2, .ref u3, .ref u4])) = F10 at sp epl hpr ⊢
    have vfirst := rp.val
    refine ⟨fun σ' H' => ∃ ws, σ' = [some (.ref a), some (.int n0), some (.ref p), some (.ref av), some x, some (.ref b3), some (.ref pl), y7, y8, y9, z1, z2, z3] ∧ H' pl = some (.lst ws) ∧ ws.length ≤ 5 ∧ (∀ w ∈ ws, Pr2 K H' w) ∧ Sx p F9 H' ∧ Pot H' p 175 ∧ LamX.Tabs (lamT T) H' ∧ Dp K H' (.ref av) (.tuple (prDs (p0 :: pr))), ?_, ?_⟩
    · refine ⟨_, rfl, .ref b3, _, rfl, dp_same sp d39, fun F11 s11 => ⟨_, rfl, ?_⟩⟩
      have s12 := sp.trans s11
      cases e3 : valB (.tuple (prDs third)) with
      | false =>
        refine iteF ?_
        exact ⟨_, rfl, s11 _ _ epl, by simp, fun w hw => (hpr w hw).same s11, Same.sx s12, hp11.same s12, tabs_same tG9 s12, dp_same s12 dv9⟩
      | true =>
        refine iteT ?_
        refine ⟨_, rfl, .inl ⟨rfl, _, SqL.of (s11 _ _ epl)⟩, _, rfl, _, rfl, (by show 2 ≤ sizeLine; decide), fun u5 hu5 => ?_⟩
        have q5 := Pr2.new hu5 (dp_same s12 dv9) (dp_same s12 d39) rp (w3 e3)
        have s13 : Same F11 (upd F11 u5 (.tup [.ref av, .ref b3])) := same_new hu5
        generalize (upd F11 u5 (.tup [.ref av, .ref b3])) = F12 at q5 s13 ⊢
        have ep2 := s13 _ _ (s11 _ _ epl)
        have s14 := s12.trans s13
        refine ⟨pl, _, _, rfl, rfl, ep2, small1000 (by simp), ?_⟩
        refine ⟨_, rfl, upd_same, by simp, fun w hw => ?_, fun b o n e => by rw [upd_ne (ne_of_none e hpl)]; exact s14 b o e, ?_, tabs_sx (tabs_same tG9 s14) (sx_upd (p := pl)) ep2, (sx_upd (p := pl)).dp ep2 (noP _) (dp_same s14 dv9)⟩
        · rcases List.mem_append.mp hw with y | y
          · exact (((hpr w y).same s11).same s13).sx (sx_upd (p := pl)) ep2
          · rw [List.mem_singleton.mp y]
            exact q5.sx (sx_upd (p := pl)) ep2
        · obtain ⟨a1, a2, a3, p1, p2⟩ := hp11.same s14
          exact ⟨a1, a2, a3, by rw [upd_ne npl.symm]; exact p1, p2⟩
    rintro σ' H1 ⟨ws, rfl, epl, wl, hpr, sx, hp12, tG12, dfi⟩
    have S12 := S10.trans sx
    clear sx sp q1 q2 q3 q4 S9 hp11 hp10 hp9 hpl tG9 d39 dv9 S10 hl11 s9 hu4 s8 hy dy
    refine ⟨_, rfl, pl, rfl, ⟨_, SqL.of epl⟩, fun D hD => ?_⟩
    refine lc_list (K := K) (a := pl) (xs := ws) (fun i F => Same H1 F ∧ F D = some (.lst [])) ⟨same_new hD, upd_same⟩ (fun i F _ ⟨s, _⟩ => SqL.of (s _ _ epl)) ?_ ?_
    · rintro i w F hi ⟨s, eD⟩
      obtain ⟨t, v', x', ps', qs', rfl, kt, d1, d2, r1, r2⟩ := (hpr w (List.mem_of_getElem? hi)).same s
      refine ⟨t, _, rfl, kt, rfl, _, _, rfl, _, _, rfl, rfl, rfl, ?_⟩
      refine ⟨_, rfl, _, rfl, v', x', ps', qs', rfl, d1, d2, r1, r2, fun F2 s2 => ⟨_, rfl, ?_⟩⟩
      refine iteFx rfl ?_
      exact ⟨s.trans s2, s2 _ _ eD⟩
    rintro F ⟨s1, eD⟩
    refine ⟨(by show 0 ≤ sizeLine; decide), fun r hr => ?_⟩
    have s2 : Same F (upd F r (.lst [])) := same_new hr
    have er : (upd F r (.lst [])) r = some (.lst []) := upd_same
    generalize (upd F r (.lst [])) = F2 at s2 er ⊢
    refine ⟨.list [], .list [], .lst (SqL.of (s2 _ _ eD)) .nil, .lst (SqL.of er) .nil, by decide, by decide, _, rfl, ?_⟩
    refine iteFx (by decide) ?_
    have s12 := s1.trans s2
    have hpA := hp12.same s12
    have tGA := tabs_same tG12 s12
    have dfA := dp_same s12 dfi
    have SA := S12.trans (Same.sx s12)
    clear s12 s1 s2 eD er hr hD hpr epl hp12 tG12 dfi S12
    show tSeq _ _ _ [some (.ref a), some (.int n0), some (.ref p), some (.ref av), some x, some (.ref b3), some (.ref pl), y7, y8, y9, z1, z2, z3] F2
    -- something odd
    obtain ⟨lA, hlA⟩ := hpA.lst
    refine ⟨Ns.nil, fun J1 v1 k1 d1 => ⟨Ns.nil, fun J2 v2 k2 d2 => ⟨(by show 1 ≤ sizeLine; decide), fun u hu => ?_⟩⟩⟩
    have ku : Same J2 (upd J2 u (.lst [v2])) := same_new hu
    have eu : (upd J2 u (.lst [v2])) u = some (.lst [v2]) := upd_same
    have hpJ2 := hpA.same (k1.trans k2)
    obtain ⟨lJ, hlJ⟩ := hpJ2.lst
    have nup : u ≠ p := fun z => by rw [z, hlJ] at hu; cases hu
    have d2' := dp_same ku d2
    generalize (upd J2 u (.lst [v2])) = J2' at ku eu d2' ⊢
    refine ⟨Ns.nil, fun J3 v3 k3 d3 => ⟨Ns.nil, fun J4 v4 k4 d4 => ⟨Ns.nil, fun J5 v5 k5 d5 => ⟨(by show 7 ≤ sizeLine; decide), fun ol hol => ?_⟩⟩⟩⟩
    have k6 : Same J5 (upd J5 ol (.lst [.non, v1, .ref u, v3, v4, v5, .int 7])) := same_new hol
    have eol : (upd J5 ol (.lst [.non, v1, .ref u, v3, v4, v5, .int 7])) ol = some (.lst [.non, v1, .ref u, v3, v4, v5, .int 7]) := upd_same
    have c6 := k6
    have c56 := k5.trans k6
    have c46 := k4.trans c56
    have c36 := k3.trans c46
    have cA := k1.trans (k2.trans (ku.trans c36))
    have hpB := hpA.same cA
    obtain ⟨lB, hlB⟩ := hpB.lst
    have nop : ol ≠ p := fun z => by
      have e2 := hpA.same (k1.trans (k2.trans (ku.trans (k3.trans (k4.trans k5)))))
      obtain ⟨l, hl⟩ := e2.lst
      rw [z, hl] at hol
      cases hol
    have g1 := dp_same (k2.trans (ku.trans c36)) d1
    have g2 := dp_same c36 d2'
    have g3 := dp_same c46 d3
    have g4 := dp_same c56 d4
    have g5 := dp_same c6 d5
    have eu6 := c36 _ _ eu
    have dfB := dp_same cA dfA
    have tGB := tabs_same tGA cA
    have SB := SA.trans (Same.sx cA)
    generalize (upd J5 ol (.lst [.non, v1, .ref u, v3, v4, v5, .int 7])) = J6 at k6 eol c6 c56 c46 c36 cA hpB hlB g1 g2 g3 g4 g5 eu6 dfB tGB SB ⊢
    clear k6 c6 c56 c46 c36 cA hol k5 d5 k4 d4 k3 d3 d2' ku eu hu hpJ2 hlJ d2 k2 d1 k1 hpA tGA dfA SA hlA
    refine ⟨_, rfl, p, 175, 7, rfl, hpB, by decide, by decide, by decide, fun J7 r s7 hp7 r0 r1 => ?_⟩
    have g1 := s7.dp hlB (by rfl) g1
    have g2 := s7.dp hlB (by rfl) g2
    have g3 := s7.dp hlB (by rfl) g3
    have g4 := s7.dp hlB (by rfl) g4
    have g5 := s7.dp hlB (by rfl) g5
    have eu7 := s7 u _ nup eu6
    have eol7 := s7 ol _ nop eol
    have dfC := s7.dp hlB (noP _) dfB
    have tGC := tabs_sx tGB s7 hlB
    have SC := SB.trans s7
    have gall : DpAll K J7 [.non, v1, .ref u, v3, v4, v5, .int 7] [.none, .tuple [], .list [.tuple [.int 0, .int 0]], .tuple [.tuple [.int 0, .int 0], .tuple [.int 0, .int (-1)]], .tuple [.tuple [.int 0, .int 0], .tuple [.int 1, .int 0]], .tuple [.tuple [.int 0, .bool true]], .int 7] :=
      .cons .non (.cons g1 (.cons (.lst (SqL.of eu7) (.cons g2 .nil)) (.cons g3 (.cons g4 (.cons g5 (.cons (.int 7) .nil))))))
    have bad : ∀ d ∈ [PyData.none, .tuple [], .list [.tuple [.int 0, .int 0]], .tuple [.tuple [.int 0, .int 0], .tuple [.int 0, .int (-1)]], .tuple [.tuple [.int 0, .int 0], .tuple [.int 1, .int 0]], .tuple [.tuple [.int 0, .bool true]], .int 7], valB d = false := by
      intro d hd
      simp only [List.mem_cons, List.not_mem_nil, or_false] at hd
      rcases hd with rfl | rfl | rfl | rfl | rfl | rfl | rfl <;> decide
    obtain ⟨o, d, eo, dod, vd⟩ : ∃ (o : V) (d : PyData), atI [.non, v1, .ref u, v3, v4, v5, .int 7] r = some o ∧ Dp K J7 o d ∧ valB d = false := by
      obtain ⟨j, rfl⟩ : ∃ j : Nat, r = (j : Int) := ⟨r.toNat, by omega⟩
      have hj : j < [V.non, v1, .ref u, v3, v4, v5, .int 7].length := by
        show j < 7
        omega
      have e := List.getElem?_eq_getElem hj
      obtain ⟨d, ed, hd⟩ := dpAll_get gall e
      exact ⟨_, d, atI_at (j := j) rfl e, hd, bad d (List.mem_of_getElem? ed)⟩
    clear gall bad g1 g2 g3 g4 g5 eu6 eu7
    refine ⟨ol, _, _, _, rfl, rfl, SqL.of eol7, eo, ?_⟩
    clear eol7 eo eol hlB hpB tGB dfB SB s7 r0 r1
    show tSeq _ _ _ [some (.ref a), some (.int n0), some (.ref p), some (.ref av), some x, some (.ref b3), some (.ref pl), some o, y8, y9, z1, z2, z3] J7
    refine ⟨tGC, fun L1 m1 T1 => ?_⟩
    refine ⟨_, rfl, _, rfl, l2_bad1 (dp_ext m1 dod) (dp_ext m1 dfC) vd fun L2 n2 => .inl ⟨rfl, (by show 1 ≤ sizeLine; decide), fun q8 hq8 => ?_⟩⟩
    have n3 : Same L2 (upd L2 q8 (.lst [.str "valleys"])) := same_new hq8
    have e8 : (upd L2 q8 (.lst [.str "valleys"])) q8 = some (.lst [.str "valleys"]) := upd_same
    have m3 := m1.trans (extN_same (n2.trans n3))
    have T3 := tabs_same T1 (n2.trans n3)
    have n8p : q8 ≠ p := fun z => by
      have e := (hp7.ext m1).same n2
      obtain ⟨l, hl⟩ := e.lst
      rw [z, hl] at hq8
      cases hq8
    have n8 : ∀ {b : Addr} {o : HO}, J7 b = some o → (∀ ps, o ≠ .tbl ps) → b ≠ q8 := fun e z y => by
      have := n2 _ _ (m1 _ _ e z)
      rw [y, hq8] at this
      cases this
    generalize (upd L2 q8 (.lst [.str "valleys"])) = L3 at n3 e8 m3 T3 ⊢
    show tSeq _ _ _ [some (.ref a), some (.int n0), some (.ref p), some (.ref av), some x, some (.ref b3), some (.ref pl), some o, some (.ref q8), y9, z1, z2, z3] L3
    clear n3 hq8 n2 m1 T1
    refine ⟨_, rfl, .inl ⟨rfl, _, SqL.of e8⟩, T3, fun L4 m4 T4 => ?_⟩
    refine ⟨_, rfl, _, rfl, l2_bad2 (dp_ext (m3.trans m4) dfC) (dp_ext (m3.trans m4) dod) vd fun L5 n5 => .inl ⟨rfl, ?_⟩⟩
    have e5 : L5 q8 = some (.lst [.str "valleys"]) := n5 _ _ (m4 _ _ e8 fun ps z => by cases z)
    have m5 := m3.trans (m4.trans (extN_same n5))
    have T5 := tabs_same T4 n5
    refine ⟨q8, _, _, rfl, rfl, e5, by decide, ?_⟩
    have m6 : LamX.ExtN J7 (upd L5 q8 (.lst ([.str "valleys"] ++ [.str "valleys"]))) := fun b o e z => by rw [upd_ne (n8 e z)]; exact m5 b o e z
    have T6 := tabs_sx (l := [.str "valleys"]) T5 (sx_upd (p := q8) (o := .lst ([.str "valleys"] ++ [.str "valleys"]))) e5
    have e6 : (upd L5 q8 (.lst ([.str "valleys"] ++ [.str "valleys"]))) q8 = some (.lst [.str "valleys", .str "valleys"]) := upd_same
    generalize (upd L5 q8 (.lst ([.str "valleys"] ++ [.str "valleys"]))) = L6 at m6 T6 e6 ⊢
    clear e5 m5 T5 n5 m4 T4 m3 T3 e8
    refine ⟨_, rfl, .inl ⟨rfl, _, SqL.of e6⟩, T6, fun L7 m7 T7 => ?_⟩
    refine ⟨_, rfl, l2_bad1 (dp_ext (m6.trans m7) dod) .non vd fun L8 n8' => .inl ⟨rfl, ?_⟩⟩
    have e8 : L8 q8 = some (.lst [.str "valleys", .str "valleys"]) := n8' _ _ (m7 _ _ e6 fun ps z => by cases z)
    have m8 := m6.trans (m7.trans (extN_same n8'))
    have T8 := tabs_same T7 n8'
    refine ⟨q8, _, _, rfl, rfl, e8, by decide, ?_⟩
    have m9 : LamX.ExtN J7 (upd L8 q8 (.lst ([.str "valleys", .str "valleys"] ++ [.str "valleys"]))) := fun b o e z => by rw [upd_ne (n8 e z)]; exact m8 b o e z
    have T9 := tabs_sx (l := [.str "valleys", .str "valleys"]) T8 (sx_upd (p := q8) (o := .lst ([.str "valleys", .str "valleys"] ++ [.str "valleys"]))) e8
    have e9 : (upd L8 q8 (.lst ([.str "valleys", .str "valleys"] ++ [.str "valleys"]))) q8 = some (.lst [.str "valleys", .str "valleys", .str "valleys"]) := upd_same
    generalize (upd L8 q8 (.lst ([.str "valleys", .str "valleys"] ++ [.str "valleys"]))) = L9 at m9 T9 e9 ⊢
    clear e8 m8 T8 n8' m7 T7 m6 T6 e6
    refine ⟨_, rfl, (by show 1 ≤ sizeLine; decide), fun w1 hw1 => ⟨w1, 3, _, rfl, rfl, upd_same, by decide, by decide, (by show 1 * 3 ≤ sizeLine; decide), fun w2 hw2 => ?_⟩⟩
    have k12 : Same L9 (upd (upd L9 w1 (.lst [.str "valleys"])) w2 (.lst (List.replicate (3 : Int).toNat [V.str "valleys"]).flatten)) := (same_new hw1).trans (same_new hw2)
    have e12 : (upd (upd L9 w1 (.lst [.str "valleys"])) w2 (.lst (List.replicate (3 : Int).toNat [V.str "valleys"]).flatten)) w2 = some (.lst [.str "valleys", .str "valleys", .str "valleys"]) := upd_same
    generalize (upd (upd L9 w1 (.lst [.str "valleys"])) w2 (.lst (List.replicate (3 : Int).toNat [V.str "valleys"]).flatten)) = L10 at k12 e12 ⊢
    refine ⟨.list [.str "valleys", .str "valleys", .str "valleys"], .list [.str "valleys", .str "valleys", .str "valleys"], .lst (SqL.of (k12 _ _ e9)) (.cons (.str _) (.cons (.str _) (.cons (.str _) .nil))), .lst (SqL.of e12) (.cons (.str _) (.cons (.str _) (.cons (.str _) .nil))), by decide +kernel, by decide +kernel, _, rfl, ?_⟩
    refine iteFx (by simp [PyData.eqv, PyData.eqvAll]) ?_
    have m10 := m9.trans (extN_same k12)
    refine ⟨_, rfl, p, 176, rfl, hp7.ext m10, by decide, tabs_same T9 k12, fun Z1 xz TZ pZ => ⟨_, rfl, ?_⟩⟩
    refine iteFx rfl ?_
    exact ⟨_, _, _, _, _, _, _, _, _, _, _, _, rfl, ext_free xG hpn ((SxN.of SC).trans ((SxN.ext m10).trans xz)), TZ⟩
  · rintro σ G ⟨y1, y2, y3, y4, y5, y6, y7, y8, y9, z1, z2, z3, rfl, xG, tG⟩
    refine ⟨Ns.nil, fun G1 v1 s1 d1 => ⟨Ns.nil, fun G2 v2 s2 d2 => ?_⟩⟩
    refine l2_eq (ps := [(0, 0)]) (qs := [(-2, 5), (3, -1)]) (R := [(-2, 5), (0, 0), (3, -1)]) (dp_same s2 d1) d2 (by decide) (by decide) ⟨by decide, by decide, fun p hp => ⟨p, (by decide : ∀ p ∈ ([(0, 0)] ++ [(-2, 5), (3, -1)] : List P2), p ∈ ([(-2, 5), (0, 0), (3, -1)] : List P2)) p hp, Int.le_refl _, Int.le_refl _⟩⟩ (by decide) fun G3 r s3 d3 => ⟨Ns.nil, fun G4 v4 s4 d4 => ?_⟩
    refine ⟨_, _, dp_same s4 d3, d4, shaped_tps _, shaped_tps [(-2, 5), (0, 0), (3, -1)], ?_⟩
    show Q (.bl (PyData.eqv (.tuple (prDs [(-2, 5), (0, 0), (3, -1)])) (.tuple (prDs [(-2, 5), (0, 0), (3, -1)])))) G4
    rw [eqv_tps21]
    exact q _
end
/-- where the table of a def's lambdas lies -/
theorem tabIn_of {K : PySem.W.Frag} {x : Str} {f c P : Addr} {cl1 cl2 : Value} {z1 z2 : Option Addr} {b1 b2 : Array (Option Value)} {fd : FuncData} {vs : Array Value} (h1 : PySem.W.nsIn K mainGlobals x = some (some (.ref f))) (h2 : K.lookup f = some ⟨cl1, z1, .func fd, b1⟩)
    (h3 : fd.code = .ref c) (h4 : K.lookup c = some ⟨cl2, z2, .fields vs, b2⟩) (h5 : (vs[11]? : Option Value) = some (.ref P)) : PySem.W.tabIn K x = some (c, P) := by
  unfold PySem.W.tabIn
  rw [h1]
  dsimp only
  rw [h2]
  dsimp only
  rw [h3]
  dsimp only
  rw [h4]
  dsimp only
  rw [h5]
theorem all_mk {l : PySem.W.OpenLaw} {w : World} {K : PySem.W.Frag} {h : Heap} {mg : Str → Option Value} {fa : Addr} (X : K.In h) (G : h.Ns mainGlobals mg) (hfa : mg "law" = some (.ref fa))
    {od0 an0 : Option Addr} {sl0 : Array (Option Value)} {oc0 kV0 dc0 pm0 cd0 ct0 : Value} {f0 : Addr}
    {od1 an1 : Option Addr} {sl1 : Array (Option Value)} {oc1 kV1 dc1 pm1 cd1 ct1 : Value} {f1 : Addr}
    {od2 an2 : Option Addr} {sl2 : Array (Option Value)} {oc2 kV2 dc2 pm2 cd2 ct2 : Value} {f2 : Addr}
    {od3 an3 : Option Addr} {sl3 : Array (Option Value)} {oc3 kV3 dc3 pm3 cd3 ct3 : Value} {f3 : Addr}
    {od4 an4 : Option Addr} {sl4 : Array (Option Value)} {oc4 kV4 dc4 pm4 cd4 ct4 : Value} {f4 : Addr}
    {od5 an5 : Option Addr} {sl5 : Array (Option Value)} {oc5 kV5 dc5 pm5 cd5 ct5 : Value} {f5 : Addr}
    {od6 an6 : Option Addr} {sl6 : Array (Option Value)} {oc6 kV6 dc6 pm6 cd6 ct6 : Value} {f6 : Addr}
    {od7 an7 : Option Addr} {sl7 : Array (Option Value)} {oc7 kV7 dc7 pm7 cd7 ct7 : Value} {f7 : Addr}
    {od8 an8 : Option Addr} {sl8 : Array (Option Value)} {oc8 kV8 dc8 pm8 cd8 ct8 : Value} {f8 : Addr}
    {od9 an9 : Option Addr} {sl9 : Array (Option Value)} {oc9 kV9 dc9 pm9 cd9 ct9 : Value} {f9 : Addr}
    {od10 an10 : Option Addr} {sl10 : Array (Option Value)} {oc10 kV10 dc10 pm10 cd10 ct10 : Value} {f10 : Addr}
    {od11 an11 : Option Addr} {sl11 : Array (Option Value)} {oc11 kV11 dc11 pm11 cd11 ct11 : Value} {f11 : Addr}
    {od12 an12 : Option Addr} {sl12 : Array (Option Value)} {oc12 kV12 dc12 pm12 cd12 ct12 : Value} {f12 : Addr}
    {od13 an13 : Option Addr} {sl13 : Array (Option Value)} {oc13 kV13 dc13 pm13 cd13 ct13 : Value} {f13 : Addr}
    {od14 an14 : Option Addr} {sl14 : Array (Option Value)} {oc14 kV14 dc14 pm14 cd14 ct14 : Value} {f14 : Addr}
    {od15 an15 : Option Addr} {sl15 : Array (Option Value)} {oc15 kV15 dc15 pm15 cd15 ct15 : Value} {f15 : Addr}
    {od16 an16 : Option Addr} {sl16 : Array (Option Value)} {oc16 kV16 dc16 pm16 cd16 ct16 : Value} {f16 : Addr}
    {od17 an17 : Option Addr} {sl17 : Array (Option Value)} {oc17 kV17 dc17 pm17 cd17 ct17 : Value} {f17 : Addr}
    {od18 an18 : Option Addr} {sl18 : Array (Option Value)} {oc18 kV18 dc18 pm18 cd18 ct18 : Value} {f18 : Addr}
    {od19 an19 : Option Addr} {sl19 : Array (Option Value)} {oc19 kV19 dc19 pm19 cd19 ct19 : Value} {f19 : Addr}
    {u0c : Addr}
    {u1c : Addr}
    {tk0 : Tok}
    {x0c : Addr}
    {lc0 lt0 : Addr}
    {lc1 lt1 : Addr}
    (a0 : PySem.W.nsIn K mainGlobals "is_integer" = some (some (.ref f0)))
    (l0 : K.lookup f0 = some ⟨oc0, od0, .func (PySem.W.fnOf "is_integer" "is_integer" (defArgs s_is_integer) (defBody s_is_integer) (defScope s_is_integer) .none kV0 dc0 pm0 an0 cd0 ct0), sl0⟩)
    (c0 : PySem.W.codeIn K cd0 "is_integer" = true) (k0 : PySem.W.keepIn K (.ref f0) = true)
    (a1 : PySem.W.nsIn K mainGlobals "is_valleys" = some (some (.ref f1)))
    (l1 : K.lookup f1 = some ⟨oc1, od1, .func (PySem.W.fnOf "is_valleys" "is_valleys" (defArgs s_is_valleys) (defBody s_is_valleys) (defScope s_is_valleys) .none kV1 dc1 pm1 an1 cd1 ct1), sl1⟩)
    (c1 : PySem.W.codeIn K cd1 "is_valleys" = true) (k1 : PySem.W.keepIn K (.ref f1) = true)
    (a2 : PySem.W.nsIn K mainGlobals "least_of_two" = some (some (.ref f2)))
    (l2 : K.lookup f2 = some ⟨oc2, od2, .func (PySem.W.fnOf "least_of_two" "least_of_two" (defArgs s_least_of_two) (defBody s_least_of_two) (defScope s_least_of_two) .none kV2 dc2 pm2 an2 cd2 ct2), sl2⟩)
    (c2 : PySem.W.codeIn K cd2 "least_of_two" = true) (k2 : PySem.W.keepIn K (.ref f2) = true)
    (a3 : PySem.W.nsIn K mainGlobals "least_usages" = some (some (.ref f3)))
    (l3 : K.lookup f3 = some ⟨oc3, od3, .func (PySem.W.fnOf "least_usages" "least_usages" (defArgs s_least_usages) (defBody s_least_usages) (defScope s_least_usages) .none kV3 dc3 pm3 an3 cd3 ct3), sl3⟩)
    (c3 : PySem.W.codeIn K cd3 "least_usages" = true) (k3 : PySem.W.keepIn K (.ref f3) = true)
    (a4 : PySem.W.nsIn K mainGlobals "checked_length" = some (some (.ref f4)))
    (l4 : K.lookup f4 = some ⟨oc4, od4, .func (PySem.W.fnOf "checked_length" "checked_length" (defArgs s_checked_length) (defBody s_checked_length) (defScope s_checked_length) .none kV4 dc4 pm4 an4 cd4 ct4), sl4⟩)
    (c4 : PySem.W.codeIn K cd4 "checked_length" = true) (k4 : PySem.W.keepIn K (.ref f4) = true)
    (a5 : PySem.W.nsIn K mainGlobals "_is_pair" = some (some (.ref f5)))
    (l5 : K.lookup f5 = some ⟨oc5, od5, .func (PySem.W.fnOf "_is_pair" "_is_pair" (defArgs s__is_pair) (defBody s__is_pair) (defScope s__is_pair) .none kV5 dc5 pm5 an5 cd5 ct5), sl5⟩)
    (c5 : PySem.W.codeIn K cd5 "_is_pair" = true) (k5 : PySem.W.keepIn K (.ref f5) = true)
    (a6 : PySem.W.nsIn K mainGlobals "_check_valleys" = some (some (.ref f6)))
    (l6 : K.lookup f6 = some ⟨oc6, od6, .func (PySem.W.fnOf "_check_valleys" "_check_valleys" (defArgs s__check_valleys) (defBody s__check_valleys) (defScope s__check_valleys) .none kV6 dc6 pm6 an6 cd6 ct6), sl6⟩)
    (c6 : PySem.W.codeIn K cd6 "_check_valleys" = true) (k6 : PySem.W.keepIn K (.ref f6) = true)
    (a7 : PySem.W.nsIn K mainGlobals "_law_source" = some (some (.ref f7)))
    (l7 : K.lookup f7 = some ⟨oc7, od7, .func (PySem.W.fnOf "_law_source" "_law_source" (defArgs s__law_source) (defBody s__law_source) (defScope s__law_source) .none kV7 dc7 pm7 an7 cd7 ct7), sl7⟩)
    (c7 : PySem.W.codeIn K cd7 "_law_source" = true) (k7 : PySem.W.keepIn K (.ref f7) = true)
    (a8 : PySem.W.nsIn K mainGlobals "_law_draw" = some (some (.ref f8)))
    (l8 : K.lookup f8 = some ⟨oc8, od8, .func (PySem.W.fnOf "_law_draw" "_law_draw" (defArgs s__law_draw) (defBody s__law_draw) (defScope s__law_draw) .none kV8 dc8 pm8 an8 cd8 ct8), sl8⟩)
    (c8 : PySem.W.codeIn K cd8 "_law_draw" = true) (k8 : PySem.W.keepIn K (.ref f8) = true)
    (a9 : PySem.W.nsIn K mainGlobals "_law_value_at" = some (some (.ref f9)))
    (l9 : K.lookup f9 = some ⟨oc9, od9, .func (PySem.W.fnOf "_law_value_at" "_law_value_at" (defArgs s__law_value_at) (defBody s__law_value_at) (defScope s__law_value_at) .none kV9 dc9 pm9 an9 cd9 ct9), sl9⟩)
    (c9 : PySem.W.codeIn K cd9 "_law_value_at" = true) (k9 : PySem.W.keepIn K (.ref f9) = true)
    (a10 : PySem.W.nsIn K mainGlobals "_law_gaps" = some (some (.ref f10)))
    (l10 : K.lookup f10 = some ⟨oc10, od10, .func (PySem.W.fnOf "_law_gaps" "_law_gaps" (defArgs s__law_gaps) (defBody s__law_gaps) (defScope s__law_gaps) .none kV10 dc10 pm10 an10 cd10 ct10), sl10⟩)
    (c10 : PySem.W.codeIn K cd10 "_law_gaps" = true) (k10 : PySem.W.keepIn K (.ref f10) = true)
    (a11 : PySem.W.nsIn K mainGlobals "_law_random_valleys" = some (some (.ref f11)))
    (l11 : K.lookup f11 = some ⟨oc11, od11, .func (PySem.W.fnOf "_law_random_valleys" "_law_random_valleys" (defArgs s__law_random_valleys) (defBody s__law_random_valleys) (defScope s__law_random_valleys) .none kV11 dc11 pm11 an11 cd11 ct11), sl11⟩)
    (c11 : PySem.W.codeIn K cd11 "_law_random_valleys" = true) (k11 : PySem.W.keepIn K (.ref f11) = true)
    (a12 : PySem.W.nsIn K mainGlobals "_law_random_start" = some (some (.ref f12)))
    (l12 : K.lookup f12 = some ⟨oc12, od12, .func (PySem.W.fnOf "_law_random_start" "_law_random_start" (defArgs s__law_random_start) (defBody s__law_random_start) (defScope s__law_random_start) .none kV12 dc12 pm12 an12 cd12 ct12), sl12⟩)
    (c12 : PySem.W.codeIn K cd12 "_law_random_start" = true) (k12 : PySem.W.keepIn K (.ref f12) = true)
    (a13 : PySem.W.nsIn K mainGlobals "_law_valley_outcome" = some (some (.ref f13)))
    (l13 : K.lookup f13 = some ⟨oc13, od13, .func (PySem.W.fnOf "_law_valley_outcome" "_law_valley_outcome" (defArgs s__law_valley_outcome) (defBody s__law_valley_outcome) (defScope s__law_valley_outcome) .none kV13 dc13 pm13 an13 cd13 ct13), sl13⟩)
    (c13 : PySem.W.codeIn K cd13 "_law_valley_outcome" = true) (k13 : PySem.W.keepIn K (.ref f13) = true)
    (a14 : PySem.W.nsIn K mainGlobals "_law_least_at" = some (some (.ref f14)))
    (l14 : K.lookup f14 = some ⟨oc14, od14, .func (PySem.W.fnOf "_law_least_at" "_law_least_at" (defArgs s__law_least_at) (defBody s__law_least_at) (defScope s__law_least_at) .none kV14 dc14 pm14 an14 cd14 ct14), sl14⟩)
    (c14 : PySem.W.codeIn K cd14 "_law_least_at" = true) (k14 : PySem.W.keepIn K (.ref f14) = true)
    (a15 : PySem.W.nsIn K mainGlobals "_law_least_right" = some (some (.ref f15)))
    (l15 : K.lookup f15 = some ⟨oc15, od15, .func (PySem.W.fnOf "_law_least_right" "_law_least_right" (defArgs s__law_least_right) (defBody s__law_least_right) (defScope s__law_least_right) .none kV15 dc15 pm15 an15 cd15 ct15), sl15⟩)
    (c15 : PySem.W.codeIn K cd15 "_law_least_right" = true) (k15 : PySem.W.keepIn K (.ref f15) = true)
    (a16 : PySem.W.nsIn K mainGlobals "_law_bounds_right" = some (some (.ref f16)))
    (l16 : K.lookup f16 = some ⟨oc16, od16, .func (PySem.W.fnOf "_law_bounds_right" "_law_bounds_right" (defArgs s__law_bounds_right) (defBody s__law_bounds_right) (defScope s__law_bounds_right) .none kV16 dc16 pm16 an16 cd16 ct16), sl16⟩)
    (c16 : PySem.W.codeIn K cd16 "_law_bounds_right" = true) (k16 : PySem.W.keepIn K (.ref f16) = true)
    (a19 : PySem.W.nsIn K mainGlobals "law" = some (some (.ref f19)))
    (l19 : K.lookup f19 = some ⟨oc19, od19, .func (PySem.W.fnOf "law" "law" (defArgs s_law) (defBody s_law) (defScope s_law) .none kV19 dc19 pm19 an19 cd19 ct19), sl19⟩)
    (c19 : PySem.W.codeIn K cd19 "law" = true) (k19 : PySem.W.keepIn K (.ref f19) = true)
    (u0g : PySem.W.nsIn K mainGlobals "InvalidNumber" = some (some (.ref u0c))) (u0q : PySem.W.excInitIn K u0c [.type "IndexError", .type "LookupError", .type "Exception", .type "BaseException", .type "object"] "IndexError.__new__" = true) (u0o : PySem.W.excOver K u0c [.type "IndexError", .type "LookupError", .type "Exception", .type "BaseException", .type "object"] = true) (u0d : PySem.W.hasDictIn K u0c = true) (u0s : PySem.W.findIn K (.ref u0c) "__setattr__" = some (some (.builtin "object.__setattr__"))) (u0b : PySem.W.subIn K (.ref u0c) (.type "BaseException") = some true) (u0t : PySem.W.typeIn K (.ref u0c) = some (.type "type")) (u0k : PySem.W.keepIn K (.ref u0c) = true) (u0i : PySem.W.findIn K (.ref u0c) "__init__" = some (some (.ref f17))) (u0f : PySem.W.typeIn K (.ref f17) = some (.type "function")) (u0n : PySem.W.findIn K (.ref u0c) "value" = some none) (u0ga : PySem.W.findIn K (.ref u0c) "__getattribute__" = some (some (.builtin "BaseException.__getattribute__"))) (u0gg : PySem.W.findIn K (.ref u0c) "__getattr__" = some none) (u0cl : PySem.W.isClsIn K u0c = true) (u0ss : PySem.W.subIn K (.ref u0c) (.ref u0c) = some true) (u0ha : PySem.W.findIn K (.ref u0c) "__class__" = some (some (.builtin "object.__class__"))) (u0hn : PySem.W.specialIn K (.builtin "object.__class__") "__get__" = some (some (.builtin "getset_descriptor.__get__"))) (u0ht : PySem.W.takesIn K (.builtin "object.__class__") = some true) (u0hm : PySem.W.mroIn K u0c (.type "object") = some true)
    (l17 : K.lookup f17 = some ⟨oc17, od17, .func (PySem.W.fnOf "__init__" "InvalidNumber.__init__" (defArgs s_InvalidNumber_init) (defBody s_InvalidNumber_init) (defScope s_InvalidNumber_init) .none kV17 dc17 pm17 an17 cd17 ct17), sl17⟩)
    (c17 : PySem.W.codeIn K cd17 "InvalidNumber.__init__" = true) (k17 : PySem.W.keepIn K (.ref f17) = true)
    (u1g : PySem.W.nsIn K mainGlobals "TooMany" = some (some (.ref u1c))) (u1q : PySem.W.excInitIn K u1c [.type "OverflowError", .type "ArithmeticError", .type "Exception", .type "BaseException", .type "object"] "OverflowError.__new__" = true) (u1o : PySem.W.excOver K u1c [.type "OverflowError", .type "ArithmeticError", .type "Exception", .type "BaseException", .type "object"] = true) (u1d : PySem.W.hasDictIn K u1c = true) (u1s : PySem.W.findIn K (.ref u1c) "__setattr__" = some (some (.builtin "object.__setattr__"))) (u1b : PySem.W.subIn K (.ref u1c) (.type "BaseException") = some true) (u1t : PySem.W.typeIn K (.ref u1c) = some (.type "type")) (u1k : PySem.W.keepIn K (.ref u1c) = true) (u1i : PySem.W.findIn K (.ref u1c) "__init__" = some (some (.ref f18))) (u1f : PySem.W.typeIn K (.ref f18) = some (.type "function")) (u1n : PySem.W.findIn K (.ref u1c) "limit" = some none) (u1ga : PySem.W.findIn K (.ref u1c) "__getattribute__" = some (some (.builtin "BaseException.__getattribute__"))) (u1gg : PySem.W.findIn K (.ref u1c) "__getattr__" = some none) (u1cl : PySem.W.isClsIn K u1c = true) (u1ss : PySem.W.subIn K (.ref u1c) (.ref u1c) = some true) (u1ha : PySem.W.findIn K (.ref u1c) "__class__" = some (some (.builtin "object.__class__"))) (u1hn : PySem.W.specialIn K (.builtin "object.__class__") "__get__" = some (some (.builtin "getset_descriptor.__get__"))) (u1ht : PySem.W.takesIn K (.builtin "object.__class__") = some true) (u1hm : PySem.W.mroIn K u1c (.type "object") = some true)
    (l18 : K.lookup f18 = some ⟨oc18, od18, .func (PySem.W.fnOf "__init__" "TooMany.__init__" (defArgs s_TooMany_init) (defBody s_TooMany_init) (defScope s_TooMany_init) .none kV18 dc18 pm18 an18 cd18 ct18), sl18⟩)
    (c18 : PySem.W.codeIn K cd18 "TooMany.__init__" = true) (k18 : PySem.W.keepIn K (.ref f18) = true)
    (gc0 : PySem.W.nsIn K mainGlobals "MAX_VALLEYS" = some (some (.int 400 tk0)))
    (x0g : PySem.W.nsIn K mainGlobals "InvalidValleys" = some (some (.ref x0c))) (x0x : PySem.W.excIn K x0c [.type "ValueError", .type "Exception", .type "BaseException", .type "object"] "ValueError.__new__" = true) (x0k : PySem.W.keepIn K (.ref x0c) = true) (x0b : PySem.W.subIn K (.ref x0c) (.type "BaseException") = some true) (x0t : PySem.W.typeIn K (.ref x0c) = some (.type "type")) (x0i : PySem.W.isClsIn K x0c = true)
    (ye0 : PySem.W.subIn K (.ref x0c) (.ref x0c) = some true)
    (ye1 : PySem.W.subIn K (.ref u0c) (.ref x0c) = some false)
    (ye2 : PySem.W.subIn K (.ref u1c) (.ref x0c) = some false)
    (ye3 : PySem.W.subIn K (.ref u1c) (.ref u0c) = some false)
    (lt0i : PySem.W.tabIn K "_law_bounds_right" = some (lc0, lt0)) (ln0 : K.lookup lt0 = none)
    (lt1i : PySem.W.tabIn K "law" = some (lc1, lt1)) (ln1 : K.lookup lt1 = none)
    (lx0_1 : lt0 ≠ lt1)
    (z0 : PySem.W.nsIn K mainGlobals "abs" = some none)
    (z1 : PySem.W.nsIn K mainGlobals "all" = some none)
    (z2 : PySem.W.nsIn K mainGlobals "bool" = some none)
    (z3 : PySem.W.nsIn K mainGlobals "int" = some none)
    (z4 : PySem.W.nsIn K mainGlobals "isinstance" = some none)
    (z5 : PySem.W.nsIn K mainGlobals "len" = some none)
    (z6 : PySem.W.nsIn K mainGlobals "max" = some none)
    (z7 : PySem.W.nsIn K mainGlobals "min" = some none)
    (z8 : PySem.W.nsIn K mainGlobals "range" = some none)
    (z9 : PySem.W.nsIn K mainGlobals "repr" = some none)
    (z10 : PySem.W.nsIn K mainGlobals "set" = some none)
    (z11 : PySem.W.nsIn K mainGlobals "sorted" = some none)
    (z12 : PySem.W.nsIn K mainGlobals "tuple" = some none)
    (z13 : PySem.W.nsIn K mainGlobals "zip" = some none) :
    ∃ (cs : List (Addr × Addr)) (fd : FuncData), (∀ p ∈ cs, ∃ y ∈ Lw.lamNames, PySem.W.tabIn K y = some p) ∧ (∀ p ∈ cs, K.lookup p.2 = none) ∧ (∀ (s : Shared) (v : Value), BindsTo s fd ⟨[v], []⟩ [("_law_script", v)]) ∧ ∀ base : Heap, K.In base → base.Ns mainGlobals mg → (∀ p ∈ cs, LamX.TabB base mg p.1 p.2) → FnG l.prog w K mg base CX0 60 fa fd ["_law_script"] (spLaw K cs) := by
  have e := hfa.symm.trans (PySem.W.mg_of X G a19)
  cases e
  obtain ⟨T, te0, te1⟩ : ∃ T : Txt K mg, (T.cc__law_bounds_right, T.ct__law_bounds_right) = (lc0, lt0) ∧ (T.cc_law, T.ct_law) = (lc1, lt1) := by
    have F0 := fun_mk (st := s_is_integer) l0 c0 k0
    have F1 := fun_mk (st := s_is_valleys) l1 c1 k1
    have F2 := fun_mk (st := s_least_of_two) l2 c2 k2
    have F3 := fun_mk (st := s_least_usages) l3 c3 k3
    have F4 := fun_mk (st := s_checked_length) l4 c4 k4
    have F5 := fun_mk (st := s__is_pair) l5 c5 k5
    have F6 := fun_mk (st := s__check_valleys) l6 c6 k6
    have F7 := fun_mk (st := s__law_source) l7 c7 k7
    have F8 := fun_mk (st := s__law_draw) l8 c8 k8
    have F9 := fun_mk (st := s__law_value_at) l9 c9 k9
    have F10 := fun_mk (st := s__law_gaps) l10 c10 k10
    have F11 := fun_mk (st := s__law_random_valleys) l11 c11 k11
    have F12 := fun_mk (st := s__law_random_start) l12 c12 k12
    have F13 := fun_mk (st := s__law_valley_outcome) l13 c13 k13
    have F14 := fun_mk (st := s__law_least_at) l14 c14 k14
    have F15 := fun_mk (st := s__law_least_right) l15 c15 k15
    have F16 := fun_mk (st := s__law_bounds_right) l16 c16 k16
    have F17 := fun_mk (st := s_InvalidNumber_init) l17 c17 k17
    have F18 := fun_mk (st := s_TooMany_init) l18 c18 k18
    have B0 := F0.binds (ps := ["value"]) fun _ _ _ _ _ _ us hl => match us, hl with | [_], _ => rfl
    have B1 := F1.binds (ps := ["value"]) fun _ _ _ _ _ _ us hl => match us, hl with | [_], _ => rfl
    have B2 := F2.binds (ps := ["first", "second"]) fun _ _ _ _ _ _ us hl => match us, hl with | [_, _], _ => rfl
    have B3 := F3.binds (ps := ["pairs"]) fun _ _ _ _ _ _ us hl => match us, hl with | [_], _ => rfl
    have B4 := F4.binds (ps := ["pairs"]) fun _ _ _ _ _ _ us hl => match us, hl with | [_], _ => rfl
    have B5 := F5.binds (ps := ["value"]) fun _ _ _ _ _ _ us hl => match us, hl with | [_], _ => rfl
    have B6 := F6.binds (ps := ["value"]) fun _ _ _ _ _ _ us hl => match us, hl with | [_], _ => rfl
    have B7 := F7.binds (ps := ["_law_script", "_law_at"]) fun _ _ _ _ _ _ us hl => match us, hl with | [_, _], _ => rfl
    have B8 := F8.binds (ps := ["_law_source_here", "_law_many"]) fun _ _ _ _ _ _ us hl => match us, hl with | [_, _], _ => rfl
    have B9 := F9.binds (ps := ["_law_valleys", "_law_bound"]) fun _ _ _ _ _ _ us hl => match us, hl with | [_, _], _ => rfl
    have B10 := F10.binds (ps := ["_law_source_here", "_law_total"]) fun _ _ _ _ _ _ us hl => match us, hl with | [_, _], _ => rfl
    have B11 := F11.binds (ps := ["_law_source_here", "_law_most"]) fun _ _ _ _ _ _ us hl => match us, hl with | [_, _], _ => rfl
    have B12 := F12.binds (ps := ["_law_source_here", "_law_most"]) fun _ _ _ _ _ _ us hl => match us, hl with | [_, _], _ => rfl
    have B13 := F13.binds (ps := ["_law_call"]) fun _ _ _ _ _ _ us hl => match us, hl with | [_], _ => rfl
    have B14 := F14.binds (ps := ["_law_first", "_law_second", "_law_bound"]) fun _ _ _ _ _ _ us hl => match us, hl with | [_, _, _], _ => rfl
    have B15 := F15.binds (ps := ["_law_first", "_law_second"]) fun _ _ _ _ _ _ us hl => match us, hl with | [_, _], _ => rfl
    have B16 := F16.binds (ps := ["_law_source_here"]) fun _ _ _ _ _ _ us hl => match us, hl with | [_], _ => rfl
    have B17 := F17.binds (ps := ["self", "value"]) fun _ _ _ _ _ _ us hl => match us, hl with | [_, _], _ => rfl
    have B18 := F18.binds (ps := ["self", "limit"]) fun _ _ _ _ _ _ us hl => match us, hl with | [_, _], _ => rfl
    exact ⟨{
      f_is_integer := f0, d_is_integer := _, F_is_integer := F0, b_is_integer := B0, m_is_integer := PySem.W.mg_of X G a0,
      f_is_valleys := f1, d_is_valleys := _, F_is_valleys := F1, b_is_valleys := B1, m_is_valleys := PySem.W.mg_of X G a1,
      f_least_of_two := f2, d_least_of_two := _, F_least_of_two := F2, b_least_of_two := B2, m_least_of_two := PySem.W.mg_of X G a2,
      f_least_usages := f3, d_least_usages := _, F_least_usages := F3, b_least_usages := B3, m_least_usages := PySem.W.mg_of X G a3,
      f_checked_length := f4, d_checked_length := _, F_checked_length := F4, b_checked_length := B4, m_checked_length := PySem.W.mg_of X G a4,
      f__is_pair := f5, d__is_pair := _, F__is_pair := F5, b__is_pair := B5, m__is_pair := PySem.W.mg_of X G a5,
      f__check_valleys := f6, d__check_valleys := _, F__check_valleys := F6, b__check_valleys := B6, m__check_valleys := PySem.W.mg_of X G a6,
      f__law_source := f7, d__law_source := _, F__law_source := F7, b__law_source := B7, m__law_source := PySem.W.mg_of X G a7,
      f__law_draw := f8, d__law_draw := _, F__law_draw := F8, b__law_draw := B8, m__law_draw := PySem.W.mg_of X G a8,
      f__law_value_at := f9, d__law_value_at := _, F__law_value_at := F9, b__law_value_at := B9, m__law_value_at := PySem.W.mg_of X G a9,
      f__law_gaps := f10, d__law_gaps := _, F__law_gaps := F10, b__law_gaps := B10, m__law_gaps := PySem.W.mg_of X G a10,
      f__law_random_valleys := f11, d__law_random_valleys := _, F__law_random_valleys := F11, b__law_random_valleys := B11, m__law_random_valleys := PySem.W.mg_of X G a11,
      f__law_random_start := f12, d__law_random_start := _, F__law_random_start := F12, b__law_random_start := B12, m__law_random_start := PySem.W.mg_of X G a12,
      f__law_valley_outcome := f13, d__law_valley_outcome := _, F__law_valley_outcome := F13, b__law_valley_outcome := B13, m__law_valley_outcome := PySem.W.mg_of X G a13,
      f__law_least_at := f14, d__law_least_at := _, F__law_least_at := F14, b__law_least_at := B14, m__law_least_at := PySem.W.mg_of X G a14,
      f__law_least_right := f15, d__law_least_right := _, F__law_least_right := F15, b__law_least_right := B15, m__law_least_right := PySem.W.mg_of X G a15,
      f__law_bounds_right := f16, d__law_bounds_right := _, F__law_bounds_right := F16, b__law_bounds_right := B16, m__law_bounds_right := PySem.W.mg_of X G a16, cc__law_bounds_right := lc0, ct__law_bounds_right := lt0, hc__law_bounds_right := Rp.code_is a16 lt0i,
      c_InvalidNumber := u0c, g_InvalidNumber := PySem.W.mg_of X G u0g, f_InvalidNumber_init := f17, d_InvalidNumber_init := _, F_InvalidNumber_init := F17, b_InvalidNumber_init := B17, ox_InvalidNumber := ⟨⟨_, _, _, _, PySem.F.excBase_IndexError, PySem.F.store_IndexError, u0q, u0o⟩, u0d, u0s, u0b, u0t, u0k⟩, iC_InvalidNumber := u0i, tI_InvalidNumber := u0f, no_InvalidNumber := u0n, xf_InvalidNumber := ⟨u0ga, u0gg, u0b, u0d⟩, xc_InvalidNumber := ⟨u0ga, u0gg, u0b, u0d, u0ha, u0hn, u0ht, u0hm⟩, e_InvalidNumber_InvalidNumber := exm_sub u0b u0cl u0t u0ss,
      c_TooMany := u1c, g_TooMany := PySem.W.mg_of X G u1g, f_TooMany_init := f18, d_TooMany_init := _, F_TooMany_init := F18, b_TooMany_init := B18, ox_TooMany := ⟨⟨_, _, _, _, PySem.F.excBase_OverflowError, PySem.F.store_OverflowError, u1q, u1o⟩, u1d, u1s, u1b, u1t, u1k⟩, iC_TooMany := u1i, tI_TooMany := u1f, no_TooMany := u1n, xf_TooMany := ⟨u1ga, u1gg, u1b, u1d⟩, xc_TooMany := ⟨u1ga, u1gg, u1b, u1d, u1ha, u1hn, u1ht, u1hm⟩, e_TooMany_TooMany := exm_sub u1b u1cl u1t u1ss,
      cc_law := lc1, ct_law := lt1,
      ne__law_bounds_right_law := lx0_1,
      e_InvalidValleys_InvalidValleys := exm_sub x0b x0i x0t ye0,
      e_InvalidNumber_InvalidValleys := exm_sub x0b x0i x0t ye1,
      e_TooMany_InvalidValleys := exm_sub x0b x0i x0t ye2,
      e_TooMany_InvalidNumber := exm_sub u0b u0cl u0t ye3,
      t_MAX_VALLEYS := tk0, g_MAX_VALLEYS := PySem.W.mg_of X G gc0,
      c_InvalidValleys := x0c, g_InvalidValleys := PySem.W.mg_of X G x0g, x_InvalidValleys := x0x, k_InvalidValleys := x0k, bb_InvalidValleys := x0b, tt_InvalidValleys := x0t,
      n_abs := PySem.W.mg_none_of X G z0,
      n_all := PySem.W.mg_none_of X G z1,
      n_bool := PySem.W.mg_none_of X G z2,
      n_int := PySem.W.mg_none_of X G z3,
      n_isinstance := PySem.W.mg_none_of X G z4,
      n_len := PySem.W.mg_none_of X G z5,
      n_max := PySem.W.mg_none_of X G z6,
      n_min := PySem.W.mg_none_of X G z7,
      n_range := PySem.W.mg_none_of X G z8,
      n_repr := PySem.W.mg_none_of X G z9,
      n_set := PySem.W.mg_none_of X G z10,
      n_sorted := PySem.W.mg_none_of X G z11,
      n_tuple := PySem.W.mg_none_of X G z12,
      n_zip := PySem.W.mg_none_of X G z13 }, rfl, rfl⟩
  refine ⟨[(T.cc__law_bounds_right, T.ct__law_bounds_right), (T.cc_law, T.ct_law)], PySem.W.fnOf "law" "law" (defArgs s_law) (defBody s_law) (defScope s_law) .none kV19 dc19 pm19 an19 cd19 ct19, ?_, ?_, fun s v => .of_eq rfl, fun base _ _ TB => ok_law (fun_mk (st := s_law) l19 c19 k19) T (by have e := congrArg Prod.fst te1; dsimp only at e; rw [e]; exact Rp.code_is a19 lt1i) (TB (T.cc__law_bounds_right, T.ct__law_bounds_right) (by simp)) (TB (T.cc_law, T.ct_law) (by simp))⟩
  · intro p hp
    simp only [List.mem_cons, List.not_mem_nil, or_false] at hp
    rcases hp with rfl | rfl
    · exact ⟨"_law_bounds_right", by decide, te0 ▸ lt0i⟩
    · exact ⟨"law", by decide, te1 ▸ lt1i⟩
  · intro p hp
    simp only [List.mem_cons, List.not_mem_nil, or_false] at hp
    rcases hp with rfl | rfl
    · rw [te0]; exact ln0
    · rw [te1]; exact ln1
end Lw

open PySem PySem.W PyProof.Rows
set_option maxRecDepth 100000 in
set_option maxHeartbeats 0 in
theorem PySem.Challenge.cw_roomprofile_k21_least_of_two_valleys_holds : PySem.Challenge.rw_roomprofile_k21_least_of_two_valleys.Holds := by
  w_on; o_law; k_head; (case hw => w_witness2)
  k_fill
  refine Rp.law_endT (l := PySem.Challenge.rw_roomprofile_k21_least_of_two_valleys) (n := 63) (k := 60) (x := "_law_script") (sp := Lw.spLaw) (nms := Lw.lamNames) rfl (by decide) rfl ⟨rfl, by decide, by decide⟩ (by decide +kernel) (fun w h Y => PySem.W.km_in_of Y) ?F (fun K cs H a ns hl hT hS => ⟨a, ns, rfl, hT, hS, hl, fun _ => rfl⟩)
  case F =>
    intro w mg fa h KX G hmg
    refine' Lw.all_mk KX G hmg ?a0 ?l0 ?c0 ?k0 ?a1 ?l1 ?c1 ?k1 ?a2 ?l2 ?c2 ?k2 ?a3 ?l3 ?c3 ?k3 ?a4 ?l4 ?c4 ?k4 ?a5 ?l5 ?c5 ?k5 ?a6 ?l6 ?c6 ?k6 ?a7 ?l7 ?c7 ?k7 ?a8 ?l8 ?c8 ?k8 ?a9 ?l9 ?c9 ?k9 ?a10 ?l10 ?c10 ?k10 ?a11 ?l11 ?c11 ?k11 ?a12 ?l12 ?c12 ?k12 ?a13 ?l13 ?c13 ?k13 ?a14 ?l14 ?c14 ?k14 ?a15 ?l15 ?c15 ?k15 ?a16 ?l16 ?c16 ?k16 ?a19 ?l19 ?c19 ?k19 ?u0g ?u0q ?u0o ?u0d ?u0s ?u0b ?u0t ?u0k ?u0i ?u0f ?u0n ?u0ga ?u0gg ?u0cl ?u0ss ?u0ha ?u0hn ?u0ht ?u0hm ?l17 ?c17 ?k17 ?u1g ?u1q ?u1o ?u1d ?u1s ?u1b ?u1t ?u1k ?u1i ?u1f ?u1n ?u1ga ?u1gg ?u1cl ?u1ss ?u1ha ?u1hn ?u1ht ?u1hm ?l18 ?c18 ?k18 ?gc0 ?x0g ?x0x ?x0k ?x0b ?x0t ?x0i ?ye0 ?ye1 ?ye2 ?ye3 ?lt0i ?ln0 ?lt1i ?ln1 ?lx0_1 ?z0 ?z1 ?z2 ?z3 ?z4 ?z5 ?z6 ?z7 ?z8 ?z9 ?z10 ?z11 ?z12 ?z13
    (case a0 => k_is)
    (case l0 => k_is)
    (case c0 => k_is)
    (case k0 => k_is)
    (case a1 => k_is)
    (case l1 => k_is)
    (case c1 => k_is)
    (case k1 => k_is)
    (case a2 => k_is)
    (case l2 => k_is)
    (case c2 => k_is)
    (case k2 => k_is)
    (case a3 => k_is)
    (case l3 => k_is)
    (case c3 => k_is)
    (case k3 => k_is)
    (case a4 => k_is)
    (case l4 => k_is)
    (case c4 => k_is)
    (case k4 => k_is)
    (case a5 => k_is)
    (case l5 => k_is)
    (case c5 => k_is)
    (case k5 => k_is)
    (case a6 => k_is)
    (case l6 => k_is)
    (case c6 => k_is)
    (case k6 => k_is)
    (case a7 => k_is)
    (case l7 => k_is)
    (case c7 => k_is)
    (case k7 => k_is)
    (case a8 => k_is)
    (case l8 => k_is)
    (case c8 => k_is)
    (case k8 => k_is)
    (case a9 => k_is)
    (case l9 => k_is)
    (case c9 => k_is)
    (case k9 => k_is)
    (case a10 => k_is)
    (case l10 => k_is)
    (case c10 => k_is)
    (case k10 => k_is)
    (case a11 => k_is)
    (case l11 => k_is)
    (case c11 => k_is)
    (case k11 => k_is)
    (case a12 => k_is)
    (case l12 => k_is)
    (case c12 => k_is)
    (case k12 => k_is)
    (case a13 => k_is)
    (case l13 => k_is)
    (case c13 => k_is)
    (case k13 => k_is)
    (case a14 => k_is)
    (case l14 => k_is)
    (case c14 => k_is)
    (case k14 => k_is)
    (case a15 => k_is)
    (case l15 => k_is)
    (case c15 => k_is)
    (case k15 => k_is)
    (case a16 => k_is)
    (case l16 => k_is)
    (case c16 => k_is)
    (case k16 => k_is)
    (case a19 => k_is)
    (case l19 => k_is)
    (case c19 => k_is)
    (case k19 => k_is)
    (case u0g => k_is)
    (case u0q => kx_is)
    (case u0o => kx_is)
    (case u0d => k_is)
    (case u0s => k_is)
    (case u0b => k_is)
    (case u0t => k_is)
    (case u0k => k_is)
    (case u0i => k_is)
    (case u0f => k_is)
    (case u0n => k_is)
    (case u0ga => k_is)
    (case u0gg => k_is)
    (case u0cl => k_is)
    (case u0ss => k_is)
    (case u0ha => k_is)
    (case u0hn => k_is)
    (case u0ht => k_is)
    (case u0hm => k_is)
    (case l17 => k_is)
    (case c17 => k_is)
    (case k17 => k_is)
    (case u1g => k_is)
    (case u1q => kx_is)
    (case u1o => kx_is)
    (case u1d => k_is)
    (case u1s => k_is)
    (case u1b => k_is)
    (case u1t => k_is)
    (case u1k => k_is)
    (case u1i => k_is)
    (case u1f => k_is)
    (case u1n => k_is)
    (case u1ga => k_is)
    (case u1gg => k_is)
    (case u1cl => k_is)
    (case u1ss => k_is)
    (case u1ha => k_is)
    (case u1hn => k_is)
    (case u1ht => k_is)
    (case u1hm => k_is)
    (case l18 => k_is)
    (case c18 => k_is)
    (case k18 => k_is)
    (case gc0 => k_is)
    (case x0g => k_is)
    (case x0x => k_exc)
    (case x0k => k_is)
    (case x0b => k_is)
    (case x0t => k_is)
    (case x0i => k_is)
    (case ye0 => first | rfl | k_is)
    (case ye1 => first | rfl | k_is)
    (case ye2 => first | rfl | k_is)
    (case ye3 => first | rfl | k_is)
    (case lt0i => refine' Lw.tabIn_of ?h1 ?h2 ?h3 ?h4 ?h5; (case h1 => k_is); (case h2 => k_is); (case h3 => rfl); (case h4 => k_is); (case h5 => rfl))
    (case ln0 => kernel_rfl)
    (case lt1i => refine' Lw.tabIn_of ?h1 ?h2 ?h3 ?h4 ?h5; (case h1 => k_is); (case h2 => k_is); (case h3 => rfl); (case h4 => k_is); (case h5 => rfl))
    (case ln1 => kernel_rfl)
    (case lx0_1 => decide)
    (case z0 => k_is)
    (case z1 => k_is)
    (case z2 => k_is)
    (case z3 => k_is)
    (case z4 => k_is)
    (case z5 => k_is)
    (case z6 => k_is)
    (case z7 => k_is)
    (case z8 => k_is)
    (case z9 => k_is)
    (case z10 => k_is)
    (case z11 => k_is)
    (case z12 => k_is)
    (case z13 => k_is)
