import PyProof.Rows.All
import Wide.All
import OpenK.AllK
import Wide.FinOn
import HandS.ForMost
import HandS.IsInst
import HandS.TupAny
import HandS.Wide
import HandS.Codes
import HandS.Style
import PyProof.ReprRoads
import PyProof.ReprLen
import PyProof.ReprBulk
import PyProof.FitsInt
import HandS.Defaults
import HandS.MakeKwOnly
import HandS.TryOnly
import HandS.ForExc
import HandS.TryMany
import HandS.Zip
import HandS.Walk
import HandS.TupSets
import HandS.NamedTupSort
import HandS.SortOrd
import HandS.SortRule
import HandS.ExcIs
import HandS.ExcField
import HandS.HotCalls
import HandS.SetFor
import HandS.ExcInit
import KE.KExcInit
import KE.KExcIs
import PyProof.AutoSeq1
import HandS.TupMul
import PyProof.MaxThree
import HandS.Rev
import HandS.Lambda
import KE.KNest
import HandS.Deep
import HandS.CallLocal
import KE.KExcLine
import HandS.Star
import PySem.Challenge.RW_roomprofile_k20_values_and_shifts
set_option Elab.async false
set_option linter.all false
set_option maxRecDepth 100000
set_option maxHeartbeats 4000000
/-! Rp: what the proofs of the laws over roomprofile share: powers, data, repr, isinstance, heaps. -/
namespace Rp
open PySem L2

/-! ### powers of great ints -/
def CPowW (i j : Int) : Prop := 0 ≤ j ∧ (Builtin.Int.intBits i : Int) * j ≤ 2 ^ 27
theorem bits_le {i : Int} {b : Nat} (hi : i.natAbs < 2 ^ b) : Builtin.Int.intBits i ≤ b := by
  unfold Builtin.Int.intBits
  split
  · exact Nat.zero_le _
  · rename_i hne
    have h0 : i.natAbs ≠ 0 := by
      intro z
      apply hne
      have : i = 0 := by omega
      subst this
      rfl
    have := (Nat.log2_lt h0).mpr hi
    omega
theorem powW_of {i j : Int} (b : Nat) (h0 : 0 ≤ j) (hi : i.natAbs < 2 ^ b) (hb : (b : Int) * j ≤ 2 ^ 27) : CPowW i j := by
  refine ⟨h0, Int.le_trans ?_ hb⟩
  have := bits_le hi
  exact Int.mul_le_mul_of_nonneg_right (by omega) h0
section
variable {X : Cx}
theorem op_powW : OpR X (binaryOp .Pow) (rI CPowW fun i j => .int (i ^ j.toNat)) := opI fun _ _ _ _ _ _ _ hc q => PyProof.Rows.pow_int hc.1 hc.2 q
end

/-! ### data -/
def tyN : PyData → String
  | .none => "NoneType"
  | .bool _ => "bool"
  | .int _ => "int"
  | .str _ => "str"
  | .list _ => "list"
  | .tuple _ => "tuple"
  | .dict _ => "dict"
theorem dp_ty {K : PySem.W.Frag} {H : Hp} {v : V} {d : PyData} (h : Dp K H v d) : TyX K H v (.type (tyN d)) := by
  cases h with
  | non => exact .base .non
  | bl b => exact .base (.bl b)
  | int i => exact .base (.int i)
  | str x => exact .base (.str x)
  | lst hs ha =>
    rcases hs with (e | ⟨o, e⟩) | ⟨o, its, n, hk, hc, _⟩
    · exact .base (.lst e)
    · exact .base (.frz e)
    · exact .kList hk hc
  | tup hs ha =>
    rcases hs with (e | ⟨o, e⟩) | ⟨o, its, n, hk, hc, _⟩
    · exact .base (.tup e)
    · exact .fTuple e
    · exact .kTuple hk hc
def isInt : PyData → Bool
  | .int _ => true
  | .bool _ => true
  | _ => false
def isBoo : PyData → Bool
  | .bool _ => true
  | _ => false
def isTup : PyData → Bool
  | .tuple _ => true
  | _ => false
def isStr : PyData → Bool
  | .str _ => true
  | _ => false
def isLst : PyData → Bool
  | .list _ => true
  | _ => false
theorem kit_int (d : PyData) : kitB (tyN d) "int" = some (isInt d) := by cases d <;> (simp only [tyN, isInt]; decide +kernel)
theorem kit_bool (d : PyData) : kitB (tyN d) "bool" = some (isBoo d) := by cases d <;> (simp only [tyN, isBoo]; decide +kernel)
theorem kit_tuple (d : PyData) : kitB (tyN d) "tuple" = some (isTup d) := by cases d <;> (simp only [tyN, isTup]; decide +kernel)
theorem kit_str (d : PyData) : kitB (tyN d) "str" = some (isStr d) := by cases d <;> (simp only [tyN, isStr]; decide +kernel)
theorem kit_list (d : PyData) : kitB (tyN d) "list" = some (isLst d) := by cases d <;> (simp only [tyN, isLst]; decide +kernel)
section
variable {X : Cx}
def rIsD (K : PySem.W.Frag) : List V → Hp → VK → Prop := fun xs H Q => ∃ (v : V) (n : String) (d : PyData) (b : Bool), xs = [v, .ty n] ∧ Dp K H v d ∧ kitB (tyN d) n = some b ∧ Q (.bl b) H
theorem call_isD : CallR X (.builtin "isinstance") (rIsD X.K) := by
  intro pins s σ H xs us Q I r h
  obtain ⟨v, n, d, b, e, hd, hk, q⟩ := h
  exact call_isi pins s σ H xs us Q I r ⟨v, .ty n, _, _, _, e, .ty n, dp_ty hd, kit_ty hk, q⟩
end

/-! ### len, list(..), tuple(..) by names -/
section
variable {X : Cx}
def rLenS (K : PySem.W.Frag) : List V → Hp → VK → Prop := fun xs H Q => ∃ (p : Addr) (ys : List V), xs = [.ref p] ∧ (SqL K H p ys ∨ SqT K H p ys) ∧ Q (.int ys.length) H
theorem call_lenS : CallR X (.builtin "len") (rLenS X.K) := call_len_seq
def rListS (K : PySem.W.Frag) : List V → Hp → VK → Prop := fun xs H Q => ∃ (p : Addr) (ys : List V), xs = [.ref p] ∧ (SqL K H p ys ∨ SqT K H p ys) ∧ ∀ l, H l = none → Q (.ref l) (upd H l (.lst ys))
theorem call_listS : CallR X (.type "list") (rListS X.K) := call_list_of
def rTupS (K : PySem.W.Frag) : List V → Hp → VK → Prop := fun xs H Q => ∃ (p : Addr) (ys : List V), xs = [.ref p] ∧ ((SqL K H p ys ∧ ∀ l, H l = none → Q (.ref l) (upd H l (.tup ys))) ∨ (SqT K H p ys ∧ Q (.ref p) H))
theorem call_tupS : CallR X (.type "tuple") (rTupS X.K) := call_tuple_of
end

/-! ### repr of data -/
mutual
/-- data whose text is made without trouble: no dicts, ints of at most 180 digits, signs below 16 ^ 8 -/
def fine : PyData → Prop
  | .int i => i.natAbs < 10 ^ 180
  | .str x => (x.cps.toList.all fun c => decide (c < 16 ^ 8)) = true
  | .list xs => fines xs
  | .tuple xs => fines xs
  | .dict _ => False
  | _ => True
def fines : List PyData → Prop
  | [] => True
  | x :: xs => fine x ∧ fines xs
end
theorem int_log {i : Int} (h : i.natAbs < 10 ^ 180) : i.natAbs.log2 < 1920 := by
  by_cases z : i.natAbs = 0
  · rw [z]
    decide
  · exact (Nat.log2_lt z).mpr (Nat.lt_trans h (by decide +kernel))
theorem shown_int {i : Int} (h : i.natAbs < 10 ^ 180) : (PyData.shown (.int i)).length ≤ 200 := by
  have e := int_text_length_le10 (k := 180) (by decide) h
  show (Str.ofString (toString i)).length ≤ 200
  rw [ofString_length]
  omega
mutual
theorem fine_ok : ∀ d : PyData, fine d → d.showable = true ∧ d.leavesShort 200 = true ∧ d.hasDict = false
  | .none, _ => by simp [PyData.showable, PyData.leavesShort, PyData.hasDict]
  | .bool _, _ => by simp [PyData.showable, PyData.leavesShort, PyData.hasDict]
  | .int i, h => by
    simp only [fine] at h
    simp only [PyData.showable, PyData.leavesShort, PyData.hasDict, decide_eq_true_eq, and_true]
    exact ⟨int_log h, shown_int h⟩
  | .str x, h => by
    simp only [fine] at h
    simp only [PyData.showable, PyData.leavesShort, PyData.hasDict, and_true, true_and]
    exact h
  | .list xs, h => by
    simp only [fine] at h
    simp only [PyData.showable, PyData.leavesShort, PyData.hasDict]
    exact fines_ok xs h
  | .tuple xs, h => by
    simp only [fine] at h
    simp only [PyData.showable, PyData.leavesShort, PyData.hasDict]
    exact fines_ok xs h
  | .dict _, h => by simp only [fine] at h
theorem fines_ok : ∀ xs : List PyData, fines xs → PyData.showableAll xs = true ∧ PyData.leavesShortAll 200 xs = true ∧ PyData.hasDictAll xs = false
  | [], _ => by simp [PyData.showableAll, PyData.leavesShortAll, PyData.hasDictAll]
  | x :: xs, h => by
    simp only [fines] at h
    obtain ⟨a1, a2, a3⟩ := fine_ok x h.1
    obtain ⟨b1, b2, b3⟩ := fines_ok xs h.2
    simp only [PyData.showableAll, PyData.leavesShortAll, PyData.hasDictAll, a1, a2, a3, b1, b2, b3, Bool.and_self, Bool.or_self, and_self]
end
section
variable {X : Cx}
def rRepr (K : PySem.W.Frag) : List V → Hp → VK → Prop := fun xs H Q => ∃ (v : V) (d : PyData), xs = [v] ∧ Dp K H v d ∧ fine d ∧ d.depth ≤ 64 ∧ d.bulk ≤ 80000 ∧ Q (.str d.shown) H
theorem call_reprD (hg : X.A.guards = some []) (hu : X.A.units + 66 < cLine) : CallR X (.builtin "repr") (rRepr X.K) := by
  intro pins s σ H xs us Q I r h
  obtain ⟨v, d, rfl, hd, hf, hdep, hw, q⟩ := h
  obtain ⟨hs, hl, hnd⟩ := fine_ok d hf
  have hz : d.shown.length ≤ sizeLine := by
    have := PyData.shown_le_bulk 200 (by decide) d hl
    rw [sizeLine_eq]
    omega
  obtain ⟨u, rfl, ru⟩ := vals1 r
  have hsm : ∀ as : List Addr, d.hasDict = true → sysModules ∉ as := fun as => PyData.noDict_hsm hnd
  obtain ⟨as, hr⟩ := Dp.reads I d v u hd ru
  cases hr with
  | none => exact P.repr_of_none ⟨.str _, H, I.tok _, ⟨_, rfl⟩, q⟩
  | bool b => exact P.repr_of_bool ⟨.str _, H, I.tok _, ⟨_, rfl⟩, q⟩
  | int i t => exact P.repr_of_int (by simpa [PyData.showable] using hs) ⟨.str _, H, I.tok _, ⟨_, rfl⟩, q⟩
  | str x t => exact P.repr_of_str ⟨.str _, H, I.tok _, ⟨_, rfl⟩, q⟩ (by simpa only [PyData.shown] using hz)
  | list h1 h2 h3 h4 =>
    refine repr_of_reads' (h₀ := s.heap) (.list h1 h2 h3 h4) hs (hsm _) hg (by omega) (fun _ _ e => e) (fun h' u' tk hk => ?_) hz
    exact ⟨.str _, H, I.kept hk, ⟨_, rfl⟩, q⟩
  | tuple h1 h2 h3 h4 =>
    refine repr_of_reads' (h₀ := s.heap) (.tuple h1 h2 h3 h4) hs (hsm _) hg (by omega) (fun _ _ e => e) (fun h' u' tk hk => ?_) hz
    exact ⟨.str _, H, I.kept hk, ⟨_, rfl⟩, q⟩
  | dict _ _ _ _ _ => exact absurd hnd (by simp [PyData.hasDict])
end

/-! ### what stays of the heap -/
theorem same_sqT {K : PySem.W.Frag} {H H' : Hp} {a : Addr} {xs : List V} (s : Same H H') (h : SqT K H a xs) : SqT K H' a xs := by
  rcases h with (h | ⟨o, h⟩) | h
  · exact .inl (.inl (s _ _ h))
  · exact .inl (.inr ⟨o, s _ _ h⟩)
  · exact .inr h
theorem same_new {H : Hp} {p : Addr} {o : HO} (h : H p = none) : Same H (upd H p o) := fun b u q => by rw [upd_ne (ne_of_none q h)]; exact q
mutual
theorem dp_same {K : PySem.W.Frag} {H H' : Hp} (s : Same H H') : ∀ {d : PyData} {v : V}, Dp K H v d → Dp K H' v d
  | .none, _, h => by cases h; exact .non
  | .bool _, _, h => by cases h; exact .bl _
  | .int _, _, h => by cases h; exact .int _
  | .str _, _, h => by cases h; exact .str _
  | .list ds, _, h => by
    cases h with
    | lst hs ha => exact .lst (s.seq hs) (dpAll_same s ha)
  | .tuple ds, _, h => by
    cases h with
    | tup hs ha => exact .tup (same_sqT s hs) (dpAll_same s ha)
  | .dict _, _, h => by cases h
theorem dpAll_same {K : PySem.W.Frag} {H H' : Hp} (s : Same H H') : ∀ {ds : List PyData} {vs : List V}, DpAll K H vs ds → DpAll K H' vs ds
  | [], _, h => by cases h; exact .nil
  | d :: ds, _, h => by
    cases h with
    | cons h1 h2 => exact .cons (dp_same s h1) (dpAll_same s h2)
end
/-- all but p stays -/
def Sx (p : Addr) (H H' : Hp) : Prop := ∀ b o, b ≠ p → H b = some o → H' b = some o
theorem Sx.refl {p : Addr} {H : Hp} : Sx p H H := fun _ _ _ h => h
theorem Sx.trans {p : Addr} {H H1 H2 : Hp} (a : Sx p H H1) (b : Sx p H1 H2) : Sx p H H2 := fun c o n h => b c o n (a c o n h)
theorem Same.sx {p : Addr} {H H' : Hp} (s : Same H H') : Sx p H H' := fun b o _ h => s b o h
theorem sx_upd {p : Addr} {H : Hp} {o : HO} : Sx p H (upd H p o) := fun b u n h => by rw [upd_ne n]; exact h
theorem sx_new {p q : Addr} {H : Hp} {o : HO} (h : H q = none) : Sx p H (upd H q o) := fun b u _ q => same_new h b u q
/-! data without lists and dicts -/
mutual
def noL : PyData → Bool
  | .list _ => false
  | .dict _ => false
  | .tuple ds => noLs ds
  | _ => true
def noLs : List PyData → Bool
  | [] => true
  | d :: ds => noL d && noLs ds
end
theorem Sx.sqT {K : PySem.W.Frag} {p a : Addr} {H H' : Hp} {l xs : List V} (s : Sx p H H') (hp : H p = some (.lst l)) (h : SqT K H a xs) : SqT K H' a xs := by
  rcases h with (h | ⟨o, h⟩) | h
  · exact .inl (.inl (s _ _ (ne_of h hp (by intro z; cases z)) h))
  · exact .inl (.inr ⟨o, s _ _ (ne_of h hp (by intro z; cases z)) h⟩)
  · exact .inr h
mutual
theorem dp_keep {K : PySem.W.Frag} {H H' : Hp} (s : ∀ a xs, SqT K H a xs → SqT K H' a xs) : ∀ {d : PyData} {v : V}, noL d = true → Dp K H v d → Dp K H' v d
  | .none, _, _, h => by cases h; exact .non
  | .bool _, _, _, h => by cases h; exact .bl _
  | .int _, _, _, h => by cases h; exact .int _
  | .str _, _, _, h => by cases h; exact .str _
  | .list ds, _, n, h => by simp [noL] at n
  | .tuple ds, _, n, h => by
    cases h with
    | tup hs ha => exact .tup (s _ _ hs) (dpAll_keep s (by simpa [noL] using n) ha)
  | .dict _, _, _, h => by cases h
theorem dpAll_keep {K : PySem.W.Frag} {H H' : Hp} (s : ∀ a xs, SqT K H a xs → SqT K H' a xs) : ∀ {ds : List PyData} {vs : List V}, noLs ds = true → DpAll K H vs ds → DpAll K H' vs ds
  | [], _, _, h => by cases h; exact .nil
  | d :: ds, _, n, h => by
    cases h with
    | cons h1 h2 =>
      have n' : noL d = true ∧ noLs ds = true := by simpa [noLs] using n
      exact .cons (dp_keep s n'.1 h1) (dpAll_keep s n'.2 h2)
end
theorem Sx.dp {K : PySem.W.Frag} {p : Addr} {H H' : Hp} {l : List V} {d : PyData} {v : V} (s : Sx p H H') (hp : H p = some (.lst l)) (n : noL d = true) (h : Dp K H v d) : Dp K H' v d :=
  dp_keep (fun _ _ z => s.sqT hp z) n h
theorem dpAll_length {K : PySem.W.Frag} {H : Hp} : ∀ {vs : List V} {ds : List PyData}, DpAll K H vs ds → vs.length = ds.length
  | _, _, .nil => rfl
  | _, _, .cons _ h => congrArg (· + 1) (dpAll_length h)
theorem dpAll_get {K : PySem.W.Frag} {H : Hp} : ∀ {vs : List V} {ds : List PyData} {i : Nat} {v : V}, DpAll K H vs ds → vs[i]? = some v → ∃ d, ds[i]? = some d ∧ Dp K H v d
  | _, _, _, _, .nil, e => by simp at e
  | _, _, 0, _, .cons h _, e => by
    simp at e
    subst e
    exact ⟨_, rfl, h⟩
  | _, _, i + 1, _, .cons _ t, e => by
    obtain ⟨d, e1, e2⟩ := dpAll_get (i := i) t (by simpa using e)
    exact ⟨d, by simpa using e1, e2⟩
theorem dpAll_append {K : PySem.W.Frag} {H : Hp} : ∀ {vs ws : List V} {ds es : List PyData}, DpAll K H vs ds → DpAll K H ws es → DpAll K H (vs ++ ws) (ds ++ es)
  | _, _, _, _, .nil, h => h
  | _, _, _, _, .cons h t, h' => .cons h (dpAll_append t h')
theorem dpAll_one {K : PySem.W.Frag} {H : Hp} {v : V} {d : PyData} (h : Dp K H v d) : DpAll K H [v] [d] := .cons h .nil
theorem dpAll_rev {K : PySem.W.Frag} {H : Hp} : ∀ {vs : List V} {ds : List PyData}, DpAll K H vs ds → DpAll K H vs.reverse ds.reverse
  | _, _, .nil => .nil
  | _, _, .cons h t => by
    rw [List.reverse_cons, List.reverse_cons]
    exact dpAll_append (dpAll_rev t) (.cons h .nil)
theorem dp_int_inv {K : PySem.W.Frag} {H : Hp} {v : V} {i : Int} (h : Dp K H v (.int i)) : v = .int i := by cases h; rfl
theorem dp_str_inv {K : PySem.W.Frag} {H : Hp} {v : V} {x : Str} (h : Dp K H v (.str x)) : v = .str x := by cases h; rfl
theorem dp_none_inv {K : PySem.W.Frag} {H : Hp} {v : V} (h : Dp K H v .none) : v = .non := by cases h; rfl
theorem dp_bool_inv {K : PySem.W.Frag} {H : Hp} {v : V} {b : Bool} (h : Dp K H v (.bool b)) : v = .bl b := by cases h; rfl
theorem dp_tup_inv {K : PySem.W.Frag} {H : Hp} {v : V} {ds : List PyData} (h : Dp K H v (.tuple ds)) : ∃ a xs, v = .ref a ∧ SqT K H a xs ∧ DpAll K H xs ds := by
  cases h with
  | tup h1 h2 => exact ⟨_, _, rfl, h1, h2⟩
theorem dp_lst_inv {K : PySem.W.Frag} {H : Hp} {v : V} {ds : List PyData} (h : Dp K H v (.list ds)) : ∃ a xs, v = .ref a ∧ SqL K H a xs ∧ DpAll K H xs ds := by
  cases h with
  | lst h1 h2 => exact ⟨_, _, rfl, h1, h2⟩
theorem tup_fresh {K : PySem.W.Frag} {H : Hp} {p : Addr} {xs : List V} {ds : List PyData} (hp : H p = none) (h : DpAll K H xs ds) : Same H (upd H p (.tup xs)) ∧ Dp K (upd H p (.tup xs)) (.ref p) (.tuple ds) :=
  ⟨same_new hp, .tup (.inl (.inl upd_same)) (dpAll_same (same_new hp) h)⟩
theorem lst_fresh {K : PySem.W.Frag} {H : Hp} {p : Addr} {xs : List V} {ds : List PyData} (hp : H p = none) (h : DpAll K H xs ds) : Same H (upd H p (.lst xs)) ∧ Dp K (upd H p (.lst xs)) (.ref p) (.list ds) :=
  ⟨same_new hp, .lst (.inl (.inl upd_same)) (dpAll_same (same_new hp) h)⟩
theorem Same.sx_free {H H1 H2 : Hp} {p : Addr} (s : Same H H1) (h : H p = none) (t : Sx p H1 H2) : Same H H2 := fun b o e =>
  t b o (ne_of_none e h) (s b o e)
theorem small {n : Nat} (h : n ≤ 1000) : n ≤ sizeLine := Nat.le_of_lt (small1000 h)
theorem small' {n : Nat} (h : n ≤ 1000000) : n ≤ sizeLine := by rw [sizeLine_eq]; omega

theorem atI_at {α : Type} {xs : List α} {k : Int} {j : Nat} {v : α} (e : k = (j : Int)) (h : xs[j]? = some v) : atI xs k = some v := by
  subst e
  exact atI_nat h
theorem atI_int {ns : List Int} {k : Int} (h0 : 0 ≤ k) (h : k < (ns.length : Int)) : ∃ z, z ∈ ns ∧ atI (ns.map V.int) k = some (.int z) := by
  have hk : k.toNat < ns.length := by omega
  refine ⟨ns[k.toNat], List.getElem_mem hk, atI_at (j := k.toNat) (by omega) ?_⟩
  rw [List.getElem?_map, List.getElem?_eq_getElem hk]
  rfl

/-! ### the script as the law gets it: it never changes -/
def Scr (K : PySem.W.Frag) (H : Hp) (a : Addr) (ns : List Int) : Prop := (∃ o, H a = some (.frz o (.lst (ns.map V.int)))) ∨
  ∃ (o : Obj) (its : Array Value) (n : Nat), K.lookup a = some o ∧ o.cls = .type "list" ∧ o.dict = none ∧ o.data = .seq its n ∧ its.size ≤ sizeLine ∧ Vals (ns.map V.int) its.toList
theorem Scr.sq {K : PySem.W.Frag} {H : Hp} {a : Addr} {ns : List Int} (h : Scr K H a ns) : SqL K H a (ns.map V.int) := by
  rcases h with ⟨o, h⟩ | h
  · exact .inl (.inr ⟨o, h⟩)
  · exact .inr h
theorem Scr.of {K : PySem.W.Frag} {H : Hp} {a : Addr} {ns : List Int} (hO : Only H) (h : SqL K H a (ns.map V.int)) : Scr K H a ns := by
  rcases h with (h | h) | h
  · rcases hO a with z | ⟨o, xs, z⟩
    · rw [h] at z; cases z
    · rw [h] at z; cases z
  · exact .inl h
  · exact .inr h
theorem Scr.same {K : PySem.W.Frag} {H H' : Hp} {a : Addr} {ns : List Int} (s : Same H H') (h : Scr K H a ns) : Scr K H' a ns := by
  rcases h with ⟨o, h⟩ | h
  · exact .inl ⟨o, s _ _ h⟩
  · exact .inr h
theorem Scr.sx {K : PySem.W.Frag} {H H' : Hp} {a p : Addr} {ns : List Int} {l : List V} (s : Sx p H H') (hp : H p = some (.lst l)) (h : Scr K H a ns) : Scr K H' a ns := by
  rcases h with ⟨o, h⟩ | h
  · exact .inl ⟨o, s _ _ (ne_of h hp (by intro z; cases z)) h⟩
  · exact .inr h
end Rp
/-! RpG: defs that say repr of made data: the layer's judgements where no repr is under way (guards known), and the law's end over them. -/
namespace Rp
open PySem L2 PyProof.Rows

structure FnG (P : Program) (w : World) (K : PySem.W.Frag) (mg : Str → Option Value) (base : Heap) (CX : CXT) (k : Nat) (f : Addr) (fd : FuncData) (ps : List Str) (sp : Sp) : Prop where
  len : ∀ vs H Q E, sp vs H Q E → vs.length = ps.length
  run : ∀ (A : Around) (outer : List Env) (s : Shared) (H : Hp) (args : Args) (us : List Value) (vs : List V) (Q : VK) (E : XK), Room k A → A.guards = some [] →
    Env0 P w K mg base A outer s H → BindsTo s fd args (ps.zip us) → Vals vs us → sp vs H Q E → codeAny (model P w) A (.call (.ref f) args) (CR CX outer P w H s Q E) s

theorem room66 {k : Nat} {A : Around} (hr : Room k A) : A.units + 66 < cLine := by
  have := hr.un
  omega
section
variable {P : Program} {w : World} {K : PySem.W.Frag} {mg : Str → Option Value} {base : Heap}
theorem okG {name qual : Str} {st : Stmt} {f : Addr} {fd : FuncData} {N ps : List Str} {k : Nat} {sp : Sp} (F : Fun K name qual st f fd) (S : FnScope N ps (defScope st))
    (hlen : ∀ vs H Q E, sp vs H Q E → vs.length = ps.length)
    (hb : ∀ (cdv : Value) (A : Around) (outer : List Env) (s : Shared) (H : Hp) (vs : List V) (Q : VK) (E : XK),
      Room k (A.deeper (envOfC qual (defScope st) s.heap.objs.size f cdv)) → A.guards = some [] → sp vs H Q E →
      ∃ t, PSs (cxOf CX0 P w K mg base N qual (defScope st) f cdv A outer s H E).nox (defBody st) t ∧
        t { nx := fun _ H' => Q .non H', rt := Q } (start N vs) H) : FnG P w K mg base CX0 (k + 1) f fd ps sp := by
  obtain ⟨oc, od, kV, doc, pm, an, cdv, ct, osl, rfl, lk, hcd⟩ := F.ex
  refine ⟨hlen, fun A outer s H args us vs Q E room gd en bd rv want => ?_⟩
  have kin : K.In s.heap := en.mod.kin.keeps fun b o z => (en.bs b o z).1
  have nolim : s.heap.NoLimit := en.mod.nolimit.keeps fun b o z => (en.bs b o z).1
  have hl := hlen _ _ _ _ want
  refine Att.call_fn kin nolim lk hcd room.depth bd ?_ (fun s1 ic => ?_) S.co S.gen S.kind
  · refine List.all_eq_true.mpr fun y hy => ?_
    obtain ⟨a, b⟩ := y
    rcases S.par a (List.of_mem_zip hy).1 with z | z
    · simp [z]
    · simp [z]
  · obtain ⟨t, ht, hq⟩ := hb cdv A outer s H vs Q E (room.deeper _) gd want
    have I := inv_start (CX := CX0) (P := P) (w := w) (K := K) (mg := mg) (base := base) (E := E) S room.hd en hl rv ic
    refine wpAny_mono (ht.nox.run [] s1 (start N vs) H _ I hq) (fun fl s' hs => ?_) (fun e s' hs => hs)
    cases fl with
    | ret u =>
      obtain ⟨v, σ', H', J, rr, q⟩ := hs
      exact ⟨v, H', J.os, J.bare, J.base, J.hok, rr, q⟩
    | next =>
      obtain ⟨σ', H', J, q⟩ := hs
      exact ⟨V.non, H', J.os, J.bare, J.base, J.hok, rfl, q⟩
    | brk =>
      obtain ⟨_, _, _, q⟩ := hs
      exact False.elim q
    | cont =>
      obtain ⟨_, _, _, q⟩ := hs
      exact False.elim q
end
section
variable {X : Cx} {k : Nat} {f : Addr} {fd : FuncData} {ps : List Str} {sp : Sp} {dvs : List V} {ds : List Value} {x : Str} {p pos : Pos} {e : Expr} {es : List Expr} {t : TA}
theorem runG {pins : List (Addr × Obj)} {σ : L2.St} {H : Hp} {s : Shared} {Q : VK} {us : List Value} {vs : List V} (F : FnG X.prog X.w X.K X.mg X.base CX0 k f fd ps sp) (room : Room k X.A) (gd : X.A.guards = some [])
    (bd : Binds X.K fd ps ds) (dv : Vals dvs ds) (I : Inv X pins σ H s) (rv : Vals vs us) (want : sp (vs ++ dvs) H Q E0) : wpAny (model X.prog X.w) X.A (call (.ref f) us) (EP X pins σ Q) X.xe s := by
  have rv2 : Vals (vs ++ dvs) (us ++ ds) := rv.append dv
  have hl : (us ++ ds).length = ps.length := by
    rw [← rv2.length]
    exact F.len _ _ _ _ want
  refine wpAny_call (codeAny_mono (F.run X.A X.stack s H ⟨us, []⟩ (us ++ ds) (vs ++ dvs) Q E0 room gd I.env0 (bd s us I.kIn hl) rv2 want) fun r s' hq => ?_)
  cases r with
  | error e => exact False.elim hq
  | ok fl =>
    cases fl with
    | ret u => exact I.after hq
    | next => exact False.elim hq
    | brk => exact False.elim hq
    | cont => exact False.elim hq
theorem pe_callG (F : FnG X.prog X.w X.K X.mg X.base CX0 k f fd ps sp) (room : Room k X.A) (gd : X.A.guards = some []) (gl : Gl X x) (hm : X.mg x = some (.ref f)) (kp : PySem.W.keepIn X.K (.ref f) = true)
    (bd : Binds X.K fd ps ds) (dv : Vals dvs ds) (ha : PA X (e :: es) t) (nodbg : (x == ("__debug__" : Str)) = false := by decide)
    (he : starEach (e :: es) X.env = (false, eval e X.env) :: starEach es X.env := by rfl) (hpl : (backTo pos (starEach es X.env)).any (·.1) = false := by rfl) :
    PE X (.Call (.Name x p) (e :: es) [] pos) (tCall sp dvs E0 t) := by
  constructor
  intro pins s σ H Q I want
  refine wpAny_Call_Name_kw (ld_glob I gl hm (PySem.W.callWith_K (h₀ := X.base) I.ok.mod.kin kp (thn (ha.run pos pins s σ H _ I want) ?_) he hpl) nodbg)
  rintro us s1 ⟨vs, H1, I1, rv, q⟩
  exact ⟨I1.kIn, runG F room gd bd dv I1 rv q⟩
theorem pe_callG0 (F : FnG X.prog X.w X.K X.mg X.base CX0 k f fd ps sp) (room : Room k X.A) (gd : X.A.guards = some []) (gl : Gl X x) (hm : X.mg x = some (.ref f)) (kp : PySem.W.keepIn X.K (.ref f) = true)
    (bd : Binds X.K fd ps ds) (dv : Vals dvs ds) (nodbg : (x == ("__debug__" : Str)) = false := by decide) : PE X (.Call (.Name x p) [] [] pos) (tCall sp dvs E0 tNil) := by
  constructor
  intro pins s σ H Q I want
  exact wpAny_Call_Name_kw (ld_glob I gl hm (PySem.W.callWith_K0 I.kIn kp (runG (us := []) F room gd bd dv I .nil want)) nodbg)
end

/-! ### the law's end -/
/-- a heap that tells of the script alone -/
theorem script_heap {P : Program} {w : World} {K : PySem.W.Frag} {h : Heap} {a : Addr} {vs : List Value} {ns : List Int} (kin : K.In h) (ha : h.get? a = some { cls := .type "list", data := .seq vs.toArray })
    (hi : IntsAre vs ns) (hl : ns.length ≤ sizeLine) :
    ∃ H : Hp, Only H ∧ SqL K H a (ns.map V.int) ∧ HOk P w H h ∧ (∀ b, H b ≠ none → b = a) ∧ (∀ b o, K.lookup b = some o → H b = none) := by
  have rv := vals_ints hi
  have len := hi.length
  cases hk : K.lookup a with
  | some o =>
    have eo := kin a o hk
    rw [ha] at eo
    cases eo
    refine ⟨fun _ => none, fun _ => .inl rfl, .inr ⟨_, vs.toArray, _, hk, rfl, rfl, rfl, ?_, by simpa using rv⟩, (fun b u z => nomatch z), (fun b z => absurd rfl z), fun _ _ _ => rfl⟩
    rw [List.size_toArray, len]
    exact hl
  | none =>
    let H : Hp := fun b => if b = a then some (.frz { cls := .type "list", data := .seq vs.toArray } (.lst (ns.map V.int))) else none
    have at_a : H a = some (.frz { cls := .type "list", data := .seq vs.toArray } (.lst (ns.map V.int))) := if_pos rfl
    have off : ∀ b, b ≠ a → H b = none := fun b z => if_neg z
    refine ⟨H, fun b => ?_, .inl (.inr ⟨_, at_a⟩), fun b u z => ?_, fun b z => ?_, fun b o z => off b ?_⟩
    · by_cases c : b = a
      · exact .inr ⟨_, _, c ▸ at_a⟩
      · exact .inl (off b c)
    · by_cases c : b = a
      · subst c
        rw [at_a] at z
        cases z
        refine ⟨ha, ?_, vs, _, rv, ha⟩
        rw [List.length_map]
        exact hl
      · rw [off b c] at z
        cases z
    · by_cases c : b = a
      · exact c
      · exact absurd (off b c) z
    · intro c
      rw [c, hk] at z
      cases z

theorem law_end {l : PySem.W.OpenLaw} {n k : Nat} {q : Program} {loose : List Str} {XP : (Str → Option Value) → Heap → Prop} {YP : World → Heap → Prop} {d : DefRec} {K : Params → PySem.W.Frag} {sp : PySem.W.Frag → Sp} {x : Str}
    (hn : l.most = some n) (hn2 : n ≤ sizeLine) (hdf : d.params.defaults = []) (hr : Room k callerA)
    (hY : ∀ (w : World) (h : Heap), YP w h → (K w.params).In h)
    (F : ∀ (w : World) (mg : Str → Option Value) (fa : Addr) (h : Heap), (K w.params).In h → h.Ns mainGlobals mg → mg d.name = some (.ref fa) →
      ∃ fd : FuncData, (∀ (s : Shared) (u : Value), BindsTo s fd ⟨[u], []⟩ [(x, u)]) ∧
        ∀ base : Heap, (K w.params).In base → base.Ns mainGlobals mg → FnG l.prog w (K w.params) mg base CX0 k fa fd [x] (sp (K w.params)))
    (hsp : ∀ (K : PySem.W.Frag) (H : Hp) (a : Addr) (ns : List Int), ns.length ≤ n → Only H → SqL K H a (ns.map V.int) → sp K [.ref a] H (fun v _ => v = .bl true) fun _ _ _ => False) :
    PySem.W.WalkO q loose XP YP l.row.toRowW d [] (fun f vs => PySem.call f vs) := by
  refine Att.attach_call hn hdf fun w s₀ s₁ mg mb fa o pm cd doc a vs ns G Y ho hd hcd hmg hobj hints hlen hgens => ?_
  have kin := hY w _ Y
  obtain ⟨fd, bd, FF⟩ := F w mg fa _ kin G.T.g hmg
  obtain ⟨H, hO, hS, hok, only, notK⟩ := script_heap (P := l.prog) (w := w) kin hobj hints (Nat.le_trans hlen hn2)
  have free : ∀ {b : Addr} {ob : Obj} {es : Array DictEntry} {ep : Nat}, s₁.heap.get? b = some ob → ob.data = .dict es ep → H b = none := by
    intro b ob es ep h1 h2
    cases c : H b with
    | none => rfl
    | some u =>
      have e : b = a := only b (by rw [c]; exact fun z => nomatch z)
      rw [e, hobj] at h1
      have h3 := congrArg Obj.data (Option.some.inj h1)
      rw [h2] at h3
      exact nomatch h3
  have ns' : ∀ {b : Addr} {m : Str → Option Value}, s₁.heap.Ns b m → (hidT s₁.heap H).Ns b m := by
    rintro b m ⟨ob, es, ep, h1, h2, h3⟩
    exact ⟨ob, es, ep, hidT_get h1 (free h1 h2), h2, h3⟩
  have kinB : (K w.params).In (hidT s₁.heap H) := fun b ob e => hidT_get (kin b ob e) (notK b ob e)
  have lim : (hidT s₁.heap H).NoLimit := by
    obtain ⟨mc, h1, h2⟩ := G.T.nolimit
    exact ⟨mc, ns' h1, h2⟩
  have en : Env0 l.prog w (K w.params) mg (hidT s₁.heap H) callerA [] s₁ H :=
    ⟨rfl, ⟨kinB, ns' G.T.g, ⟨mb, ns' G.T.b, G.T.builtins⟩, lim⟩, fun b ob e => of_hidT e, Nat.le_of_eq (hidT_size _ _), trivial, (fun b z => nomatch z), hok, .of_eq hgens⟩
  refine codeAny_mono ((FF _ kinB (ns' G.T.g)).run callerA [] s₁ H ⟨[.ref a], []⟩ [.ref a] [.ref a] _ _ hr rfl en (bd s₁ (.ref a)) (.cons rfl .nil) (hsp _ H a ns hlen hO hS)) fun r s' z => ?_
  cases r with
  | error e => exact False.elim z
  | ok fl =>
    cases fl with
    | next => exact False.elim z
    | brk => exact False.elim z
    | cont => exact False.elim z
    | ret u =>
      obtain ⟨v, H', os, bare, un, hok', rr, e⟩ := z
      have e' : v = .bl true := e
      subst e'
      obtain rfl : u = Value.bool true := rr
      refine ⟨rfl, OldK.of_keep fun b ob hb => ?_, os, bare⟩
      cases c : H b with
      | none => exact un.keep b ob hb c (fun z => nomatch z) (fun z => nomatch z)
      | some u =>
        rcases hO b with z | ⟨ox, xs, z⟩
        · rw [c] at z
          cases z
        · obtain ⟨e1, _⟩ := hok b _ z
          obtain ⟨e2, _⟩ := hok' b _ (un.frzs b ox _ z)
          rw [hb] at e1
          cases e1
          exact e2
end Rp
/-! Kw: a def with one keyword-only parameter whose default is None. -/
namespace Rp
open PySem L2
theorem kw_one {K : PySem.W.Frag} {x qual m : Str} {st : Stmt} {f D : Addr} {oc : Value} {od an : Option Addr} {osl : Array (Option Value)} {doc pm cdv ct : Value}
    (l : K.lookup f = some ⟨oc, od, .func (PySem.W.fnOf x qual (defArgs st) (defBody st) (defScope st) .none (.ref D) doc pm an cdv ct), osl⟩) (c : PySem.W.codeIn K cdv qual = true) (k : PySem.W.keepIn K (.ref f) = true)
    (hn : PySem.W.nsIn K D m = some (some .none)) : FunD K x qual (defArgs st) (defBody st) (defScope st) [] [(m, .non)] f (PySem.W.fnOf x qual (defArgs st) (defBody st) (defScope st) .none (.ref D) doc pm an cdv ct) :=
  ⟨⟨oc, od, .none, .ref D, doc, pm, an, cdv, ct, osl, rfl, l, c, .inl ⟨rfl, rfl⟩, .inr ⟨D, rfl, fun q hq => by
    rw [List.mem_singleton.mp hq]
    exact ⟨.none, hn, rfl⟩⟩⟩, k⟩
end Rp
namespace Rp
open PySem L2
theorem kw_ref {K : PySem.W.Frag} {x qual m : Str} {st : Stmt} {f D A : Addr} {oc : Value} {od an : Option Addr} {osl : Array (Option Value)} {doc pm cdv ct : Value}
    (l : K.lookup f = some ⟨oc, od, .func (PySem.W.fnOf x qual (defArgs st) (defBody st) (defScope st) .none (.ref D) doc pm an cdv ct), osl⟩) (c : PySem.W.codeIn K cdv qual = true) (k : PySem.W.keepIn K (.ref f) = true)
    (hn : PySem.W.nsIn K D m = some (some (.ref A))) : FunD K x qual (defArgs st) (defBody st) (defScope st) [] [(m, .ref A)] f (PySem.W.fnOf x qual (defArgs st) (defBody st) (defScope st) .none (.ref D) doc pm an cdv ct) :=
  ⟨⟨oc, od, .none, .ref D, doc, pm, an, cdv, ct, osl, rfl, l, c, .inl ⟨rfl, rfl⟩, .inr ⟨D, rfl, fun q hq => by
    rw [List.mem_singleton.mp hq]
    exact ⟨.ref A, hn, rfl⟩⟩⟩, k⟩
end Rp
namespace Rp
open PySem L2
/-- two values in the other order -/
def kwSwap {α : Type} : List α → List α
  | [a, b] => [b, a]
  | l => l
theorem kwSwap_rel {zs : List V} {ws : List Value} (h : Vals zs ws) : Vals (kwSwap zs) (kwSwap ws) := by
  cases h with
  | nil => exact .nil
  | cons r1 h =>
    cases h with
    | nil => exact .cons r1 .nil
    | cons r2 h =>
      cases h with
      | nil => exact .cons r2 (.cons r1 .nil)
      | cons r3 h => exact .cons r1 (.cons r2 (.cons r3 h))
theorem kw_two {K : PySem.W.Frag} {x qual m1 m2 : Str} {st : Stmt} {f D : Addr} {oc : Value} {od an : Option Addr} {osl : Array (Option Value)} {doc pm cdv ct : Value} {i1 i2 : Int} {t1 t2 : Tok}
    (l : K.lookup f = some ⟨oc, od, .func (PySem.W.fnOf x qual (defArgs st) (defBody st) (defScope st) .none (.ref D) doc pm an cdv ct), osl⟩) (c : PySem.W.codeIn K cdv qual = true) (k : PySem.W.keepIn K (.ref f) = true)
    (h1 : PySem.W.nsIn K D m1 = some (some (.int i1 t1))) (h2 : PySem.W.nsIn K D m2 = some (some (.int i2 t2))) :
    FunD K x qual (defArgs st) (defBody st) (defScope st) [] [(m1, .int i1), (m2, .int i2)] f (PySem.W.fnOf x qual (defArgs st) (defBody st) (defScope st) .none (.ref D) doc pm an cdv ct) := by
  refine ⟨⟨oc, od, .none, .ref D, doc, pm, an, cdv, ct, osl, rfl, l, c, .inl ⟨rfl, rfl⟩, .inr ⟨D, rfl, fun q hq => ?_⟩⟩, k⟩
  rcases List.mem_cons.mp hq with rfl | hq
  · exact ⟨_, h1, ⟨t1, rfl⟩⟩
  · rw [List.mem_singleton.mp hq]
    exact ⟨_, h2, ⟨t2, rfl⟩⟩
end Rp
/-! Jm: jobs as a type of trees, their data, sizes; what the pot holds. No Python here. -/
namespace Lw
open PySem L2 Rp

abbrev M30 : Int := 1000000000000000000000000000000
inductive J where
  | st (i : Int)
  | ps (par : Bool) (xs : List J)
  | rn (cop : Bool) (n : Int) (x : J)
def kwP (b : Bool) : Str := if b then "par" else "seq"
def kwR (b : Bool) : Str := if b then "copies" else "repeat"
mutual
def J.toD : J → PyData
  | .st i => .int i
  | .ps k xs => .tuple [.str (kwP k), .tuple (J.toDs xs)]
  | .rn k n x => .tuple [.str (kwR k), .int n, x.toD]
def J.toDs : List J → List PyData
  | [] => []
  | x :: xs => x.toD :: J.toDs xs
end
mutual
theorem J.noL : ∀ j : J, noL j.toD = true
  | .st _ => rfl
  | .ps _ xs => by
    have h := J.noLs xs
    simp [J.toD, Rp.noL, Rp.noLs, h]
  | .rn _ _ x => by
    have h := J.noL x
    simp [J.toD, Rp.noL, Rp.noLs, h]
theorem J.noLs : ∀ js : List J, noLs (J.toDs js) = true
  | [] => rfl
  | x :: xs => by
    have h1 := J.noL x
    have h2 := J.noLs xs
    simp [J.toDs, Rp.noLs, h1, h2]
end
theorem J.toDs_eq : ∀ xs : List J, J.toDs xs = xs.map J.toD
  | [] => rfl
  | x :: xs => by rw [J.toDs, J.toDs_eq xs]; rfl

/-! sizes as the program finds them -/
def within (nodes steps : Int) : Option (Int × Int) := if steps ≤ M30 then some (nodes, steps) else none
mutual
def szJ : J → Int → Int → Option (Int × Int)
  | .st i, room, lv => if room < 1 ∨ lv < 1 then none else if -M30 ≤ i ∧ i ≤ M30 then some (1, 1) else none
  | .ps _ xs, room, lv => if room < 1 ∨ lv < 1 then none else if (xs.length : Int) > 400 then none else szJs xs 1 0 room lv
  | .rn _ n x, room, lv => if room < 1 ∨ lv < 1 then none else if ¬ (0 ≤ n ∧ n ≤ M30) then none else
      match szJ x (room - 1) (lv - 1) with
      | none => none
      | some (a, b) => within (a + 1) (b * n)
def szJs : List J → Int → Int → Int → Int → Option (Int × Int)
  | [], nodes, steps, _, _ => within nodes steps
  | x :: xs, nodes, steps, room, lv =>
      match szJ x (room - nodes) (lv - 1) with
      | none => none
      | some (a, b) => szJs xs (nodes + a) (steps + b) room lv
end
mutual
def J.nodes : J → Int
  | .st _ => 1
  | .ps _ xs => 1 + J.nodesL xs
  | .rn _ _ x => x.nodes + 1
def J.nodesL : List J → Int
  | [] => 0
  | x :: xs => x.nodes + J.nodesL xs
end
mutual
def J.steps : J → Int
  | .st _ => 1
  | .ps _ xs => J.stepsL xs
  | .rn _ n x => x.steps * n
def J.stepsL : List J → Int
  | [] => 0
  | x :: xs => x.steps + J.stepsL xs
end
mutual
def J.deep : J → Nat
  | .st _ => 1
  | .ps _ xs => J.deepL xs + 1
  | .rn _ _ x => x.deep + 1
def J.deepL : List J → Nat
  | [] => 0
  | x :: xs => max x.deep (J.deepL xs)
end
mutual
/-- a job but for nodes and nesting -/
def J.ok : J → Prop
  | .st i => -M30 ≤ i ∧ i ≤ M30
  | .ps _ xs => (xs.length : Int) ≤ 400 ∧ J.okL xs ∧ J.stepsL xs ≤ M30
  | .rn _ n x => (0 ≤ n ∧ n ≤ M30) ∧ x.ok ∧ x.steps * n ≤ M30
def J.okL : List J → Prop
  | [] => True
  | x :: xs => x.ok ∧ J.okL xs
end
mutual
theorem J.nodes_pos : ∀ j : J, 1 ≤ j.nodes
  | .st _ => by simp [J.nodes]
  | .ps _ xs => by have := J.nodesL_pos xs; simp only [J.nodes]; omega
  | .rn _ _ x => by have := J.nodes_pos x; simp only [J.nodes]; omega
theorem J.nodesL_pos : ∀ xs : List J, 0 ≤ J.nodesL xs
  | [] => by simp [J.nodesL]
  | x :: xs => by have := J.nodes_pos x; have := J.nodesL_pos xs; simp only [J.nodesL]; omega
end
theorem J.deep_pos : ∀ j : J, 1 ≤ j.deep
  | .st _ => by simp [J.deep]
  | .ps _ xs => by simp only [J.deep]; omega
  | .rn _ _ x => by simp only [J.deep]; omega
mutual
theorem J.steps_nn : ∀ j : J, j.ok → 0 ≤ j.steps
  | .st _, _ => by simp [J.steps]
  | .ps _ xs, h => by
    simp only [J.ok] at h
    simp only [J.steps]
    exact J.stepsL_nn xs h.2.1
  | .rn _ n x, h => by
    simp only [J.ok] at h
    simp only [J.steps]
    exact Int.mul_nonneg (J.steps_nn x h.2.1) h.1.1
theorem J.stepsL_nn : ∀ xs : List J, J.okL xs → 0 ≤ J.stepsL xs
  | [], _ => by simp [J.stepsL]
  | x :: xs, h => by
    simp only [J.okL] at h
    have := J.steps_nn x h.1
    have := J.stepsL_nn xs h.2
    simp only [J.stepsL]
    omega
end
theorem J.steps_le (j : J) (h : j.ok) : j.steps ≤ M30 := by
  cases j with
  | st i => simp only [J.steps]; decide
  | ps k xs => simp only [J.ok] at h; simp only [J.steps]; exact h.2.2
  | rn k n x => simp only [J.ok] at h; simp only [J.steps]; exact h.2.2
/-! the closed form: is a job within room and levels, and then its sizes -/
mutual
theorem szJ_some : ∀ (j : J) (room lv : Int), j.ok → j.nodes ≤ room → (j.deep : Int) ≤ lv → szJ j room lv = some (j.nodes, j.steps)
  | .st i, room, lv, h, h1, h2 => by
    simp only [J.ok] at h
    simp only [J.nodes, J.deep] at h1 h2
    simp only [szJ, J.nodes, J.steps]
    rw [if_neg (by omega), if_pos h]
  | .ps k xs, room, lv, h, h1, h2 => by
    simp only [J.ok] at h
    simp only [J.nodes, J.deep] at h1 h2
    have hn := J.nodesL_pos xs
    simp only [szJ, J.nodes, J.steps]
    rw [if_neg (by omega), if_neg (by omega)]
    have := szJs_some xs 1 0 room lv h.2.1 (by omega) (by omega) (by omega) (by omega)
    rw [this, Int.zero_add]
  | .rn k n x, room, lv, h, h1, h2 => by
    simp only [J.ok] at h
    simp only [J.nodes, J.deep] at h1 h2
    have hn := J.nodes_pos x
    simp only [szJ, J.nodes, J.steps]
    rw [if_neg (by omega), if_neg (by omega), szJ_some x (room - 1) (lv - 1) h.2.1 (by omega) (by omega)]
    simp only [within]
    rw [if_pos h.2.2]
theorem szJs_some : ∀ (xs : List J) (nodes steps room lv : Int), J.okL xs → 1 ≤ nodes → nodes + J.nodesL xs ≤ room → (J.deepL xs : Int) ≤ lv - 1 → steps + J.stepsL xs ≤ M30 → szJs xs nodes steps room lv = some (nodes + J.nodesL xs, steps + J.stepsL xs)
  | [], nodes, steps, room, lv, _, _, _, _, h => by
    simp only [J.nodesL, J.stepsL, szJs, within, Int.add_zero] at *
    rw [if_pos h]
  | x :: xs, nodes, steps, room, lv, h, h0, h1, h2, h3 => by
    simp only [J.okL] at h
    simp only [J.nodesL, J.stepsL, J.deepL] at *
    have p1 := J.nodes_pos x
    have p2 := J.nodesL_pos xs
    have p3 := J.stepsL_nn xs h.2
    simp only [szJs]
    rw [szJ_some x (room - nodes) (lv - 1) h.1 (by omega) (by omega)]
    simp only
    rw [szJs_some xs (nodes + x.nodes) (steps + x.steps) room lv h.2 (by omega) (by omega) (by omega) (by omega)]
    rw [Int.add_assoc, Int.add_assoc]
end
mutual
theorem szJ_inv : ∀ (j : J) (room lv a b : Int), szJ j room lv = some (a, b) → j.ok ∧ j.nodes ≤ room ∧ (j.deep : Int) ≤ lv ∧ a = j.nodes ∧ b = j.steps
  | .st i, room, lv, a, b, h => by
    simp only [szJ] at h
    split at h
    · cases h
    · split at h
      · rename_i h1 h2
        cases h
        simp only [J.ok, J.nodes, J.deep, J.steps]
        refine ⟨h2, by omega, by omega, ?_, ?_⟩ <;> trivial
      · cases h
  | .ps k xs, room, lv, a, b, h => by
    simp only [szJ] at h
    split at h
    · cases h
    · split at h
      · cases h
      · rename_i h1 h2
        obtain ⟨q1, q2, q3, q4, q5, q6⟩ := szJs_inv xs 1 0 room lv a b h (by omega)
        simp only [J.ok, J.nodes, J.deep, J.steps]
        have q3' : (J.deepL xs : Int) ≤ lv - 1 := by
          rcases q3 with q3 | q3
          · exact q3
          · subst q3
            simp only [J.deepL]
            omega
        refine ⟨⟨by omega, q1, by omega⟩, by omega, by omega, by omega, by omega⟩
  | .rn k n x, room, lv, a, b, h => by
    simp only [szJ] at h
    split at h
    · cases h
    · split at h
      · cases h
      · rename_i h1 h2
        split at h
        · cases h
        · rename_i a1 b1 h3
          obtain ⟨q1, q2, q3, q4, q5⟩ := szJ_inv x (room - 1) (lv - 1) a1 b1 h3
          simp only [within] at h
          split at h
          · rename_i h4
            cases h
            subst q4 q5
            simp only [J.ok, J.nodes, J.deep, J.steps]
            refine ⟨⟨Decidable.not_not.mp h2, q1, h4⟩, by omega, by omega, ?_, ?_⟩ <;> trivial
          · cases h
theorem szJs_inv : ∀ (xs : List J) (nodes steps room lv a b : Int), szJs xs nodes steps room lv = some (a, b) → nodes ≤ room → J.okL xs ∧ nodes + J.nodesL xs ≤ room ∧ ((J.deepL xs : Int) ≤ lv - 1 ∨ xs = []) ∧ steps + J.stepsL xs ≤ M30 ∧ a = nodes + J.nodesL xs ∧ b = steps + J.stepsL xs
  | [], nodes, steps, room, lv, a, b, h, h0 => by
    simp only [szJs, within] at h
    split at h
    · rename_i h1
      cases h
      simp only [J.okL, J.nodesL, J.stepsL, Int.add_zero]
      refine ⟨trivial, h0, .inr ?_, h1, ?_, ?_⟩ <;> trivial
    · cases h
  | x :: xs, nodes, steps, room, lv, a, b, h, h0 => by
    simp only [szJs] at h
    split at h
    · cases h
    · rename_i a1 b1 h3
      obtain ⟨q1, q2, q3, q4, q5⟩ := szJ_inv x (room - nodes) (lv - 1) a1 b1 h3
      subst q4 q5
      obtain ⟨r1, r2, r3, r4, r5, r6⟩ := szJs_inv xs (nodes + x.nodes) (steps + x.steps) room lv a b h (by omega)
      have dp := J.deep_pos x
      simp only [J.okL, J.nodesL, J.stepsL, J.deepL]
      refine ⟨⟨q1, r1⟩, by omega, .inl ?_, by omega, by omega, by omega⟩
      rcases r3 with r3 | r3
      · omega
      · subst r3
        simp only [J.deepL]
        omega
end
end Lw
/-! Jn: nets, lowest usages and mirrors of jobs. No Python here. -/
namespace Lw
open PySem L2 Rp
mutual
def J.net : J → Int
  | .st i => i
  | .ps _ xs => J.netL xs
  | .rn _ n x => n * x.net
def J.netL : List J → Int
  | [] => 0
  | x :: xs => x.net + J.netL xs
end
mutual
def J.low : J → Int
  | .st i => min 0 i
  | .ps false xs => J.lowS xs
  | .ps true xs => J.lowL xs
  | .rn true n x => n * x.low
  | .rn false n x => if n = 0 then 0 else x.low + (n - 1) * min 0 x.net
/-- in sequence -/
def J.lowS : List J → Int
  | [] => 0
  | x :: xs => min x.low (x.net + J.lowS xs)
/-- side by side -/
def J.lowL : List J → Int
  | [] => 0
  | x :: xs => x.low + J.lowL xs
end
theorem mul_min_nonneg {a b : Int} (h : 0 ≤ a) : a * min 0 b ≤ 0 ∧ a * min 0 b ≤ a * b := by
  constructor
  · have : 0 ≤ a * (- min 0 b) := Int.mul_nonneg h (by omega)
    rw [Int.mul_neg] at this
    omega
  · exact Int.mul_le_mul_of_nonneg_left (by omega) h
mutual
/-- the lowest usage is at most 0 and at most the net -/
theorem J.low_le : ∀ j : J, j.ok → j.low ≤ 0 ∧ j.low ≤ j.net
  | .st i, _ => by simp only [J.low, J.net]; omega
  | .ps false xs, h => by
    simp only [J.ok] at h
    simp only [J.low, J.net]
    exact J.lowS_le xs h.2.1
  | .ps true xs, h => by
    simp only [J.ok] at h
    simp only [J.low, J.net]
    exact J.lowL_le xs h.2.1
  | .rn true n x, h => by
    simp only [J.ok] at h
    have ih := J.low_le x h.2.1
    simp only [J.low, J.net]
    constructor
    · have : 0 ≤ n * (- x.low) := Int.mul_nonneg h.1.1 (by omega)
      rw [Int.mul_neg] at this
      omega
    · exact Int.mul_le_mul_of_nonneg_left ih.2 h.1.1
  | .rn false n x, h => by
    simp only [J.ok] at h
    have ih := J.low_le x h.2.1
    simp only [J.low, J.net]
    split
    · rename_i e
      subst e
      omega
    · have p := mul_min_nonneg (a := n - 1) (b := x.net) (by omega)
      have e : n * x.net = (n - 1) * x.net + x.net := by rw [Int.sub_mul, Int.one_mul]; omega
      omega
theorem J.lowS_le : ∀ xs : List J, J.okL xs → J.lowS xs ≤ 0 ∧ J.lowS xs ≤ J.netL xs
  | [], _ => by simp only [J.lowS, J.netL]; omega
  | x :: xs, h => by
    simp only [J.okL] at h
    have h1 := J.low_le x h.1
    have h2 := J.lowS_le xs h.2
    simp only [J.lowS, J.netL]
    omega
theorem J.lowL_le : ∀ xs : List J, J.okL xs → J.lowL xs ≤ 0 ∧ J.lowL xs ≤ J.netL xs
  | [], _ => by simp only [J.lowL, J.netL]; omega
  | x :: xs, h => by
    simp only [J.okL] at h
    have h1 := J.low_le x h.1
    have h2 := J.lowL_le xs h.2
    simp only [J.lowL, J.netL]
    omega
end
/-! sizes: at most the steps times a step's greatest -/
theorem mul_natAbs_le {n b c : Int} (h0 : 0 ≤ n) (h : b.natAbs ≤ c.natAbs) : (n * b).natAbs ≤ (n * c).natAbs := by
  rw [Int.natAbs_mul, Int.natAbs_mul]
  exact Nat.mul_le_mul_left _ h
mutual
theorem J.net_big : ∀ j : J, j.ok → -(j.steps * M30) ≤ j.net ∧ j.net ≤ j.steps * M30
  | .st i, h => by
    simp only [J.ok, M30] at h
    simp only [J.net, J.steps, M30]
    omega
  | .ps _ xs, h => by
    simp only [J.ok] at h
    simp only [J.net, J.steps]
    exact J.netL_big xs h.2.1
  | .rn _ n x, h => by
    simp only [J.ok] at h
    have ih := J.net_big x h.2.1
    simp only [J.net, J.steps]
    have e : x.steps * n * M30 = n * (x.steps * M30) := by rw [Int.mul_comm x.steps n, Int.mul_assoc]
    rw [e]
    constructor
    · rw [← Int.mul_neg]
      exact Int.mul_le_mul_of_nonneg_left ih.1 h.1.1
    · exact Int.mul_le_mul_of_nonneg_left ih.2 h.1.1
theorem J.netL_big : ∀ xs : List J, J.okL xs → -(J.stepsL xs * M30) ≤ J.netL xs ∧ J.netL xs ≤ J.stepsL xs * M30
  | [], _ => by simp only [J.netL, J.stepsL]; omega
  | x :: xs, h => by
    simp only [J.okL] at h
    have h1 := J.net_big x h.1
    have h2 := J.netL_big xs h.2
    simp only [J.netL, J.stepsL, M30] at *
    omega
end
mutual
theorem J.low_big : ∀ j : J, j.ok → -(j.steps * M30) ≤ j.low
  | .st i, h => by
    simp only [J.ok, M30] at h
    simp only [J.low, J.steps, M30]
    omega
  | .ps false xs, h => by
    simp only [J.ok] at h
    simp only [J.low, J.steps]
    exact J.lowS_big xs h.2.1
  | .ps true xs, h => by
    simp only [J.ok] at h
    simp only [J.low, J.steps]
    exact J.lowL_big xs h.2.1
  | .rn true n x, h => by
    simp only [J.ok] at h
    have ih := J.low_big x h.2.1
    simp only [J.low, J.steps]
    have e : x.steps * n * M30 = n * (x.steps * M30) := by rw [Int.mul_comm x.steps n, Int.mul_assoc]
    rw [e, ← Int.mul_neg]
    exact Int.mul_le_mul_of_nonneg_left ih h.1.1
  | .rn false n x, h => by
    simp only [J.ok] at h
    have ih := J.low_big x h.2.1
    have ih2 := J.net_big x h.2.1
    have nn := J.steps_nn x h.2.1
    simp only [J.low, J.steps]
    have e : x.steps * n * M30 = n * (x.steps * M30) := by rw [Int.mul_comm x.steps n, Int.mul_assoc]
    rw [e]
    split
    · rename_i z
      subst z
      omega
    · have hm : -(x.steps * M30) ≤ min 0 x.net := by
        have : 0 ≤ x.steps * M30 := Int.mul_nonneg nn (by decide)
        omega
      have p : (n - 1) * (-(x.steps * M30)) ≤ (n - 1) * min 0 x.net := Int.mul_le_mul_of_nonneg_left hm (by omega)
      have e2 : (n - 1) * (-(x.steps * M30)) = -(n * (x.steps * M30)) + x.steps * M30 := by rw [Int.mul_neg, Int.sub_mul, Int.one_mul]; omega
      omega
theorem J.lowS_big : ∀ xs : List J, J.okL xs → -(J.stepsL xs * M30) ≤ J.lowS xs
  | [], _ => by simp only [J.lowS, J.stepsL]; omega
  | x :: xs, h => by
    simp only [J.okL] at h
    have h1 := J.low_big x h.1
    have h2 := J.lowS_big xs h.2
    have h3 := J.net_big x h.1
    have n1 := J.steps_nn x h.1
    have n2 := J.stepsL_nn xs h.2
    simp only [J.lowS, J.stepsL, M30] at *
    omega
theorem J.lowL_big : ∀ xs : List J, J.okL xs → -(J.stepsL xs * M30) ≤ J.lowL xs
  | [], _ => by simp only [J.lowL, J.stepsL]; omega
  | x :: xs, h => by
    simp only [J.okL] at h
    have h1 := J.low_big x h.1
    have h2 := J.lowL_big xs h.2
    simp only [J.lowL, J.stepsL, M30] at *
    omega
end
abbrev M60 : Int := 1000000000000000000000000000000000000000000000000000000000000
theorem J.net_60 (j : J) (h : j.ok) : -M60 ≤ j.net ∧ j.net ≤ M60 := by
  have h1 := J.net_big j h
  have h2 := J.steps_le j h
  simp only [M30, M60] at *
  omega
theorem J.low_60 (j : J) (h : j.ok) : -M60 ≤ j.low ∧ j.low ≤ 0 := by
  have h1 := J.low_big j h
  have h2 := J.steps_le j h
  have h3 := (J.low_le j h).1
  simp only [M30, M60] at *
  omega
/-! the mirror -/
mutual
def J.mir : J → J
  | .st i => .st (-i)
  | .ps false xs => .ps false (J.mirL xs).reverse
  | .ps true xs => .ps true (J.mirL xs)
  | .rn k n x => .rn k n x.mir
def J.mirL : List J → List J
  | [] => []
  | x :: xs => x.mir :: J.mirL xs
end
theorem J.mirL_eq : ∀ xs : List J, J.mirL xs = xs.map J.mir
  | [] => rfl
  | x :: xs => by rw [J.mirL, J.mirL_eq xs]; rfl
theorem J.mirL_rev (xs : List J) : J.mirL xs.reverse = (J.mirL xs).reverse := by rw [J.mirL_eq, J.mirL_eq, List.map_reverse]
mutual
theorem J.mir_mir : ∀ j : J, j.mir.mir = j
  | .st i => by simp [J.mir]
  | .ps false xs => by simp only [J.mir, J.mirL_rev, List.reverse_reverse, J.mirL_mirL xs]
  | .ps true xs => by simp only [J.mir, J.mirL_mirL xs]
  | .rn k n x => by simp only [J.mir, J.mir_mir x]
theorem J.mirL_mirL : ∀ xs : List J, J.mirL (J.mirL xs) = xs
  | [] => rfl
  | x :: xs => by simp only [J.mirL, J.mir_mir x, J.mirL_mirL xs]
end
theorem J.nodesL_rev (xs : List J) : J.nodesL xs.reverse = J.nodesL xs := by
  induction xs with
  | nil => rfl
  | cons x xs ih =>
    have app : ∀ xs ys : List J, J.nodesL (xs ++ ys) = J.nodesL xs + J.nodesL ys := by
      intro xs ys
      induction xs with
      | nil => simp [J.nodesL]
      | cons a l ih => simp only [List.cons_append, J.nodesL, ih]; omega
    rw [List.reverse_cons, app, ih]
    simp only [J.nodesL]
    omega
theorem J.stepsL_app (xs ys : List J) : J.stepsL (xs ++ ys) = J.stepsL xs + J.stepsL ys := by
  induction xs with
  | nil => simp [J.stepsL]
  | cons a l ih => simp only [List.cons_append, J.stepsL, ih]; omega
theorem J.stepsL_rev (xs : List J) : J.stepsL xs.reverse = J.stepsL xs := by
  induction xs with
  | nil => rfl
  | cons x xs ih =>
    rw [List.reverse_cons, J.stepsL_app, ih]
    simp only [J.stepsL]
    omega
theorem J.netL_app (xs ys : List J) : J.netL (xs ++ ys) = J.netL xs + J.netL ys := by
  induction xs with
  | nil => simp [J.netL]
  | cons a l ih => simp only [List.cons_append, J.netL, ih]; omega
theorem J.netL_rev (xs : List J) : J.netL xs.reverse = J.netL xs := by
  induction xs with
  | nil => rfl
  | cons x xs ih =>
    rw [List.reverse_cons, J.netL_app, ih]
    simp only [J.netL]
    omega
theorem J.deepL_rev (xs : List J) : J.deepL xs.reverse = J.deepL xs := by
  induction xs with
  | nil => rfl
  | cons x xs ih =>
    have app : ∀ xs ys : List J, J.deepL (xs ++ ys) = max (J.deepL xs) (J.deepL ys) := by
      intro xs ys
      induction xs with
      | nil => simp [J.deepL]
      | cons a l ih => simp only [List.cons_append, J.deepL, ih]; omega
    rw [List.reverse_cons, app, ih]
    simp only [J.deepL]
    omega
theorem J.okL_iff : ∀ xs : List J, J.okL xs ↔ ∀ x ∈ xs, x.ok
  | [] => by simp [J.okL]
  | x :: xs => by simp only [J.okL, J.okL_iff xs, List.forall_mem_cons]
theorem J.okL_rev (xs : List J) : J.okL xs.reverse ↔ J.okL xs := by
  rw [J.okL_iff, J.okL_iff]
  simp
theorem J.mirL_len (xs : List J) : (J.mirL xs).length = xs.length := by rw [J.mirL_eq, List.length_map]
mutual
theorem J.mir_same : ∀ j : J, j.mir.nodes = j.nodes ∧ j.mir.steps = j.steps ∧ j.mir.deep = j.deep ∧ j.mir.net = -j.net ∧ (j.ok → j.mir.ok)
  | .st i => by
    simp only [J.mir, J.nodes, J.steps, J.deep, J.net, J.ok, true_and]
    omega
  | .ps false xs => by
    obtain ⟨h1, h2, h3, h4, h5⟩ := J.mirL_same xs
    simp only [J.mir, J.nodes, J.steps, J.deep, J.net, J.ok, J.nodesL_rev, J.stepsL_rev, J.deepL_rev, J.netL_rev, J.okL_rev, List.length_reverse, J.mirL_len, h1, h2, h3, h4, true_and]
    exact fun z => ⟨z.1, h5 z.2.1, z.2.2⟩
  | .ps true xs => by
    obtain ⟨h1, h2, h3, h4, h5⟩ := J.mirL_same xs
    simp only [J.mir, J.nodes, J.steps, J.deep, J.net, J.ok, J.mirL_len, h1, h2, h3, h4, true_and]
    exact fun z => ⟨z.1, h5 z.2.1, z.2.2⟩
  | .rn k n x => by
    obtain ⟨h1, h2, h3, h4, h5⟩ := J.mir_same x
    simp only [J.mir, J.nodes, J.steps, J.deep, J.net, J.ok, h1, h2, h3, h4, true_and, Int.mul_neg]
    exact fun z => ⟨z.1, h5 z.2.1, z.2.2⟩
theorem J.mirL_same : ∀ xs : List J, J.nodesL (J.mirL xs) = J.nodesL xs ∧ J.stepsL (J.mirL xs) = J.stepsL xs ∧ J.deepL (J.mirL xs) = J.deepL xs ∧ J.netL (J.mirL xs) = -J.netL xs ∧ (J.okL xs → J.okL (J.mirL xs))
  | [] => by simp [J.mirL, J.nodesL, J.stepsL, J.deepL, J.netL, J.okL]
  | x :: xs => by
    obtain ⟨h1, h2, h3, h4, h5⟩ := J.mir_same x
    obtain ⟨k1, k2, k3, k4, k5⟩ := J.mirL_same xs
    simp only [J.mirL, J.nodesL, J.stepsL, J.deepL, J.netL, J.okL, h1, h2, h3, h4, k1, k2, k3, k4, true_and]
    refine ⟨by omega, fun z => ⟨h5 z.1, k5 z.2⟩⟩
end
theorem J.lowS_app (xs : List J) (y : J) (hy : y.ok) (hx : J.okL xs) : J.lowS (xs ++ [y]) = min (J.lowS xs) (J.netL xs + y.low) := by
  induction xs with
  | nil =>
    have := J.low_le y hy
    simp only [List.nil_append, J.lowS, J.netL]
    omega
  | cons x xs ih =>
    simp only [J.okL] at hx
    simp only [List.cons_append, J.lowS, J.netL, ih hx.2]
    omega
mutual
theorem J.mir_low : ∀ j : J, j.ok → j.mir.low = j.low - j.net
  | .st i, _ => by simp only [J.mir, J.low, J.net]; omega
  | .ps false xs, h => by
    simp only [J.ok] at h
    simp only [J.mir, J.low, J.net]
    exact J.mirL_lowS xs h.2.1
  | .ps true xs, h => by
    simp only [J.ok] at h
    simp only [J.mir, J.low, J.net]
    exact J.mirL_lowL xs h.2.1
  | .rn true n x, h => by
    simp only [J.ok] at h
    simp only [J.mir, J.low, J.net, J.mir_low x h.2.1, Int.mul_sub]
  | .rn false n x, h => by
    simp only [J.ok] at h
    obtain ⟨_, _, _, hn, _⟩ := J.mir_same x
    simp only [J.mir, J.low, J.net, J.mir_low x h.2.1, hn]
    split
    · rename_i e
      subst e
      omega
    · have e : min 0 (-x.net) = min 0 x.net - x.net := by omega
      have e1 : (n - 1) * (min 0 x.net - x.net) = (n - 1) * min 0 x.net - (n - 1) * x.net := Int.mul_sub _ _ _
      have e2 : (n - 1) * x.net = n * x.net - x.net := by rw [Int.sub_mul, Int.one_mul]
      rw [e, e1]
      omega
theorem J.mirL_lowS : ∀ xs : List J, J.okL xs → J.lowS (J.mirL xs).reverse = J.lowS xs - J.netL xs
  | [], _ => by simp only [J.mirL, List.reverse_nil, J.lowS, J.netL]; omega
  | x :: xs, h => by
    simp only [J.okL] at h
    obtain ⟨_, _, _, _, ho⟩ := J.mir_same x
    obtain ⟨_, _, _, hn, hos⟩ := J.mirL_same xs
    simp only [J.mirL, List.reverse_cons]
    rw [J.lowS_app _ _ (ho h.1) ((J.okL_rev _).mpr (hos h.2)), J.mirL_lowS xs h.2, J.mir_low x h.1, J.netL_rev, hn]
    simp only [J.lowS, J.netL]
    omega
theorem J.mirL_lowL : ∀ xs : List J, J.okL xs → J.lowL (J.mirL xs) = J.lowL xs - J.netL xs
  | [], _ => by simp only [J.mirL, J.lowL, J.netL]; omega
  | x :: xs, h => by
    simp only [J.okL] at h
    simp only [J.mirL, J.lowL, J.netL, J.mirL_lowL xs h.2, J.mir_low x h.1]
    omega
end
/-! a job's data at hand -/
theorem ps_inv {K : PySem.W.Frag} {H : Hp} {v : V} {k : Bool} {xs : List J} (h : Dp K H v (J.ps k xs).toD) : ∃ a b vs, v = .ref a ∧ SqT K H a [.str (kwP k), .ref b] ∧ SqT K H b vs ∧ DpAll K H vs (J.toDs xs) := by
  rw [J.toD] at h
  obtain ⟨a, ys, rfl, hys, hall⟩ := dp_tup_inv h
  cases hall with
  | cons e1 hall =>
    obtain rfl := dp_str_inv e1
    cases hall with
    | cons e2 hall =>
      cases hall
      obtain ⟨b, vs, rfl, hvs, hall2⟩ := dp_tup_inv e2
      exact ⟨a, b, vs, rfl, hys, hvs, hall2⟩
theorem rn_inv {K : PySem.W.Frag} {H : Hp} {v : V} {k : Bool} {n : Int} {x : J} (h : Dp K H v (J.rn k n x).toD) : ∃ a w, v = .ref a ∧ SqT K H a [.str (kwR k), .int n, w] ∧ Dp K H w x.toD := by
  rw [J.toD] at h
  obtain ⟨a, ys, rfl, hys, hall⟩ := dp_tup_inv h
  cases hall with
  | cons e1 hall =>
    obtain rfl := dp_str_inv e1
    cases hall with
    | cons e2 hall =>
      obtain rfl := dp_int_inv e2
      cases hall with
      | cons e3 hall =>
        cases hall
        exact ⟨a, _, rfl, hys, e3⟩
theorem parts_at {K : PySem.W.Frag} {H : Hp} {xs : List J} {vs : List V} {i : Nat} {x : V} (hall : DpAll K H vs (J.toDs xs)) (hi : vs[i]? = some x) : ∃ j, xs[i]? = some j ∧ j ∈ xs ∧ Dp K H x j.toD := by
  obtain ⟨d, ed, hd⟩ := dpAll_get hall hi
  rw [J.toDs_eq, List.getElem?_map] at ed
  cases e : xs[i]? with
  | none =>
    rw [e] at ed
    cases ed
  | some j =>
    rw [e] at ed
    obtain rfl := (Option.some.inj ed).symm
    exact ⟨j, rfl, List.mem_of_getElem? e, hd⟩
theorem parts_len {K : PySem.W.Frag} {H : Hp} {xs : List J} {vs : List V} (hall : DpAll K H vs (J.toDs xs)) : vs.length = xs.length := by
  rw [dpAll_length hall, J.toDs_eq, List.length_map]
theorem deep_mem : ∀ {l : List J} {y : J}, y ∈ l → y.deep ≤ J.deepL l
  | z :: r, y, h => by
    simp only [J.deepL]
    rcases List.mem_cons.mp h with rfl | h
    · omega
    · have := deep_mem h
      omega
theorem ok_mem {l : List J} {y : J} (o : J.okL l) (h : y ∈ l) : y.ok := (J.okL_iff l).mp o y h
theorem take_step {α β : Type} {xs : List α} {i : Nat} {j : α} (f : α → β) (e : xs[i]? = some j) : (xs.take (i + 1)).map f = (xs.take i).map f ++ [f j] := by
  rw [List.take_add_one, e, List.map_append]
  rfl
/-! words -/
theorem w_in_parts (k : Bool) : inV (.str (kwP k)) [.str "seq", .str "par"] = true := by cases k <;> decide +kernel
theorem w_in_parts_no (k : Bool) : inV (.str (kwR k)) [.str "seq", .str "par"] = false := by cases k <;> decide +kernel
theorem w_in_rounds (k : Bool) : inV (.str (kwR k)) [.str "repeat", .str "copies"] = true := by cases k <;> decide +kernel
theorem w_in_rounds_no (k : Bool) : inV (.str (kwP k)) [.str "repeat", .str "copies"] = false := by cases k <;> decide +kernel
theorem w_seq (k : Bool) : decide (V.str (kwP k) = V.str "seq") = !k := by cases k <;> decide +kernel
theorem w_par (k : Bool) : decide (V.str (kwP k) = V.str "par") = k := by cases k <;> decide +kernel
theorem w_seq_no (k : Bool) : decide (V.str (kwR k) = V.str "seq") = false := by cases k <;> decide +kernel
theorem w_par_no (k : Bool) : decide (V.str (kwR k) = V.str "par") = false := by cases k <;> decide +kernel
theorem w_copies (k : Bool) : decide (V.str (kwR k) = V.str "copies") = k := by cases k <;> decide +kernel
theorem w_dec_int {a b : Int} : decide (V.int a = V.int b) = decide (a = b) := by
  by_cases h : a = b
  · subst h
    simp
  · rw [decide_eq_false h, decide_eq_false (fun z => h (V.int.inj z))]
/-! the data of a job: fine to be shown, comparable -/
theorem kwP_fine (k : Bool) : fine (.str (kwP k)) := by cases k <;> (simp only [fine]; decide +kernel)
theorem kwR_fine (k : Bool) : fine (.str (kwR k)) := by cases k <;> (simp only [fine]; decide +kernel)
theorem kwP_bulk (k : Bool) : (PyData.str (kwP k)).bulk ≤ 10 := by cases k <;> (simp only [PyData.bulk]; decide +kernel)
theorem kwR_bulk (k : Bool) : (PyData.str (kwR k)).bulk ≤ 10 := by cases k <;> (simp only [PyData.bulk]; decide +kernel)
theorem lt180 {i : Int} (h0 : -M60 ≤ i) (h : i ≤ M60) : i.natAbs < 10 ^ 180 := by
  simp only [M60] at h0 h
  exact Nat.lt_of_le_of_lt (show i.natAbs ≤ 1000000000000000000000000000000000000000000000000000000000000 by omega) (by decide +kernel)
mutual
theorem J.fine : ∀ j : J, j.ok → fine j.toD
  | .st i, h => by
    simp only [J.ok, M30] at h
    simp only [J.toD, Rp.fine]
    exact lt180 (by simp only [M60]; omega) (by simp only [M60]; omega)
  | .ps k xs, h => by
    simp only [J.ok] at h
    have h1 := J.fines xs h.2.1
    have h2 := kwP_fine k
    simp only [J.toD, Rp.fine, fines] at *
    exact ⟨h2, h1, trivial⟩
  | .rn k n x, h => by
    simp only [J.ok, M30] at h
    have h1 := J.fine x h.2.1
    have h2 := kwR_fine k
    simp only [J.toD, Rp.fine, fines] at *
    exact ⟨h2, lt180 (by simp only [M60]; omega) (by simp only [M60]; omega), h1, trivial⟩
theorem J.fines : ∀ xs : List J, J.okL xs → fines (J.toDs xs)
  | [], _ => by simp [J.toDs, Rp.fines]
  | x :: xs, h => by
    simp only [J.okL] at h
    simp only [J.toDs, Rp.fines]
    exact ⟨J.fine x h.1, J.fines xs h.2⟩
end
mutual
theorem J.bulk : ∀ j : J, (j.toD.bulk : Int) ≤ 20 * j.nodes - 5
  | .st i => by simp only [J.toD, PyData.bulk, J.nodes]; omega
  | .ps k xs => by
    have h1 := J.bulks xs
    have h2 := kwP_bulk k
    simp only [J.toD, PyData.bulk, PyData.bulkAll, J.nodes] at *
    omega
  | .rn k n x => by
    have h1 := J.bulk x
    have h2 := kwR_bulk k
    simp only [J.toD, PyData.bulk, PyData.bulkAll, J.nodes] at *
    omega
theorem J.bulks : ∀ xs : List J, (PyData.bulkAll (J.toDs xs) : Int) ≤ 20 * J.nodesL xs
  | [] => by simp [J.toDs, PyData.bulkAll, J.nodesL]
  | x :: xs => by
    have h1 := J.bulk x
    have h2 := J.bulks xs
    simp only [J.toDs, PyData.bulkAll, J.nodesL, List.length_cons] at *
    omega
end
mutual
theorem J.depth : ∀ j : J, j.toD.depth ≤ 2 * j.deep
  | .st i => by simp [J.toD, PyData.depth]
  | .ps k xs => by
    have h1 := J.depths xs
    simp only [J.toD, PyData.depth, PyData.depthAll, J.deep]
    omega
  | .rn k n x => by
    have h1 := J.depth x
    simp only [J.toD, PyData.depth, PyData.depthAll, J.deep]
    omega
theorem J.depths : ∀ xs : List J, PyData.depthAll (J.toDs xs) ≤ 2 * J.deepL xs
  | [] => by simp [J.toDs, PyData.depthAll, J.deepL]
  | x :: xs => by
    have h1 := J.depth x
    have h2 := J.depths xs
    simp only [J.toDs, PyData.depthAll, J.deepL]
    omega
end
theorem kwP_strOk (k : Bool) : PyData.canLay0 (.str (kwP k)) = true := by cases k <;> (simp only [PyData.canLay0]; decide +kernel)
theorem kwR_strOk (k : Bool) : PyData.canLay0 (.str (kwR k)) = true := by cases k <;> (simp only [PyData.canLay0]; decide +kernel)
mutual
theorem J.canLay : ∀ j : J, j.toD.canLay0 = true
  | .st i => by simp [J.toD, PyData.canLay0]
  | .ps k xs => by
    have h1 := J.canLays xs
    have h2 := kwP_strOk k
    simp only [J.toD, PyData.canLay0, PyData.canLayAll0, h1, Bool.and_true, Bool.true_and] at *
    exact h2
  | .rn k n x => by
    have h1 := J.canLay x
    have h2 := kwR_strOk k
    simp only [J.toD, PyData.canLay0, PyData.canLayAll0, h1, Bool.and_true, Bool.true_and] at *
    exact h2
theorem J.canLays : ∀ xs : List J, PyData.canLayAll0 (J.toDs xs) = true
  | [] => rfl
  | x :: xs => by
    have h1 := J.canLay x
    have h2 := J.canLays xs
    simp only [J.toDs, PyData.canLayAll0, h1, h2, Bool.and_self]
end
theorem J.shaped (j : J) (h : j.deep ≤ 30) : SeqAt.shaped j.toD = true := by
  have h1 := J.canLay j
  have h2 := J.depth j
  unfold SeqAt.shaped
  rw [h1, decide_eq_true (by omega)]
  rfl
theorem J.eqv (j : J) : PyData.eqv j.toD j.toD = true := SeqAt.eqv_refl _ (J.canLay j)
end Lw
/-! Rq: data of any kind (lists that nobody changes, dicts), beside a pot at p: isinstance, in, repr. -/
namespace Rp
open PySem L2 PyProof.Rows

theorem str_eq_dict (b : Str) (u : Tok) (a : Addr) : Meets (Builtin.«str.__eq__» { pos := [Value.str b u, Value.ref a] }) fun _ R s => (∃ o es n, s.heap.get? a = some o ∧ o.data = Data.dict es n) ∧ R (.ok (.ret Value.notImplemented)) s := by
  rintro prog w A R s ⟨⟨o, es, n, h, hd⟩, q⟩
  have e : Builtin.«str.__eq__» { pos := [Value.str b u, Value.ref a] } = (do
      let o ← asStr? (Value.ref a)
      match o with
      | some o => ret (Value.bool (b.cps.toList == o.cps.toList))
      | none => do
          rule (toString "str." ++ toString "__eq__" ++ toString ".not-a-str")
          ret Value.notImplemented) := rfl
  rw [e]
  refine wpAny_bind ?_
  unfold asStr?
  refine wpAny_bind (wpAny_load h ?_)
  rw [hd]
  refine wpAny_pure ?_
  refine wpAny_bind (wpAny_rule ?_)
  exact wpAny_pure q
theorem dict_eq_str (b : Str) (u : Tok) (a : Addr) : Meets (Builtin.«dict.__eq__» { pos := [Value.ref a, Value.str b u] }) fun _ R s => R (.ok (.ret Value.notImplemented)) s := by
  rintro prog w A R s q
  have e : Builtin.«dict.__eq__» { pos := [Value.ref a, Value.str b u] } = (do
      let x ← isInstance (Value.str b u) (Value.type "dict")
      if (!x) = true then do
          rule (toString "dict." ++ toString "__eq__" ++ toString ".not-a-dict")
          ret Value.notImplemented
        else do
          let p ← Builtin.Dict.addrOf (Value.ref a)
          let q ← Builtin.Dict.addrOf (Value.str b u)
          let z ← Builtin.Dict.samePairs (toString "dict." ++ toString "__eq__") p q
          ret (Value.bool (z == true))) := rfl
  rw [e]
  refine wpAny_bind (wpAny_isInstance_val (b := false) (T := "str") rfl (by rfl) ?_)
  refine wpAny_bind (wpAny_rule ?_)
  exact wpAny_pure q
theorem rc_str_dict {A : Around} {s : Shared} {a : Addr} {o : Obj} {es : Array DictEntry} {n : Nat} (b : Str) (u : Tok) (h : s.heap.get? a = some o) (hc : o.cls = .type "dict") (hd : o.data = .dict es n) (room : A.units < cLine) : SeqAt.RcAt A s (.str b u) (.ref a) false := by
  intro prog w E Q q
  have ta : s.TypeIs (.str b u) "str" := by rfl
  have tb : s.TypeIs (.ref a) "dict" := ⟨o, h, hc⟩
  have e1 : ∀ Q' : Value → Shared → Prop, Q' Value.notImplemented s → wpAny (model prog w) A (call (Value.builtin "str.__eq__") [.str b u, .ref a]) Q' E s := fun Q' z =>
    call_meets PyProof.Rows.slot_str_eq ta F.entry_str_eq (F.args_str_eq_2 _ _) (str_eq_dict b u a) ⟨⟨o, es, n, h, hd⟩, z⟩
  have e2 : ∀ Q' : Value → Shared → Prop, Q' Value.notImplemented s → wpAny (model prog w) A (call (Value.builtin "dict.__eq__") [.ref a, .str b u]) Q' E s := fun Q' z =>
    call_meets F.slot_dict_eq tb F.entry_dict_eq (F.args_dict_eq_2 _ _) (dict_eq_str b u a) z
  exact SeqAt.rc_eq_decline_or (Ta := "str") (Tb := "dict") (k := false) ta tb (by decide) (by rfl) PyProof.Rows.slot_str_eq F.slot_dict_eq_refl e1 e2 (fun Q' z => wpAny_pure z) (.inr room) q
theorem eq_str_dict {A : Around} {s : Shared} {a : Addr} {o : Obj} {es : Array DictEntry} {n : Nat} (b : Str) (u : Tok) (h : s.heap.get? a = some o) (hc : o.cls = .type "dict") (hd : o.data = .dict es n) (room : A.units < cLine) : SeqAt.EqAt A s (.str b u) (.ref a) false := by
  intro prog w E Q q
  unfold eqBool
  refine wpAny_holding ?_
  have e : (Value.str b u == Value.ref a) = false := rfl
  simp only [e, Bool.false_eq_true, if_false]
  refine wpAny_bind (rc_str_dict b u h hc hd room prog w E _ ?_)
  exact wpAny_truthy_bool q

mutual
inductive Dq (K : PySem.W.Frag) (p : Addr) (H : Hp) : V → PyData → Prop
  | non : Dq K p H .non .none
  | bl (b : Bool) : Dq K p H (.bl b) (.bool b)
  | int (i : Int) : Dq K p H (.int i) (.int i)
  | str (x : Str) : Dq K p H (.str x) (.str x)
  | lst {a : Addr} {xs : List V} {ds : List PyData} : a ≠ p → H a = some (.lst xs) → DqAll K p H xs ds → Dq K p H (.ref a) (.list ds)
  | tup {a : Addr} {xs : List V} {ds : List PyData} : SqT K H a xs → DqAll K p H xs ds → Dq K p H (.ref a) (.tuple ds)
  | dct {a : Addr} {kvs : List (Key × V)} {ds : List (PyData × PyData)} : a ≠ p → H a = some (.dK kvs) → (ds = [] → kvs = []) → Dq K p H (.ref a) (.dict ds)
inductive DqAll (K : PySem.W.Frag) (p : Addr) (H : Hp) : List V → List PyData → Prop
  | nil : DqAll K p H [] []
  | cons {v : V} {d : PyData} {vs : List V} {ds : List PyData} : Dq K p H v d → DqAll K p H vs ds → DqAll K p H (v :: vs) (d :: ds)
end
mutual
theorem dq_of {K : PySem.W.Frag} {p : Addr} {H : Hp} : ∀ {d : PyData} {v : V}, noL d = true → Dp K H v d → Dq K p H v d
  | .none, _, _, h => by cases h; exact .non
  | .bool _, _, _, h => by cases h; exact .bl _
  | .int _, _, _, h => by cases h; exact .int _
  | .str _, _, _, h => by cases h; exact .str _
  | .list _, _, n, _ => by simp [noL] at n
  | .tuple ds, _, n, h => by
    cases h with
    | tup hs ha => exact .tup hs (dqAll_of (by simpa [noL] using n) ha)
  | .dict _, _, _, h => by cases h
theorem dqAll_of {K : PySem.W.Frag} {p : Addr} {H : Hp} : ∀ {ds : List PyData} {vs : List V}, noLs ds = true → DpAll K H vs ds → DqAll K p H vs ds
  | [], _, _, h => by cases h; exact .nil
  | d :: ds, _, n, h => by
    cases h with
    | cons h1 h2 =>
      have n' : noL d = true ∧ noLs ds = true := by simpa [noLs] using n
      exact .cons (dq_of n'.1 h1) (dqAll_of n'.2 h2)
end
/-- what keeps such data: tuples, and all but p -/
structure Kp (K : PySem.W.Frag) (p : Addr) (H H' : Hp) : Prop where
  sx : Sx p H H'
  tp : ∀ a xs, SqT K H a xs → SqT K H' a xs
theorem Kp.refl {K : PySem.W.Frag} {p : Addr} {H : Hp} : Kp K p H H := ⟨Sx.refl, fun _ _ h => h⟩
theorem Kp.trans {K : PySem.W.Frag} {p : Addr} {H H1 H2 : Hp} (a : Kp K p H H1) (b : Kp K p H1 H2) : Kp K p H H2 := ⟨a.sx.trans b.sx, fun x xs h => b.tp x xs (a.tp x xs h)⟩
theorem Same.kp {K : PySem.W.Frag} {p : Addr} {H H' : Hp} (s : Same H H') : Kp K p H H' := ⟨Same.sx s, fun _ _ h => same_sqT s h⟩
theorem Sx.kp {K : PySem.W.Frag} {p : Addr} {H H' : Hp} {l : List V} (s : Sx p H H') (hp : H p = some (.lst l)) : Kp K p H H' := ⟨s, fun _ _ h => s.sqT hp h⟩
mutual
theorem Dq.keep {K : PySem.W.Frag} {p : Addr} {H H' : Hp} (s : Kp K p H H') : ∀ {d : PyData} {v : V}, Dq K p H v d → Dq K p H' v d
  | .none, _, h => by cases h; exact .non
  | .bool _, _, h => by cases h; exact .bl _
  | .int _, _, h => by cases h; exact .int _
  | .str _, _, h => by cases h; exact .str _
  | .list ds, _, h => by
    cases h with
    | lst n e ha => exact .lst n (s.sx _ _ n e) (DqAll.keep s ha)
  | .tuple ds, _, h => by
    cases h with
    | tup hs ha => exact .tup (s.tp _ _ hs) (DqAll.keep s ha)
  | .dict _, _, h => by
    cases h with
    | dct n e z => exact .dct n (s.sx _ _ n e) z
theorem DqAll.keep {K : PySem.W.Frag} {p : Addr} {H H' : Hp} (s : Kp K p H H') : ∀ {ds : List PyData} {vs : List V}, DqAll K p H vs ds → DqAll K p H' vs ds
  | [], _, h => by cases h; exact .nil
  | d :: ds, _, h => by
    cases h with
    | cons h1 h2 => exact .cons (Dq.keep s h1) (DqAll.keep s h2)
end
theorem dqAll_length {K : PySem.W.Frag} {p : Addr} {H : Hp} : ∀ {vs : List V} {ds : List PyData}, DqAll K p H vs ds → vs.length = ds.length
  | _, _, .nil => rfl
  | _, _, .cons _ h => congrArg (· + 1) (dqAll_length h)
theorem dqAll_get {K : PySem.W.Frag} {p : Addr} {H : Hp} : ∀ {vs : List V} {ds : List PyData} {i : Nat} {v : V}, DqAll K p H vs ds → vs[i]? = some v → ∃ d, ds[i]? = some d ∧ Dq K p H v d
  | _, _, _, _, .nil, e => by simp at e
  | _, _, 0, _, .cons h _, e => by
    simp at e
    subst e
    exact ⟨_, rfl, h⟩
  | _, _, i + 1, _, .cons _ t, e => by
    obtain ⟨d, e1, e2⟩ := dqAll_get (i := i) t (by simpa using e)
    exact ⟨d, by simpa using e1, e2⟩
theorem dqAll_append {K : PySem.W.Frag} {p : Addr} {H : Hp} : ∀ {vs ws : List V} {ds es : List PyData}, DqAll K p H vs ds → DqAll K p H ws es → DqAll K p H (vs ++ ws) (ds ++ es)
  | _, _, _, _, .nil, h => h
  | _, _, _, _, .cons h t, h' => .cons h (dqAll_append t h')
theorem dqAll_take {K : PySem.W.Frag} {p : Addr} {H : Hp} : ∀ (n : Nat) {vs : List V} {ds : List PyData}, DqAll K p H vs ds → DqAll K p H (vs.take n) (ds.take n)
  | 0, _, _, _ => by simpa using .nil
  | n + 1, _, _, .nil => by simpa using .nil
  | n + 1, _, _, .cons h t => by simpa using .cons h (dqAll_take n t)
theorem dqAll_drop {K : PySem.W.Frag} {p : Addr} {H : Hp} : ∀ (n : Nat) {vs : List V} {ds : List PyData}, DqAll K p H vs ds → DqAll K p H (vs.drop n) (ds.drop n)
  | 0, _, _, h => by simpa using h
  | n + 1, _, _, .nil => by simpa using .nil
  | n + 1, _, _, .cons h t => by simpa using dqAll_drop n t
theorem dq_int_inv {K : PySem.W.Frag} {p : Addr} {H : Hp} {v : V} {i : Int} (h : Dq K p H v (.int i)) : v = .int i := by cases h; rfl
theorem dq_str_inv {K : PySem.W.Frag} {p : Addr} {H : Hp} {v : V} {x : Str} (h : Dq K p H v (.str x)) : v = .str x := by cases h; rfl
theorem dq_bool_inv {K : PySem.W.Frag} {p : Addr} {H : Hp} {v : V} {b : Bool} (h : Dq K p H v (.bool b)) : v = .bl b := by cases h; rfl
theorem dq_tup_inv {K : PySem.W.Frag} {p : Addr} {H : Hp} {v : V} {ds : List PyData} (h : Dq K p H v (.tuple ds)) : ∃ a xs, v = .ref a ∧ SqT K H a xs ∧ DqAll K p H xs ds := by
  cases h with
  | tup h1 h2 => exact ⟨_, _, rfl, h1, h2⟩
theorem tupq {K : PySem.W.Frag} {p q : Addr} {H : Hp} {xs : List V} {ds : List PyData} (hq : H q = none) (h : DqAll K p H xs ds) : Same H (upd H q (.tup xs)) ∧ Dq K p (upd H q (.tup xs)) (.ref q) (.tuple ds) :=
  ⟨same_new hq, .tup (.inl (.inl upd_same)) (h.keep (Same.kp (same_new hq)))⟩
theorem lstq {K : PySem.W.Frag} {p q : Addr} {H : Hp} {xs : List V} {ds : List PyData} (n : q ≠ p) (hq : H q = none) (h : DqAll K p H xs ds) : Same H (upd H q (.lst xs)) ∧ Dq K p (upd H q (.lst xs)) (.ref q) (.list ds) :=
  ⟨same_new hq, .lst n upd_same (h.keep (Same.kp (same_new hq)))⟩

mutual
def noD : PyData → Bool
  | .list ds => noDs ds
  | .tuple ds => noDs ds
  | .dict _ => false
  | _ => true
def noDs : List PyData → Bool
  | [] => true
  | d :: ds => noD d && noDs ds
end
mutual
theorem Dq.dp {K : PySem.W.Frag} {p : Addr} {H : Hp} : ∀ {d : PyData} {v : V}, noD d = true → Dq K p H v d → Dp K H v d
  | .none, _, _, h => by cases h; exact .non
  | .bool _, _, _, h => by cases h; exact .bl _
  | .int _, _, _, h => by cases h; exact .int _
  | .str _, _, _, h => by cases h; exact .str _
  | .list ds, _, n, h => by
    cases h with
    | lst _ e ha => exact .lst (SqL.of e) (DqAll.dp (by simpa [noD] using n) ha)
  | .tuple ds, _, n, h => by
    cases h with
    | tup hs ha => exact .tup hs (DqAll.dp (by simpa [noD] using n) ha)
  | .dict _, _, n, _ => by simp [noD] at n
theorem DqAll.dp {K : PySem.W.Frag} {p : Addr} {H : Hp} : ∀ {ds : List PyData} {vs : List V}, noDs ds = true → DqAll K p H vs ds → DpAll K H vs ds
  | [], _, _, h => by cases h; exact .nil
  | d :: ds, _, n, h => by
    cases h with
    | cons h1 h2 =>
      have n' : noD d = true ∧ noDs ds = true := by simpa [noDs] using n
      exact .cons (Dq.dp n'.1 h1) (DqAll.dp n'.2 h2)
end
theorem dq_ty {K : PySem.W.Frag} {p : Addr} {H : Hp} {v : V} {d : PyData} (h : Dq K p H v d) : TyX K H v (.type (tyN d)) := by
  cases h with
  | non => exact .base .non
  | bl b => exact .base (.bl b)
  | int i => exact .base (.int i)
  | str x => exact .base (.str x)
  | lst n hs ha => exact .base (.lst hs)
  | tup hs ha =>
    rcases hs with (e | ⟨o, e⟩) | ⟨o, its, n, hk, hc, _⟩
    · exact .base (.tup e)
    · exact .fTuple e
    · exact .kTuple hk hc
  | dct n e z => exact .base (.dK e)
section
variable {X : Cx}
def rIsQ (K : PySem.W.Frag) : List V → Hp → VK → Prop := fun xs H Q => ∃ (v : V) (n : String) (p : Addr) (d : PyData) (b : Bool), xs = [v, .ty n] ∧ Dq K p H v d ∧ kitB (tyN d) n = some b ∧ Q (.bl b) H
theorem call_isQ : CallR X (.builtin "isinstance") (rIsQ X.K) := by
  intro pins s σ H xs us Q I r h
  obtain ⟨v, n, p, d, b, e, hd, hk, q⟩ := h
  exact call_isi pins s σ H xs us Q I r ⟨v, .ty n, _, _, _, e, .ty n, dq_ty hd, kit_ty hk, q⟩
/-- is the data one of these texts -/
def inS (d : PyData) (ss : List Str) : Bool := match d with
  | .str x => ss.any (· == x)
  | _ => false
theorem isTuple_of {pins : List (Addr × Obj)} {σ : L2.St} {H : Hp} {s : Shared} {a : Addr} {xs : List V} (I : Inv X pins σ H s) (h : SqT X.K H a xs) : ∃ its : Array Value, Vals xs its.toList ∧ s.heap.IsTuple a its := by
  rcases h with h | ⟨o, its, n, hk, hc, hd, hz, hv⟩
  · obtain ⟨_, its, hv, ht⟩ := h.ok I.hok
    exact ⟨its.toArray, by simpa using hv, ht⟩
  · exact ⟨its, hv, o, I.kIn _ _ hk, hc, n, hd⟩
theorem vals_strs : ∀ {ss : List Str} {us : List Value}, Vals (ss.map V.str) us → ∃ ts : List (Str × Tok), us = ts.map (fun z => .str z.1 z.2) ∧ ts.map (·.1) = ss
  | [], us, h => by
    generalize e : ([] : List Str).map V.str = vs at h
    cases h with
    | nil => exact ⟨[], rfl, rfl⟩
    | cons r h => cases e
  | x :: ss, us, h => by
    generalize e : (x :: ss).map V.str = vs at h
    cases h with
    | nil => cases e
    | cons r h =>
      obtain ⟨rfl, rfl⟩ := List.cons.inj e
      obtain ⟨ts, rfl, rfl⟩ := vals_strs h
      obtain ⟨t, rfl⟩ := r
      exact ⟨(x, t) :: ts, rfl, rfl⟩
def rInQ (K : PySem.W.Frag) : R2 := fun x y H Q => ∃ (p a : Addr) (ss : List Str) (d : PyData), y = .ref a ∧ SqT K H a (ss.map V.str) ∧ Dq K p H x d ∧ Q (.bl (inS d ss)) H
theorem op_inQ (hu : X.A.units + 66 < cLine) : OpR X (compareOp .In) (rInQ X.K) := by
  rintro pins s σ H x y v u Q I rv ru ⟨p, a, ss, d, rfl, ht, hd, q⟩
  obtain rfl : u = .ref a := ru
  obtain ⟨its, hv, hit⟩ := isTuple_of I ht
  obtain ⟨ts, e1, e2⟩ := vals_strs hv
  have room : X.A.in1.units < cLine := by
    show X.A.units + 1 < cLine
    omega
  refine SeqAt.in_tupleAt (fun y => match y with | .str w _ => inS d [w] | _ => false) hit (fun y hy => ?_) ?_
  · have hy' : y ∈ its.toList := by simpa using hy
    rw [e1] at hy'
    obtain ⟨⟨w, t⟩, _, rfl⟩ := List.mem_map.mp hy'
    show SeqAt.EqAt X.A.in1 s (.str w t) v (inS d [w])
    cases hd with
    | non =>
      obtain rfl : v = .none := rv
      exact SeqAt.EqAt.str_none _ _
    | bl b =>
      obtain rfl : v = .bool b := rv
      exact SeqAt.EqAt.str_bool _ _ _
    | int i =>
      obtain ⟨t', rfl⟩ := rv
      exact SeqAt.EqAt.str_int _ _ _ _
    | str x =>
      obtain ⟨t', rfl⟩ := rv
      have e : inS (.str x) [w] = (w == x) := by simp [inS]
      rw [e]
      exact SeqAt.EqAt.str_str _ _ _ _
    | lst n e ha =>
      rename_i l xs ds
      obtain rfl : v = .ref l := rv
      obtain ⟨_, its', n', hv', ho⟩ := I.hok _ _ e
      exact SeqAt.EqAt.str_list (items := its'.toArray) _ _ ⟨_, ho, rfl, n', rfl⟩ room
    | tup hs ha =>
      rename_i l xs ds
      obtain rfl : v = .ref l := rv
      obtain ⟨its', hv', ho⟩ := isTuple_of I hs
      exact SeqAt.EqAt.str_tuple (items := its') _ _ ho room
    | dct n e z =>
      rename_i l kvs ds
      obtain rfl : v = .ref l := rv
      obtain ⟨_, _, vs, _, o, es, ep, h1, h2, h3, _⟩ := I.hok _ _ e
      exact eq_str_dict _ _ h1 h2.1 h3 room
  · refine ⟨.bl (inS d ss), H, I, ?_, q⟩
    show Value.bool _ = Value.bool _
    congr 1
    rw [← Array.any_toList, e1, ← e2, List.any_map]
    cases d <;> simp [inS, Function.comp_def]

mutual
/-- data whose text is made without trouble: only empty dicts -/
def fineQ : PyData → Prop
  | .int i => i.natAbs < 10 ^ 180
  | .str x => (x.cps.toList.all fun c => decide (c < 16 ^ 8)) = true
  | .list xs => finesQ xs
  | .tuple xs => finesQ xs
  | .dict ds => ds = []
  | _ => True
def finesQ : List PyData → Prop
  | [] => True
  | x :: xs => fineQ x ∧ finesQ xs
end
mutual
theorem fineQ_ok : ∀ d : PyData, fineQ d → d.showable = true ∧ d.leavesShort 200 = true
  | .none, _ => by simp [PyData.showable, PyData.leavesShort]
  | .bool _, _ => by simp [PyData.showable, PyData.leavesShort]
  | .int i, h => by
    simp only [fineQ] at h
    simp only [PyData.showable, PyData.leavesShort, decide_eq_true_eq]
    exact ⟨int_log h, shown_int h⟩
  | .str x, h => by
    simp only [fineQ] at h
    simp only [PyData.showable, PyData.leavesShort, true_and]
    exact h
  | .list xs, h => by
    simp only [fineQ] at h
    simp only [PyData.showable, PyData.leavesShort]
    exact finesQ_ok xs h
  | .tuple xs, h => by
    simp only [fineQ] at h
    simp only [PyData.showable, PyData.leavesShort]
    exact finesQ_ok xs h
  | .dict ds, h => by
    simp only [fineQ] at h
    subst h
    simp [PyData.showable, PyData.showableKv, PyData.leavesShort, PyData.leavesShortKv]
theorem finesQ_ok : ∀ xs : List PyData, finesQ xs → PyData.showableAll xs = true ∧ PyData.leavesShortAll 200 xs = true
  | [], _ => by simp [PyData.showableAll, PyData.leavesShortAll]
  | x :: xs, h => by
    simp only [finesQ] at h
    obtain ⟨a1, a2⟩ := fineQ_ok x h.1
    obtain ⟨b1, b2⟩ := finesQ_ok xs h.2
    simp only [PyData.showableAll, PyData.leavesShortAll, a1, a2, b1, b2, Bool.and_self, and_self]
end
mutual
theorem Dq.reads {p : Addr} {pins : List (Addr × Obj)} {σ : L2.St} {H : Hp} {s : Shared} (I : Inv X pins σ H s) (hs : H sysModules = none) : ∀ (d : PyData) (v : V) (u : Value), fineQ d → Dq X.K p H v d → RelV v u → ∃ as, Reads s.heap u d as ∧ sysModules ∉ as
  | .none, _, u, _, h, r => by
    cases h
    obtain rfl : u = .none := r
    exact ⟨_, .none, by simp⟩
  | .bool b, _, u, _, h, r => by
    cases h
    obtain rfl : u = .bool b := r
    exact ⟨_, .bool b, by simp⟩
  | .int i, _, u, _, h, r => by
    cases h
    obtain ⟨t, rfl⟩ := r
    exact ⟨_, .int i t, by simp⟩
  | .str x, _, u, _, h, r => by
    cases h
    obtain ⟨t, rfl⟩ := r
    exact ⟨_, .str x t, by simp⟩
  | .list ds, _, u, f, h, r => by
    cases h with
    | lst n e ha =>
      rename_i l xs
      obtain rfl : u = .ref l := r
      obtain ⟨_, its', n', hv', ho⟩ := I.hok _ _ e
      obtain ⟨as, ra, na⟩ := DqAll.reads I hs ds xs its' (by simpa only [fineQ] using f) ha hv'
      refine ⟨_, .list ho rfl rfl (by simpa using ra), ?_⟩
      intro z
      rcases List.mem_cons.mp z with z | z
      · rw [z, e] at hs
        cases hs
      · exact na z
  | .tuple ds, _, u, f, h, r => by
    cases h with
    | tup ht ha =>
      rename_i l xs
      obtain rfl : u = .ref l := r
      obtain ⟨its', hv', o, h1, h2, n, h3⟩ := isTuple_of I ht
      obtain ⟨as, ra, na⟩ := DqAll.reads I hs ds xs its'.toList (by simpa only [fineQ] using f) ha hv'
      exact ⟨_, .tuple h1 h2 h3 ra, na⟩
  | .dict ds, _, u, f, h, r => by
    cases h with
    | dct n e z =>
      rename_i l kvs
      obtain rfl : u = .ref l := r
      simp only [fineQ] at f
      subst f
      obtain rfl := z rfl
      obtain ⟨_, _, vs, kv, o, es, ep, h1, h2, h3, _, h4, _⟩ := I.hok _ _ e
      generalize ek : ([] : List (Key × V)) = kk at kv
      cases kv with
      | cons _ _ => cases ek
      | nil =>
        generalize ee : es.toList = el at h4
        cases h4
        have e0 : es = #[] := by
          apply Array.ext'
          simpa using ee
        subst e0
        refine ⟨_, .dict (as := []) (bs := []) h1 h2.1 h3 (by simpa using .nil) (by simpa using .nil), ?_⟩
        intro y
        have y' : sysModules = l := by simpa using y
        rw [y', e] at hs
        cases hs
theorem DqAll.reads {p : Addr} {pins : List (Addr × Obj)} {σ : L2.St} {H : Hp} {s : Shared} (I : Inv X pins σ H s) (hs : H sysModules = none) : ∀ (ds : List PyData) (vs : List V) (us : List Value), finesQ ds → DqAll X.K p H vs ds → Vals vs us → ∃ as, ReadsAll s.heap us ds as ∧ sysModules ∉ as
  | [], _, us, _, h, r => by
    cases h
    generalize e : ([] : List V) = l at r
    cases r with
    | nil => exact ⟨_, .nil, by simp⟩
    | cons _ _ => cases e
  | d :: ds, _, us, f, h, r => by
    cases h with
    | cons h1 h2 =>
      rename_i v vs
      generalize e : v :: vs = l at r
      cases r with
      | nil => cases e
      | cons r1 r2 =>
        obtain ⟨rfl, rfl⟩ := List.cons.inj e
        simp only [finesQ] at f
        obtain ⟨as, ra, na⟩ := Dq.reads I hs d _ _ f.1 h1 r1
        obtain ⟨bs, rb, nb⟩ := DqAll.reads I hs ds _ _ f.2 h2 r2
        exact ⟨_, .cons ra rb, by simp [na, nb]⟩
end
/-- the written part holds the table of modules -/
def Sys (base : Heap) : Prop := ∃ o, base.get? sysModules = some o
theorem Inv.nosys {pins : List (Addr × Obj)} {σ : L2.St} {H : Hp} {s : Shared} (I : Inv X pins σ H s) (hb : Sys X.base) : H sysModules = none := by
  obtain ⟨o, hb⟩ := hb
  obtain ⟨h1, h2⟩ := I.ok.bs _ _ hb
  exact I.base.free _ _ h1 h2 (I.ok.noex _ _ hb)
def rReprQ (K : PySem.W.Frag) : List V → Hp → VK → Prop := fun xs H Q => ∃ (p : Addr) (v : V) (d : PyData), xs = [v] ∧ Dq K p H v d ∧ fineQ d ∧ d.depth ≤ 64 ∧ d.bulk ≤ 80000 ∧ Q (.str d.shown) H
theorem call_reprQ (hb : Sys X.base) (hg : X.A.guards = some []) (hu : X.A.units + 66 < cLine) : CallR X (.builtin "repr") (rReprQ X.K) := by
  intro pins s σ H xs us Q I r h
  obtain ⟨p, v, d, rfl, hd, hf, hdep, hw, q⟩ := h
  obtain ⟨hs, hl⟩ := fineQ_ok d hf
  have hz : d.shown.length ≤ sizeLine := by
    have := PyData.shown_le_bulk 200 (by decide) d hl
    rw [sizeLine_eq]
    omega
  obtain ⟨u, rfl, ru⟩ := vals1 r
  obtain ⟨as, hr, hsm⟩ := Dq.reads I (Inv.nosys I hb) d v u hf hd ru
  cases hr with
  | none => exact P.repr_of_none ⟨.str _, H, I.tok _, ⟨_, rfl⟩, q⟩
  | bool b => exact P.repr_of_bool ⟨.str _, H, I.tok _, ⟨_, rfl⟩, q⟩
  | int i t => exact P.repr_of_int (by simpa [PyData.showable] using hs) ⟨.str _, H, I.tok _, ⟨_, rfl⟩, q⟩
  | str x t => exact P.repr_of_str ⟨.str _, H, I.tok _, ⟨_, rfl⟩, q⟩ (by simpa only [PyData.shown] using hz)
  | list h1 h2 h3 h4 =>
    refine repr_of_reads' (h₀ := s.heap) (.list h1 h2 h3 h4) hs (fun _ => hsm) hg (by omega) (fun _ _ e => e) (fun h' u' tk hk => ?_) hz
    exact ⟨.str _, H, I.kept hk, ⟨_, rfl⟩, q⟩
  | tuple h1 h2 h3 h4 =>
    refine repr_of_reads' (h₀ := s.heap) (.tuple h1 h2 h3 h4) hs (fun _ => hsm) hg (by omega) (fun _ _ e => e) (fun h' u' tk hk => ?_) hz
    exact ⟨.str _, H, I.kept hk, ⟨_, rfl⟩, q⟩
  | dict h1 h2 h3 h4 h5 =>
    refine repr_of_reads' (h₀ := s.heap) (.dict h1 h2 h3 h4 h5) hs (fun _ => hsm) hg (by omega) (fun _ _ e => e) (fun h' u' tk hk => ?_) hz
    exact ⟨.str _, H, I.kept hk, ⟨_, rfl⟩, q⟩

def rInLD (K : PySem.W.Frag) : R2 := fun x y H Q => ∃ (ds : List PyData) (d : PyData), Dp K H y (.list ds) ∧ Dp K H x d ∧ PyData.canLayAll0 ds = true ∧ d.canLay0 = true ∧ d.depth ≤ 60 ∧ Q (.bl (ds.any fun e => e.eqv d)) H
theorem op_inLD (hu : X.A.units + 66 < cLine) : OpR X (compareOp .In) (rInLD X.K) := by
  rintro pins s σ H x y v u Q I rv ru ⟨ds, d, hy, hx, c1, c2, c3, q⟩
  obtain ⟨as, r1⟩ := Dp.reads I _ _ _ hy ru
  obtain ⟨bs, r2⟩ := Dp.reads I _ _ _ hx rv
  refine SeqAt.in_list_reads r1 r2 c1 c2 ?_ ⟨.bl _, H, I, rfl, q⟩
  have : min (PyData.depthAll ds) d.depth ≤ 60 := Nat.le_trans (Nat.min_le_right _ _) c3
  omega

end
end Rp

namespace Rp
open PySem L2 PyProof.Rows
theorem law_endS {l : PySem.W.OpenLaw} {n k : Nat} {q : Program} {loose : List Str} {XP : (Str → Option Value) → Heap → Prop} {YP : World → Heap → Prop} {d : DefRec} {K : Params → PySem.W.Frag} {sp : PySem.W.Frag → Sp} {x : Str}
    (hn : l.most = some n) (hn2 : n ≤ sizeLine) (hdf : d.params.defaults = []) (hr : Room k callerA) (himp : importsNone q = true)
    (hY : ∀ (w : World) (h : Heap), YP w h → (K w.params).In h)
    (F : ∀ (w : World) (mg : Str → Option Value) (fa : Addr) (h : Heap), (K w.params).In h → h.Ns mainGlobals mg → mg d.name = some (.ref fa) →
      ∃ fd : FuncData, (∀ (s : Shared) (u : Value), BindsTo s fd ⟨[u], []⟩ [(x, u)]) ∧
        ∀ base : Heap, (K w.params).In base → base.Ns mainGlobals mg → Sys base → FnG l.prog w (K w.params) mg base CX0 k fa fd [x] (sp (K w.params)))
    (hsp : ∀ (K : PySem.W.Frag) (H : Hp) (a : Addr) (ns : List Int), ns.length ≤ n → Only H → SqL K H a (ns.map V.int) → sp K [.ref a] H (fun v _ => v = .bl true) fun _ _ _ => False) :
    PySem.W.WalkO q loose XP YP l.row.toRowW d [] (fun f vs => PySem.call f vs) := by
  refine Att.attach_call hn hdf fun w s₀ s₁ mg mb fa o pm cd doc a vs ns G Y ho hd hcd hmg hobj hints hlen hgens => ?_
  have kin := hY w _ Y
  obtain ⟨fd, bd, FF⟩ := F w mg fa _ kin G.T.g hmg
  obtain ⟨H, hO, hS, hok, only, notK⟩ := script_heap (P := l.prog) (w := w) kin hobj hints (Nat.le_trans hlen hn2)
  have free : ∀ {b : Addr} {ob : Obj} {es : Array DictEntry} {ep : Nat}, s₁.heap.get? b = some ob → ob.data = .dict es ep → H b = none := by
    intro b ob es ep h1 h2
    cases c : H b with
    | none => rfl
    | some u =>
      have e : b = a := only b (by rw [c]; exact fun z => nomatch z)
      rw [e, hobj] at h1
      have h3 := congrArg Obj.data (Option.some.inj h1)
      rw [h2] at h3
      exact nomatch h3
  have ns' : ∀ {b : Addr} {m : Str → Option Value}, s₁.heap.Ns b m → (hidT s₁.heap H).Ns b m := by
    rintro b m ⟨ob, es, ep, h1, h2, h3⟩
    exact ⟨ob, es, ep, hidT_get h1 (free h1 h2), h2, h3⟩
  have kinB : (K w.params).In (hidT s₁.heap H) := fun b ob e => hidT_get (kin b ob e) (notK b ob e)
  have lim : (hidT s₁.heap H).NoLimit := by
    obtain ⟨mc, h1, h2⟩ := G.T.nolimit
    exact ⟨mc, ns' h1, h2⟩
  have sys : Sys (hidT s₁.heap H) := by
    obtain ⟨mm, hm, _⟩ := (G.T.seer himp).mods
    obtain ⟨ob, es, ep, h1, _⟩ := ns' hm
    exact ⟨ob, h1⟩
  have en : Env0 l.prog w (K w.params) mg (hidT s₁.heap H) callerA [] s₁ H :=
    ⟨rfl, ⟨kinB, ns' G.T.g, ⟨mb, ns' G.T.b, G.T.builtins⟩, lim⟩, fun b ob e => of_hidT e, Nat.le_of_eq (hidT_size _ _), trivial, (fun b z => nomatch z), hok, .of_eq hgens⟩
  refine codeAny_mono ((FF _ kinB (ns' G.T.g) sys).run callerA [] s₁ H ⟨[.ref a], []⟩ [.ref a] [.ref a] _ _ hr rfl en (bd s₁ (.ref a)) (.cons rfl .nil) (hsp _ H a ns hlen hO hS)) fun r s' z => ?_
  cases r with
  | error e => exact False.elim z
  | ok fl =>
    cases fl with
    | next => exact False.elim z
    | brk => exact False.elim z
    | cont => exact False.elim z
    | ret u =>
      obtain ⟨v, H', os, bare, un, hok', rr, e⟩ := z
      have e' : v = .bl true := e
      subst e'
      obtain rfl : u = Value.bool true := rr
      refine ⟨rfl, OldK.of_keep fun b ob hb => ?_, os, bare⟩
      cases c : H b with
      | none => exact un.keep b ob hb c (fun z => nomatch z) (fun z => nomatch z)
      | some u =>
        rcases hO b with z | ⟨ox, xs, z⟩
        · rw [c] at z
          cases z
        · obtain ⟨e1, _⟩ := hok b _ z
          obtain ⟨e2, _⟩ := hok' b _ (un.frzs b ox _ z)
          rw [hb] at e1
          cases e1
          exact e2
end Rp
/-! Ex: errors: what a clause names, calls that raise nothing after all. -/
namespace Rp
open PySem L2 PyProof.Rows
/-- an error of the class S is what «except T» names, when S stands below T -/
theorem exm_sub {K : PySem.W.Frag} {S T : Addr} {b : Bool} (h1 : PySem.W.subIn K (.ref T) (.type "BaseException") = some true) (h2 : PySem.W.isClsIn K T = true) (h3 : PySem.W.typeIn K (.ref T) = some (.type "type")) (h4 : PySem.W.subIn K (.ref S) (.ref T) = some b) :
    PySem.W.exmOne K (.ref S) (.ref T) = some b := by
  have e1 : (PySem.W.subIn K (.ref T) (.type "BaseException") == some true) = true := by rw [h1] <;> rfl
  have e2 : ((PySem.W.clsIn K T).isSome && PySem.W.typeIn K (.ref T) == some (.type "type")) = true := by
    have h2' : (PySem.W.clsIn K T).isSome = true := h2
    rw [h2', h3] <;> rfl
  show (if (PySem.W.subIn K (.ref T) (.type "BaseException") == some true) = true then (if ((PySem.W.clsIn K T).isSome && PySem.W.typeIn K (.ref T) == some (.type "type")) = true then PySem.W.subIn K (.ref S) (.ref T) else none) else none) = some b
  rw [if_pos e1, if_pos e2]
  exact h4
/-- a def that may raise, called where it does not -/
theorem passN {X : Cx} : Passes (L2.CX X.prog X.w) X E0 := by
  rintro pins σ H s e s' _ ⟨_, _, _, _, _, _, _, _, _, _, _, _, h⟩
  exact h.elim
/-- the heap without what stands at L -/
def mask (H : Hp) (L : Addr) : Hp := fun b => if b = L then none else H b
theorem same_mask (H : Hp) (L : Addr) : Same (mask H L) H := fun b o h => by
  unfold mask at h
  split at h
  · cases h
  · exact h
theorem mask_new {H : Hp} {L : Addr} {o : HO} (h : H L = none) : Same H (mask (upd H L o) L) := fun b u e => by
  have n : b ≠ L := fun z => by rw [z, h] at e; cases e
  show (if b = L then none else upd H L o b) = some u
  rw [if_neg n, upd_ne n]
  exact e
theorem mask_upd {H : Hp} {L : Addr} {o : HO} : mask (upd H L o) L = mask H L := by
  funext b
  unfold mask
  split
  · rfl
  · rename_i n
    exact upd_ne n
theorem mask_mono {H H' : Hp} {L : Addr} (s : Same H H') : Same (mask H L) (mask H' L) := fun b o h => by
  unfold mask at h ⊢
  split at h
  · cases h
  · rename_i n
    rw [if_neg n]
    exact s b o h
theorem mask_at {H : Hp} {L b : Addr} {o : HO} (n : b ≠ L) (h : H b = some o) : mask H L b = some o := by
  unfold mask
  rw [if_neg n]
  exact h
theorem mask_none {H : Hp} {L : Addr} : mask H L L = none := by
  unfold mask
  rw [if_pos rfl]
theorem sx_mask {H : Hp} {L : Addr} : Sx L H (mask H L) := fun b o n h => mask_at n h
end Rp
/-! En: enumerate over a tuple. -/
namespace Rp
open PySem L2 PyProof.Rows
theorem both {M : Model} {A : Around} {α : Type} {Q : α → Shared → Prop} {E : Value → Shared → Prop} {s : Shared} {f : Bool → Sem α} {b : Bool} (h : ∀ b, wpAny M A (f b) Q E s) : wpAny M A (f b) Q E s := h b
theorem meets_enumerate_newT (l : Addr) (items : Array Value) : Meets (Builtin.«enumerate.__new__» { pos := [Value.type "enumerate", Value.ref l] }) fun _ R s => s.heap.IsTuple l items ∧
    R (.ok (.ret (.ref (s.heap.push { cls := .type "tuple_iterator", data := .fields #[.ref l, .int 0 0] }).objs.size)))
      { s with heap := (s.heap.push { cls := .type "tuple_iterator", data := .fields #[.ref l, .int 0 0] }).push { cls := .type "enumerate", data := .fields #[.none, .bool false, .ref s.heap.objs.size, rawInt 0, .none, .none] } } := by
  refine Meets.of_wp fun prog w A R s hh => ?_
  obtain ⟨hl, h⟩ := hh
  have hsub := sub_enumerate
  obtain ⟨hp, g, d, tk, os⟩ := s
  refine wpAny_bind ?_
  refine wpAny_bind (wpAny_pure ?_)
  refine wpAny_ite_false rfl ?_
  refine wpAny_bind (wpAny_of_eq hsub ?_)
  refine wpAny_ite_false rfl ?_
  refine wpAny_pure ?_
  refine wpAny_ite_true rfl ?_
  refine wpAny_bind ?_
  refine wpAny_bind (wpAny_stack_any fun st => ?_)
  refine wpAny_pure ?_
  have fin : wpAny (model prog w) A.in1 (do
              let __do_lift ← pyIter (Value.ref l)
              let __do_lift ←
                Builtin.SmallTypes.newRecord (Value.type "enumerate")
                    (Builtin.SmallTypes.ownedTupleFields ++ [__do_lift, rawInt 0, Value.none, Value.none])
              ret __do_lift) (fun fin s' => ∃ v, fin = Fin.done (Flow.ret v) ∧ R (Except.ok (Flow.ret v)) s') (fun e s' => R (Except.error e) s')
    { heap := hp, gens := g, drawn := d, toks := tk, os := os } := by
    refine wpAny_bind (wpAny_pyIter_tuple hl ?_)
    refine wpAny_bind ?_
    unfold Builtin.SmallTypes.newRecord
    refine wpAny_newObj_type ?_ (by show (6 : Nat) ≤ sizeLine + 2; decide)
    exact wpAny_pure ⟨_, rfl, h⟩
  split
  · generalize (_ == Value.type "enumerate") = short
    cases short with
    | true =>
      refine wpAny_ite_true rfl ?_
      refine wpAny_bind (wpAny_pure ?_)
      exact fin
    | false =>
      refine wpAny_ite_false rfl ?_
      refine wpAny_bind (wpAny_pure ?_)
      exact fin
  · refine wpAny_ite_false rfl ?_
    refine wpAny_bind (wpAny_pure ?_)
    exact fin
theorem call_enumerate_tup {prog : Program} {w : World} {A : Around} {E : Value → Shared → Prop} {s : Shared} {l : Addr} {items : Array Value} {Q : Value → Shared → Prop} (hl : s.heap.IsTuple l items)
    (h : ∀ h' : Heap, IsEnum h' (s.heap.objs.size + 1) s.heap.objs.size 0 .none → h'.IsTupleIter s.heap.objs.size l 0 → h'.objs.size = s.heap.objs.size + 2 → (∀ (b : Addr) (o : Obj), s.heap.get? b = some o → h'.get? b = some o) →
      Q (.ref (s.heap.objs.size + 1)) { s with heap := h' }) : wpAny (model prog w) A (call (.type "enumerate") [.ref l]) Q E s := by
  refine callType_new F.called_enumerate (by decide) (F.typeCall_enumerate_1 _) (F.newCall_enumerate_1 _) (fun _ => F.args_object_init_2 _ _) F.entry_enumerate_new (meets_enumerate_newT l items) ?_
  refine ⟨hl, ?_⟩
  have e1 : (s.heap.push { cls := .type "tuple_iterator", data := .fields #[.ref l, .int 0 0] }).objs.size = s.heap.objs.size + 1 := Heap.size_push ..
  have g1 := Heap.get?_push_size s.heap (o := { cls := .type "tuple_iterator", data := .fields #[.ref l, .int 0 0] }) rfl
  have g2 := Heap.get?_push_size (s.heap.push { cls := .type "tuple_iterator", data := .fields #[.ref l, .int 0 0] }) (o := { cls := .type "enumerate", data := .fields #[.none, .bool false, .ref s.heap.objs.size, rawInt 0, .none, .none] }) rfl
  rw [e1] at g2
  rw [e1]
  refine ⟨⟨_, g2, rfl⟩, h _ g2 ⟨_, Heap.get?_push_of_some _ g1, rfl, rfl⟩ ?_ fun b o e => Heap.get?_push_of_some _ (Heap.get?_push_of_some _ e)⟩
  rw [Heap.size_push, Heap.size_push]
theorem draws_tup {prog : Program} {w : World} {A : Around} (hh : A.handled = none) (it t : Addr) (hne : t ≠ it) (items : Array Value) :
    Draws prog w A it [it, t] items.size (fun i v => items[i]? = some v) (fun i h => h.IsTupleIter it t i ∧ h.IsTuple t items) where
  live := fun i h ⟨⟨o, ho, _⟩, _⟩ => ⟨o, ho⟩
  frame := fun i h h' ⟨⟨o, ho, h1⟩, ⟨o2, ho2, h2⟩⟩ k => ⟨⟨o, k it (by simp) o ho, h1⟩, ⟨o2, k t (by simp) o2 ho2, h2⟩⟩
  item := fun i s Q E hi ⟨h1, h2⟩ q => by
    obtain ⟨o2, ho2, h3⟩ := id h2
    refine RZ.nextOf_tuple_item h1 h2 (Array.getElem?_eq_getElem hi) fun h' h4 sb => ?_
    exact q _ h' s.toks (Array.getElem?_eq_getElem hi) ⟨h4, o2, (sb.2 t hne).trans ho2, h3⟩ sb
  done := fun s Q E ⟨h1, h2⟩ q => RZ.nextOf_tuple_end hh h1 h2 (Array.getElem?_eq_none (Nat.le_refl _)) fun h' e x k => q h' e x k
theorem draws_end {prog : Program} {w : World} {A : Around} (hh : A.handled = none) (it t : Addr) (items : Array Value) {i : Nat} (hi : items.size ≤ i) :
    Draws prog w A it [it, t] i (fun _ _ => False) (fun j h => j = i ∧ h.IsTupleIter it t i ∧ h.IsTuple t items) where
  live := fun _ h ⟨_, ⟨o, ho, _⟩, _⟩ => ⟨o, ho⟩
  frame := fun _ h h' ⟨e, ⟨o, ho, h1⟩, ⟨o2, ho2, h2⟩⟩ k => ⟨e, ⟨o, k it (by simp) o ho, h1⟩, ⟨o2, k t (by simp) o2 ho2, h2⟩⟩
  item := fun j s Q E hj ⟨e, _⟩ _ => absurd hj (by omega)
  done := fun s Q E ⟨_, h1, h2⟩ q => RZ.nextOf_tuple_end hh h1 h2 (Array.getElem?_eq_none hi) fun h' e x k => q h' e x k
def IteT (K : PySem.W.Frag) (a : Addr) : It where
  go := fun i H => ∃ xs x, SqT K H a xs ∧ xs[i]? = some x
  yld := fun i H v H' => ∃ T x, v = V.ref T ∧ H T = none ∧ H' = upd H T (.tup [.int (i : Nat), x]) ∧ ∀ xs : List V, SqT K H a xs → xs[i]? = some x
  stop := fun i H => ∃ xs, SqT K H a xs ∧ xs.length ≤ i
theorem turn_enumT {P : Program} {w : World} {K : PySem.W.Frag} {elts : List Expr} {kk : Nat} {tpos : Pos} (a e it : Addr) :
    Turn P w K (.Tuple elts kk tpos) (IteT K a) [e, it] e fun i h => (∃ old, IsEnum h e it (i : Nat) old) ∧ h.IsTupleIter it a i ∧ e ≠ it ∧ a ≠ it ∧ a ≠ e := by
  refine ⟨by simp, ?_, ?_, ?_, ?_, ?_⟩
  · rintro i h ⟨⟨old, he⟩, ⟨o, ho, h1, h2⟩, hne⟩ b hb
    simp only [List.mem_cons, List.not_mem_nil, or_false] at hb
    rcases hb with rfl | rfl
    · exact ⟨_, he, fun v z => by cases z⟩
    · exact ⟨o, ho, fun v z => by rw [h2] at z; cases z⟩
  · rintro i h h' ⟨⟨old, he⟩, ⟨o, ho, h1, h2⟩, hne⟩ k
    exact ⟨⟨old, k e (by simp) _ he⟩, ⟨o, k it (by simp) _ ho, h1, h2⟩, hne⟩
  · rintro X rfl rfl rfl hcalm i pins s σ H E I fp ⟨⟨old, he⟩, hit, hne, ha1, ha2⟩ ⟨xs, x, hx, hxi⟩
    obtain ⟨its, hvals, ht, hz⟩ := I.tuple hx
    have hh : X.A.handled = none := I.ok.hd hcalm
    have W := WalksT.enumerateD (prog := X.prog) (w := X.w) (A := X.A) (draws_tup (A := X.A.in1) hh it a ha1 its.toArray) e hne (by simp [hne, Ne.symm ha2]) (by simp)
    obtain ⟨u, hu, hru⟩ := hvals.get hxi
    have hlt : i < its.length := (List.getElem?_eq_some_iff.mp hu).1
    refine W.item i s _ E (by simpa using hlt) ⟨⟨old, he⟩, hit, ht⟩ (fun T vals h' tk hv hT hTup hMid fr => ⟨_, rfl, ?_⟩)
    refine W.go elts kk tpos i T _ _ E hMid (fun h'' hSt fr2 => ?_)
    obtain ⟨tt, y, hy, rfl⟩ := hv
    have hy' : its[i]? = some y := by simpa using hy
    rw [hu] at hy'
    obtain rfl := Option.some.inj hy'
    have hTn : ¬ T ∈ [e, it] := W.apart i T h' hMid
    obtain ⟨oT, g1, g2, n, g3⟩ := hTup
    have fT : H T = none := I.hok.fresh hT
    refine ⟨.ref T, upd H T (.tup [.int (i : Nat), x]), I.turnedNew (ch := [e, it]) (h' := h'') (fun b o hb ho => fr2 b o hb (fr b o hb ho)) fp hT ?_, rfl, ⟨T, x, rfl, fT, rfl, fun ys hys => by rw [I.tuple_inj hys hx]; exact hxi⟩, ⟨hSt.1, hSt.2.1, hne, ha1, ha2⟩, fun b hb => ?_⟩
    · exact ⟨(by show 2 ≤ sizeLine; decide), [_, _], .cons ⟨_, rfl⟩ (.cons hru .nil), oT, fr2 T oT hTn g1, g2, n, g3⟩
    · have nb : b ≠ T := fun z => hTn (z ▸ hb)
      rw [upd_ne nb]
      exact (fp b hb).1
  · rintro X rfl rfl rfl hcalm i pins s σ H E I fp ⟨⟨old, he⟩, hit, hne, ha1, ha2⟩ ⟨xs, hx, hxi⟩
    obtain ⟨its, hvals, ht, hz⟩ := I.tuple hx
    have hh : X.A.handled = none := I.ok.hd hcalm
    have hl : its.toArray.size ≤ i := by
      rw [List.size_toArray, ← hvals.length]
      exact hxi
    have W := WalksT.enumerateD (prog := X.prog) (w := X.w) (A := X.A) (draws_end (A := X.A.in1) hh it a its.toArray hl) e hne (by simp [hne, Ne.symm ha2]) (by simp)
    exact W.done s _ E ⟨⟨old, he⟩, rfl, hit, ht⟩ (fun h' tk fr => ⟨rfl, I.turnedL (ch := [e, it]) fr fp⟩)
  · rintro A i s Q E ⟨⟨old, he⟩, hit, hne⟩ q
    exact wpAny_pyIter_enum he q
section
variable {X : Cx}
def iEnumT (K : PySem.W.Frag) (ta : TA) : TI := fun σ H R => ta σ H fun vs H1 => ∃ a xs, vs = [V.ref a] ∧ SqT K H1 a xs ∧ R (IteT K a) H1
theorem pi_enumT {e : Expr} {ta : TA} {p pos tpos : Pos} {elts : List Expr} {kk : Nat} (hg : Gl X "enumerate") (hm : X.mg "enumerate" = none) (he : PA X [e] ta)
    (hs : starEach [e] X.env = [(false, eval e X.env)] := by rfl) : PI X (.Tuple elts kk tpos) (.Call (.Name "enumerate" p) [e] [] pos) (iEnumT X.K ta) := by
  refine ⟨fun pins s σ H R I h => ?_⟩
  refine Call_ (ld_blt I hg hm boot_enumerate (callWith_type1 (he := hs) (thn (he.run pos pins s σ H _ I h) fun us s1 x => ?_)))
  obtain ⟨vs, H1, I1, r1, a, xs, rfl, hq, q⟩ := x
  cases r1 with
  | cons r rr =>
  cases rr
  cases r
  obtain ⟨its, rv, p', hz⟩ := I1.tuple hq
  have hlt : a < s1.heap.objs.size := by
    obtain ⟨o, ho, _⟩ := p'
    exact Heap.lt_size ho
  refine call_enumerate_tup p' fun h' he hit hsz hk => wpAny_pyIter_enum he ?_
  have I2 := I1.kept (t' := s1.toks) hk
  refine ⟨s1.heap.objs.size + 1, [s1.heap.objs.size + 1, s1.heap.objs.size], _, IteT X.K a, H1, rfl, I2, turn_enumT a _ _, ⟨⟨_, he⟩, hit, Nat.succ_ne_self _, Nat.ne_of_lt hlt, Nat.ne_of_lt (Nat.lt_succ_of_lt hlt)⟩, fun b hb => ?_, q⟩
  have hb2 : s1.heap.objs.size ≤ b := by
    simp only [List.mem_cons, List.not_mem_nil, or_false] at hb
    rcases hb with rfl | rfl
    · exact Nat.le_succ _
    · exact Nat.le_refl _
  exact I1.fpOk hb2 (I1.hok.fresh hb2)
end
/-- a comprehension, a loop over it -/
theorem walk_enumT {K : PySem.W.Frag} {a : Addr} {xs : List V} : Walk (IteT K a) xs.length (fun H => SqT K H a xs) (YPair (fun i => some (.int (i : Nat))) (fun i => xs[i]?)) := by
  refine ⟨fun i H hi h => ⟨xs, _, h, List.getElem?_eq_getElem hi⟩, fun H h => ⟨xs, h, Nat.le_refl _⟩, fun i H x H' hi h y => ?_⟩
  obtain ⟨T, z, rfl, hT, rfl, f⟩ := y
  exact ⟨T, _, z, rfl, hT, rfl, rfl, f xs h⟩
end Rp
/-! St: sorted of lists of tuples of ints, of any lengths above 0. -/
namespace Rp
open PySem L2 PyProof.Rows
/-- a tuple of these ints -/
def IsTI (h : Heap) (v : Value) (ns : List Int) : Prop := ∃ (a : Addr) (o : Obj) (its : List Value) (n : Nat), v = .ref a ∧ h.get? a = some o ∧ o.cls = .type "tuple" ∧ o.data = .seq its.toArray n ∧ Vals (ns.map V.int) its
theorem lex_go {prog : Program} {w : World} {A : Around} {s : Shared} {fin : Bool} {Q : Bool → Shared → Prop} : ∀ (xs ys : List Int) (us vs : List Value) (i : Nat), Vals (xs.map V.int) us → Vals (ys.map V.int) vs → fin = decide (xs.length < ys.length) → Q (HT.lexLt xs ys) s →
    W.KatLex prog w A true fin Q (us.zip vs) i s
  | [], [], us, vs, i, hu, hv, hf, q => by
    cases hu
    refine W.kat_nil ?_
    rw [hf]
    exact q
  | [], y :: ys, us, vs, i, hu, hv, hf, q => by
    cases hu
    refine W.kat_nil ?_
    rw [hf]
    exact q
  | x :: xs, [], us, vs, i, hu, hv, hf, q => by
    cases hv
    have e : us.zip ([] : List Value) = [] := by simp
    rw [e]
    refine W.kat_nil ?_
    rw [hf]
    exact q
  | x :: xs, y :: ys, us, vs, i, hu, hv, hf, q => by
    cases hu with
    | cons ru hu =>
    cases hv with
    | cons rv hv =>
    obtain ⟨t, rfl⟩ := ru
    obtain ⟨t', rfl⟩ := rv
    rw [List.zip_cons_cons]
    refine W.kat_cons ?_
    refine SeqAt.EqAt.int_int x t y t' prog w _ _ ?_
    refine W.kat_go (fun e => ?_) (fun e => ?_)
    · have exy : x = y := by simpa using e
      refine W.kat_yes (lex_go xs ys _ _ (i + 1) hu hv ?_ ?_)
      · rw [hf]
        simp
      · rw [HT.lexLt_cons, if_pos exy] at q
        exact q
    · have exy : ¬ x = y := by simpa using e
      rw [HT.lexLt_cons, if_neg exy] at q
      refine W.kat_no ?_
      cases i with
      | zero => exact oneLt_int q
      | succ i => exact W.kat_one _ _ (lt_int q)
theorem ti_cmp {prog : Program} {w : World} {A : Around} {s : Shared} {vs : List Value} {k : Value → List Int} (h : ∀ v ∈ vs, IsTI s.heap v (k v)) :
    SrtO.Cmp prog w A s (tuples' true) (fun p => p.fst ∈ vs) (SrtO.lt2 fun v u => HT.lexLt (k v) (k u)) := by
  intro p q hp hq
  obtain ⟨a, o, its, n, e, ho, hc, hd, hv⟩ := h p.fst hp
  obtain ⟨a', o', its', n', e', ho', hc', hd', hv'⟩ := h q.fst hq
  rw [e, e']
  refine W.kat_lt ho hd ho' hd' ?_
  refine lex_go (k p.fst) (k q.fst) _ _ 0 hv hv' ?_ ?_
  · have l1 := hv.length
    have l2 := hv'.length
    rw [List.length_map] at l1 l2
    rw [List.size_toArray, List.size_toArray, ← l1, ← l2]
  · refine ⟨rfl, ?_⟩
    show HT.lexLt (k p.fst) (k q.fst) = HT.lexLt (k p.fst) (k q.fst)
    rfl
theorem ti_tups {h : Heap} : ∀ {vs : List Value} {k : Value → List Int}, (∀ v ∈ vs, IsTI h v (k v) ∧ k v ≠ []) → ∃ fs, W.KatTups h vs fs ∧ fs.length = vs.length ∧ ∀ f ∈ fs, ∃ x t, f = Value.int x t
  | [], _, _ => ⟨[], trivial, rfl, fun f hf => by cases hf⟩
  | v :: vs, k, hh => by
    obtain ⟨fs, h1, h2, h3⟩ := ti_tups (vs := vs) (k := k) fun u hu => hh u (List.mem_cons_of_mem _ hu)
    obtain ⟨⟨a, o, its, n, rfl, ho, hc, hd, hv⟩, hne⟩ := hh v (List.mem_cons_self ..)
    cases ek : k (.ref a) with
    | nil => exact absurd ek hne
    | cons x xs =>
      rw [ek] at hv
      cases hv with
      | cons rx hv =>
      obtain ⟨t, rfl⟩ := rx
      refine ⟨.int x t :: fs, ?_, by rw [List.length_cons, h2, List.length_cons], fun f hf => ?_⟩
      · unfold W.KatTups
        exact ⟨⟨a, o, _, n, rfl, ho, hc, hd, rfl⟩, h1⟩
      · rcases List.mem_cons.mp hf with rfl | hf
        · exact ⟨x, t, rfl⟩
        · exact h3 f hf
theorem ti_keeps {h h' : Heap} {v : Value} {ns : List Int} (x : IsTI h v ns) (k : ∀ (b : Addr) (o : Obj), h.get? b = some o → o.cls = .type "tuple" → h'.get? b = some o) : IsTI h' v ns := by
  obtain ⟨a, o, its, n, rfl, ho, hc, hd, hv⟩ := x
  exact ⟨a, o, its, n, rfl, k a o ho hc, hc, hd, hv⟩
theorem ti_sortable {prog : Program} {w : World} {A : Around} {s : Shared} {a : Addr} {vs : List Value} {k : Value → List Int} (h0 : 0 < vs.length) (hp : ∀ v ∈ vs, IsTI s.heap v (k v) ∧ k v ≠ []) (ha : ∀ o, s.heap.get? a = some o → o.cls ≠ .type "tuple") :
    SrtO.SortableO prog w A s a vs fun v u => HT.lexLt (k v) (k u) := by
  intro h' keep
  have hp' : ∀ v ∈ vs, IsTI h' v (k v) ∧ k v ≠ [] := fun v hv => ⟨ti_keeps (hp v hv).1 fun b o e c => keep b o (fun z => ha o (z ▸ e) c) e, (hp v hv).2⟩
  obtain ⟨fs, h1, h2, h3⟩ := ti_tups hp'
  refine ⟨tuples' true, fun Q E hq => ?_, ti_cmp fun v hv => (hp' v hv).1⟩
  refine W.kat_kind (T := .type "int") h1 (by omega) (fun f hf => ?_) (by decide) ?_
  · obtain ⟨x, t, rfl⟩ := h3 f hf
    exact W.Looks.now
  · have e : (Value.type "int" != Value.type "tuple") = true := by decide
    rw [e]
    exact hq
section
variable {X : Cx}
def rSortTI (K : PySem.W.Frag) : List V → Hp → VK → Prop := fun vs H Q => ∃ (a : Addr) (xs : List V) (k : V → List Int), vs = [V.ref a] ∧ SqL K H a xs ∧ (∀ x ∈ xs, ∃ t, x = V.ref t ∧ SqT K H t ((k x).map V.int) ∧ k x ≠ []) ∧
  ∀ (ys : List V) (p : Addr), SrtO.Srtd (fun x y => HT.lexLt (k x) (k y)) ys → SrtO.Stb (fun x y => HT.lexLt (k x) (k y)) ys xs → H p = none → Q (.ref p) (upd H p (.lst ys))
theorem cr_sortTI : CallR X (.builtin "sorted") (rSortTI X.K) := by
  intro pins s σ H vs us Q I r h
  obtain ⟨a, xs, k, rfl, hs, hx, q⟩ := h
  obtain ⟨its, rv, hl, hz⟩ := I.list hs
  obtain ⟨u, rfl, ru⟩ := vals1 r
  cases ru
  obtain ⟨e1, e2⟩ := refs_back rv fun x m => let ⟨t, e, _⟩ := hx x m; ⟨t, e⟩
  have hlen : xs.length = its.length := rv.length
  have hti : ∀ v ∈ its, IsTI s.heap v (k (backV v)) ∧ k (backV v) ≠ [] := by
    intro v hv
    obtain ⟨t, rfl⟩ := e2 v hv
    have hm : V.ref t ∈ xs := by rw [e1]; exact List.mem_map.mpr ⟨_, hv, rfl⟩
    obtain ⟨t', e, ht, hne⟩ := hx _ hm
    cases e
    obtain ⟨is, rvs, ⟨o, ho, hc, n, hd⟩, _⟩ := I.tuple ht
    exact ⟨⟨t, o, is, n, rfl, ho, hc, hd, rvs⟩, hne⟩
  refine SrtO.sorted_ord (ltv := fun v u => HT.lexLt (k (backV v)) (k (backV u))) (NtL.swo_lexL _) hl.isList (by rw [← hlen]; exact hz) (fun h2 h₁ b hb hk => ?_) (fun out h1 h2 => ?_)
  · refine ti_sortable (by omega) (fun v hv => ⟨ti_keeps (hti v hv).1 fun c o e _ => (hk c o e).2, (hti v hv).2⟩) (fun o ho => ?_)
    rw [hb] at ho
    cases ho
    show (Value.type "list") ≠ Value.type "tuple"
    decide
  · have h3 : ∀ u ∈ out, ∃ t, u = Value.ref t := fun u hu => e2 u (h2.perm.mem_iff.mp hu)
    have hb : SrtO.Stb (fun x y => HT.lexLt (k x) (k y)) (out.map backV) xs := by
      rw [e1]
      exact SrtO.Stb.map (NtL.swo_lexL k) backV h2
    have hd : s.heap.objs.size ≤ s.heap.objs.size + 1 := Nat.le_succ _
    obtain ⟨e, he⟩ := sortedAll_at s.heap its out.toArray
    refine ⟨.ref _, upd H _ (.lst (out.map backV)), I.laid (fun b o hbo => sortedAll_old hbo) hd ?_, rfl, q _ _ (SrtO.srtd_map h1) hb (I.hok.fresh hd)⟩
    exact ⟨by rw [hb.len]; exact hz, out, e, vals_back h3, he⟩
end
end Rp
/-! Su: sorted of a list of non-empty tuples of ints that stand in order already. -/
namespace Rp
open PySem L2 PyProof.Rows
theorem ti_one : ∀ {ns ms : List Int} {its : List Value}, Vals (ns.map V.int) its → Vals (ms.map V.int) its → ns = ms
  | [], [], _, _, _ => rfl
  | [], m :: ms, _, h1, h2 => by
    cases h1
    cases h2
  | n :: ns, [], _, h1, h2 => by
    cases h2
    cases h1
  | n :: ns, m :: ms, _, h1, h2 => by
    cases h1 with
    | cons r1 h1 =>
    cases h2 with
    | cons r2 h2 =>
    obtain ⟨t, rfl⟩ := r1
    obtain ⟨t', e⟩ := r2
    cases e
    rw [ti_one h1 h2]
theorem isTI_one {h : Heap} {v : Value} {ns ms : List Int} (h1 : IsTI h v ns) (h2 : IsTI h v ms) : ns = ms := by
  obtain ⟨a, o, its, n, rfl, ho, _, hd, hv⟩ := h1
  obtain ⟨a', o', its', n', e, ho', _, hd', hv'⟩ := h2
  cases e
  rw [ho] at ho'
  cases ho'
  rw [hd] at hd'
  cases hd'
  exact ti_one hv hv'
open Classical in
/-- the ints of a tuple -/
noncomputable def keyTI (h : Heap) (v : Value) : List Int := if e : ∃ ns, IsTI h v ns then e.choose else []
theorem keyTI_of {h : Heap} {v : Value} {ns : List Int} (e : IsTI h v ns) : keyTI h v = ns := by
  have e' : ∃ ns, IsTI h v ns := ⟨ns, e⟩
  unfold keyTI
  rw [dif_pos e']
  exact isTI_one e'.choose_spec e
inductive KeysT (K : PySem.W.Frag) (H : Hp) : List V → List (List Int) → Prop
  | nil : KeysT K H [] []
  | cons {t : Addr} {ns : List Int} {xs : List V} {ks : List (List Int)} (h : SqT K H t (ns.map V.int)) (ne : ns ≠ []) (r : KeysT K H xs ks) : KeysT K H (.ref t :: xs) (ns :: ks)
section
variable {X : Cx}
def rSortTS (K : PySem.W.Frag) : List V → Hp → VK → Prop := fun vs H Q => ∃ (a : Addr) (xs : List V) (ks : List (List Int)), vs = [V.ref a] ∧ SqL K H a xs ∧ KeysT K H xs ks ∧ ks.Pairwise (fun x y => HT.lexLt y x = false) ∧
  ∀ (p : Addr), H p = none → Q (.ref p) (upd H p (.lst xs))
theorem keysT_vals {pins : List (Addr × Obj)} {σ : L2.St} {H : Hp} {s : Shared} (I : L2.Inv X pins σ H s) : ∀ {xs : List V} {ks : List (List Int)} {its : List Value}, KeysT X.K H xs ks → Vals xs its →
    its.map (keyTI s.heap) = ks ∧ (∀ v ∈ its, IsTI s.heap v (keyTI s.heap v) ∧ keyTI s.heap v ≠ []) ∧ its.map backV = xs ∧ ∀ v ∈ its, ∃ t, v = Value.ref t
  | [], _, _, .nil, .nil => by simp
  | _ :: xs, _ :: ks, _, .cons h ne r, .cons rv rs => by
    cases rv
    obtain ⟨e1, e2, e3, e4⟩ := keysT_vals I r rs
    obtain ⟨is, rvs, ⟨o, ho, hc, n, hd⟩, _⟩ := I.tuple h
    have ti : IsTI s.heap (.ref _) _ := ⟨_, o, is, n, rfl, ho, hc, hd, rvs⟩
    have ek := keyTI_of ti
    refine ⟨by rw [List.map_cons, e1, ek], fun v hv => ?_, by rw [List.map_cons, e3]; rfl, fun v hv => ?_⟩
    · rcases List.mem_cons.mp hv with rfl | hv
      · rw [ek]
        exact ⟨ti, ne⟩
      · exact e2 v hv
    · rcases List.mem_cons.mp hv with rfl | hv
      · exact ⟨_, rfl⟩
      · exact e4 v hv
theorem cr_sortTS : CallR X (.builtin "sorted") (rSortTS X.K) := by
  intro pins s σ H vs us Q I r h
  obtain ⟨a, xs, ks, rfl, hs, hx, hord, q⟩ := h
  obtain ⟨its, rv, hl, hz⟩ := I.list hs
  obtain ⟨u, rfl, ru⟩ := vals1 r
  cases ru
  obtain ⟨ek, hti, e1, e2⟩ := keysT_vals I hx rv
  have hlen : xs.length = its.length := rv.length
  refine SrtO.sorted_ord (ltv := fun v u => HT.lexLt (keyTI s.heap v) (keyTI s.heap u)) (NtL.swo_lexL _) hl.isList (by rw [← hlen]; exact hz) (fun h2 h₁ b hb hk => ?_) (fun out h1 h2 => ?_)
  · refine ti_sortable (by omega) (fun v hv => ⟨ti_keeps (hti v hv).1 fun c o e _ => (hk c o e).2, (hti v hv).2⟩) (fun o ho => ?_)
    rw [hb] at ho
    cases ho
    show (Value.type "list") ≠ Value.type "tuple"
    decide
  · have hso : SrtO.Srtd (fun v u => HT.lexLt (keyTI s.heap v) (keyTI s.heap u)) its := by
      rw [← ek] at hord
      exact List.pairwise_map.mp hord
    have eo : out = its := SrtO.stb_uniq (NtL.swo_lexL (keyTI s.heap)) h1 hso h2
    subst eo
    have hd : s.heap.objs.size ≤ s.heap.objs.size + 1 := Nat.le_succ _
    obtain ⟨e, he⟩ := sortedAll_at s.heap out out.toArray
    refine ⟨.ref _, upd H _ (.lst xs), I.laid (fun b o hbo => sortedAll_old hbo) hd ?_, rfl, q _ (I.hok.fresh hd)⟩
    exact ⟨hz, out, e, rv, he⟩
/-- sorted of a list of non-empty tuples of ints, known by position -/
def rSortTP (K : PySem.W.Frag) : List V → Hp → VK → Prop := fun vs H Q => ∃ (a : Addr) (xs : List V) (ks : List (List Int)), vs = [V.ref a] ∧ SqL K H a xs ∧ KeysT K H xs ks ∧
  ∀ (ys : List V) (ls : List (List Int)) (p : Addr), KeysT K H ys ls → ls.Pairwise (fun x y => HT.lexLt y x = false) → ls.Perm ks → H p = none → Q (.ref p) (upd H p (.lst ys))
theorem cr_sortTP : CallR X (.builtin "sorted") (rSortTP X.K) := by
  intro pins s σ H vs us Q I r h
  obtain ⟨a, xs, ks, rfl, hs, hx, q⟩ := h
  obtain ⟨its, rv, hl, hz⟩ := I.list hs
  obtain ⟨u, rfl, ru⟩ := vals1 r
  cases ru
  obtain ⟨ek, hti, e1, e2⟩ := keysT_vals I hx rv
  have hlen : xs.length = its.length := rv.length
  refine SrtO.sorted_ord (ltv := fun v u => HT.lexLt (keyTI s.heap v) (keyTI s.heap u)) (NtL.swo_lexL _) hl.isList (by rw [← hlen]; exact hz) (fun h2 h₁ b hb hk => ?_) (fun out h1 h2 => ?_)
  · refine ti_sortable (by omega) (fun v hv => ⟨ti_keeps (hti v hv).1 fun c o e _ => (hk c o e).2, (hti v hv).2⟩) (fun o ho => ?_)
    rw [hb] at ho
    cases ho
    show (Value.type "list") ≠ Value.type "tuple"
    decide
  · have h3 : ∀ u ∈ out, ∃ t, u = Value.ref t := fun u hu => e2 u (h2.perm.mem_iff.mp hu)
    have hd : s.heap.objs.size ≤ s.heap.objs.size + 1 := Nat.le_succ _
    obtain ⟨e, he⟩ := sortedAll_at s.heap its out.toArray
    have kk : KeysT X.K H (out.map backV) (out.map (keyTI s.heap)) := by
      have g : ∀ (l m : List Value), (∀ v ∈ l, v ∈ m) → (∀ v ∈ m, ∃ t, v = Value.ref t) → KeysT X.K H (m.map backV) (m.map (keyTI s.heap)) → KeysT X.K H (l.map backV) (l.map (keyTI s.heap)) := by
        intro l m hl hr hk
        have one : ∀ (m : List Value), (∀ v ∈ m, ∃ t, v = Value.ref t) → KeysT X.K H (m.map backV) (m.map (keyTI s.heap)) → ∀ v ∈ m, ∃ t, v = Value.ref t ∧ SqT X.K H t ((keyTI s.heap v).map V.int) ∧ keyTI s.heap v ≠ [] := by
          intro m
          induction m with
          | nil => intro _ _ v hv; cases hv
          | cons u m ih =>
            intro hr hk v hv
            obtain ⟨t, rfl⟩ := hr u (List.mem_cons_self ..)
            rw [List.map_cons, List.map_cons] at hk
            have hk' : KeysT X.K H (V.ref t :: m.map backV) (keyTI s.heap (.ref t) :: m.map (keyTI s.heap)) := hk
            cases hk' with
            | cons hh ne rr =>
              rcases List.mem_cons.mp hv with rfl | hv
              · exact ⟨t, rfl, hh, ne⟩
              · exact ih (fun v hv => hr v (List.mem_cons_of_mem _ hv)) rr v hv
        induction l with
        | nil => exact .nil
        | cons u l ih =>
          obtain ⟨t, rfl, hh, ne⟩ := one m hr hk u (hl u (List.mem_cons_self ..))
          exact .cons hh ne (ih fun v hv => hl v (List.mem_cons_of_mem _ hv))
      refine g out its (fun v hv => h2.perm.mem_iff.mp hv) e2 ?_
      rw [e1, ek]
      exact hx
    refine ⟨.ref _, upd H _ (.lst (out.map backV)), I.laid (fun b o hbo => sortedAll_old hbo) hd ?_, rfl, q _ _ _ kk (List.pairwise_map.mpr h1) ?_ (I.hok.fresh hd)⟩
    · exact ⟨by rw [List.length_map, h2.perm.length_eq, ← hlen]; exact hz, out, e, vals_back h3, he⟩
    · rw [← ek]
      exact h2.perm.map _
end
end Rp
/-! Ea: several clauses, some with a name for the error (ps_tryA goes the way of the library's ps_try_many and ps_try_as, which it joins); defs that are handed the error that is being handled. -/
namespace Rp
open PySem PySem.Spec L2 PyProof.Rows
abbrev TSA := Addr → Value → Option Addr → TS
/-- what clauses, each with a slot for its name or none, wish of an error of the body -/
def wMA (K : PySem.W.Frag) (Wout : WX) (D : Ends) : List (Value × Option Nat × TSA) → WX
  | [] => Wout
  | (c, none, ts) :: r => fun cls d σ H => ∃ b, PySem.W.exmOne K cls c = some b ∧ (b = true → ∀ a, H a = none → ts a cls d D σ H) ∧ (b = false → wMA K Wout D r cls d σ H)
  | (c, some i, ts) :: r => wAs K c i ts (wMA K Wout D r) D
inductive ClsOk (X : Cx) : List ExceptHandler → List (Value × Option Nat × TSA) → Prop
  | nil : ClsOk X [] []
  | bare {x : Str} {c : Value} {ts : TSA} {b₀ : Stmt} {su : List Stmt} {np pos' : Pos} {hs : List ExceptHandler} {l : List (Value × Option Nat × TSA)} (hc : Names X x c)
      (hsu : ∀ (a : Addr) (oe : Obj) (cls : Value) (d : Option Addr) (pn : List (Addr × Obj)), Zc cls d oe → (∃ vs, oe.data = .fields vs) → PSs (X.suite a ((a, oe) :: pn)) (b₀ :: su) (ts a cls d)) (r : ClsOk X hs l) :
      ClsOk X (.ExceptHandler (some (.Name x np)) none (b₀ :: su) pos' :: hs) ((c, none, ts) :: l)
  | named {x n : Str} {i : Nat} {c : Value} {ts : TSA} {b₀ : Stmt} {su : List Stmt} {np pos' : Pos} {hs : List ExceptHandler} {l : List (Value × Option Nat × TSA)} (hi : X.N[i]? = some n) (hln : X.env.kindOf n = some .local) (hc : Names X x c)
      (hsu : ∀ (a : Addr) (oe : Obj) (cls : Value) (d : Option Addr) (pn : List (Addr × Obj)), Zc cls d oe → (∃ vs, oe.data = .fields vs) → PSs (X.suite a ((a, oe) :: pn)) (b₀ :: su) (ts a cls d)) (r : ClsOk X hs l) :
      ClsOk X (.ExceptHandler (some (.Name x np)) (some n) (b₀ :: su) pos' :: hs) ((c, some i, ts) :: l)
section
variable {X : Cx} {body : List Stmt} {h₀ : ExceptHandler} {hs : List ExceptHandler} {l : List (Value × Option Nat × TSA)} {pos : Pos} {tb : WX → TS} {Wout : WX}
theorem ps_tryA (hst : X.stack = X.env :: X.outer) (hfr0 : X.env.frame = some X.env.locals) (hN : X.N.Nodup) (tk : Takes X Wout)
    (hb : ∀ (W : WX) (pn : List (Addr × Obj)) (xe : Value → Shared → Prop), Takes (X.tr pn xe) W → PassesOwn (model X.prog X.w) X.A X.env xe → PSs (X.tr pn xe) body (tb W))
    (hh : ClsOk X (h₀ :: cls0) l) : PS X (.Try body (h₀ :: cls0) [] [] pos) (fun D σ H => tb (wMA X.K Wout D l) D σ H) := by
  constructor
  intro pins s σ H D I want
  have ok := I.ok
  have frames : X.A.frames = some (X.env :: X.outer) := by rw [ok.frames, hst]
  refine wpAny_Try_except ?_
  refine wpAny_mono ((hb (wMA X.K Wout D l) (X.pn ++ pins) (fun e s₁ => wpAny (model X.prog X.w) X.A (noteFrame e X.env) (fun _ s₂ => wpAny (model X.prog X.w) X.A (setFlight e none) (fun _ s₃ =>
    wpAny (model X.prog X.w) X.A (handleBy e X.env (h₀ :: cls0)) (SP X pins D) X.xe s₃) X.xe s₂) X.xe s₁) (fun u s' up0 => ?caught) PassesOwn.looking).run [] s σ H D (I.toTry _) want) (fun f s1 out => ?went) (fun e s1 he => he)
  case went =>
    cases f with
    | next => obtain ⟨σ', H', It, q⟩ := out; exact wpAny_execs_nil ⟨σ', H', It.ofTry ok, q⟩
    | brk => obtain ⟨σ', H', It, q⟩ := out; exact ⟨σ', H', It.ofTry ok, q⟩
    | cont => obtain ⟨σ', H', It, q⟩ := out; exact ⟨σ', H', It.ofTry ok, q⟩
    | ret u => obtain ⟨v, σ', H', It, r, q⟩ := out; exact ⟨v, σ', H', It.ofTry ok, r, q⟩
  case caught =>
    obtain ⟨a, B, s0, ps0, σ', H', cls, d, rfl, It, apart, up, above, na, os, ag, w⟩ := up0
    have I1 : Inv X pins σ' H' s0 := It.ofTry ok
    have sky' : Sky B (X.env :: X.outer) a (Zc cls d) X.env.locals s'.heap := by rw [← hst]; exact above
    show wpAny (model X.prog X.w) X.A (noteFrame (.ref a) X.env) _ _ _
    refine Sky.land Zc.steady frames hfr0 sky' fun h3 land3 u3 => ?_
    have I3 : Inv X pins σ' H' { s' with heap := h3 } := I1.landed apart land3.1 (up.trans u3) os ag
    obtain ⟨o3, f3, g3, z3, k3⟩ := land3.there
    have offFr : a ∉ frs (X.env :: X.outer) := fun hm => by
      obtain ⟨_, o', e', hnf⟩ := land3.2.2.1.mem hm
      rw [g3] at e'
      cases e'
      exact hnf _ k3
    have offL : a ≠ X.env.locals := fun z => offFr (List.mem_filterMap.mpr ⟨X.env, List.mem_cons_self, by rw [hfr0, z]⟩)
    have offF : a ∉ X.fs := fun hm => by
      obtain ⟨e, he, q⟩ := List.mem_filterMap.mp hm
      exact offFr (List.mem_filterMap.mpr ⟨e, List.mem_cons_of_mem _ he, q⟩)
    have In3 := I3.suite g3 k3 na offL offF
    have looks : PySem.W.Looks (model X.prog X.w) h3 (typeOf (.ref a)) cls := fun A Q E s k q => wpAny_typeOf_ref (k _ _ g3) (by rw [z3.1]; exact q)
    have test : ∀ {x : Str} {c : Value} {np : Pos} {Q : Value → Shared → Prop} {E : Value → Shared → Prop}, Names X x c → Q c { s' with heap := h3 } → wpAny (model X.prog X.w) (X.A.mark (some (.ref a))) (eval (.Name x np) X.env) Q E { s' with heap := h3 } := fun {x c np Q E} hc q => by
      obtain ⟨hg, dbg, hm | ⟨hm, hv, nm⟩⟩ := hc
      · exact ld_glob (X := X.suite a ((a, o3) :: (X.pn ++ pins))) In3 hg hm q dbg
      · exact ld_blt (X := X.suite a ((a, o3) :: (X.pn ++ pins))) In3 hg hm hv q nm dbg
    have go : ∀ {hs' : List ExceptHandler} {l' : List (Value × Option Nat × TSA)}, ClsOk X hs' l' → wMA X.K Wout D l' cls d σ' H' →
        wpAny (model X.prog X.w) X.A (handleBy (.ref a) X.env hs') (SP X pins D) X.xe { s' with heap := h3 } := by
      intro hs' l' hk
      induction hk with
      | nil =>
        intro w
        refine wpAny_handleBy_nil ?_
        obtain ⟨_, _, _, oe, vs, T, oT, _, he, hz, hd, h1, hr⟩ := id land3
        unfold PySem.passOn
        refine wpAny_bind (wpAny_field he hd h1 ?_)
        rw [if_neg (show ¬ ((Value.ref T == Value.none) = true) from by simp)]
        have leave : wpAny (model X.prog X.w) X.A (setFlight (.ref a) X.env.frame) (fun _ s4 => wpAny (model X.prog X.w) X.A (throw (.ref a) : Sem Flow) (SP X pins D) X.xe s4) X.xe { s' with heap := h3 } := by
          rw [hfr0]
          refine HandSPX.setFlight_upZ land3 fun h4 hh4 u4 => wpAny_throw (tk _ _ ?_)
          exact ⟨a, B, s0, pins, σ', H', cls, d, rfl, I1, apart, (up.trans u3).trans u4, .inr (.inr (by rw [hst]; exact hh4)), na, os, ag, w⟩
        first
          | exact wpAny_bind (wpAny_pure (wpAny_bind leave))
          | exact wpAny_bind leave
      | @bare x c ts b₀ su np pos' hs2 l2 hc hsu r ih =>
        intro w
        obtain ⟨b, says, then_, else_⟩ := w
        refine wpAny_handleBy_cons (codeAny_handlers_test ?_) (by intro q; cases q)
        refine test hc ((PySem.W.exm_one (M := model X.prog X.w) I3.kIn looks says).here ?_)
        cases b with
        | false => exact ih (else_ rfl)
        | true =>
          refine codeAny_handlers_suite ?_
          refine HandSPX.lands_againZ land3 fun h4 land4 u4 => ?_
          have I4 : Inv X pins σ' H' { s' with heap := h4 } := I1.landed apart land4.1 ((up.trans u3).trans u4) os ag
          obtain ⟨o4, f4, g4, z4, k4⟩ := land4.there
          have In4 := I4.suite g4 k4 na offL offF
          refine wpAny_mono ((hsu a o4 cls d (X.pn ++ pins) z4 ⟨_, k4⟩).run [] _ _ H' _ In4 (then_ rfl a na)) (fun f s6 out => ?_) (fun _ _ z => False.elim z)
          cases f with
          | next => obtain ⟨σ6, H6, In6, q6⟩ := out; exact ⟨_, _, In6.unsuite ok, q6⟩
          | brk => obtain ⟨σ6, H6, In6, q6⟩ := out; exact ⟨_, _, In6.unsuite ok, q6⟩
          | cont => obtain ⟨σ6, H6, In6, q6⟩ := out; exact ⟨_, _, In6.unsuite ok, q6⟩
          | ret u => obtain ⟨v6, σ6, H6, In6, r6, q6⟩ := out; exact ⟨_, _, _, In6.unsuite ok, r6, q6⟩
      | @named x n i c ts b₀ su np pos' hs2 l2 hi hln hc hsu r ih =>
        intro w
        obtain ⟨b, says, then_, else_⟩ := w
        refine wpAny_handleBy_cons (codeAny_handlers_test ?_) (by intro q; cases q)
        refine test hc ((PySem.W.exm_one (M := model X.prog X.w) I3.kIn looks says).here ?_)
        cases b with
        | false => exact ih (else_ rfl)
        | true =>
          refine codeAny_handlers_suite_as ?_
          refine HandSPX.lands_againZ land3 fun h4 land4 u4 => ?_
          have I4 : Inv X pins σ' H' { s' with heap := h4 } := I1.landed apart land4.1 ((up.trans u3).trans u4) os ag
          obtain ⟨o4, f4, g4, z4, k4⟩ := land4.there
          have In4 := I4.suite g4 k4 na offL offF
          refine store_ok (X := X.suite a ((a, o4) :: (X.pn ++ pins))) (v := .ref a) In4 hN hi (.inl hln) rfl (fun s5 In5 => ?_) (.inr hln)
          refine wpAny_mono ((hsu a o4 cls d (X.pn ++ pins) z4 ⟨_, k4⟩).run [] s5 _ H' _ In5 (then_ rfl a na)) (fun f s6 out => ?_) (fun _ _ z => False.elim z)
          have end_ : ∀ {σ6 : L2.St} {H6 : Hp} {Q : Shared → Prop}, Inv (X.suite a ((a, o4) :: (X.pn ++ pins))) [] σ6 H6 s6 → (∀ s7, Inv X pins (σ6.set i none) H6 s7 → Q s7) →
              wpAny (model X.prog X.w) X.A (do bindName X.env n .none; unbindBehindTheSuite X.env n pos') (fun _ s7 => Q s7) X.xe s6 := fun In6 hq => gone_ok (In6.unsuite ok) hN hi hln hq
          cases f with
          | next => obtain ⟨σ6, H6, In6, q6⟩ := out; exact end_ In6 fun s7 J7 => ⟨_, _, J7, q6⟩
          | brk => obtain ⟨σ6, H6, In6, q6⟩ := out; exact end_ In6 fun s7 J7 => ⟨_, _, J7, q6⟩
          | cont => obtain ⟨σ6, H6, In6, q6⟩ := out; exact end_ In6 fun s7 J7 => ⟨_, _, J7, q6⟩
          | ret u => obtain ⟨v6, σ6, H6, In6, r6, q6⟩ := out; exact end_ In6 fun s7 J7 => ⟨_, _, _, J7, r6, q6⟩
    exact go hh w
end

/-! ### defs that are handed the error -/
/-- a def called in an except suite, told by the error: its address, its class, its dict -/
abbrev SpE := Addr → Value → Option Addr → Sp
structure FnE (P : Program) (w : World) (K : PySem.W.Frag) (mg : Str → Option Value) (base : Heap) (CX : CXT) (k : Nat) (f : Addr) (fd : FuncData) (ps : List Str) (sp : SpE) : Prop where
  len : ∀ a cls d vs H Q E, sp a cls d vs H Q E → vs.length = ps.length
  run : ∀ (A : Around) (outer : List Env) (s : Shared) (H : Hp) (args : Args) (us : List Value) (vs : List V) (Q : VK) (E : XK) (p : Addr × Obj) (cls : Value) (d : Option Addr), L2H.RoomH k A → L2H.PinOk outer H s p → Zc cls d p.2 → (∃ fs, p.2.data = .fields fs) →
    Env0 P w K mg base A outer s H → BindsTo s fd args (ps.zip us) → Vals vs us → sp p.1 cls d vs H Q E → codeAny (model P w) A (.call (.ref f) args) (CR CX outer P w H s Q E) s
section
variable {P : Program} {w : World} {K : PySem.W.Frag} {mg : Str → Option Value} {base : Heap}
theorem okE {CX : CXT} {name qual : Str} {st : Stmt} {f : Addr} {fd : FuncData} {N ps : List Str} {k : Nat} {sp : SpE} (F : Fun K name qual st f fd) (S : FnScope N ps (defScope st))
    (hlen : ∀ a cls d vs H Q E, sp a cls d vs H Q E → vs.length = ps.length)
    (hb : ∀ (cdv : Value) (A : Around) (outer : List Env) (s : Shared) (H : Hp) (vs : List V) (Q : VK) (E : XK) (p : Addr × Obj) (cls : Value) (d : Option Addr), Zc cls d p.2 → (∃ fs, p.2.data = .fields fs) →
      L2H.RoomH k (A.deeper (envOfC qual (defScope st) s.heap.objs.size f cdv)) → sp p.1 cls d vs H Q E →
      ∃ t, PSs (L2H.cxH CX P w K mg base N qual (defScope st) f cdv A outer s H E p) (defBody st) t ∧
        t { nx := fun _ H' => Q .non H', rt := Q } (start N vs) H) : FnE P w K mg base CX (k + 1) f fd ps sp := by
  obtain ⟨oc, od, kV, doc, pm, an, cdv, ct, osl, rfl, lk, hcd⟩ := F.ex
  refine ⟨hlen, fun A outer s H args us vs Q E p cls d room pin hz hf en bd rv want => ?_⟩
  have kin : K.In s.heap := en.mod.kin.keeps fun b o z => (en.bs b o z).1
  have nolim : s.heap.NoLimit := en.mod.nolimit.keeps fun b o z => (en.bs b o z).1
  have hl := hlen _ _ _ _ _ _ _ want
  refine Att.call_fn kin nolim lk hcd room.depth bd ?_ (fun s1 ic => ?_) S.co S.gen S.kind
  · refine List.all_eq_true.mpr fun y hy => ?_
    obtain ⟨a, b⟩ := y
    rcases S.par a (List.of_mem_zip hy).1 with z | z
    · simp [z]
    · simp [z]
  · obtain ⟨t, ht, hq⟩ := hb cdv A outer s H vs Q E p cls d hz hf (room.deeper _) want
    have I := L2H.inv_startH (CX := CX) (P := P) (w := w) (K := K) (mg := mg) (base := base) (E := E) S pin en hl rv ic
    refine wpAny_mono (ht.run [] s1 (start N vs) H _ I hq) (fun fl s' hs => ?_) (fun e s' hs => hs)
    cases fl with
    | ret u =>
      obtain ⟨v, σ', H', J, rr, q⟩ := hs
      exact ⟨v, H', J.os, J.bare, J.base, J.hok, rr, q⟩
    | next =>
      obtain ⟨σ', H', J, q⟩ := hs
      exact ⟨V.non, H', J.os, J.bare, J.base, J.hok, rfl, q⟩
    | brk =>
      obtain ⟨_, _, _, q⟩ := hs
      exact False.elim q
    | cont =>
      obtain ⟨_, _, _, q⟩ := hs
      exact False.elim q
end
section
variable {X : Cx} {CX : CXT} {k : Nat} {f : Addr} {fd : FuncData} {ps : List Str} {sp : SpE} {E : L2.St → XK} {x : Str} {q pos : Pos} {e : Expr} {es : List Expr} {t : TA} {a : Addr} {oe : Obj} {cls : Value} {d : Option Addr} {pn : List (Addr × Obj)}
theorem pe_callE (F : FnE X.prog X.w X.K X.mg X.base CX k f fd ps sp) (hr : L2H.RoomH k X.A) (hz : Zc cls d oe) (hf : ∃ vs, oe.data = .fields vs) (hg : Gl X x) (hm : X.mg x = some (.ref f)) (hk : PySem.W.keepIn X.K (.ref f) = true) (hb : Binds X.K fd ps [])
    (hx : ∀ σ, PassesAt CX (X.suite a ((a, oe) :: pn)) σ (E σ))
    (ha : PA (X.suite a ((a, oe) :: pn)) (e :: es) t) (hdb : (x == ("__debug__" : Str)) = false := by decide) (he : starEach (e :: es) X.env = (false, eval e X.env) :: starEach es X.env := by rfl) (hpl : (backTo pos (starEach es X.env)).any (·.1) = false := by rfl) :
    PE (X.suite a ((a, oe) :: pn)) (.Call (.Name x q) (e :: es) [] pos) (tCallS (sp a cls d) E t) := by
  constructor
  intro pins s σ H Q I want
  refine wpAny_Call_Name_kw (ld_glob (X := X.suite a ((a, oe) :: pn)) I hg hm ?_ hdb)
  refine PySem.W.callWith_K (h₀ := X.base) I.ok.mod.kin hk (thn (ha.run pos pins s σ H _ I want) ?_) he hpl
  rintro us s1 ⟨vs, H1, I1, rv, q⟩
  refine ⟨I1.kIn, ?_⟩
  have hl : us.length = ps.length := by
    rw [← rv.length]
    exact F.len _ _ _ _ _ _ _ q
  have b := hb s1 us I1.kIn (by rw [List.append_nil]; exact hl)
  rw [List.append_nil] at b
  have P1 := I1.pin (a, oe) (List.mem_append_left _ List.mem_cons_self)
  have pin : L2H.PinOk X.stack H1 s1 (a, oe) := ⟨P1.1, P1.2.1, fun hm => (List.mem_cons.mp (I1.stkSub a hm)).elim P1.2.2.1 P1.2.2.2.1, P1.2.2.2.2⟩
  refine wpAny_call (codeAny_mono (F.run (X.A.mark (some (.ref a))) X.stack s1 H1 ⟨us, []⟩ us vs Q (E σ) (a, oe) cls d ⟨hr.dp, hr.un⟩ pin hz hf I1.env0 b rv q) fun r s' hq => ?_)
  cases r with
  | error e => exact hx σ pins H1 s1 e s' I1 hq
  | ok fl =>
    cases fl with
    | ret u => exact I1.after hq
    | next => exact False.elim hq
    | brk => exact False.elim hq
    | cont => exact False.elim hq
/-- isinstance of an error that stands in the state, by its class -/
theorem cr_isE {X : Cx} {a D : Addr} {oe : Obj} (C : ExcC X.K D) (hm : (a, oe) ∈ X.pn) (hz : Zc (.ref D) none oe) (hf : ∃ vs, oe.data = .fields vs) : CallR X (.builtin "isinstance") (rIsE X.K D a) := by
  intro pins s σ H xs us Q I r h
  obtain ⟨c, cv, b, rfl, hcv, e, q⟩ := h
  cases r with
  | cons rx rr =>
    cases rr with
    | cons rt rr =>
      cases rr
      cases rx
      obtain rfl := hcv _ rt
      obtain ⟨hget, _⟩ := I.pin (a, oe) (List.mem_append.mpr (.inl hm))
      obtain ⟨vs, hv⟩ := hf
      obtain ⟨oc, od, oda, osl⟩ := oe
      obtain ⟨h1, h2⟩ := hz
      dsimp only at h1 h2 hv
      subst h1 h2 hv
      exact PySem.W.kia_one (PySem.W.handS_kitx_exc C.hg C.hk C.hs C.hd C.ha C.hn C.ht C.hm) I.kIn ⟨hget, rfl, rfl, trivial⟩ e (fun z => nomatch z) fun tk => ⟨.bl b, H, I.kept (t' := tk) fun _ _ z => z, rfl, q⟩
/-- a rule that is never asked -/
theorem cr_never {X : Cx} {f : Value} : CallR X f (fun _ _ _ => False) := fun _ _ _ _ _ _ _ _ _ h => False.elim h
theorem passE0 {X : Cx} {E : L2.St → XK} : ∀ σ, PassesAt CX0 X σ (E σ) := fun _ _ _ _ _ _ _ h => False.elim h
end
/-- isinstance by the class's line: what the written part tells of both -/
theorem kit_of {K : PySem.W.Frag} {C D : Addr} {b : Bool} (h : PySem.W.subIn K (.ref C) (.ref D) = some b) (hc : PySem.W.subIn K (.ref C) (.ref C) = some true) (i : PySem.W.isClsIn K D = true) (t : PySem.W.typeIn K (.ref D) = some (.type "type")) : PySem.W.kitOne K (.ref C) (.ref D) = some b := by
  have e : ((PySem.W.clsIn K D).isSome && PySem.W.typeIn K (.ref D) == some (.type "type")) = true := by
    have i' : (PySem.W.clsIn K D).isSome = true := i
    rw [i', t] <;> rfl
  unfold PySem.W.kitOne
  split
  · rename_i z
    obtain rfl : C = D := by simpa using z
    rw [hc] at h
    exact h
  · show (if ((PySem.W.clsIn K D).isSome && PySem.W.typeIn K (.ref D) == some (.type "type")) = true then PySem.W.subIn K (.ref C) (.ref D) else none) = some b
    rw [if_pos e]
    exact h
/-! ### a def picked out of data, called -/
structure HeldX (P : Program) (w : World) (K : PySem.W.Frag) (mg : Str → Option Value) (base : Heap) (k : Nat) (f : Addr) (sp : Sp) : Prop where
  ex : ∃ (fd : FuncData) (ps : List Str), FnOk P w K mg base (L2.CX P w) k f fd ps sp ∧ PySem.W.keepIn K (.ref f) = true ∧ Binds K fd ps []
def tCallP (S : Addr → Sp → Prop) (W : WX) (tf : TE) (t : TA) : TE := fun σ H Q => tf σ H fun v H1 => ∃ f sp, v = .ref f ∧ S f sp ∧ t σ H1 fun vs H2 => sp vs H2 Q (WE W σ)
section
variable {X : Cx} {k : Nat} {W : WX} {S : Addr → Sp → Prop} {fe e : Expr} {es : List Expr} {pos : Pos} {tf : TE} {t : TA}
theorem pe_callP (A : ∀ f sp, S f sp → HeldX X.prog X.w X.K X.mg X.base k f sp) (hr : Room k X.A) (tk : Takes X W) (hf : PE X fe tf) (ha : PA X (e :: es) t)
    (hc : eval (.Call fe (e :: es) [] pos) X.env = (do callWith pos (← eval fe X.env) [] (backTo pos (starEach (e :: es) X.env)) (backToKw pos (keywordEach [] X.env))) := by rfl)
    (he : starEach (e :: es) X.env = (false, eval e X.env) :: starEach es X.env := by rfl) (hpl : (backTo pos (starEach es X.env)).any (·.1) = false := by rfl) : PE X (.Call fe (e :: es) [] pos) (tCallP S W tf t) := by
  constructor
  intro pins s σ H Q I want
  refine Call_ (thn (hf.run pins s σ H _ I want) ?_) hc
  rintro u s1 ⟨v, H1, I1, rv, f, sp, rfl, hS, q⟩
  obtain rfl : u = Value.ref f := rv
  obtain ⟨fd, ps, F, hk, hb⟩ := (A f sp hS).ex
  refine PySem.W.callWith_K (h₀ := X.base) I.ok.mod.kin hk (thn (ha.run pos pins s1 σ H1 _ I1 q) ?_) he hpl
  rintro us s2 ⟨vs, H2, I2, r, q2⟩
  exact ⟨I2.kIn, run_fnS F hr hb (passAt tk σ) I2 r q2⟩
/-! ### list.count, flat items -/
def rCntF (K : PySem.W.Frag) : V → List V → Hp → VK → Prop := fun x xs H Q => ∃ (a : Addr) (ys : List V) (y : V), x = V.ref a ∧ xs = [y] ∧ SqL K H a ys ∧ flatV y = true ∧ ys.all flatV = true ∧ Q (.int ((ys.countP fun z => eqV z y : Nat) : Int)) H
theorem countP_eq {y : V} {uy : Value} : ∀ {ys : List V} {its : List Value}, Vals ys its → (∀ z u, z ∈ ys → RelV z u → eqU y u = eqV z y) → its.countP (eqU y) = ys.countP fun z => eqV z y := by
  intro ys its r
  induction r with
  | nil => intro _; rfl
  | cons r rs ih =>
    intro h
    rw [List.countP_cons, List.countP_cons, ih fun z' u' hz => h z' u' (List.mem_cons_of_mem _ hz), h _ _ (List.mem_cons_self ..) r]
theorem mt_cntF : MtR X "list.count" (rCntF X.K) := by
  intro pins s σ H x xs v us Q I rx rxs h
  obtain ⟨a, ys, y, rfl, rfl, hs, fy, fys, q⟩ := h
  cases rx
  cases rxs with
  | cons ry rt =>
    rename_i uy ut
    cases rt
    obtain ⟨its, rv, ⟨⟨cls, dd, data, sl⟩, n, ho, hc, hdn, hd⟩, hlen⟩ := I.list hs
    simp only at hc hd
    subst hc hd
    refine call_meets PySem.F.slot_list_count ⟨_, ho, rfl⟩ PySem.F.entry_list_count (PySem.F.args_list_count_2 _ _)
      (SeqAt.list_countAt a its.toArray n dd sl uy (eqU y)) ⟨ho, fun u' hu' => mem_eqAt ry fy rv fys u' (by simpa using hu'), ?_⟩
    have e : its.toArray.toList.countP (eqU y) = ys.countP fun z => eqV z y := countP_eq (uy := uy) rv fun z u hz r => eqU_of r (List.all_eq_true.mp fys z hz)
    refine ⟨.int ((ys.countP fun z => eqV z y : Nat) : Int), H, I.tok _, ⟨s.toks, ?_⟩, q⟩
    show Value.int ((its.toArray.toList.countP (eqU y) : Nat) : Int) s.toks = Value.int (((ys.countP fun z => eqV z y : Nat)) : Int) s.toks
    rw [e]
end
end Rp
/-! Ev: own errors over any built-in one, whose __init__ keeps a value: made, raised, the value read. The library's rules (ExcInit) speak of ValueError alone. -/
namespace Rp
open PySem PySem.Spec L2 PyProof.Rows
/-- what the written part says of such a class -/
structure OexB (K : PySem.W.Frag) (C : Addr) : Prop where
  base : ∃ (B newId initId : String) (bmB : List Value), ExcBaseFacts B newId initId bmB ∧ StoreFacts B bmB "object.__setattr__" "object" ∧ PySem.W.excInitIn K C bmB newId = true ∧ PySem.W.excOver K C bmB = true
  hd : PySem.W.hasDictIn K C = true
  sa : PySem.W.findIn K (.ref C) "__setattr__" = some (some (.builtin "object.__setattr__"))
  exC : PySem.W.subIn K (.ref C) (.type "BaseException") = some true
  tyC : PySem.W.typeIn K (.ref C) = some (.type "type")
  kC : PySem.W.keepIn K (.ref C) = true
theorem upd_swap {H : Hp} {a b : Addr} {o u v : HO} (n : b ≠ a) : upd (upd (upd H b o) a u) b v = upd (upd H b v) a u := by
  funext c
  by_cases h1 : c = b
  · subst h1
    rw [upd_same, upd_ne n, upd_same]
  · rw [upd_ne h1]
    by_cases h2 : c = a
    · subst h2
      rw [upd_same, upd_same]
    · rw [upd_ne h2, upd_ne h2, upd_ne h1, upd_ne h1]
section
variable {X : Cx} {pins : List (Addr × Obj)} {σ : L2.St} {H : Hp} {s : Shared} {a C : Addr} {f : Str} {y : V} {u : Value} {Q : Unit → Shared → Prop} {E : Value → Shared → Prop} {A : Around}
/-- self.f = y, the first field of an error that is being made -/
theorem keep_new (T : OexB X.K C) (I : Inv X pins σ H s) (e : H a = some (exo a C none)) (hno : PySem.W.findIn X.K (.ref C) f = some none) (ry : RelV y u)
    (h : ∀ dx s', H dx = none → dx ≠ a → Inv X pins σ (upd (upd H dx (exd dx [(f, y)])) a (exo a C (some dx))) s' → Q () s') : wpAny (model X.prog X.w) A (setAttr (.ref a) f u) Q E s := by
  obtain ⟨B, newId, initId, bmB, FB, SF, qi, qo⟩ := T.base
  obtain ⟨t1, ho⟩ := exo_at I.hok e
  obtain ⟨cd, hc, hcd⟩ := PySem.W.any_some T.hd
  obtain ⟨hp, g, d, t, os⟩ := s
  have tk0 : PySem.W.takerIn X.K C f = some none := by
    unfold PySem.W.takerIn
    rw [hno]
    rfl
  have inst : PySem.W.InstAt hp a { cls := .ref C, dict := none, data := .fields #[.ref t1, .none, .none, .none, .bool false, .none] } C none := ⟨ho, rfl, rfl, trivial⟩
  refine PySem.W.set_plain I.kIn (od := none) inst T.sa (PySem.W.osa_openX (od := none) SF I.kIn inst qo tk0 fun b => ?_)
  show wpAny _ _ (Builtin.ObjectAttr.storeInOwnDict (.ref a) (.ref C) (.str f t) f u b) _ _ _
  have fresh : H hp.objs.size = none := I.hok.fresh (Nat.le_refl _)
  have ne : a ≠ hp.objs.size := Nat.ne_of_lt (Heap.lt_size ho)
  refine wpAny_bind (wpAny_pure (wpAny_bind (PySem.W.instanceDict_exc (t := t1) (c2 := .none) ho (PySem.W.looks_clsIn I.kIn hc) hcd ?_)))
  -- the dict is new, the object gets it
  have I1 := I.laid (t' := t + 1) (a := hp.objs.size) (o := exd hp.objs.size []) (h' := hp.push (PySem.W.dictOf [] 0)) (fun b u e => Heap.get?_push_of_some _ e) (Nat.le_refl _)
    (exd_ok (Heap.Ns1.of_empty ⟨_, #[], 0, Heap.get?_push_size _ rfl, rfl, fun e he => absurd he (by simp), fun _ => rfl⟩) fun _ => True.intro)
  have e1 : upd H hp.objs.size (exd hp.objs.size []) a = some (exo a C none) := by
    rw [upd_ne ne]
    exact e
  have ha1 : (hp.push (PySem.W.dictOf [] 0)).get? a = some { cls := .ref C, dict := none, data := .fields #[.ref t1, .none, .none, .none, .bool false, .none] } := Heap.get?_push_of_some _ ho
  have ha2 : ((hp.push (PySem.W.dictOf [] 0)).update a fun o => { o with dict := some hp.objs.size }).get? a = some { cls := .ref C, dict := some hp.objs.size, data := .fields #[.ref t1, .none, .none, .none, .bool false, .none] } := Heap.get?_update_self _ ha1 rfl
  have I2 := I1.write (t' := t + 1) (x := a) (e := a) (o := exo a C (some hp.objs.size)) (h' := (hp.push (PySem.W.dictOf [] 0)).update a fun o => { o with dict := some hp.objs.size }) (by rw [e1]; exact True.intro) (.inl rfl)
    (fun b u n z => (Heap.get?_update_ne _ _ _ _ n).trans z) ⟨_, ha2⟩ (exo_ok ha2)
  have hdx : ((hp.push (PySem.W.dictOf [] 0)).update a fun o => { o with dict := some hp.objs.size }).Ns hp.objs.size fun _ => none :=
    ⟨_, #[], 0, (Heap.get?_update_ne _ _ _ _ ne.symm).trans (Heap.get?_push_size _ rfl), rfl, fun e he => absurd he (by simp), fun _ => rfl⟩
  show wpAny _ _ (Builtin.ObjectAttr.storeInDict hp.objs.size (.str f t) f u) _ _ _
  refine PySem.HandSPX.store_in_new hdx fun h' tk' hn hs => ?_
  have ed : upd (upd H hp.objs.size (exd hp.objs.size [])) a (exo a C (some hp.objs.size)) hp.objs.size = some (exd hp.objs.size []) := by
    rw [upd_ne ne.symm, upd_same]
  have I3 := I2.write (t' := tk') (x := hp.objs.size) (e := hp.objs.size) (o := exd hp.objs.size [(f, y)]) (h' := h') (by rw [ed]; exact True.intro) (.inl rfl) (fun b u n z => (hs.2 b n).trans z)
    (by obtain ⟨o, _, _, z, _⟩ := hn; exact ⟨o, z⟩) (exd_ok hn (relO_put (fs := []) ry fun _ => True.intro))
  rw [upd_swap ne.symm] at I3
  exact h _ _ fresh ne.symm I3
end
/-- self.f = e in an error's __init__ -/
def tKeepF (K : PySem.W.Frag) (f : Str) (to te : TE) : TS := fun D σ H => te σ H fun y H1 => to σ H1 fun x H2 => ∃ a C : Addr, x = .ref a ∧ OexB K C ∧ PySem.W.findIn K (.ref C) f = some none ∧
  H2 a = some (exo a C none) ∧ ∀ dx, H2 dx = none → dx ≠ a → D.nx σ (upd (upd H2 dx (exd dx [(f, y)])) a (exo a C (some dx)))
section
variable {X : Cx} {o e : Expr} {es : List Expr} {to te : TE} {ta : TA} {f : Str} {p p' pos : Pos}
theorem ps_keepF (ho : PE X o to) (he : PE X e te) (hs : swapsWith e (some (.Attribute o f p')) pos.line X.env = pure false := by rfl) : PS X (.Assign [.Attribute o f p'] e pos) (tKeepF X.K f to te) := by
  constructor
  intro pins s σ H D I want
  refine plainObj_wpAny_Assign_Attribute (thn (he.run pins s σ H _ I want) ?_) hs
  rintro v s1 ⟨y, H1, I1, r1, q1⟩
  refine thn (ho.run pins s1 σ H1 _ I1 q1) ?_
  rintro u s2 ⟨x, H2, I2, r2, a, C, rfl, T, hno, ea, q⟩
  obtain rfl : u = Value.ref a := r2
  exact keep_new T I2 ea hno r1 fun dx s' n ne J => ⟨σ, _, J, q dx n ne⟩
/-- what an __init__ that keeps its argument promises -/
def spKeep (C : Addr) (f : Str) : Sp := fun vs H Q _ => ∃ (a : Addr) (y : V), vs = [.ref a, y] ∧ H a = some (exo a C none) ∧ ∀ dx, H dx = none → dx ≠ a → Q .non (upd (upd H dx (exd dx [(f, y)])) a (exo a C (some dx)))
/-- C(e), the error as it is raised: its dict keeps the value -/
def tKeep (C : Addr) (f : Str) (ta : TA) : L2.St → Hp → XK → Prop := fun σ H Q => ta σ H fun vs H1 => ∃ y, vs = [y] ∧ ∀ d, H1 d = none → Q (.ref C) (some d) (upd H1 d (.xd [(f, y)]))
theorem pmk_keep {CX : CXT} {x : Str} {C fI : Addr} {k : Nat} {fd : FuncData} {ps : List Str} (T : OexB X.K C) (iC : PySem.W.findIn X.K (.ref C) "__init__" = some (some (.ref fI))) (tI : PySem.W.typeIn X.K (.ref fI) = some (.type "function"))
    (F1 : FnOk X.prog X.w X.K X.mg X.base CX k fI fd ps (spKeep C f)) (hr : Room (k + 1) X.A) (hb : Binds X.K fd ps []) (hx : Passes CX X (fun _ _ _ => False)) (hg : Gl X x) (hm : X.mg x = some (.ref C)) (ha : PA X (e :: es) ta)
    (hdb : (x == ("__debug__" : Str)) = false := by decide) (he : starEach (e :: es) X.env = (false, eval e X.env) :: starEach es X.env := by rfl) (hpl : (backTo pos (starEach es X.env)).any (·.1) = false := by rfl) :
    PMk X (.Call (.Name x p) (e :: es) [] pos) (tKeep C f ta) := by
  intro pins s σ H Q I want
  obtain ⟨B, newId, initId, bmB, FB, SF, qi, qo⟩ := T.base
  refine wpAny_Call_Name_kw (ld_glob I hg hm ?_ hdb)
  refine PySem.W.callWith_K (h₀ := X.base) I.ok.mod.kin T.kC (thn (ha.run pos pins s σ H _ I want) ?_) he hpl
  rintro us s1 ⟨vs, H1, I1, r1, y, rfl, q1⟩
  refine ⟨I1.kIn, ?_⟩
  show wpAny _ _ (call (.ref C) us) _ _ _
  obtain ⟨u, rfl, ru⟩ := vals1 r1
  obtain ⟨nm, N, qn, bs, bm, hdct, sn, sub, ab, col, dd, k0, k1, k2, k3, k5, hC, hT⟩ := PySem.W.excInit_of I1.kIn qi
  obtain ⟨hp, g, dr, tk, os⟩ := s1
  have up : hp.objs.size ≤ hp.objs.size + 1 := Nat.le_succ _
  have fresh : H1 (hp.objs.size + 1) = none := I1.hok.fresh up
  have kk : ∀ b o, hp.get? b = some o → ((hp.push (PySem.W.kdv_tup [u])).push (PySem.HandSPX.excO C hp.objs.size)).get? b = some o := fun b o e => Heap.get?_push_of_some _ (Heap.get?_push_of_some _ e)
  have hget : ((hp.push (PySem.W.kdv_tup [u])).push (PySem.HandSPX.excO C hp.objs.size)).get? (hp.objs.size + 1) = some (PySem.HandSPX.excO C hp.objs.size) := by heap_get
  have I2 := I1.laid (t' := tk) (a := hp.objs.size + 1) (o := exo (hp.objs.size + 1) C none) (h' := (hp.push (PySem.W.kdv_tup [u])).push (PySem.HandSPX.excO C hp.objs.size)) kk up (exo_ok hget)
  have r2 : Vals [V.ref (hp.objs.size + 1), y] [Value.ref (hp.objs.size + 1), u] := .cons rfl (.cons ru .nil)
  have hq : spKeep C f [V.ref (hp.objs.size + 1), y] (upd H1 (hp.objs.size + 1) (exo (hp.objs.size + 1) C none))
      (fun v H2 => v = .non ∧ ∃ (d : Addr) (fs : List (Str × V)), H2 (hp.objs.size + 1) = some (exo (hp.objs.size + 1) C (some d)) ∧ H2 d = some (exd d fs) ∧ H1 d = none ∧ Q (.ref C) (some d) (upd (del H2 (hp.objs.size + 1)) d (.xd fs))) (fun _ _ _ => False) := by
    refine ⟨_, y, rfl, upd_same, fun dx n ne => ⟨rfl, dx, [(f, y)], upd_same, by rw [upd_ne ne, upd_same], by rw [upd_ne ne] at n; exact n, ?_⟩⟩
    have n1 : H1 dx = none := by rw [upd_ne ne] at n; exact n
    have e : upd (del (upd (upd (upd H1 (hp.objs.size + 1) (exo (hp.objs.size + 1) C none)) dx (exd dx [(f, y)])) (hp.objs.size + 1) (exo (hp.objs.size + 1) C (some dx))) (hp.objs.size + 1)) dx (.xd [(f, y)]) = upd H1 dx (.xd [(f, y)]) := by
      funext b
      by_cases h1 : b = dx
      · subst h1
        rw [upd_same, upd_same]
      · rw [upd_ne h1, upd_ne h1]
        by_cases h2 : b = hp.objs.size + 1
        · subst h2
          rw [del_same, fresh]
        · rw [del_ne h2, upd_ne h2, upd_ne h1, upd_ne h2]
    rw [e]
    exact q1 dx n1
  have hl : [Value.ref (hp.objs.size + 1), u].length = ps.length := by
    have z := F1.len _ _ _ _ hq
    rw [← z]
    rfl
  have room := hr.make C [u] []
  refine wpAny_call (PySem.HandSPX.call_own FB hT hC (PySem.W.looks_findIn I1.kIn iC) (fun self => PySem.W.bind_fn I1.kIn self tI) (by rw [sizeLine_eq]; simp)
    (codeAny_mono (F1.run _ X.stack _ _ ⟨[Value.ref (hp.objs.size + 1), u], []⟩ [Value.ref (hp.objs.size + 1), u] _ _ (fun _ _ _ => False) (hr.make C [u] []) (I2.env0.make C [u] [])
      (by have z := hb _ [Value.ref (hp.objs.size + 1), u] I2.kIn (by rw [List.append_nil]; exact hl); rw [List.append_nil] at z; exact z) r2 hq) fun r s' hq' => ?_))
  cases r with
  | error er => exact hx pins σ _ _ er s' I2 hq'
  | ok fl =>
    cases fl with
    | ret v0 =>
      obtain ⟨v, H2, os2, bare2, un2, hok2, rv, rfl, d, fs, ea, ed, hd1, q2⟩ := hq'
      obtain ⟨h2, g2, d2, t2, os'⟩ := s'
      exact ⟨rv, mk_end (raises_own T.exC T.tyC) I1 up kk un2 hok2 os2 bare2 ea ed hd1 q2⟩
    | next => exact False.elim hq'
    | brk => exact False.elim hq'
    | cont => exact False.elim hq'
end
/-! ### an error that keeps a value: its field, isinstance; (a, oe) stands in the state -/
/-- isinstance(e, c) of such an error -/
def rIsX (K : PySem.W.Frag) (a : Addr) (cls : Value) (d : Option Addr) : List V → Hp → VK → Prop := fun xs H Q => ∃ (c : V) (cv : Value) (b : Bool) (D dx : Addr) (fs : List (Str × V)), xs = [.ref a, c] ∧ (∀ u, RelV c u → u = cv) ∧ cls = .ref D ∧ L2.ExcC K D ∧
  d = some dx ∧ H dx = some (.xd fs) ∧ PySem.W.kitOne K (.ref D) cv = some b ∧ Q (.bl b) H
/-- e.f of such an error -/
def tXfM (a : Addr) (cls : Value) (d : Option Addr) (C : Addr) (f : Str) (te : TE) : TE := fun σ H Q => te σ H fun x H1 => x = .ref a ∧ cls = .ref C ∧ ∃ (dd : Addr) (fs : List (Str × V)) (v : V), d = some dd ∧ H1 dd = some (.xd fs) ∧ fs.lookup f = some v ∧ Q v H1
section
variable {X : Cx} {a : Addr} {oe : Obj} {cls : Value} {d : Option Addr}
theorem cr_isED (hm : (a, oe) ∈ X.pn) (hz : Zc cls d oe) (hf : ∃ vs, oe.data = .fields vs) : CallR X (.builtin "isinstance") (rIsX X.K a cls d) := by
  intro pins s σ H xs us Q I r h
  obtain ⟨c, cv, b, D, dx, fs, rfl, hcv, rfl, C, rfl, hx, e, q⟩ := h
  cases r with
  | cons rx rr =>
    cases rr with
    | cons rt rr =>
      cases rr
      cases rx
      obtain rfl := hcv _ rt
      obtain ⟨hget, _⟩ := I.pin (a, oe) (List.mem_append.mpr (.inl hm))
      have ok : ObjOk X.prog X.w H s.heap dx (.xd fs) := I.hok dx _ hx
      obtain ⟨mA, ⟨od, es, ep, hod, _⟩, _⟩ := ok
      obtain ⟨vs, hv⟩ := hf
      obtain ⟨oc, ody, oda, osl⟩ := oe
      obtain ⟨z1, z2⟩ := hz
      dsimp only at z1 z2 hv
      subst z1 z2 hv
      have hcl : (PySem.W.clsIn X.K D).isSome = true := by
        obtain ⟨cd, hc, _⟩ := PySem.W.any_some C.hd
        rw [hc]
        rfl
      have J : PySem.W.InstAt s.heap a { cls := .ref D, dict := some dx, data := .fields vs, slots := osl } D (some od) := ⟨hget, rfl, rfl, hod⟩
      exact PySem.W.kia_one (PySem.W.kitx_exc hcl C.hg C.hk C.hs C.ha C.hn C.ht C.hm) I.kIn J e (fun z => nomatch z) fun tk => ⟨.bl b, H, I.kept (t' := tk) fun _ _ z => z, rfl, q⟩
theorem pe_xfM {C : Addr} {e : Expr} {te : TE} {pos : Pos} {n : Str} (T : XfC X.K C) (hno : PySem.W.findIn X.K (.ref C) n = some none) (hm : (a, oe) ∈ X.pn) (hz : Zc cls d oe) (hf : ∃ vs, oe.data = .fields vs) (he : PE X e te) (hb : attributeBase e n X.env (eval e X.env) = eval e X.env := by rfl) :
    PE X (.Attribute e n pos) (tXfM a cls d C n te) := by
  constructor
  intro pins s σ H Q I want
  refine attr_of hb (thn (he.run pins s σ H _ I want) ?_)
  rintro u s1 ⟨x, H1, I1, rx, rfl, rfl, dd, fs, v, rfl, ea, l, q⟩
  obtain rfl : u = Value.ref a := rx
  obtain ⟨ha, _⟩ := I1.pin (a, oe) (List.mem_append_left _ hm)
  obtain ⟨vs, hd⟩ := hf
  have ok : ObjOk X.prog X.w H1 s1.heap dd (.xd fs) := I1.hok dd _ ea
  obtain ⟨mA, hns, hr⟩ := ok
  obtain ⟨od, ho, hl⟩ := lookIn_ns hns
  obtain ⟨u, hu, ru⟩ := RelO.some_of (v := v) (o := mA n) (by rw [← l]; exact hr n)
  have J : PySem.W.InstAt s1.heap a oe C (some od) := ⟨ha, hz.1, by unfold PySem.W.notCls; rw [hd] <;> rfl, by rw [hz.2]; exact ho⟩
  exact HandSPX.exc_get I1.kIn J T.ga T.gg T.exC (PySem.W.findObj_own T.hdC hno rfl (by rw [hl, hu])) (handed_of ru) ⟨v, H1, I1.tok _, ru, q⟩
end
end Rp
/-! Te: a list extended by a tuple. -/
namespace Rp
open PySem PySem.Spec L2 PyProof.Rows
theorem extend_tupAt (l : Addr) (items : Array Value) (n : Nat) (b : Addr) (more : Array Value) (m : Nat) (dd : Option Addr) (sl : Array (Option Value)) (h0 : ¬(!items.isEmpty && Builtin.List.listTooLong (items.size + more.size)) = true) (h1 : items.size ≤ sizeLine) (h2 : items.size + more.size ≤ sizeLine + 1) :
    Meets (Builtin.«list.extend» ⟨[.ref l, .ref b], []⟩) (fun _ R s => s.heap.get? l = some { cls := .type "list", dict := none, data := .seq items n, slots := #[] } ∧ s.heap.get? b = some { cls := .type "tuple", dict := dd, data := .seq more m, slots := sl } ∧ R (.ok (.ret Value.none)) { s with heap := s.heap.update l (Obj.mapSeq fun x => x ++ more) }) :=
  .of_wp fun prog w A R s h => by
    obtain ⟨hp, g, d, tk, os⟩ := s
    obtain ⟨hl, hb, h⟩ := h
    have f1 := AutoSeq1.idx_int
    have f2 := AutoSeq1.sub_tuple_tuple
    have f3 := AutoSeq1.sub_list_list
    have f4 := AutoSeq1.sub_tuple_list
    have f5 := AutoSeq1.sub_list_tuple
    have hz' : (items ++ more).size ≤ sizeLine + 1 := by
      rw [Array.size_append]
      exact h2
    wp_walk using (wpAny_updateSeq hl rfl (hz := h1) (_hz' := hz')), AutoSeq1.wpAny_loadPart' hl, AutoSeq1.wpAny_loadPart' hb
    exact ⟨_, rfl, h⟩
def rExtT (K : PySem.W.Frag) : V → List V → Hp → VK → Prop := fun x vs H Q => ∃ (l b : Addr) (xs zs : List V), x = .ref l ∧ vs = [.ref b] ∧ H l = some (.lst xs) ∧ SqT K H b zs ∧ xs.length + zs.length ≤ sizeLine ∧ Q .non (upd H l (.lst (xs ++ zs)))
theorem mt_extT {X : Cx} : MtR X "list.extend" (rExtT X.K) := by
  intro pins s σ H x vs v us Q I rx rv h
  obtain ⟨l, b, xs, zs, rfl, rfl, hH, hB, hz, q⟩ := h
  cases rx
  obtain ⟨u, rfl, ru⟩ := rv.one
  cases ru
  obtain ⟨z, its, n, r, hl, e⟩ := I.lstM hH
  obtain ⟨its2, r2, o, ho, hc, m, hd⟩ := isTuple_of I hB
  obtain ⟨oc, od, oda, osl⟩ := o
  dsimp only at hc hd
  subst hc hd
  have e1 := r.length
  have e2 := r2.length
  have hsz : its.toArray.size + its2.size ≤ sizeLine := by
    rw [List.size_toArray]
    have e3 : its2.toList.length = its2.size := by simp
    omega
  have hlong : ¬ (!its.toArray.isEmpty && Builtin.List.listTooLong (its.toArray.size + its2.size)) = true := by
    rw [notLongL hsz, Bool.and_false]
    exact Bool.false_ne_true
  refine call_meets F.slot_list_extend ⟨_, e, rfl⟩ F.entry_list_extend (F.args_list_extend_2 _ _)
    (extend_tupAt l its.toArray n b its2 m od osl hlong (by omega) (by omega)) ⟨e, ho, ?_⟩
  refine ⟨.non, _, I.lset (its' := its ++ its2.toList) hH e (by simp) (r.append r2) ?_, rfl, q⟩
  rw [List.length_append]
  omega
/-- o[i] of an augmented assignment, a list from its front -/
def rGetN (K : PySem.W.Frag) : V → V → Hp → VK → Prop := fun x y H Q => ∃ (p : Addr) (xs : List V) (j : Nat) (v : V), x = .ref p ∧ y = .int (j : Int) ∧ SqL K H p xs ∧ xs[j]? = some v ∧ Q v H
theorem get_list {X : Cx} : PGet X (rGetN X.K) := by
  intro pins s σ H o i ov iv Q I ro ri h
  obtain ⟨p, xs, j, v, rfl, rfl, hs, hv, q⟩ := h
  obtain rfl : ov = Value.ref p := ro
  obtain ⟨t, rfl⟩ := ri
  obtain ⟨its, r, pl, hz⟩ := I.list hs
  obtain ⟨u, hu, ru⟩ := r.get hv
  have hl := r.length
  have hn := line63
  have hj : j < xs.length := (List.getElem?_eq_some_iff.mp hv).1
  exact wpAny_getItem_list pl.isList (by omega) (by omega) (by rw [Int.toNat_natCast]; simpa using hu) ⟨v, H, I, ru, q⟩
/-- ("seq", ()) that lies in the written part -/
theorem dp_seqE {K : PySem.W.Frag} {a e : Addr} {o o2 : Option Addr} {n m : Nat} {s s2 : Array (Option Value)} {t : Tok} (h1 : K.lookup a = some ⟨.type "tuple", o, .seq #[.str "seq" t, .ref e] n, s⟩) (h2 : K.lookup e = some ⟨.type "tuple", o2, .seq #[] m, s2⟩) :
    ∀ H, Dp K H (.ref a) (.tuple [.str "seq", .tuple []]) := by
  intro H
  have v1 : Vals [V.str "seq", V.ref e] [Value.str "seq" t, Value.ref e] := .cons ⟨t, rfl⟩ (.cons rfl .nil)
  have t1 : SqT K H a [V.str "seq", V.ref e] := .inr ⟨_, _, _, h1, rfl, rfl, (by show 2 ≤ sizeLine; decide), v1⟩
  have t2 : SqT K H e [] := .inr ⟨_, _, _, h2, rfl, rfl, Nat.zero_le _, .nil⟩
  exact .tup t1 (.cons (.str _) (.cons (.tup t2 .nil) .nil))
end Rp
/-! Rl: written data (ints, texts, None, tuples, lists, names of data) as one step; as Rd, but over Dp, and it asks nothing of the heap. -/
namespace Rp
open PySem L2 PyProof.Rows
/-- data held in slots -/
def Ns (K : PySem.W.Frag) (E : List (Nat × PyData)) (σ : L2.St) (H : Hp) : Prop := ∀ e ∈ E, ∃ v, σ[e.1]? = some (some v) ∧ Dp K H v e.2
theorem Ns.same {K : PySem.W.Frag} {E : List (Nat × PyData)} {σ : L2.St} {H H' : Hp} (h : Ns K E σ H) (s : Same H H') : Ns K E σ H' := fun e he => by
  obtain ⟨v, h1, h2⟩ := h e he
  exact ⟨v, h1, dp_same s h2⟩
theorem Ns.nil {K : PySem.W.Frag} {σ : L2.St} {H : Hp} : Ns K [] σ H := fun e he => by cases he
theorem Ns.cons {K : PySem.W.Frag} {E : List (Nat × PyData)} {σ : L2.St} {H : Hp} {i : Nat} {v : V} {d : PyData} (h : σ[i]? = some (some v)) (hd : Dp K H v d) (t : Ns K E σ H) : Ns K ((i, d) :: E) σ H := fun e he => by
  rcases List.mem_cons.mp he with rfl | he
  · exact ⟨v, h, hd⟩
  · exact t e he
def tW (K : PySem.W.Frag) (E : List (Nat × PyData)) (d : PyData) : TE := fun σ H Q => Ns K E σ H ∧ ∀ (H' : Hp) (v : V), Same H H' → Dp K H' v d → Q v H'
def tWs (K : PySem.W.Frag) (E : List (Nat × PyData)) (ds : List PyData) : TA := fun σ H Q => Ns K E σ H ∧ ∀ (H' : Hp) (vs : List V), Same H H' → DpAll K H' vs ds → Q vs H'
section
variable {X : Cx} {E : List (Nat × PyData)}
theorem pw_mono {e : Expr} {t t' : TE} (h : PE X e t) (f : ∀ σ H Q, t' σ H Q → t σ H Q) : PE X e t' := ⟨fun pins s σ H Q I z => h.run pins s σ H Q I (f σ H Q z)⟩
theorem pws_mono {es : List Expr} {t t' : TA} (h : PA X es t) (f : ∀ σ H Q, t' σ H Q → t σ H Q) : PA X es t' := ⟨fun pos pins s σ H Q I z => h.run pos pins s σ H Q I (f σ H Q z)⟩
theorem pw_int {e : Expr} {t : TE} {m n : Int} (h : PE X e t) (hm : m = n) (f : ∀ σ H (Q : VK), Q (.int m) H → t σ H Q) : PE X e (tW X.K E (.int n)) := by
  refine pw_mono h fun σ H Q z => f σ H Q ?_
  obtain ⟨_, q⟩ := z
  subst hm
  exact q H _ (Same.refl _) (.int _)
theorem pw_str {x : Str} {j : Nat} {pos : Pos} : PE X (.Constant (.str x) j pos) (tW X.K E (.str x)) :=
  pw_mono pe_str fun σ H Q ⟨_, q⟩ => q H _ (Same.refl _) (.str _)
theorem pw_non {j : Nat} {pos : Pos} : PE X (.Constant .none j pos) (tW X.K E .none) :=
  pw_mono pe_non fun σ H Q ⟨_, q⟩ => q H _ (Same.refl _) .non
theorem pw_bl {b : Bool} {j : Nat} {pos : Pos} : PE X (.Constant (.bool b) j pos) (tW X.K E (.bool b)) :=
  pw_mono pe_bl fun σ H Q ⟨_, q⟩ => q H _ (Same.refl _) (.bl _)
theorem pw_var {e : Expr} {i : Nat} {d : PyData} (h : PE X e (tVar i)) (m : (i, d) ∈ E) : PE X e (tW X.K E d) := by
  refine pw_mono h fun σ H Q z => ?_
  obtain ⟨n, q⟩ := z
  obtain ⟨v, h1, h2⟩ := n _ m
  exact ⟨v, h1, q H _ (Same.refl _) h2⟩
theorem pws_nil : PA X [] (tWs X.K E []) :=
  pws_mono pa_nil fun σ H Q ⟨_, q⟩ => q H _ (Same.refl _) .nil
theorem pws_cons {e : Expr} {es : List Expr} {d : PyData} {ds : List PyData} (h : PE X e (tW X.K E d)) (t : PA X es (tWs X.K E ds)) (hs : starEach (e :: es) X.env = (false, eval e X.env) :: starEach es X.env := by rfl) : PA X (e :: es) (tWs X.K E (d :: ds)) := by
  refine pws_mono (pa_cons h t hs) fun σ H Q z => ?_
  obtain ⟨n, q⟩ := z
  exact ⟨n, fun H' v s hd => ⟨n.same s, fun H2 vs s2 hvs => q H2 _ (s.trans s2) (.cons (dp_same s2 hd) hvs)⟩⟩
theorem pw_tup {es : List Expr} {ds : List PyData} {k : Nat} {pos : Pos} (h : PA X es (tWs X.K E ds)) (hl : ds.length ≤ 1000) : PE X (.Tuple es k pos) (tW X.K E (.tuple ds)) := by
  refine pw_mono (pe_tup h) fun σ H Q z => ?_
  obtain ⟨n, q⟩ := z
  refine ⟨n, fun H' vs s hvs => ⟨small (by rw [dpAll_length hvs]; exact hl), fun t ht => ?_⟩⟩
  obtain ⟨s2, hd⟩ := tup_fresh ht hvs
  exact q _ _ (s.trans s2) hd
theorem pw_lst {es : List Expr} {ds : List PyData} {pos : Pos} (h : PA X es (tWs X.K E ds)) (hl : ds.length ≤ 1000) : PE X (.List es pos) (tW X.K E (.list ds)) := by
  refine pw_mono (pe_lst h) fun σ H Q z => ?_
  obtain ⟨n, q⟩ := z
  refine ⟨n, fun H' vs s hvs => ⟨small (by rw [dpAll_length hvs]; exact hl), fun t ht => ?_⟩⟩
  obtain ⟨s2, hd⟩ := lst_fresh ht hvs
  exact q _ _ (s.trans s2) hd
theorem dpAll_repW {K : PySem.W.Frag} {H : Hp} {vs : List V} {ds : List PyData} (h : DpAll K H vs ds) : ∀ k : Nat, DpAll K H (List.replicate k vs).flatten (List.replicate k ds).flatten
  | 0 => .nil
  | k + 1 => by
    simp only [List.replicate_succ, List.flatten_cons]
    exact dpAll_append h (dpAll_repW h k)
theorem pw_rep {a b : Expr} {ds : List PyData} {k : Nat} {pos : Pos} (h : PE X a (tW X.K E (.tuple ds))) (hb : PE X b (tC (.int (k : Int)))) (h2 : 2 ≤ k) (hk : k ≤ 1000) (h0 : ds ≠ []) (hl : ds.length ≤ 1000) :
    PE X (.BinOp a .Mult b pos) (tW X.K E (.tuple (List.replicate k ds).flatten)) := by
  refine pw_mono (pe_op (r := rRepT X.K) op_repT h hb) fun σ H Q z => ?_
  obtain ⟨n, q⟩ := z
  refine ⟨n, fun H' v s hd => ?_⟩
  obtain ⟨l, xs, rfl, hs, hall⟩ := dp_tup_inv hd
  refine ⟨l, _, xs, rfl, rfl, hs, ?_, by omega, by omega, by rw [dpAll_length hall]; exact hl, fun t ht => ?_⟩
  · intro z
    subst z
    cases hall
    exact h0 rfl
  · have e : ((k : Int)).toNat = k := by omega
    rw [e]
    obtain ⟨s2, hd2⟩ := tup_fresh ht (dpAll_repW hall k)
    exact q _ _ (s.trans s2) hd2
theorem pw_cat {a b : Expr} {ds es : List PyData} {pos : Pos} (h : PE X a (tW X.K E (.tuple ds))) (h' : PE X b (tW X.K E (.tuple es))) (hl : ds.length + es.length ≤ 1000) :
    PE X (.BinOp a .Add b pos) (tW X.K E (.tuple (ds ++ es))) := by
  refine pw_mono (pe_op (r := rCatA X.K) op_catA h h') fun σ H Q z => ?_
  obtain ⟨n, q⟩ := z
  refine ⟨n, fun H1 v s1 hd => ⟨n.same s1, fun H2 u s2 hd2 => ?_⟩⟩
  obtain ⟨l, xs, rfl, hs, hall⟩ := dp_tup_inv (dp_same s2 hd)
  obtain ⟨l', ys, rfl, hs', hall'⟩ := dp_tup_inv hd2
  have hlen : xs.length + ys.length ≤ sizeLine := small (by rw [dpAll_length hall, dpAll_length hall']; exact hl)
  have hcat := dpAll_append hall hall'
  refine ⟨l, l', xs, ys, rfl, rfl, hs, hs', hlen, fun z => ?_, fun _ z => ?_, fun _ _ t ht => ?_⟩
  · subst z
    exact q _ _ (s1.trans s2) (.tup hs' hcat)
  · subst z
    rw [List.append_nil] at hcat
    exact q _ _ (s1.trans s2) (.tup hs hcat)
  · obtain ⟨s3, hd3⟩ := tup_fresh ht hcat
    exact q _ _ (s1.trans (s2.trans s3)) hd3
end
end Rp
/-! Mx: max of four ints, and a for over what is a list or a tuple. -/
namespace Rp
open PySem L2 PyProof.Rows
theorem best_is (f : Nat → Int) : ∀ k : Nat, argBest (fun i j => decide (f i > f j)) k ≤ k ∧ ∀ i, i ≤ k → f i ≤ f (argBest (fun i j => decide (f i > f j)) k)
  | 0 => ⟨Nat.le_refl _, fun i hi => by
      have e : i = 0 := by omega
      rw [e]
      exact Int.le_refl _⟩
  | k + 1 => by
    obtain ⟨h1, h2⟩ := best_is f k
    by_cases g : f (k + 1) > f (argBest (fun i j => decide (f i > f j)) k)
    · have e : argBest (fun i j => decide (f i > f j)) (k + 1) = k + 1 := by simp [argBest, g]
      rw [e]
      refine ⟨Nat.le_refl _, fun i hi => ?_⟩
      by_cases z : i = k + 1
      · rw [z]
        exact Int.le_refl _
      · have := h2 i (by omega)
        omega
    · have e : argBest (fun i j => decide (f i > f j)) (k + 1) = argBest (fun i j => decide (f i > f j)) k := by simp [argBest, g]
      rw [e]
      refine ⟨by omega, fun i hi => ?_⟩
      by_cases z : i = k + 1
      · rw [z]
        omega
      · exact h2 i (by omega)
section
variable {prog : Program} {w : World} {A : Around} {E : Value → Shared → Prop} {s : Shared}
theorem max4_args (a b c d : Value) : argsOk "max" ⟨[a, b, c, d], []⟩ := by
  unfold argsOk
  kernel_rfl
theorem far1 {n : Nat} : n ≠ n + 1 := by omega
theorem far2 {n : Nat} : n + 1 + 1 ∉ [n + 1, n] := by simp; omega
theorem far3 {z n : Nat} (h : z < n) : z ∉ [n + 1] := by simp; omega
theorem far4 {z n : Nat} (h : z < n) : z ≠ n + 1 + 1 := by omega
/-- the greatest of four -/
theorem max4 {n : Nat → Int} {t : Nat → Tok} {Q : Value → Shared → Prop} (hh : A.handled = none)
    (h : ∀ (g : Heap) (tk : Nat) (k : Nat), k < 4 → (∀ i, i < 4 → n i ≤ n k) → (∀ z o, s.heap.get? z = some o → g.get? z = some o) → Q (.int (n k) (t k)) { s with heap := g, toks := tk }) :
    wpAny (model prog w) A (call (.builtin "max") [.int (n 0) (t 0), .int (n 1) (t 1), .int (n 2) (t 2), .int (n 3) (t 3)]) Q E s := by
  have nm : (toString "max" ++ toString ".loop" : String) = "max.loop" := by decide
  have at4 : ∀ i v, (#[Value.int (n 0) (t 0), .int (n 1) (t 1), .int (n 2) (t 2), .int (n 3) (t 3)] : Array Value)[i]? = some v → i < 4 ∧ v = .int (n i) (t i) := by
    intro i v e
    match i, e with
    | 0, e => exact ⟨by omega, by simpa using e.symm⟩
    | 1, e => exact ⟨by omega, by simpa using e.symm⟩
    | 2, e => exact ⟨by omega, by simpa using e.symm⟩
    | 3, e => exact ⟨by omega, by simpa using e.symm⟩
    | i + 4, e => simp at e
  have at4 : ∀ (arr : Array Value) (i : Nat) (v : Value), arr = #[Value.int (n 0) (t 0), .int (n 1) (t 1), .int (n 2) (t 2), .int (n 3) (t 3)] → arr[i]? = some v → i < 4 ∧ v = .int (n i) (t i) := fun arr i v e h => at4 i v (e ▸ h)
  have sz : ∀ arr : Array Value, (s.heap.push { cls := .type "tuple", data := .seq arr }).objs.size = s.heap.objs.size + 1 := fun _ => Heap.size_push ..
  have tup : ∀ arr : Array Value, (s.heap.push { cls := .type "tuple", data := .seq arr }).IsTuple s.heap.objs.size arr := fun arr => ⟨_, Heap.get?_push_size _ rfl, rfl, 0, rfl⟩
  have four : ∀ arr : Array Value, arr = #[Value.int (n 0) (t 0), .int (n 1) (t 1), .int (n 2) (t 2), .int (n 3) (t 3)] → arr.size = 4 := fun arr e => by rw [e]; rfl
  refine call_function_tree F.kind_max F.plain_max F.entry_max (max4_args _ _ _ _) (wpAny_bind (wpAny_of_eq (a := [none, none]) rfl ?_))
  refine wpAny_bind (M := model prog w) (A := A.in1) (m := newTuple [.int (n 0) (t 0), .int (n 1) (t 1), .int (n 2) (t 2), .int (n 3) (t 3)]) (wpAny_newObj_type ?_)
  generalize ea : ([Value.int (n 0) (t 0), .int (n 1) (t 1), .int (n 2) (t 2), .int (n 3) (t 3)] : List Value).toArray = arr
  have ea' := ea.symm
  refine wpAny_bind (wpAny_pyIter_tuple (tup arr) (wpAny_bind (wpAny_newObj_type ?_)))
  rw [nm]
  have W := Walks.tuple (prog := prog) (w := w) (A := A.in1) hh (s.heap.objs.size + 1) s.heap.objs.size far1 arr
  have i1 : (s.heap.push { cls := .type "tuple", data := .seq arr }).objs.size = s.heap.objs.size + 1 := sz arr
  have i2 : ((s.heap.push { cls := .type "tuple", data := .seq arr }).push { cls := .type "tuple_iterator", data := .fields #[.ref s.heap.objs.size, .int 0 0] }).objs.size = s.heap.objs.size + 1 + 1 := by
    rw [Heap.size_push, i1]
  dsimp only [Option.getD_none, Option.toList_none, List.map_nil]
  rw [i1, i2]
  have hit : ((s.heap.push { cls := .type "tuple", data := .seq arr }).push { cls := .type "tuple_iterator", data := .fields #[.ref s.heap.objs.size, .int 0 0] }).IsTupleIter (s.heap.objs.size + 1) s.heap.objs.size 0 :=
    ⟨_, by rw [← i1]; exact Heap.get?_push_size _ rfl, rfl, rfl⟩
  have ht2 := (tup arr).push { cls := .type "tuple_iterator", data := .fields #[.ref s.heap.objs.size, .int 0 0] }
  have hst := W.frame 0 _ _ ⟨hit, ht2⟩ fun b (_ : b ∈ [s.heap.objs.size + 1, s.heap.objs.size]) o e => Heap.get?_push_of_some { cls := .type "list", data := .seq #[] } e
  refine wpAny_pure ⟨plainId_quiet F.plain_max_loop _, codeAny_max_loop_first W _ (CmpOf.ints_gt n fun i v e => ⟨t i, (at4 arr i v ea' e).2⟩) (s.heap.objs.size + 1 + 1) far2 (by rw [four arr ea']; omega) hst (by rw [← i2]; exact Heap.get?_push_size _ rfl) fun v g tk hP hk => ?_⟩
  obtain ⟨b1, b2⟩ := best_is n 3
  rw [four arr ea'] at hP
  obtain ⟨k4, rfl⟩ := at4 arr _ v ea' hP
  refine h g tk _ k4 (fun i hi => b2 i (by omega)) fun z o e => ?_
  have hz := Heap.lt_size e
  refine hk z o (far3 hz) (far4 hz) (Heap.get?_push_of_some _ (Heap.get?_push_of_some _ (Heap.get?_push_of_some _ e)))
end
section
variable {X : Cx}
theorem call_max4 (hc : X.calm = true) : CallR X (.builtin "max") (fun xs H Q => ∃ a b c d : Int, xs = [.int a, .int b, .int c, .int d] ∧ ∀ m, m ∈ [a, b, c, d] → a ≤ m → b ≤ m → c ≤ m → d ≤ m → Q (.int m) H) := by
  intro pins s σ H xs us Q I r h
  obtain ⟨a, b, c, d, rfl, q⟩ := h
  cases r with
  | cons r1 r =>
  cases r with
  | cons r2 r =>
  cases r with
  | cons r3 r =>
  cases r with
  | cons r4 r =>
  cases r
  obtain ⟨t1, rfl⟩ := r1
  obtain ⟨t2, rfl⟩ := r2
  obtain ⟨t3, rfl⟩ := r3
  obtain ⟨t4, rfl⟩ := r4
  refine max4 (n := fun i => [a, b, c, d].getD i 0) (t := fun i => [t1, t2, t3, t4].getD i t1) (I.ok.hd hc) fun g tk k hk hm hold => ⟨.int ([a, b, c, d].getD k 0), H, I.kept hold, ⟨_, rfl⟩, ?_⟩
  have m0 := hm 0 (by omega)
  have m1 := hm 1 (by omega)
  have m2 := hm 2 (by omega)
  have m3 := hm 3 (by omega)
  refine q _ ?_ m0 m1 m2 m3
  match k, hk with
  | 0, _ => simp
  | 1, _ => simp
  | 2, _ => simp
  | 3, _ => simp
/-- a for over a list or a tuple -/
def iSeqA (K : PySem.W.Frag) (te : TE) : TI := fun σ H R => te σ H fun x H1 => ∃ a, x = .ref a ∧ (((∃ xs, SqL K H1 a xs) ∧ R (Itl K a) H1) ∨ ((∃ xs, SqT K H1 a xs) ∧ R (Itt K a) H1))
theorem pi_seqA {tg l : Expr} {te : TE} (hl : PE X l te) : PI X tg l (iSeqA X.K te) := by
  refine ⟨fun pins s σ H R I h => thn (hl.run pins s σ H _ I h) fun v s1 ⟨x, H1, I1, r1, a, e, q⟩ => ?_⟩
  subst e
  cases r1
  have fresh : ∀ b ∈ [s1.heap.objs.size], FpOk X pins H1 b := fun b hb => by
    rw [List.mem_singleton] at hb
    rw [hb]
    exact I1.fpOk (Nat.le_refl _) (I1.hok.fresh (Nat.le_refl _))
  rcases q with ⟨⟨xs, hx⟩, q⟩ | ⟨⟨xs, hx⟩, q⟩
  · obtain ⟨its, rv, p, hz⟩ := I1.list hx
    exact wpAny_pyIter_list p.isList ⟨_, [s1.heap.objs.size], _, _, H1, rfl, I1.kept (t' := s1.toks) fun b o e => Heap.get?_push_of_some _ e, turn_list a _, ⟨_, Heap.get?_push_size _ rfl, rfl, rfl⟩, fresh, q⟩
  · obtain ⟨its, rv, p, hz⟩ := I1.tuple hx
    exact wpAny_pyIter_tuple (items := its.toArray) p ⟨_, [s1.heap.objs.size], _, _, H1, rfl, I1.kept (t' := s1.toks) fun b o e => Heap.get?_push_of_some _ e, turn_tuple a _, ⟨_, Heap.get?_push_size _ rfl, rfl, rfl⟩, fresh, q⟩
end
/-- a list or a tuple with these items -/
def SeqA (K : PySem.W.Frag) (H : Hp) (a : Addr) (xs : List V) : Prop := SqL K H a xs ∨ SqT K H a xs
theorem SeqA.same {K : PySem.W.Frag} {H H' : Hp} {a : Addr} {xs : List V} (h : SeqA K H a xs) (s : Same H H') : SeqA K H' a xs := by
  rcases h with h | h
  · rcases h with (h | ⟨o, h⟩) | h
    · exact .inl (.inl (.inl (s _ _ h)))
    · exact .inl (.inl (.inr ⟨o, s _ _ h⟩))
    · exact .inl (.inr h)
  · exact .inr (same_sqT s h)
theorem walk_revT {K : PySem.W.Frag} {a : Addr} {xs : List V} : Walk (RT.ItvT K a xs.length) xs.length (fun H => SqT K H a xs) (fun i H x H' => H' = H ∧ xs[xs.length - 1 - i]? = some x) :=
  ⟨fun i H hi h => ⟨hi, xs, xs[xs.length - 1 - i]'(by omega), h, List.getElem?_eq_getElem (by omega)⟩, fun _ _ => Nat.le_refl _, fun i H x H' hi h y => ⟨y.1, y.2 xs h⟩⟩
theorem same_sqL {K : PySem.W.Frag} {H H' : Hp} {a : Addr} {xs : List V} (s : Same H H') (h : SqL K H a xs) : SqL K H' a xs := by
  rcases h with (h | ⟨o, h⟩) | h
  · exact .inl (.inl (s _ _ h))
  · exact .inl (.inr ⟨o, s _ _ h⟩)
  · exact .inr h
/-- what a for asks of what it walks -/
def ForR (g : TG) (tb : TS) (D : Ends) (σ : L2.St) (J : It) (H : Hp) : Prop := ∃ W : Nat → Nat → L2.St → Hp → Prop, (∃ m, W 0 m σ H) ∧ ∀ (i m : Nat) (σ : L2.St) (H : Hp), W i m σ H →
  (J.stop i H ∧ D.nx σ H) ∨ (J.go i H ∧ ∃ N : L2.St → Hp → Prop, (∀ (σ' : L2.St) (H' : Hp), N σ' H' → ∃ m', m' < m ∧ W (i + 1) m' σ' H') ∧ ∀ (x : V) (H' : Hp), J.yld i H x H' → g x σ H' fun σ2 H2 => tb { nx := N, rt := D.rt, bk := D.nx, ct := N } σ2 H2)
theorem for_seqA {K : PySem.W.Frag} {a : Addr} {xs : List V} {g : TG} {tb : TS} {D : Ends} {σ : L2.St} {Hb H : Hp} (h : SeqA K Hb a xs) (hb : Same Hb H) (Pv : Nat → L2.St → Hp → Prop) (h0 : Pv 0 σ H)
    (hs : ∀ (i : Nat) (σ : L2.St) (H' : Hp), i ≤ xs.length → Pv i σ H' → Same Hb H')
    (step : ∀ (i : Nat) (x : V) (σ : L2.St) (H' : Hp), xs[i]? = some x → Pv i σ H' → g x σ H' fun σ2 H2 => tb { nx := Pv (i + 1), rt := D.rt, bk := D.nx, ct := Pv (i + 1) } σ2 H2)
    (fin : ∀ (σ : L2.St) (H' : Hp), Pv xs.length σ H' → D.nx σ H') : ((∃ xs, SqL K H a xs) ∧ ForR g tb D σ (Itl K a) H) ∨ ((∃ xs, SqT K H a xs) ∧ ForR g tb D σ (Itt K a) H) := by
  rcases h with h | h
  · exact .inl ⟨⟨xs, same_sqL hb h⟩, for_it (walk_list (xs := xs)) Pv h0 (fun i σ H' hi p => same_sqL (hs i σ H' hi p) h) (fun i x σ H1 H2 hi p y => by obtain ⟨rfl, y⟩ := y; exact step i x σ _ y p) fin⟩
  · exact .inr ⟨⟨xs, same_sqT hb h⟩, for_it (walk_tup (xs := xs)) Pv h0 (fun i σ H' hi p => same_sqT (hs i σ H' hi p) h) (fun i x σ H1 H2 hi p y => by obtain ⟨rfl, y⟩ := y; exact step i x σ _ y p) fin⟩
theorem for_revA {K : PySem.W.Frag} {a : Addr} {xs : List V} {g : TG} {tb : TS} {D : Ends} {σ : L2.St} {Hb H : Hp} (h : SeqA K Hb a xs) (hb : Same Hb H) (Pv : Nat → L2.St → Hp → Prop) (h0 : Pv 0 σ H)
    (hs : ∀ (i : Nat) (σ : L2.St) (H' : Hp), i ≤ xs.length → Pv i σ H' → Same Hb H')
    (step : ∀ (i : Nat) (x : V) (σ : L2.St) (H' : Hp), i < xs.length → xs[xs.length - 1 - i]? = some x → Pv i σ H' → g x σ H' fun σ2 H2 => tb { nx := Pv (i + 1), rt := D.rt, bk := D.nx, ct := Pv (i + 1) } σ2 H2)
    (fin : ∀ (σ : L2.St) (H' : Hp), Pv xs.length σ H' → D.nx σ H') : (SqL K H a xs ∧ ForR g tb D σ (Itv K a xs.length) H) ∨ (SqT K H a xs ∧ ForR g tb D σ (RT.ItvT K a xs.length) H) := by
  rcases h with h | h
  · exact .inl ⟨same_sqL hb h, for_it (walk_rev (xs := xs)) Pv h0 (fun i σ H' hi p => same_sqL (hs i σ H' hi p) h) (fun i x σ H1 H2 hi p y => by obtain ⟨rfl, y⟩ := y; exact step i x σ _ hi y p) fin⟩
  · exact .inr ⟨same_sqT hb h, for_it (walk_revT (xs := xs)) Pv h0 (fun i σ H' hi p => same_sqT (hs i σ H' hi p) h) (fun i x σ H1 H2 hi p y => by obtain ⟨rfl, y⟩ := y; exact step i x σ _ hi y p) fin⟩
theorem walk_zipT2 {K : PySem.W.Frag} {a b : Addr} {xs ys : List V} {n : Nat} (hn : n = min xs.length ys.length) : Walk (RZ.ItzT K a b) n (fun H => SqT K H a xs ∧ SqT K H b ys) (YPair (fun i => xs[i]?) (fun i => ys[i]?)) := by
  subst hn
  refine ⟨fun i H hi h => ?_, fun H h => ⟨xs, ys, h.1, h.2, by omega⟩, fun i H v H' hi h y => ?_⟩
  · have l1 : i < xs.length := by omega
    have l2 : i < ys.length := by omega
    exact ⟨xs, ys, xs[i], ys[i], h.1, h.2, List.getElem?_eq_getElem l1, List.getElem?_eq_getElem l2⟩
  · obtain ⟨T, x, z, rfl, hT, rfl, f1, f2⟩ := y
    exact ⟨T, x, z, rfl, hT, rfl, f1 xs h.1, f2 ys h.2⟩
end Rp
/-! Pv: offers, valleys and profiles of steps (mathematics alone). -/
namespace Lw
open PySem L2 Rp
abbrev P2 := Int × Int
/-- q is as good as p -/
abbrev Dm (q p : P2) : Prop := q.1 ≤ p.1 ∧ q.2 ≤ p.2
def Covers (V P : List P2) : Prop := ∀ p ∈ P, ∃ v ∈ V, Dm v p
theorem Covers.refl (P : List P2) : Covers P P := fun p h => ⟨p, h, Int.le_refl _, Int.le_refl _⟩
theorem Covers.trans {A B C : List P2} (h : Covers A B) (k : Covers B C) : Covers A C := fun p hp => by
  obtain ⟨b, hb, e1, e2⟩ := k p hp
  obtain ⟨a, ha, e3, e4⟩ := h b hb
  exact ⟨a, ha, Int.le_trans e3 e1, Int.le_trans e4 e2⟩
theorem Covers.of_sub {A B : List P2} (h : ∀ p ∈ B, p ∈ A) : Covers A B := fun p hp => ⟨p, h p hp, Int.le_refl _, Int.le_refl _⟩
theorem Covers.append {A B C D : List P2} (h : Covers A B) (k : Covers C D) : Covers (A ++ C) (B ++ D) := fun p hp => by
  rcases List.mem_append.mp hp with hp | hp
  · obtain ⟨v, hv, e⟩ := h p hp
    exact ⟨v, List.mem_append.mpr (.inl hv), e⟩
  · obtain ⟨v, hv, e⟩ := k p hp
    exact ⟨v, List.mem_append.mpr (.inr hv), e⟩
theorem Covers.map {A B : List P2} (h : Covers A B) (f : P2 → P2) (hf : ∀ q p, Dm q p → Dm (f q) (f p)) : Covers (A.map f) (B.map f) := fun p hp => by
  obtain ⟨b, hb, rfl⟩ := List.mem_map.mp hp
  obtain ⟨a, ha, e⟩ := h b hb
  exact ⟨f a, List.mem_map.mpr ⟨a, ha, rfl⟩, hf _ _ e⟩
/-- each offers as much as the other -/
def Alike (A B : List P2) : Prop := Covers A B ∧ Covers B A
theorem Alike.refl (A : List P2) : Alike A A := ⟨Covers.refl A, Covers.refl A⟩
theorem Alike.symm {A B : List P2} (h : Alike A B) : Alike B A := ⟨h.2, h.1⟩
theorem Alike.trans {A B C : List P2} (h : Alike A B) (k : Alike B C) : Alike A C := ⟨h.1.trans k.1, k.2.trans h.2⟩
theorem Alike.append {A B C D : List P2} (h : Alike A B) (k : Alike C D) : Alike (A ++ C) (B ++ D) := ⟨h.1.append k.1, h.2.append k.2⟩
theorem Alike.map {A B : List P2} (h : Alike A B) (f : P2 → P2) (hf : ∀ q p, Dm q p → Dm (f q) (f p)) : Alike (A.map f) (B.map f) := ⟨h.1.map f hf, h.2.map f hf⟩
theorem Alike.of_mem {A B : List P2} (h : ∀ p, p ∈ A ↔ p ∈ B) : Alike A B := ⟨Covers.of_sub fun p hp => (h p).mpr hp, Covers.of_sub fun p hp => (h p).mp hp⟩
/-- capacities go up, usages go down -/
abbrev Strict (V : List P2) : Prop := V.Pairwise fun a b => a.1 < b.1 ∧ b.2 < a.2
structure IsVal (P V : List P2) : Prop where
  strict : Strict V
  sub : ∀ v ∈ V, v ∈ P
  cov : Covers V P
theorem IsVal.alike {P V : List P2} (h : IsVal P V) : Alike V P := ⟨h.cov, Covers.of_sub h.sub⟩
theorem strict_cov : ∀ {V W : List P2}, Strict V → Strict W → Covers V W → Covers W V → V = W
  | [], [], _, _, _, _ => rfl
  | [], w :: W, _, _, h, _ => by
    obtain ⟨v, hv, _⟩ := h w (List.mem_cons_self ..)
    cases hv
  | v :: V, [], _, _, _, h => by
    obtain ⟨v, hv, _⟩ := h v (List.mem_cons_self ..)
    cases hv
  | v :: V, w :: W, sv, sw, h, k => by
    have sv' := List.pairwise_cons.mp sv
    have sw' := List.pairwise_cons.mp sw
    -- the first ones cover one another
    have dist : ∀ {a : P2} {A : List P2}, Strict (a :: A) → ∀ x ∈ a :: A, ∀ y ∈ a :: A, Dm x y → x = y := by
      intro a A s x hx y hy hd
      have tri : ∀ {l : List P2}, Strict l → ∀ x ∈ l, ∀ y ∈ l, Dm x y → x = y := by
        intro l
        induction l with
        | nil => intro _ x hx; cases hx
        | cons z l ih =>
          intro s x hx y hy hd
          have s' := List.pairwise_cons.mp s
          rcases List.mem_cons.mp hx with e | hx2
          · subst e
            rcases List.mem_cons.mp hy with e | hy2
            · exact e.symm
            · have := s'.1 y hy2
              have := hd.2
              omega
          · rcases List.mem_cons.mp hy with e | hy2
            · subst e
              have := s'.1 x hx2
              have := hd.1
              omega
            · exact ih s'.2 x hx2 y hy2 hd
      exact tri s x hx y hy hd
    have same : ∀ x ∈ v :: V, x ∈ w :: W := by
      intro x hx
      obtain ⟨y, hy, e1⟩ := k x hx
      obtain ⟨z, hz, e2⟩ := h y hy
      have ezx : z = x := dist sv z hz x hx ⟨Int.le_trans e2.1 e1.1, Int.le_trans e2.2 e1.2⟩
      subst ezx
      have : z = y := Prod.ext (Int.le_antisymm e2.1 e1.1) (Int.le_antisymm e2.2 e1.2)
      rw [this]
      exact hy
    have same2 : ∀ x ∈ w :: W, x ∈ v :: V := by
      intro x hx
      obtain ⟨y, hy, e1⟩ := h x hx
      obtain ⟨z, hz, e2⟩ := k y hy
      have ezx : z = x := dist sw z hz x hx ⟨Int.le_trans e2.1 e1.1, Int.le_trans e2.2 e1.2⟩
      subst ezx
      have : z = y := Prod.ext (Int.le_antisymm e2.1 e1.1) (Int.le_antisymm e2.2 e1.2)
      rw [this]
      exact hy
    have hvw : v = w := by
      rcases List.mem_cons.mp (same v (List.mem_cons_self ..)) with e | e
      · exact e
      · rcases List.mem_cons.mp (same2 w (List.mem_cons_self ..)) with e' | e'
        · exact e'.symm
        · have := sw'.1 v e
          have := sv'.1 w e'
          omega
    subst hvw
    have rest : ∀ {A B : List P2}, (∀ x ∈ A, v.1 < x.1 ∧ x.2 < v.2) → (∀ x ∈ v :: A, x ∈ v :: B) → ∀ x ∈ A, x ∈ B := by
      intro A B hA hs x hx
      rcases List.mem_cons.mp (hs x (List.mem_cons_of_mem _ hx)) with rfl | e
      · have := hA x hx
        omega
      · exact e
    rw [strict_cov sv'.2 sw'.2 (Covers.of_sub (rest sw'.1 same2)) (Covers.of_sub (rest sv'.1 same))]
theorem IsVal.uniq {P Q V W : List P2} (h : IsVal P V) (k : IsVal Q W) (e : Alike P Q) : V = W :=
  strict_cov h.strict k.strict ((h.alike.trans e).trans k.alike.symm).1 ((h.alike.trans e).trans k.alike.symm).2
/-! what the walk over sorted pairs finds -/
/-- the pairs found so far, of these sorted ones: the last one has the least usage -/
structure Found (P V : List P2) : Prop where
  val : IsVal P V
  last : ∀ p ∈ P, ∀ v, V.getLast? = some v → v.2 ≤ p.2
theorem Found.nil : Found [] [] := ⟨⟨.nil, by simp, by simp [Covers]⟩, by simp⟩
theorem strict_last : ∀ {V : List P2} {v x : P2}, Strict V → V.getLast? = some v → x ∈ V → x = v ∨ (x.1 < v.1 ∧ v.2 < x.2) := by
  intro V v x s h hx
  obtain ⟨l, rfl⟩ := List.getLast?_eq_some_iff.mp h
  have s' := List.pairwise_append.mp s
  rcases List.mem_append.mp hx with hx | hx
  · exact .inr (s'.2.2 x hx v (by simp))
  · rw [List.mem_singleton] at hx
    exact .inl hx
/-- a pair behind all others, by capacity and then by usage -/
def Behind (P : List P2) (p : P2) : Prop := ∀ q ∈ P, q.1 < p.1 ∨ (q.1 = p.1 ∧ q.2 ≤ p.2)
theorem Found.skip {P V : List P2} {p v : P2} (h : Found P V) (hv : V.getLast? = some v) (b : Behind P p) (hle : ¬ p.2 < v.2) : Found (P ++ [p]) V := by
  have hvV : v ∈ V := List.mem_of_getLast? hv
  have hb := b v (h.val.sub v hvV)
  refine ⟨⟨h.val.strict, fun x hx => List.mem_append.mpr (.inl (h.val.sub x hx)), fun x hx => ?_⟩, fun x hx u hu => ?_⟩
  · rcases List.mem_append.mp hx with hx | hx
    · exact h.val.cov x hx
    · rw [List.mem_singleton] at hx
      subst hx
      exact ⟨v, hvV, by omega, by omega⟩
  · rcases List.mem_append.mp hx with hx | hx
    · exact h.last x hx u hu
    · rw [List.mem_singleton] at hx
      subst hx
      rw [hv] at hu
      cases hu
      omega
theorem Found.add {P V : List P2} {p : P2} (h : Found P V) (b : Behind P p) (hlt : ∀ v, V.getLast? = some v → p.2 < v.2) : Found (P ++ [p]) (V ++ [p]) := by
  have hs : ∀ x ∈ V, x.1 < p.1 ∧ p.2 < x.2 := by
    intro x hx
    obtain ⟨v, hv⟩ : ∃ v, V.getLast? = some v := by
      cases e : V.getLast? with
      | none =>
        rw [List.getLast?_eq_none_iff] at e
        subst e
        cases hx
      | some v => exact ⟨v, rfl⟩
    have h1 := hlt v hv
    have h2 := b x (h.val.sub x hx)
    rcases strict_last h.val.strict hv hx with rfl | h3
    · omega
    · omega
  refine ⟨⟨?_, fun x hx => ?_, fun x hx => ?_⟩, fun x hx u hu => ?_⟩
  · refine List.pairwise_append.mpr ⟨h.val.strict, by simp, fun x hx y hy => ?_⟩
    rw [List.mem_singleton] at hy
    subst hy
    exact hs x hx
  · rcases List.mem_append.mp hx with hx | hx
    · exact List.mem_append.mpr (.inl (h.val.sub x hx))
    · exact List.mem_append.mpr (.inr hx)
  · rcases List.mem_append.mp hx with hx | hx
    · obtain ⟨v, hv, e⟩ := h.val.cov x hx
      exact ⟨v, List.mem_append.mpr (.inl hv), e⟩
    · rw [List.mem_singleton] at hx
      subst hx
      exact ⟨x, by simp, Int.le_refl _, Int.le_refl _⟩
  · have eu : u = p := by
      rw [List.getLast?_append] at hu
      simpa using hu.symm
    subst eu
    rcases List.mem_append.mp hx with hx | hx
    · obtain ⟨v, hv, e⟩ := h.val.cov x hx
      have := hs v hv
      have := e.2
      omega
    · rw [List.mem_singleton] at hx
      subst hx
      exact Int.le_refl _
/-! offers of steps -/
/-- the boundaries, with the greatest usage so far -/
def front (top h : Int) : List Int → List P2
  | [] => [(max top h, h)]
  | s :: ss => (max top h, h) :: front (max top h) (h + s) ss
def lift2 (top b : Int) (p : P2) : P2 := (max top (b + p.1), b + p.2)
theorem lift2_mono (top b : Int) (q p : P2) (h : Dm q p) : Dm (lift2 top b q) (lift2 top b p) := by
  have h1 := h.1
  have h2 := h.2
  simp only [lift2, Dm]
  omega
theorem front_lift : ∀ (ss : List Int) (top b t h : Int), front (max top (b + t)) (b + h) ss = (front t h ss).map (lift2 top b)
  | [], top, b, t, h => by
    simp only [front, List.map_cons, List.map_nil, lift2]
    congr 2
    omega
  | s :: ss, top, b, t, h => by
    have ih := front_lift ss top b (max t h) (h + s)
    have e1 : max (max top (b + t)) (b + h) = max top (b + max t h) := by omega
    have e2 : b + h + s = b + (h + s) := by omega
    simp only [front, List.map_cons, e1, e2, ih, lift2]
theorem front_at (ss : List Int) (top b : Int) (h : b ≤ top ∨ True) : front top b ss = (front 0 0 ss).map (lift2 top b) := by
  have e := front_lift ss top b 0 0
  cases ss with
  | nil =>
    simp only [front, List.map_cons, List.map_nil, lift2]
    congr 2 <;> omega
  | cons s ss =>
    have e2 := front_lift ss top b (max 0 0) (0 + s)
    simp only [front, List.map_cons, lift2]
    congr 1
    · congr 1 <;> omega
    · have e3 : max top (b + max 0 0) = max top b := by omega
      rw [e3] at e2
      have e4 : b + (0 + s) = b + s := by omega
      rw [e4] at e2
      exact e2
/-- the greatest usage -/
def highs (top h : Int) : List Int → Int
  | [] => max top h
  | s :: ss => highs (max top h) (h + s) ss
theorem front_app : ∀ (as bs : List Int) (top h : Int) (p : P2), p ∈ front top h (as ++ bs) ↔ p ∈ front top h as ∨ p ∈ front (highs top h as) (h + as.sum) bs
  | [], bs, top, h, p => by
    cases bs with
    | nil => simp [front, highs]
    | cons b bs =>
      simp only [List.nil_append, front, highs, List.mem_cons, List.sum_nil, Int.add_zero, List.not_mem_nil, or_false]
      have e : max (max top h) h = max top h := by omega
      rw [e]
      constructor
      · rintro (h | h)
        · exact .inl h
        · exact .inr (.inr h)
      · rintro (h | h | h)
        · exact .inl h
        · exact .inl h
        · exact .inr h
  | a :: as, bs, top, h, p => by
    have ih := front_app as bs (max top h) (h + a) p
    simp only [List.cons_append, front, highs, List.mem_cons, List.sum_cons, ih]
    have e : h + a + as.sum = h + (a + as.sum) := by omega
    rw [e]
    constructor
    · rintro (h | h | h)
      · exact .inl (.inl h)
      · exact .inl (.inr h)
      · exact .inr h
    · rintro ((h | h) | h)
      · exact .inl h
      · exact .inr (.inl h)
      · exact .inr (.inr h)
theorem highs_max : ∀ (ss : List Int) (top h : Int), highs top h ss = max top (h + highs 0 0 ss)
  | [], top, h => by simp only [highs]; omega
  | s :: ss, top, h => by
    have i1 := highs_max ss (max top h) (h + s)
    have i2 := highs_max ss (max 0 0) (0 + s)
    simp only [highs, i1, i2]
    omega
theorem highs_app : ∀ (as bs : List Int) (top h : Int), highs top h (as ++ bs) = highs (highs top h as) (h + as.sum) bs
  | [], bs, top, h => by
    cases bs with
    | nil => simp [highs]
    | cons b bs =>
      simp only [List.nil_append, highs, List.sum_nil, Int.add_zero]
      congr 1
      omega
  | a :: as, bs, top, h => by
    have ih := highs_app as bs (max top h) (h + a)
    simp only [List.cons_append, highs, List.sum_cons, ih]
    congr 1
    omega
/-! from the end -/
abbrev bw (ss : List Int) : List Int := ss.reverse.map fun s => -s
theorem bw_cons (s : Int) (ss : List Int) : bw (s :: ss) = bw ss ++ [-s] := by simp [bw]
theorem bw_app (as bs : List Int) : bw (as ++ bs) = bw bs ++ bw as := by simp [bw]
theorem bw_sum : ∀ ss : List Int, (bw ss).sum = -ss.sum
  | [] => rfl
  | s :: ss => by
    rw [bw_cons, List.sum_append, bw_sum ss]
    simp only [List.sum_cons, List.sum_nil]
    omega
theorem highs_ge : ∀ (ss : List Int) (top h : Int), top ≤ highs top h ss ∧ h ≤ highs top h ss ∧ h + ss.sum ≤ highs top h ss
  | [], top, h => by simp only [highs, List.sum_nil]; omega
  | s :: ss, top, h => by
    have := highs_ge ss (max top h) (h + s)
    simp only [highs, List.sum_cons]
    omega
theorem highs_bw : ∀ ss : List Int, highs 0 0 (bw ss) = highs 0 0 ss - ss.sum
  | [] => by simp [bw, highs]
  | s :: ss => by
    have ih := highs_bw ss
    have h1 := highs_max ss (max 0 0) (0 + s)
    have h2 := highs_ge ss 0 0
    rw [bw_cons, highs_app, ih, bw_sum]
    simp only [highs, List.sum_cons, h1]
    omega
theorem front_max : ∀ (ss : List Int) (top h : Int), front (max top h) h ss = front top h ss
  | [], top, h => by
    have e : max (max top h) h = max top h := by omega
    simp only [front, e]
  | s :: ss, top, h => by
    have e : max (max top h) h = max top h := by omega
    simp only [front, e]
structure Prof (ss : List Int) (N p : Int) (S E : List P2) : Prop where
  net : N = ss.sum
  peak : p = highs 0 0 ss
  start : IsVal (front 0 0 ss) S
  fin : IsVal (front ss.sum ss.sum (bw ss)) E
theorem Prof.uniq {ss : List Int} {N p N' p' : Int} {S E S' E' : List P2} (h : Prof ss N p S E) (k : Prof ss N' p' S' E') : N = N' ∧ p = p' ∧ S = S' ∧ E = E' :=
  ⟨h.net.trans k.net.symm, h.peak.trans k.peak.symm, h.start.uniq k.start (Alike.refl _), h.fin.uniq k.fin (Alike.refl _)⟩
theorem prof_step (s : Int) : Prof [s] s (max 0 s) [(0, min 0 s)] [(s, min 0 s)] := by
  refine ⟨by simp, by simp only [highs]; omega, ⟨by simp, ?_, ?_⟩, ⟨by simp, ?_, ?_⟩⟩
  all_goals (simp only [bw, front, Covers, List.mem_cons, List.not_mem_nil, or_false, List.sum_cons, List.sum_nil, List.reverse_cons, List.reverse_nil, List.nil_append, List.map_cons, List.map_nil])
  · rintro v rfl
    by_cases h : s ≤ 0
    · right
      simp only [Prod.mk.injEq]
      omega
    · left
      simp only [Prod.mk.injEq]
      omega
  · rintro p (rfl | rfl)
    · exact ⟨_, rfl, by simp only [Dm]; omega⟩
    · exact ⟨_, rfl, by simp only [Dm]; omega⟩
  · rintro v rfl
    by_cases h : s ≤ 0
    · left
      simp only [Prod.mk.injEq]
      omega
    · right
      simp only [Prod.mk.injEq]
      omega
  · rintro p (rfl | rfl)
    · exact ⟨_, rfl, by simp only [Dm]; omega⟩
    · exact ⟨_, rfl, by simp only [Dm]; omega⟩
/-- one more part behind those before -/
theorem begin_more {cat ss : List Int} {O : List P2} {N p : Int} {S E : List P2} (h : Alike O (front 0 0 cat)) (k : Prof ss N p S E) :
    Alike (O ++ S.map (lift2 (highs 0 0 cat) cat.sum)) (front 0 0 (cat ++ ss)) := by
  have e1 : Alike (front 0 0 cat ++ front (highs 0 0 cat) cat.sum ss) (front 0 0 (cat ++ ss)) := Alike.of_mem fun p => by
    rw [List.mem_append, front_app, Int.zero_add]
  refine (h.append ?_).trans e1
  rw [front_at ss _ _ (.inr trivial)]
  exact k.start.alike.map _ (lift2_mono _ _)
theorem begin_peak {cat ss : List Int} {N p : Int} {S E : List P2} (k : Prof ss N p S E) : max (highs 0 0 cat) (cat.sum + p) = highs 0 0 (cat ++ ss) := by
  rw [highs_app, highs_max ss, k.peak, Int.zero_add]
/-- one more part in front of those behind -/
theorem end_more {m ss : List Int} {t : Int} {O : List P2} {N p : Int} {S E : List P2} (h : Alike O (front t t m)) (k : Prof ss N p S E) :
    Alike (O ++ E.map (lift2 (highs t t m) (t + m.sum - N))) (front t t (m ++ bw ss)) := by
  have e1 : Alike (front t t m ++ front (highs t t m) (t + m.sum) (bw ss)) (front t t (m ++ bw ss)) := Alike.of_mem fun p => by
    rw [List.mem_append, front_app]
  refine (h.append ?_).trans e1
  have e2 := front_lift (bw ss) (highs t t m) (t + m.sum - N) N N
  rw [show t + m.sum - N + N = t + m.sum by omega, front_max] at e2
  rw [e2]
  have := k.fin.alike
  rw [← k.net] at this
  exact this.map _ (lift2_mono _ _)
theorem end_peak {m ss : List Int} {t : Int} {N p : Int} {S E : List P2} (k : Prof ss N p S E) : max (highs t t m) (t + m.sum - N + p) = highs t t (m ++ bw ss) := by
  rw [highs_app, highs_max (bw ss), highs_bw, k.peak, k.net]
  omega
/-! the form of a profile -/
theorem front_ge : ∀ (ss : List Int) (top h : Int) (p : P2), p ∈ front top h ss → max top h ≤ p.1 ∧ p.2 ≤ p.1 ∧ p.1 ≤ highs top h ss
  | [], top, h, p, hp => by
    simp only [front, List.mem_singleton] at hp
    subst hp
    simp only [highs]
    omega
  | s :: ss, top, h, p, hp => by
    simp only [front, List.mem_cons] at hp
    simp only [highs]
    rcases hp with rfl | hp
    · have := highs_ge ss (max top h) (h + s)
      simp only
      omega
    · have := front_ge ss (max top h) (h + s) p hp
      omega
theorem front_first (ss : List Int) (top h : Int) : (max top h, h) ∈ front top h ss := by cases ss <;> simp [front]
def helds (h : Int) : List Int → List Int
  | [] => [h]
  | s :: ss => h :: helds (h + s) ss
theorem front_held : ∀ (ss : List Int) (top h : Int), (front top h ss).map (·.2) = helds h ss
  | [], _, _ => rfl
  | s :: ss, top, h => by simp only [front, helds, List.map_cons, front_held ss]
theorem helds_snoc : ∀ (ss : List Int) (h s : Int), helds h (ss ++ [s]) = helds h ss ++ [h + ss.sum + s]
  | [], h, s => by simp [helds]
  | a :: ss, h, s => by
    simp only [List.cons_append, helds, helds_snoc ss, List.sum_cons]
    congr 3
    omega
theorem helds_bw : ∀ (ss : List Int) (h : Int), helds (h + ss.sum) (bw ss) = (helds h ss).reverse
  | [], h => by simp [helds, bw]
  | s :: ss, h => by
    have ih := helds_bw ss (h + s)
    rw [bw_cons, helds_snoc, helds, List.reverse_cons, List.sum_cons, show h + (s + ss.sum) = h + s + ss.sum by omega, ih, bw_sum]
    congr 2
    omega
theorem IsVal.ne {P V : List P2} (h : IsVal P V) {p : P2} (hp : p ∈ P) : V ≠ [] := by
  rintro rfl
  obtain ⟨v, hv, _⟩ := h.cov p hp
  cases hv
theorem IsVal.first {P V : List P2} {p : P2} (h : IsVal P V) (hp : p ∈ P) (hl : ∀ q ∈ P, p.1 ≤ q.1) : ∃ l W, V = (p.1, l) :: W ∧ l ≤ p.2 := by
  obtain ⟨v, hv, e⟩ := h.cov p hp
  have hvp := hl v (h.sub v hv)
  cases V with
  | nil => cases hv
  | cons u W =>
    have su := List.pairwise_cons.mp h.strict
    have eu : u = v := by
      rcases List.mem_cons.mp hv with e2 | e2
      · exact e2.symm
      · have := su.1 v e2
        have := hl u (h.sub u (List.mem_cons_self ..))
        have := e.1
        omega
    subst eu
    have e1 : u.1 = p.1 := Int.le_antisymm e.1 hvp
    exact ⟨u.2, W, by rw [← e1], e.2⟩
theorem IsVal.low {P V : List P2} (h : IsVal P V) {v : P2} (hv : V.getLast? = some v) : v ∈ P ∧ ∀ p ∈ P, v.2 ≤ p.2 := by
  refine ⟨h.sub v (List.mem_of_getLast? hv), fun p hp => ?_⟩
  obtain ⟨u, hu, e⟩ := h.cov p hp
  have e2 := e.2
  rcases strict_last h.strict hv hu with rfl | h3
  · exact e2
  · omega
theorem Prof.same_low {ss : List Int} {N p : Int} {S E : List P2} (h : Prof ss N p S E) {u v : P2} (hu : S.getLast? = some u) (hv : E.getLast? = some v) : v.2 = u.2 := by
  obtain ⟨u1, u2⟩ := h.start.low hu
  obtain ⟨v1, v2⟩ := h.fin.low hv
  have hb := helds_bw ss 0
  rw [Int.zero_add] at hb
  have m1 : ∀ x, x ∈ (front 0 0 ss).map (·.2) ↔ x ∈ (front ss.sum ss.sum (bw ss)).map (·.2) := by
    intro x
    rw [front_held, front_held, hb, List.mem_reverse]
  obtain ⟨a, ha, e1⟩ := List.mem_map.mp ((m1 u.2).mp (List.mem_map.mpr ⟨u, u1, rfl⟩))
  obtain ⟨b, hb2, e2⟩ := List.mem_map.mp ((m1 v.2).mpr (List.mem_map.mpr ⟨v, v1, rfl⟩))
  have h1 := v2 a ha
  have h2 := u2 b hb2
  omega
theorem front_len : ∀ (ss : List Int) (top h : Int), (front top h ss).length = ss.length + 1
  | [], _, _ => rfl
  | s :: ss, top, h => by simp only [front, List.length_cons, front_len ss]
theorem nodup_len {α : Type} [DecidableEq α] : ∀ (V P : List α), V.Nodup → (∀ v ∈ V, v ∈ P) → V.length ≤ P.length
  | [], _, _, _ => Nat.zero_le _
  | v :: V, P, nd, h => by
    have nd' := List.nodup_cons.mp nd
    have hv := h v (List.mem_cons_self ..)
    have ih := nodup_len V (P.erase v) nd'.2 fun u hu => (List.mem_erase_of_ne (fun (e : u = v) => nd'.1 (by rw [← e]; exact hu))).mpr (h u (List.mem_cons_of_mem _ hu))
    have hp := List.length_pos_of_mem hv
    rw [List.length_erase_of_mem hv] at ih
    rw [List.length_cons]
    omega
theorem IsVal.len {P V : List P2} (h : IsVal P V) : V.length ≤ P.length := by
  have nd : V.Nodup := h.strict.imp fun {a b} e => by
    rintro rfl
    omega
  exact nodup_len V P nd h.sub
theorem front_bd {B : Int} : ∀ (ss : List Int) (top h C : Int), (∀ s ∈ ss, -B ≤ s ∧ s ≤ B) → 0 ≤ B → -C ≤ top → top ≤ C → -C ≤ h → h ≤ C → ∀ p ∈ front top h ss, (-(C + ss.length * B) ≤ p.1 ∧ p.1 ≤ C + ss.length * B) ∧ (-(C + ss.length * B) ≤ p.2 ∧ p.2 ≤ C + ss.length * B)
  | [], top, h, C, hs, hB, h1, h2, h3, h4, p, hp => by
    simp only [front, List.mem_singleton] at hp
    subst hp
    simp only [List.length_nil, Int.natCast_zero, Int.zero_mul]
    omega
  | s :: ss, top, h, C, hs, hB, h1, h2, h3, h4, p, hp => by
    have hs0 := hs s (List.mem_cons_self ..)
    have e : C + B + (ss.length : Int) * B = C + ((s :: ss).length : Int) * B := by
      rw [List.length_cons, Int.natCast_add, Int.add_mul]
      simp only [Int.natCast_one, Int.one_mul]
      omega
    have hn : 0 ≤ (ss.length : Int) * B := Int.mul_nonneg (by omega) hB
    simp only [front, List.mem_cons] at hp
    rw [← e]
    rcases hp with rfl | hp
    · simp only
      omega
    · exact front_bd ss (max top h) (h + s) (C + B) (fun x hx => hs x (List.mem_cons_of_mem _ hx)) hB (by omega) (by omega) (by omega) (by omega) p hp
end Lw
/-! Lm: lambdas handed to a def: defs that make them (their code object is known), the def that is told, the law's end with tables of code objects and known guards. -/
namespace Rp
open PySem PySem.Spec L2 LamX PyProof.Rows
/-! ### a def that makes lambdas: its code object is known -/
def CodeIs (K : PySem.W.Frag) (f c : Addr) : Prop := ∀ (oc : Value) (od : Option Addr) (fd : FuncData) (osl : Array (Option Value)), K.lookup f = some ⟨oc, od, .func fd, osl⟩ → fd.code = .ref c
theorem code_is {K : PySem.W.Frag} {x : Str} {f c P : Addr} (a : PySem.W.nsIn K mainGlobals x = some (some (.ref f))) (t : PySem.W.tabIn K x = some (c, P)) : CodeIs K f c := by
  intro oc od fd osl hl
  unfold PySem.W.tabIn at t
  rw [a] at t
  simp only [hl] at t
  cases hc : fd.code with
  | ref c' =>
    rw [hc] at t
    simp only at t
    split at t
    · split at t
      · cases t
        rfl
      · cases t
    · cases t
  | _ =>
    rw [hc] at t
    simp only at t
    cases t
section
variable {P : Program} {w : World} {K : PySem.W.Frag} {mg : Str → Option Value} {base : Heap}
/-- the body of such a def, guards known or not -/
theorem run_code {CX : CXT} {name qual : Str} {st : Stmt} {f c : Addr} {fd : FuncData} {N ps : List Str} {k : Nat} {sp : Sp} (F : Fun K name qual st f fd) (hc : CodeIs K f c) (S : FnScope N ps (defScope st)) (hlen : ∀ vs H Q E, sp vs H Q E → vs.length = ps.length)
    {A : Around} {outer : List Env} {s : Shared} {H : Hp} {args : Args} {us : List Value} {vs : List V} {Q : VK} {E : XK} (room : Room (k + 1) A) (en : Env0 P w K mg base A outer s H) (bd : BindsTo s fd args (ps.zip us)) (rv : Vals vs us) (want : sp vs H Q E)
    (hb : Room k (A.deeper (envOfC qual (defScope st) s.heap.objs.size f (.ref c))) → ∃ t, PSs (cxOf CX P w K mg base N qual (defScope st) f (.ref c) A outer s H E).nox (defBody st) t ∧ t { nx := fun _ H' => Q .non H', rt := Q } (start N vs) H) :
    codeAny (model P w) A (.call (.ref f) args) (CR CX outer P w H s Q E) s := by
  obtain ⟨oc, od, kV, doc, pm, an, cdv, ct, osl, rfl, lk, hcd⟩ := F.ex
  obtain rfl : cdv = .ref c := hc _ _ _ _ lk
  have kin : K.In s.heap := en.mod.kin.keeps fun b o z => (en.bs b o z).1
  have nolim : s.heap.NoLimit := en.mod.nolimit.keeps fun b o z => (en.bs b o z).1
  have hl := hlen _ _ _ _ want
  refine Att.call_fn kin nolim lk hcd room.depth bd ?_ (fun s1 ic => ?_) S.co S.gen S.kind
  · refine List.all_eq_true.mpr fun y hy => ?_
    obtain ⟨a, b⟩ := y
    rcases S.par a (List.of_mem_zip hy).1 with z | z
    · simp [z]
    · simp [z]
  · obtain ⟨t, ht, hq⟩ := hb (room.deeper _)
    have I := inv_start (CX := CX) (P := P) (w := w) (K := K) (mg := mg) (base := base) (E := E) S room.hd en hl rv ic
    refine wpAny_mono (ht.nox.run [] s1 (start N vs) H _ I hq) (fun fl s' hs => ?_) (fun e s' hs => hs)
    cases fl with
    | ret u =>
      obtain ⟨v, σ', H', J, rr, q⟩ := hs
      exact ⟨v, H', J.os, J.bare, J.base, J.hok, rr, q⟩
    | next =>
      obtain ⟨σ', H', J, q⟩ := hs
      exact ⟨V.non, H', J.os, J.bare, J.base, J.hok, rfl, q⟩
    | brk =>
      obtain ⟨_, _, _, q⟩ := hs
      exact False.elim q
    | cont =>
      obtain ⟨_, _, _, q⟩ := hs
      exact False.elim q
theorem okC {name qual : Str} {st : Stmt} {f c : Addr} {fd : FuncData} {N ps : List Str} {k : Nat} {sp : Sp} (F : Fun K name qual st f fd) (hc : CodeIs K f c) (S : FnScope N ps (defScope st)) (hlen : ∀ vs H Q E, sp vs H Q E → vs.length = ps.length)
    (hb : ∀ (A : Around) (outer : List Env) (s : Shared) (H : Hp) (vs : List V) (Q : VK) (E : XK), Room k (A.deeper (envOfC qual (defScope st) s.heap.objs.size f (.ref c))) → sp vs H Q E →
      ∃ t, PSs (cxOf CX0 P w K mg base N qual (defScope st) f (.ref c) A outer s H E).nox (defBody st) t ∧ t { nx := fun _ H' => Q .non H', rt := Q } (start N vs) H) : FnOk P w K mg base CX0 (k + 1) f fd ps sp :=
  ⟨hlen, fun A outer s H args us vs Q E room en bd rv want => run_code F hc S hlen room en bd rv want fun hr => hb A outer s H vs Q E hr want⟩
theorem okCG {name qual : Str} {st : Stmt} {f c : Addr} {fd : FuncData} {N ps : List Str} {k : Nat} {sp : Sp} (F : Fun K name qual st f fd) (hc : CodeIs K f c) (S : FnScope N ps (defScope st)) (hlen : ∀ vs H Q E, sp vs H Q E → vs.length = ps.length)
    (hb : ∀ (A : Around) (outer : List Env) (s : Shared) (H : Hp) (vs : List V) (Q : VK) (E : XK), Room k (A.deeper (envOfC qual (defScope st) s.heap.objs.size f (.ref c))) → A.guards = some [] → sp vs H Q E →
      ∃ t, PSs (cxOf CX0 P w K mg base N qual (defScope st) f (.ref c) A outer s H E).nox (defBody st) t ∧ t { nx := fun _ H' => Q .non H', rt := Q } (start N vs) H) : FnG P w K mg base CX0 (k + 1) f fd ps sp :=
  ⟨hlen, fun A outer s H args us vs Q E room gd en bd rv want => run_code F hc S hlen room en bd rv want fun hr => hb A outer s H vs Q E hr gd want⟩
end
/-! ### the call of what was handed over -/
def tAct (W : WX) (n : Nat) (f c' : Addr) (q : Str) (tl : XK → Hp → VK → Prop) : TE := fun σ H Q => ∃ Ech : XK, (∀ cls d σ' H', Ech cls d H' → σ'.length = n → W cls d σ' H') ∧ σ[0]? = some (some (.ref f)) ∧ H c' = some (CodeO c' q) ∧ tl Ech H Q
/-- what is let out is let out with all slots -/
theorem takes_len {X : Cx} {W : WX} (tk : Takes X W) : Takes X (fun cls d σ H => σ.length = X.N.length → W cls d σ H) := fun u s' x => by
  obtain ⟨a, B, s0, ps0, σ', H', cls, d, e, I, apart, up, above, na, os, ag, w⟩ := x
  exact tk u s' ⟨a, B, s0, ps0, σ', H', cls, d, e, I, apart, up, above, na, os, ag, w I.len⟩
theorem pe_acts {X : Cx} {W : WX} {n : Nat} {f c' : Addr} {q : Str} {tl : XK → Hp → VK → Prop} {e : Expr} (h : ∀ Ech : XK, (∀ cls d σ' H', Ech cls d H' → σ'.length = n → W cls d σ' H') → PE X e (fun σZ HZ Q => σZ[0]? = some (some (.ref f)) ∧ HZ c' = some (CodeO c' q) ∧ tl Ech HZ Q)) : PE X e (tAct W n f c' q tl) :=
  ⟨fun pins s σ H Q I z => by
    obtain ⟨Ech, hW, z⟩ := z
    exact (h Ech hW).run pins s σ H Q I z⟩
theorem getSet {σ : L2.St} {n i : Nat} {x : Option V} (h : σ.length = n) (hi : i < n) : (σ.set i x)[i]? = some x := by
  rw [List.getElem?_set_self (by omega)]
/-- x(lambda: body), x told by its text -/
theorem pe_lamF {X : Cx} {T : List (Addr × Str)} {TT : (XK → Hp → VK → Prop) → Hp → VK → Prop} {x a : Str} {st : Stmt} {g c P : Addr} {fd : FuncData} {k : Nat} {Ng : List Str} {params : Arguments} {body : Expr} {scope : Scope} {t : XK → TE} {p lpos pos : Pos}
    (F : Fun X.K x x st g fd) (hb : Binds X.K fd [a] []) (hg : Gl X x) (hm : X.mg x = some (.ref g)) (Sg : FnScope Ng [a] (defScope st)) (hNg : Ng[0]? = some a) (hva : Vis (defScope st) a) (hG : ∀ cdv, GivesTo X Ng x (defScope st) g cdv (defBody st) a (X.env.qual ++ "<lambda>") TT)
    (TB : TabB X.base X.mg c P) (hcode : X.env.code = .ref c) (hmT : (P, X.env.qual ++ "<lambda>") ∈ T) (hu : ∀ p ∈ T, p.1 = P → p.2 = X.env.qual ++ "<lambda>") (hr : Room (k + 2) X.A) (L : LamS X.env.scope scope) (hdef : defaultsOf params X.env = ([], []))
    (hbind : ∀ (q : Str) (cl : List (Str × Addr)) (pm cv ctv : Value), bindArgs (PySem.W.kla_fn "<lambda>" q params body scope cl pm cv ctv) ⟨[], []⟩ = pure [])
    (hbody : ∀ (A : Around) (outer : List Env) (s : Shared) (H : Hp) (E : XK) (f c' : Addr), Room k (A.deeper (lamEnv X scope s.heap.objs.size f c')) → PE (lamCx X A outer s H E scope f c') body (t E))
    (hdb : (x == ("__debug__" : Str)) = false := by decide) (hd : (a == ("__debug__" : Str)) = false := by decide) (hcd : (a == ("__classdict__" : Str)) = false := by decide) :
    PE X (.Call (.Name x p) [.Lambda params body scope lpos] [] pos) (tLam T TT t) := by
  obtain ⟨oc, od, kV, doc, pm, an, cdv, ct, osl, rfl, lk, hco⟩ := F.ex
  exact pe_lamcall hg hm F.kp lk hco hb Sg hNg hva (hG cdv) TB hcode hmT hu hr L hdef hbind hbody hdb hd hcd
/-! ### what stays where tables grow -/
mutual
theorem dp_map {K : PySem.W.Frag} {H H' : Hp} (sl : ∀ a xs, SqL K H a xs → SqL K H' a xs) (st : ∀ a xs, SqT K H a xs → SqT K H' a xs) : ∀ {d : PyData} {v : V}, Dp K H v d → Dp K H' v d
  | .list ds, _, .lst hs ha => .lst (sl _ _ hs) (dpAll_map sl st ha)
  | .tuple ds, _, .tup hs ha => .tup (st _ _ hs) (dpAll_map sl st ha)
  | .none, _, .non => .non
  | .bool _, _, .bl _ => .bl _
  | .int _, _, .int _ => .int _
  | .str _, _, .str _ => .str _
theorem dpAll_map {K : PySem.W.Frag} {H H' : Hp} (sl : ∀ a xs, SqL K H a xs → SqL K H' a xs) (st : ∀ a xs, SqT K H a xs → SqT K H' a xs) : ∀ {ds : List PyData} {vs : List V}, DpAll K H vs ds → DpAll K H' vs ds
  | [], _, .nil => .nil
  | _ :: _, _, .cons h1 h2 => .cons (dp_map sl st h1) (dpAll_map sl st h2)
end
section
variable {K : PySem.W.Frag} {H H' H'' : Hp} {p a : Addr} {xs : List V} {T : List (Addr × Str)} {v : V} {d : PyData}
theorem extN_L (s : ExtN H H') (h : SqL K H a xs) : SqL K H' a xs := by
  rcases h with (h | ⟨o, h⟩) | h
  · exact .inl (.inl (s _ _ h fun q z => by cases z))
  · exact .inl (.inr ⟨o, s _ _ h fun q z => by cases z⟩)
  · exact .inr h
theorem extN_T (s : ExtN H H') (h : SqT K H a xs) : SqT K H' a xs := by
  rcases h with (h | ⟨o, h⟩) | h
  · exact .inl (.inl (s _ _ h fun q z => by cases z))
  · exact .inl (.inr ⟨o, s _ _ h fun q z => by cases z⟩)
  · exact .inr h
theorem dp_ext (s : ExtN H H') (h : Dp K H v d) : Dp K H' v d := dp_map (fun _ _ => extN_L s) (fun _ _ => extN_T s) h
theorem extN_same (s : Same H H') : ExtN H H' := ExtN.of fun b o h => s b o h
theorem extN_lst {l : List V} (s : ExtN H H') (h : H a = some (.lst l)) : H' a = some (.lst l) := s _ _ h fun q z => by cases z
theorem tabs_same (t : Tabs T H) (s : Same H H') : Tabs T H' := t.ext fun b o h => s b o h
theorem tabs_sx {l : List V} (t : Tabs T H) (s : Sx p H H') (hp : H p = some (.lst l)) : Tabs T H' := fun q hq => by
  obtain ⟨ps, h1, h2, h3⟩ := t q hq
  refine ⟨ps, s _ _ (fun z => by rw [z, hp] at h1; cases h1) h1, h2, fun pos cv hc => ?_⟩
  obtain ⟨c, e1, e2⟩ := h3 pos cv hc
  exact ⟨c, e1, s _ _ (fun z => by rw [z, hp] at e2; unfold CodeO at e2; cases e2) e2⟩
/-- all but p and the tables stays -/
def SxN (p : Addr) (H H' : Hp) : Prop := ∀ b o, b ≠ p → H b = some o → (∀ ps, o ≠ .tbl ps) → H' b = some o
theorem SxN.trans (s : SxN p H H') (t : SxN p H' H'') : SxN p H H'' := fun b o n h z => t b o n (s b o n h z) z
theorem SxN.of (s : Sx p H H') : SxN p H H' := fun b o n h _ => s b o n h
theorem SxN.ext (s : ExtN H H') : SxN p H H' := fun b o _ h z => s b o h z
theorem SxN.sqT {l : List V} (s : SxN p H H') (hp : H p = some (.lst l)) (h : SqT K H a xs) : SqT K H' a xs := by
  rcases h with (h | ⟨o, h⟩) | h
  · exact .inl (.inl (s _ _ (fun z => by rw [z, hp] at h; cases h) h fun q z => by cases z))
  · exact .inl (.inr ⟨o, s _ _ (fun z => by rw [z, hp] at h; cases h) h fun q z => by cases z⟩)
  · exact .inr h
theorem SxN.dp {l : List V} (s : SxN p H H') (hp : H p = some (.lst l)) (n : noL d = true) (h : Dp K H v d) : Dp K H' v d := dp_keep (fun _ _ z => s.sqT hp z) n h
/-- all but the tables stays, p was not there -/
theorem ExtN.sx_free {H1 H2 : Hp} (s : ExtN H H1) (h : H p = none) (t : SxN p H1 H2) : ExtN H H2 := fun b o e z => t b o (fun y => by rw [y, h] at e; cases e) (s b o e z) z
end
/-! ### the law's end -/
/-- a heap that tells of the script and of empty tables alone -/
theorem script_tables {P : Program} {w : World} {K : PySem.W.Frag} {h : Heap} {a : Addr} {vs : List Value} {ns : List Int} {ts : List Addr} (kin : K.In h) (ha : h.get? a = some { cls := .type "list", data := .seq vs.toArray }) (hi : IntsAre vs ns) (hl : ns.length ≤ sizeLine)
    (ht : ∀ b ∈ ts, h.get? b = some { cls := .none, data := .fields #[] }) (nt : ∀ b ∈ ts, K.lookup b = none) :
    ∃ H : Hp, (∀ b ∈ ts, H b = some (.tbl #[])) ∧ (∀ b, H b = none ∨ b ∈ ts ∨ ∃ o xs, H b = some (.frz o (.lst xs))) ∧ SqL K H a (ns.map V.int) ∧ HOk P w H h ∧ (∀ b, H b ≠ none → b = a ∨ b ∈ ts) ∧ (∀ b o, K.lookup b = some o → H b = none) := by
  have rv := vals_ints hi
  have len := hi.length
  have na : a ∉ ts := fun z => by
    have y := ht a z
    rw [ha] at y
    have y' : Data.seq vs.toArray _ = Data.fields #[] := congrArg Obj.data (Option.some.inj y)
    cases y'
  cases hk : K.lookup a with
  | some o =>
    have eo := kin a o hk
    rw [ha] at eo
    cases eo
    refine ⟨fun b => if b ∈ ts then some (.tbl #[]) else none, fun b hb => if_pos hb, fun b => ?_, .inr ⟨_, vs.toArray, _, hk, rfl, rfl, rfl, by rw [List.size_toArray, len]; exact hl, by simpa using rv⟩, fun b u z => ?_, fun b z => ?_, fun b o ho => ?_⟩
    · by_cases y : b ∈ ts
      · exact .inr (.inl y)
      · exact .inl (if_neg y)
    · dsimp only at z
      by_cases y : b ∈ ts
      · rw [if_pos y] at z
        cases z
        exact ht b y
      · rw [if_neg y] at z
        cases z
    · by_cases y : b ∈ ts
      · exact .inr y
      · exact absurd (if_neg y) z
    · refine if_neg fun y => ?_
      rw [nt b y] at ho
      cases ho
  | none =>
    let H : Hp := fun b => if b = a then some (.frz { cls := .type "list", data := .seq vs.toArray } (.lst (ns.map V.int))) else if b ∈ ts then some (.tbl #[]) else none
    have at_a : H a = some (.frz { cls := .type "list", data := .seq vs.toArray } (.lst (ns.map V.int))) := if_pos rfl
    have at_t : ∀ b, b ∈ ts → H b = some (.tbl #[]) := fun b hb => by
      have n : b ≠ a := fun z => na (z ▸ hb)
      show (if b = a then _ else _) = _
      rw [if_neg n, if_pos hb]
    have off : ∀ b, b ≠ a → b ∉ ts → H b = none := fun b n y => by
      show (if b = a then _ else _) = _
      rw [if_neg n, if_neg y]
    refine ⟨H, at_t, fun b => ?_, .inl (.inr ⟨_, at_a⟩), fun b u z => ?_, fun b z => ?_, fun b o ho => ?_⟩
    · by_cases n : b = a
      · exact .inr (.inr ⟨_, _, n ▸ at_a⟩)
      · by_cases y : b ∈ ts
        · exact .inr (.inl y)
        · exact .inl (off b n y)
    · by_cases n : b = a
      · subst n
        rw [at_a] at z
        cases z
        exact ⟨ha, by rw [List.length_map]; exact hl, vs, _, rv, ha⟩
      · by_cases y : b ∈ ts
        · rw [at_t b y] at z
          cases z
          exact ht b y
        · rw [off b n y] at z
          cases z
    · by_cases n : b = a
      · exact .inl n
      · by_cases y : b ∈ ts
        · exact .inr y
        · exact absurd (off b n y) z
    · refine off b (fun n => ?_) fun y => ?_
      · rw [n, hk] at ho
        cases ho
      · rw [nt b y] at ho
        cases ho
theorem law_endT {l : PySem.W.OpenLaw} {n k : Nat} {q : Program} {loose : List Str} {XP : (Str → Option Value) → Heap → Prop} {YP : World → Heap → Prop} {d : DefRec} {K : Params → PySem.W.Frag} {sp : PySem.W.Frag → List (Addr × Addr) → Sp} {x : Str} {nms : List Str}
    (hn : l.most = some n) (hn2 : n ≤ sizeLine) (hdf : d.params.defaults = []) (hr : Room k callerA) (hrec : ∀ y ∈ nms, ((recsOf q).find? fun e => e.name == y).isSome = true)
    (hY : ∀ (w : World) (h : Heap), YP w h → (K w.params).In h)
    (F : ∀ (w : World) (mg : Str → Option Value) (fa : Addr) (h : Heap), (K w.params).In h → h.Ns mainGlobals mg → mg d.name = some (.ref fa) →
      ∃ (cs : List (Addr × Addr)) (fd : FuncData), (∀ p ∈ cs, ∃ y ∈ nms, PySem.W.tabIn (K w.params) y = some p) ∧ (∀ p ∈ cs, (K w.params).lookup p.2 = none) ∧ (∀ (s : Shared) (u : Value), BindsTo s fd ⟨[u], []⟩ [(x, u)]) ∧
        (∀ base : Heap, (K w.params).In base → base.Ns mainGlobals mg → (∀ p ∈ cs, TabB base mg p.1 p.2) → FnG l.prog w (K w.params) mg base CX0 k fa fd [x] (sp (K w.params) cs)))
    (hsp : ∀ (K : PySem.W.Frag) (cs : List (Addr × Addr)) (H : Hp) (a : Addr) (ns : List Int), ns.length ≤ n → (∀ p ∈ cs, H p.2 = some (.tbl #[])) → SqL K H a (ns.map V.int) → sp K cs [.ref a] H (fun v _ => v = .bl true) fun _ _ _ => False) :
    PySem.W.WalkO q loose XP YP l.row.toRowW d [] (fun f vs => PySem.call f vs) := by
  refine Att.attach_call hn hdf fun w s₀ s₁ mg mb fa o pm cd doc a vs ns G Y ho hd hcd hmg hobj hints hlen hgens => ?_
  have kin := hY w _ Y
  obtain ⟨cs, fd, hcs, nK, bd, FF⟩ := F w mg fa _ kin G.T.g hmg
  have heads : ∀ p ∈ cs, PySem.W.CodeHd s₁.heap p.1 p.2 ∧ s₁.heap.get? p.2 = some { cls := .none, data := .fields #[] } := fun p hp => by
    obtain ⟨y, hy, e⟩ := hcs p hp
    obtain ⟨r, er⟩ := Option.isSome_iff_exists.mp (hrec y hy)
    exact PySem.W.tab_of (c := p.1) (P := p.2) G.T kin er e
  have tabs : ∀ b ∈ cs.map (·.2), s₁.heap.get? b = some { cls := .none, data := .fields #[] } := fun b hb => by
    obtain ⟨p, hp, e⟩ := List.mem_map.mp hb
    rw [← e]
    exact (heads p hp).2
  have inT : ∀ p ∈ cs, p.2 ∈ cs.map (·.2) := fun p hp => List.mem_map_of_mem hp
  obtain ⟨H, hT, hO, hS, hok, only, notK⟩ := script_tables (P := l.prog) (w := w) (ts := cs.map (·.2)) kin hobj hints (Nat.le_trans hlen hn2) tabs (fun b hb => by
    obtain ⟨p, hp, e⟩ := List.mem_map.mp hb
    rw [← e]
    exact nK p hp)
  -- what is neither a list nor an empty table is not told of
  have clear : ∀ {b : Addr} {ob : Obj}, s₁.heap.get? b = some ob → (∀ xs m, ob.data ≠ .seq xs m) → ob.data ≠ .fields #[] → H b = none := fun {b ob} e n1 n2 => by
    cases c : H b with
    | none => rfl
    | some u =>
      rcases only b (by rw [c]; exact fun z => nomatch z) with y | y
      · rw [y, hobj] at e
        exact absurd (congrArg Obj.data (Option.some.inj e)).symm (n1 _ _)
      · rw [tabs b y] at e
        exact absurd (congrArg Obj.data (Option.some.inj e)).symm n2
  have free : ∀ {b : Addr} {ob : Obj} {es : Array DictEntry} {ep : Nat}, s₁.heap.get? b = some ob → ob.data = .dict es ep → H b = none := fun {b ob es ep} h1 h2 =>
    clear h1 (fun xs m z => by rw [h2] at z; cases z) (fun z => by rw [h2] at z; cases z)
  have ns' : ∀ {b : Addr} {m : Str → Option Value}, s₁.heap.Ns b m → (hidT s₁.heap H).Ns b m := by
    rintro b m ⟨ob, es, ep, h1, h2, h3⟩
    exact ⟨ob, es, ep, hidT_get h1 (free h1 h2), h2, h3⟩
  have kinB : (K w.params).In (hidT s₁.heap H) := fun b ob e => hidT_get (kin b ob e) (notK b ob e)
  have lim : (hidT s₁.heap H).NoLimit := by
    obtain ⟨mc, h1, h2⟩ := G.T.nolimit
    exact ⟨mc, ns' h1, h2⟩
  have notGlobals : ∀ p ∈ cs, mainGlobals ≠ p.2 := fun p hp z => by
    obtain ⟨og, es, ep, e, hd', _⟩ := G.T.g
    have y := (heads p hp).2
    rw [← z, e] at y
    cases y
    cases hd'
  have TB : ∀ p ∈ cs, TabB (hidT s₁.heap H) mg p.1 p.2 := fun p hp => by
    obtain ⟨h1, h2⟩ := heads p hp
    refine ⟨?_, ?_, notGlobals p hp⟩
    · obtain ⟨oc, us, r1, r2, r3, r4, r5, r6, r7, e1, e2, e3, e4, rest⟩ := h1
      refine ⟨oc, us, r1, r2, r3, r4, r5, r6, r7, hidT_get e1 (clear e1 (fun xs m z => ?_) fun z => ?_), e2, e3, e4, rest⟩
      · rw [e3] at z
        cases z
      · rw [e3] at z
        cases z
        simp at e4
    · obtain ⟨bm, ob, b1, b2, b3, b4, b5, b6⟩ := G.T.bmain
      have z1 : bm ≠ mainGlobals := fun z => by
        obtain ⟨og, es, ep, e, hd', _⟩ := G.T.g
        rw [z, e] at b3
        cases b3
        rw [hd'] at b6
        cases b6
      have z2 : bm ≠ p.2 := fun z => by
        rw [z, h2] at b3
        cases b3
        cases b6
      exact ⟨bm, ob, b1, b2, z1, z2, hidT_get b3 (clear b3 (fun xs m z => by rw [b6] at z; cases z) fun z => by rw [b6] at z; cases z), b4, b5, b6⟩
  have en : Env0 l.prog w (K w.params) mg (hidT s₁.heap H) callerA [] s₁ H :=
    ⟨rfl, ⟨kinB, ns' G.T.g, ⟨mb, ns' G.T.b, G.T.builtins⟩, lim⟩, fun b ob e => of_hidT e, Nat.le_of_eq (hidT_size _ _), trivial, (fun b z => nomatch z), hok, .of_eq hgens⟩
  refine codeAny_mono ((FF _ kinB (ns' G.T.g) TB).run callerA [] s₁ H ⟨[.ref a], []⟩ [.ref a] [.ref a] _ _ hr rfl en (bd s₁ (.ref a)) (.cons rfl .nil) (hsp _ cs H a ns hlen (fun p hp => hT _ (inT p hp)) hS)) fun r s' z => ?_
  cases r with
  | error e => exact False.elim z
  | ok fl =>
    cases fl with
    | next => exact False.elim z
    | brk => exact False.elim z
    | cont => exact False.elim z
    | ret u =>
      obtain ⟨v, H', os, bare, un, hok', rr, e⟩ := z
      have e' : v = .bl true := e
      subst e'
      obtain rfl : u = Value.bool true := rr
      have stay : ∀ b ob, b ∉ cs.map (·.2) → s₁.heap.get? b = some ob → s'.heap.get? b = some ob := fun b ob nb hb => by
        cases c : H b with
        | none => exact un.keep b ob hb c (fun z => nomatch z) (fun z => nomatch z)
        | some u =>
          rcases hO b with z | z | ⟨ox, xs, z⟩
          · rw [c] at z
            cases z
          · exact absurd z nb
          · obtain ⟨e1, _⟩ := hok b _ z
            obtain ⟨e2, _⟩ := hok' b _ (un.frzs b ox _ z)
            rw [hb] at e1
            cases e1
            exact e2
      have grew : ∀ p ∈ cs, ∃ more : Array Value, s'.heap.get? p.2 = some { cls := .none, data := .fields more } := fun p hp => by
        obtain ⟨more, y⟩ := un.tbls p.2 #[] (hT _ (inT p hp))
        exact ⟨_, hok' p.2 _ y⟩
      refine ⟨rfl, ⟨fun b ob hb => ?_, fun b ob hb => ?_⟩, os, bare⟩
      · by_cases y : b ∈ cs.map (·.2)
        · obtain ⟨p, hp, rfl⟩ := List.mem_map.mp y
          obtain ⟨more, hm⟩ := grew p hp
          obtain ⟨h1, h2⟩ := heads p hp
          rw [h2] at hb
          cases hb
          exact .inr (.inl ⟨(h1.tab h2).isCodeTable, rfl, #[], more, rfl, by rw [hm, Array.empty_append]⟩)
        · exact .inl (stay b ob y hb)
      · by_cases y : b ∈ cs.map (·.2)
        · obtain ⟨p, hp, rfl⟩ := List.mem_map.mp y
          obtain ⟨more, hm⟩ := grew p hp
          exact ⟨_, hm⟩
        · exact ⟨ob, stay b ob y hb⟩
end Rp
namespace Lw
open PySem L2 Rp
local macro_rules | `(tactic| walk_at "rd") => `(tactic| repeat (first | refine ⟨_, rfl, ?_⟩ | refine ⟨_, _, rfl, rfl, ?_⟩))
def lamNames : List Str := ["_law_later_right", "_law_outcomes", "_law_errors_right"]
def top (i : Nat) : Stmt := PySem.Challenge.pw_roomprofile_k20_values_and_shifts.main.body.getD i (.Pass ⟨0, 0, 0, 0⟩)
abbrev s_is_integer : Stmt := top 7
abbrev N_is_integer : List Str := ["value"]
theorem sc_is_integer : FnScope N_is_integer ["value"] (defScope s_is_integer) := ⟨rfl, rfl, rfl, by decide +kernel, rfl, by decide +kernel, by decide +kernel⟩
abbrev s_is_short_integer : Stmt := top 8
abbrev N_is_short_integer : List Str := ["value"]
theorem sc_is_short_integer : FnScope N_is_short_integer ["value"] (defScope s_is_short_integer) := ⟨rfl, rfl, rfl, by decide +kernel, rfl, by decide +kernel, by decide +kernel⟩
abbrev s_check_number : Stmt := top 9
abbrev N_check_number : List Str := ["value"]
theorem sc_check_number : FnScope N_check_number ["value"] (defScope s_check_number) := ⟨rfl, rfl, rfl, by decide +kernel, rfl, by decide +kernel, by decide +kernel⟩
abbrev s_is_valleys : Stmt := top 12
abbrev N_is_valleys : List Str := ["value", "pair", "left", "right"]
theorem sc_is_valleys : FnScope N_is_valleys ["value"] (defScope s_is_valleys) := ⟨rfl, rfl, rfl, by decide +kernel, rfl, by decide +kernel, by decide +kernel⟩
abbrev s_valley_at : Stmt := top 13
abbrev N_valley_at : List Str := ["valleys", "capacity"]
theorem sc_valley_at : FnScope N_valley_at ["valleys", "capacity"] (defScope s_valley_at) := ⟨rfl, rfl, rfl, by decide +kernel, rfl, by decide +kernel, by decide +kernel⟩
abbrev s_shifted : Stmt := top 14
abbrev N_shifted : List Str := ["valleys", "capacity", "usage"]
theorem sc_shifted : FnScope N_shifted ["valleys", "capacity", "usage"] (defScope s_shifted) := ⟨rfl, rfl, rfl, by decide +kernel, rfl, by decide +kernel, by decide +kernel⟩
abbrev s_from_capacity : Stmt := top 15
abbrev N_from_capacity : List Str := ["valleys", "capacity", "later", "pair"]
theorem sc_from_capacity : FnScope N_from_capacity ["valleys", "capacity"] (defScope s_from_capacity) := ⟨rfl, rfl, rfl, by decide +kernel, rfl, by decide +kernel, by decide +kernel⟩
abbrev s_value_at : Stmt := top 16
abbrev N_value_at : List Str := ["pairs", "capacity", "value", "least", "low"]
theorem sc_value_at : FnScope N_value_at ["pairs", "capacity"] (defScope s_value_at) := ⟨rfl, rfl, rfl, by decide +kernel, rfl, by decide +kernel, by decide +kernel⟩
abbrev s_moved : Stmt := top 17
abbrev N_moved : List Str := ["pairs", "capacity", "low", "pair"]
theorem sc_moved : FnScope N_moved ["pairs", "capacity", "low"] (defScope s_moved) := ⟨rfl, rfl, rfl, by decide +kernel, rfl, by decide +kernel, by decide +kernel⟩
abbrev s__is_pair : Stmt := top 18
abbrev N__is_pair : List Str := ["value"]
theorem sc__is_pair : FnScope N__is_pair ["value"] (defScope s__is_pair) := ⟨rfl, rfl, rfl, by decide +kernel, rfl, by decide +kernel, by decide +kernel⟩
abbrev s__check_valleys : Stmt := top 19
abbrev N__check_valleys : List Str := ["value"]
theorem sc__check_valleys : FnScope N__check_valleys ["value"] (defScope s__check_valleys) := ⟨rfl, rfl, rfl, by decide +kernel, rfl, by decide +kernel, by decide +kernel⟩
abbrev s__law_source : Stmt := top 21
abbrev N__law_source : List Str := ["_law_script", "_law_at", "_law_cell", "_law_size", "_law_mixed"]
theorem sc__law_source : FnScope N__law_source ["_law_script", "_law_at"] (defScope s__law_source) := ⟨rfl, rfl, rfl, by decide +kernel, rfl, by decide +kernel, by decide +kernel⟩
abbrev s__law_draw : Stmt := top 22
abbrev N__law_draw : List Str := ["_law_source_here", "_law_many", "_law_found", "_law_one", "_law_two"]
theorem sc__law_draw : FnScope N__law_draw ["_law_source_here", "_law_many"] (defScope s__law_draw) := ⟨rfl, rfl, rfl, by decide +kernel, rfl, by decide +kernel, by decide +kernel⟩
abbrev s__law_value_at : Stmt := top 23
abbrev N__law_value_at : List Str := ["_law_valleys", "_law_bound", "_law_found", "_law_first", "_law_held"]
theorem sc__law_value_at : FnScope N__law_value_at ["_law_valleys", "_law_bound"] (defScope s__law_value_at) := ⟨rfl, rfl, rfl, by decide +kernel, rfl, by decide +kernel, by decide +kernel⟩
abbrev s__law_gaps : Stmt := top 24
abbrev N__law_gaps : List Str := ["_law_source_here", "_law_total", "_law_found", "_law_turn"]
theorem sc__law_gaps : FnScope N__law_gaps ["_law_source_here", "_law_total"] (defScope s__law_gaps) := ⟨rfl, rfl, rfl, by decide +kernel, rfl, by decide +kernel, by decide +kernel⟩
abbrev s__law_random_valleys : Stmt := top 25
abbrev N__law_random_valleys : List Str := ["_law_source_here", "_law_most", "_law_total", "_law_capacities", "_law_depths", "_law_first", "_law_high", "_law_bound", "_law_depth"]
theorem sc__law_random_valleys : FnScope N__law_random_valleys ["_law_source_here", "_law_most"] (defScope s__law_random_valleys) := ⟨rfl, rfl, rfl, by decide +kernel, rfl, by decide +kernel, by decide +kernel⟩
abbrev s__law_near_capacities : Stmt := top 26
abbrev N__law_near_capacities : List Str := ["_law_source_here", "_law_valleys", "_law_found", "_law_bound", "_law_held"]
theorem sc__law_near_capacities : FnScope N__law_near_capacities ["_law_source_here", "_law_valleys"] (defScope s__law_near_capacities) := ⟨rfl, rfl, rfl, by decide +kernel, rfl, by decide +kernel, by decide +kernel⟩
abbrev s__law_valley_outcome : Stmt := top 27
abbrev N__law_valley_outcome : List Str := ["_law_call", "e"]
theorem sc__law_valley_outcome : FnScope N__law_valley_outcome ["_law_call"] (defScope s__law_valley_outcome) := ⟨rfl, rfl, rfl, by decide +kernel, rfl, by decide +kernel, by decide +kernel⟩
abbrev s__law_shifts_right : Stmt := top 28
abbrev N__law_shifts_right : List Str := ["_law_source_here", "_law_valleys", "_law_some", "_law_more", "_law_less", "_law_both", "_law_first", "_law_second", "_law_found", "_law_bound", "_law_held"]
theorem sc__law_shifts_right : FnScope N__law_shifts_right ["_law_source_here", "_law_valleys"] (defScope s__law_shifts_right) := ⟨rfl, rfl, rfl, by decide +kernel, rfl, by decide +kernel, by decide +kernel⟩
abbrev s__law_later_right : Stmt := top 29
abbrev N__law_later_right : List Str := ["_law_source_here", "_law_valleys", "_law_begin", "_law_later", "_law_pair"]
theorem sc__law_later_right : FnScope N__law_later_right ["_law_source_here", "_law_valleys"] (defScope s__law_later_right) := ⟨rfl, rfl, rfl, by decide +kernel, rfl, by decide +kernel, by decide +kernel⟩
abbrev s__law_outcomes : Stmt := top 30
abbrev N__law_outcomes : List Str := ["_law_valleys", "_law_number", "_law_found"]
theorem sc__law_outcomes : FnScope N__law_outcomes ["_law_valleys", "_law_number"] (defScope s__law_outcomes) := ⟨rfl, rfl, rfl, by decide +kernel, rfl, by decide +kernel, by decide +kernel⟩
abbrev s__law_errors_right : Stmt := top 31
abbrev N__law_errors_right : List Str := ["_law_source_here", "_law_valleys", "_law_odd", "_law_number"]
theorem sc__law_errors_right : FnScope N__law_errors_right ["_law_source_here", "_law_valleys"] (defScope s__law_errors_right) := ⟨rfl, rfl, rfl, by decide +kernel, rfl, by decide +kernel, by decide +kernel⟩
abbrev s__law_long_right : Stmt := top 32
abbrev N__law_long_right : List Str := ["_law_source_here", "_law_step", "_law_fall", "_law_valleys", "_law_number", "_law_later_ones"]
theorem sc__law_long_right : FnScope N__law_long_right ["_law_source_here"] (defScope s__law_long_right) := ⟨rfl, rfl, rfl, by decide +kernel, rfl, by decide +kernel, by decide +kernel⟩
abbrev s_InvalidNumber_init : Stmt := inClass (top 3) 0
abbrev N_InvalidNumber_init : List Str := ["self", "value"]
theorem sc_InvalidNumber_init : FnScope N_InvalidNumber_init ["self", "value"] (defScope s_InvalidNumber_init) := ⟨rfl, rfl, rfl, by decide +kernel, rfl, by decide +kernel, by decide +kernel⟩
abbrev s_TooMany_init : Stmt := inClass (top 4) 0
abbrev N_TooMany_init : List Str := ["self", "limit"]
theorem sc_TooMany_init : FnScope N_TooMany_init ["self", "limit"] (defScope s_TooMany_init) := ⟨rfl, rfl, rfl, by decide +kernel, rfl, by decide +kernel, by decide +kernel⟩
abbrev s_law : Stmt := top 33
abbrev N_law : List Str := ["_law_script", "_law_at", "_law_source_here", "_law_valleys", "_law_kept", "_law_inside", "_law_bound", "_law_found", "_law_pair"]
theorem sc_law : FnScope N_law ["_law_script"] (defScope s_law) := ⟨rfl, rfl, rfl, by decide +kernel, rfl, by decide +kernel, by decide +kernel⟩
structure Txt (K : PySem.W.Frag) (mg : Str → Option Value) where
  f_is_integer : Addr
  d_is_integer : FuncData
  F_is_integer : Fun K "is_integer" "is_integer" s_is_integer f_is_integer d_is_integer
  b_is_integer : Binds K d_is_integer ["value"] []
  m_is_integer : mg "is_integer" = some (.ref f_is_integer)
  f_is_short_integer : Addr
  d_is_short_integer : FuncData
  F_is_short_integer : Fun K "is_short_integer" "is_short_integer" s_is_short_integer f_is_short_integer d_is_short_integer
  b_is_short_integer : Binds K d_is_short_integer ["value"] []
  m_is_short_integer : mg "is_short_integer" = some (.ref f_is_short_integer)
  f_check_number : Addr
  d_check_number : FuncData
  F_check_number : Fun K "check_number" "check_number" s_check_number f_check_number d_check_number
  b_check_number : Binds K d_check_number ["value"] []
  m_check_number : mg "check_number" = some (.ref f_check_number)
  f_is_valleys : Addr
  d_is_valleys : FuncData
  F_is_valleys : Fun K "is_valleys" "is_valleys" s_is_valleys f_is_valleys d_is_valleys
  b_is_valleys : Binds K d_is_valleys ["value"] []
  m_is_valleys : mg "is_valleys" = some (.ref f_is_valleys)
  f_valley_at : Addr
  d_valley_at : FuncData
  F_valley_at : Fun K "valley_at" "valley_at" s_valley_at f_valley_at d_valley_at
  b_valley_at : Binds K d_valley_at ["valleys", "capacity"] []
  m_valley_at : mg "valley_at" = some (.ref f_valley_at)
  f_shifted : Addr
  d_shifted : FuncData
  F_shifted : Fun K "shifted" "shifted" s_shifted f_shifted d_shifted
  ds_shifted : List Value
  vd_shifted : Vals [.int 0, .int 0] ds_shifted
  b_shifted : Binds K d_shifted ["valleys", "capacity", "usage"] ds_shifted
  gn_shifted_0 : List Value → List Value → List Value
  kn_shifted_0 : KBn K d_shifted ["valleys", "capacity", "usage"] 1 ["usage", "capacity"] gn_shifted_0 (fun vs zs => vs ++ Rp.kwSwap zs)
  gn_shifted_1 : List Value → List Value → List Value
  kn_shifted_1 : KBn K d_shifted ["valleys", "capacity", "usage"] 1 ["capacity"] gn_shifted_1 (fun vs zs => vs ++ (zs ++ [.int 0]))
  gn_shifted_2 : List Value → List Value → List Value
  kn_shifted_2 : KBn K d_shifted ["valleys", "capacity", "usage"] 1 ["usage"] gn_shifted_2 (fun vs zs => vs ++ ([.int 0] ++ zs))
  gn_shifted_3 : List Value → List Value → List Value
  kn_shifted_3 : KBn K d_shifted ["valleys", "capacity", "usage"] 1 ["capacity", "usage"] gn_shifted_3 (fun vs zs => vs ++ zs)
  m_shifted : mg "shifted" = some (.ref f_shifted)
  f_from_capacity : Addr
  d_from_capacity : FuncData
  F_from_capacity : Fun K "from_capacity" "from_capacity" s_from_capacity f_from_capacity d_from_capacity
  b_from_capacity : Binds K d_from_capacity ["valleys", "capacity"] []
  m_from_capacity : mg "from_capacity" = some (.ref f_from_capacity)
  f_value_at : Addr
  d_value_at : FuncData
  F_value_at : Fun K "value_at" "value_at" s_value_at f_value_at d_value_at
  b_value_at : Binds K d_value_at ["pairs", "capacity"] []
  m_value_at : mg "value_at" = some (.ref f_value_at)
  f_moved : Addr
  d_moved : FuncData
  F_moved : Fun K "moved" "moved" s_moved f_moved d_moved
  b_moved : Binds K d_moved ["pairs", "capacity", "low"] []
  m_moved : mg "moved" = some (.ref f_moved)
  f__is_pair : Addr
  d__is_pair : FuncData
  F__is_pair : Fun K "_is_pair" "_is_pair" s__is_pair f__is_pair d__is_pair
  b__is_pair : Binds K d__is_pair ["value"] []
  m__is_pair : mg "_is_pair" = some (.ref f__is_pair)
  f__check_valleys : Addr
  d__check_valleys : FuncData
  F__check_valleys : Fun K "_check_valleys" "_check_valleys" s__check_valleys f__check_valleys d__check_valleys
  b__check_valleys : Binds K d__check_valleys ["value"] []
  m__check_valleys : mg "_check_valleys" = some (.ref f__check_valleys)
  f__law_source : Addr
  d__law_source : FuncData
  F__law_source : Fun K "_law_source" "_law_source" s__law_source f__law_source d__law_source
  b__law_source : Binds K d__law_source ["_law_script", "_law_at"] []
  m__law_source : mg "_law_source" = some (.ref f__law_source)
  f__law_draw : Addr
  d__law_draw : FuncData
  F__law_draw : Fun K "_law_draw" "_law_draw" s__law_draw f__law_draw d__law_draw
  b__law_draw : Binds K d__law_draw ["_law_source_here", "_law_many"] []
  m__law_draw : mg "_law_draw" = some (.ref f__law_draw)
  f__law_value_at : Addr
  d__law_value_at : FuncData
  F__law_value_at : Fun K "_law_value_at" "_law_value_at" s__law_value_at f__law_value_at d__law_value_at
  b__law_value_at : Binds K d__law_value_at ["_law_valleys", "_law_bound"] []
  m__law_value_at : mg "_law_value_at" = some (.ref f__law_value_at)
  f__law_gaps : Addr
  d__law_gaps : FuncData
  F__law_gaps : Fun K "_law_gaps" "_law_gaps" s__law_gaps f__law_gaps d__law_gaps
  b__law_gaps : Binds K d__law_gaps ["_law_source_here", "_law_total"] []
  m__law_gaps : mg "_law_gaps" = some (.ref f__law_gaps)
  f__law_random_valleys : Addr
  d__law_random_valleys : FuncData
  F__law_random_valleys : Fun K "_law_random_valleys" "_law_random_valleys" s__law_random_valleys f__law_random_valleys d__law_random_valleys
  b__law_random_valleys : Binds K d__law_random_valleys ["_law_source_here", "_law_most"] []
  m__law_random_valleys : mg "_law_random_valleys" = some (.ref f__law_random_valleys)
  f__law_near_capacities : Addr
  d__law_near_capacities : FuncData
  F__law_near_capacities : Fun K "_law_near_capacities" "_law_near_capacities" s__law_near_capacities f__law_near_capacities d__law_near_capacities
  b__law_near_capacities : Binds K d__law_near_capacities ["_law_source_here", "_law_valleys"] []
  m__law_near_capacities : mg "_law_near_capacities" = some (.ref f__law_near_capacities)
  f__law_valley_outcome : Addr
  d__law_valley_outcome : FuncData
  F__law_valley_outcome : Fun K "_law_valley_outcome" "_law_valley_outcome" s__law_valley_outcome f__law_valley_outcome d__law_valley_outcome
  b__law_valley_outcome : Binds K d__law_valley_outcome ["_law_call"] []
  m__law_valley_outcome : mg "_law_valley_outcome" = some (.ref f__law_valley_outcome)
  f__law_shifts_right : Addr
  d__law_shifts_right : FuncData
  F__law_shifts_right : Fun K "_law_shifts_right" "_law_shifts_right" s__law_shifts_right f__law_shifts_right d__law_shifts_right
  b__law_shifts_right : Binds K d__law_shifts_right ["_law_source_here", "_law_valleys"] []
  m__law_shifts_right : mg "_law_shifts_right" = some (.ref f__law_shifts_right)
  f__law_later_right : Addr
  d__law_later_right : FuncData
  F__law_later_right : Fun K "_law_later_right" "_law_later_right" s__law_later_right f__law_later_right d__law_later_right
  b__law_later_right : Binds K d__law_later_right ["_law_source_here", "_law_valleys"] []
  m__law_later_right : mg "_law_later_right" = some (.ref f__law_later_right)
  cc__law_later_right : Addr
  ct__law_later_right : Addr
  hc__law_later_right : Rp.CodeIs K f__law_later_right cc__law_later_right
  f__law_outcomes : Addr
  d__law_outcomes : FuncData
  F__law_outcomes : Fun K "_law_outcomes" "_law_outcomes" s__law_outcomes f__law_outcomes d__law_outcomes
  b__law_outcomes : Binds K d__law_outcomes ["_law_valleys", "_law_number"] []
  m__law_outcomes : mg "_law_outcomes" = some (.ref f__law_outcomes)
  cc__law_outcomes : Addr
  ct__law_outcomes : Addr
  hc__law_outcomes : Rp.CodeIs K f__law_outcomes cc__law_outcomes
  f__law_errors_right : Addr
  d__law_errors_right : FuncData
  F__law_errors_right : Fun K "_law_errors_right" "_law_errors_right" s__law_errors_right f__law_errors_right d__law_errors_right
  b__law_errors_right : Binds K d__law_errors_right ["_law_source_here", "_law_valleys"] []
  m__law_errors_right : mg "_law_errors_right" = some (.ref f__law_errors_right)
  cc__law_errors_right : Addr
  ct__law_errors_right : Addr
  hc__law_errors_right : Rp.CodeIs K f__law_errors_right cc__law_errors_right
  f__law_long_right : Addr
  d__law_long_right : FuncData
  F__law_long_right : Fun K "_law_long_right" "_law_long_right" s__law_long_right f__law_long_right d__law_long_right
  b__law_long_right : Binds K d__law_long_right ["_law_source_here"] []
  m__law_long_right : mg "_law_long_right" = some (.ref f__law_long_right)
  ne__law_later_right__law_outcomes : ct__law_later_right ≠ ct__law_outcomes
  ne__law_later_right__law_errors_right : ct__law_later_right ≠ ct__law_errors_right
  ne__law_outcomes__law_errors_right : ct__law_outcomes ≠ ct__law_errors_right
  t_NUMBER_END : Tok
  g_NUMBER_END : mg "NUMBER_END" = some (.int 10000000000000000000000000000000000000000000000000000000000000 t_NUMBER_END)
  t_MAX_VALLEYS : Tok
  g_MAX_VALLEYS : mg "MAX_VALLEYS" = some (.int 400 t_MAX_VALLEYS)
  c_InvalidValleys : Addr
  g_InvalidValleys : mg "InvalidValleys" = some (.ref c_InvalidValleys)
  x_InvalidValleys : PySem.W.excIn K c_InvalidValleys [.type "ValueError", .type "Exception", .type "BaseException", .type "object"] "ValueError.__new__" = true
  k_InvalidValleys : PySem.W.keepIn K (.ref c_InvalidValleys) = true
  bb_InvalidValleys : PySem.W.subIn K (.ref c_InvalidValleys) (.type "BaseException") = some true
  tt_InvalidValleys : PySem.W.typeIn K (.ref c_InvalidValleys) = some (.type "type")
  c_InvalidNumber : Addr
  g_InvalidNumber : mg "InvalidNumber" = some (.ref c_InvalidNumber)
  f_InvalidNumber_init : Addr
  d_InvalidNumber_init : FuncData
  F_InvalidNumber_init : Fun K "__init__" "InvalidNumber.__init__" s_InvalidNumber_init f_InvalidNumber_init d_InvalidNumber_init
  b_InvalidNumber_init : Binds K d_InvalidNumber_init ["self", "value"] []
  ox_InvalidNumber : OexB K c_InvalidNumber
  iC_InvalidNumber : PySem.W.findIn K (.ref c_InvalidNumber) "__init__" = some (some (.ref f_InvalidNumber_init))
  tI_InvalidNumber : PySem.W.typeIn K (.ref f_InvalidNumber_init) = some (.type "function")
  no_InvalidNumber : PySem.W.findIn K (.ref c_InvalidNumber) "value" = some none
  xf_InvalidNumber : XfC K c_InvalidNumber
  xc_InvalidNumber : L2.ExcC K c_InvalidNumber
  e_InvalidNumber_InvalidNumber : PySem.W.exmOne K (.ref c_InvalidNumber) (.ref c_InvalidNumber) = some true
  c_TooMany : Addr
  g_TooMany : mg "TooMany" = some (.ref c_TooMany)
  f_TooMany_init : Addr
  d_TooMany_init : FuncData
  F_TooMany_init : Fun K "__init__" "TooMany.__init__" s_TooMany_init f_TooMany_init d_TooMany_init
  b_TooMany_init : Binds K d_TooMany_init ["self", "limit"] []
  ox_TooMany : OexB K c_TooMany
  iC_TooMany : PySem.W.findIn K (.ref c_TooMany) "__init__" = some (some (.ref f_TooMany_init))
  tI_TooMany : PySem.W.typeIn K (.ref f_TooMany_init) = some (.type "function")
  no_TooMany : PySem.W.findIn K (.ref c_TooMany) "limit" = some none
  xf_TooMany : XfC K c_TooMany
  xc_TooMany : L2.ExcC K c_TooMany
  e_TooMany_TooMany : PySem.W.exmOne K (.ref c_TooMany) (.ref c_TooMany) = some true
  e_InvalidValleys_InvalidValleys : PySem.W.exmOne K (.ref c_InvalidValleys) (.ref c_InvalidValleys) = some true
  e_InvalidNumber_InvalidValleys : PySem.W.exmOne K (.ref c_InvalidNumber) (.ref c_InvalidValleys) = some false
  e_TooMany_InvalidValleys : PySem.W.exmOne K (.ref c_TooMany) (.ref c_InvalidValleys) = some false
  e_TooMany_InvalidNumber : PySem.W.exmOne K (.ref c_TooMany) (.ref c_InvalidNumber) = some false
  n_abs : mg "abs" = none
  n_all : mg "all" = none
  n_bool : mg "bool" = none
  n_int : mg "int" = none
  n_isinstance : mg "isinstance" = none
  n_len : mg "len" = none
  n_max : mg "max" = none
  n_min : mg "min" = none
  n_range : mg "range" = none
  n_repr : mg "repr" = none
  n_tuple : mg "tuple" = none
  n_zip : mg "zip" = none
/-! block SizesN (of the later code): is_integer, is_within, steps_of_leaf, sizes_of, _within_count, _sizes and its two helpers, is_job, checked_sizes -/
def spIsInt (K : PySem.W.Frag) : Sp := fun vs H Q _ => ∃ (v : V) (d : PyData), vs = [v] ∧ Dp K H v d ∧ Q (.bl (isInt d && !isBoo d)) H
/-- a pair of ints, or None -/
def RepSz (H : Hp) (r : V) : Option (Int × Int) → Prop
  | none => r = .non
  | some (a, b) => ∃ t, r = .ref t ∧ H t = some (.tup [.int a, .int b])
def spWithin : Sp := fun vs H Q _ => ∃ a b : Int, vs = [.int a, .int b] ∧ ∀ (H' : Hp) (r : V), Same H H' → RepSz H' r (within a b) → Q r H'
def inW : PyData → Int → Int → Bool
  | .int i, a, b => decide (a ≤ i) && decide (i ≤ b)
  | _, _, _ => false
theorem inW_int {i a b : Int} : inW (.int i) a b = (decide (a ≤ i) && decide (i ≤ b)) := rfl
def spWi (K : PySem.W.Frag) : Sp := fun vs H Q _ => ∃ (v : V) (d : PyData) (a b : Int), vs = [v, .int a, .int b] ∧ Dp K H v d ∧ Q (.bl (inW d a b)) H
def spLeaf (K : PySem.W.Frag) : Sp := fun vs H Q _ => ∃ (v : V) (d : PyData), vs = [v] ∧ Dp K H v d ∧ Q (if inW d (-M30) M30 = true then .int 1 else .non) H
def spSz (K : PySem.W.Frag) (L : Addr) (n : Nat) : Sp := fun vs H Q _ => ∃ (v : V) (j : J) (room lv : Int), vs = [v, .ref L, .int room, .int lv] ∧ Dp K H v j.toD ∧ 0 ≤ lv ∧ lv < (n : Int) ∧
  ∀ (H' : Hp) (r : V), Same H H' → RepSz H' r (szJ j room lv) → Q r H'
def spSzs (K : PySem.W.Frag) (L : Addr) (n : Nat) : Sp := fun vs H Q _ => ∃ (v : V) (js : List J) (room lv : Int), vs = [v, .ref L, .int room, .int lv] ∧ Dp K H v (.tuple (J.toDs js)) ∧ 1 ≤ lv ∧ lv ≤ (n : Int) ∧
  ∀ (H' : Hp) (r : V), Same H H' → RepSz H' r (if (js.length : Int) > 400 then none else szJs js 1 0 room lv) → Q r H'
def spSzr (K : PySem.W.Frag) (L : Addr) (n : Nat) : Sp := fun vs H Q _ => ∃ (v : V) (c : Int) (j : J) (room lv : Int), vs = [.int c, v, .ref L, .int room, .int lv] ∧ Dp K H v j.toD ∧ 1 ≤ lv ∧ lv ≤ (n : Int) ∧
  ∀ (H' : Hp) (r : V), Same H H' → RepSz H' r (if ¬ (0 ≤ c ∧ c ≤ M30) then none else match szJ j (room - 1) (lv - 1) with | none => none | some (a, b) => within (a + 1) (b * c)) → Q r H'
section
variable {P : Program} {w : World} {K : PySem.W.Frag} {mg : Str → Option Value} {base : Heap}
theorem ok_isint (T : Txt K mg) : FnOk P w K mg base CX0 1 T.f_is_integer T.d_is_integer ["value"] (spIsInt K) := by
  refine T.F_is_integer.ok sc_is_integer (fun vs H Q E h => ?_) (fun cdv A outer s H vs Q E hr h => ?_)
  · obtain ⟨v, d, rfl, _⟩ := h
    rfl
  obtain ⟨v, d, rfl, hd, q⟩ := h
  refine ⟨_, (pss_one (ps_ret (pe_and (pe_callB (r := rIsD K) call_isD (by rfl) T.n_isinstance (by decide +kernel) (pa_cons (pv 0) (pa_cons (pe_bltn (v := .ty "int") (by rfl) T.n_int (by decide +kernel) rfl) pa_nil))) (pe_one (pe_not (pe_callB (r := rIsD K) call_isD (by rfl) T.n_isinstance (by decide +kernel) (pa_cons (pv 0) (pa_cons (pe_bltn (v := .ty "bool") (by rfl) T.n_bool (by decide +kernel) rfl) pa_nil)))))))), ?_⟩
  refine ⟨_, rfl, v, _, d, _, rfl, hd, kit_int d, _, rfl, ?_⟩
  cases e : isInt d with
  | false =>
    refine iteF ?_
    rw [e] at q
    exact q
  | true =>
    refine iteT ⟨_, rfl, v, _, d, _, rfl, hd, kit_bool d, _, rfl, ?_⟩
    rw [e] at q
    exact q
theorem in_parts (k : Bool) : inV (.str (kwP k)) [.str "seq", .str "par"] = true := by cases k <;> decide +kernel
theorem in_parts_no (k : Bool) : inV (.str (kwR k)) [.str "seq", .str "par"] = false := by cases k <;> decide +kernel
theorem in_rounds (k : Bool) : inV (.str (kwR k)) [.str "repeat", .str "copies"] = true := by cases k <;> decide +kernel
/-- jobs of at most thirteen levels -/
def spIsJob (K : PySem.W.Frag) : Sp := fun vs H Q _ => ∃ (v : V) (j : J), vs = [v] ∧ Dp K H v j.toD ∧ j.deep ≤ 20 ∧ ∀ H', Same H H' → Q (.bl (szJ j 400 13).isSome) H'
def spChecked (K : PySem.W.Frag) : Sp := fun vs H Q _ => ∃ (v : V) (j : J) (a b : Int), vs = [v] ∧ Dp K H v j.toD ∧ j.deep ≤ 20 ∧ szJ j 400 13 = some (a, b) ∧
  ∀ (H' : Hp) (t : Addr), Same H H' → H' t = some (.tup [.int a, .int b]) → Q (.ref t) H'
def spSzOf (K : PySem.W.Frag) (L : Addr) : Sp := fun vs H Q _ => ∃ (v : V) (j : J), vs = [v, .ref L] ∧ Dp K H v j.toD ∧ ∀ (H' : Hp) (r : V), Same H H' → RepSz H' r (szJ j 400 13) → Q r H'
end
/-! block Src: _law_source, _law_draw (the second kind of a drawn source) -/
/-- a source at p: what is left of the cell, the mixed number, how many were drawn (at most n) -/
def Pot (H : Hp) (p : Addr) (n : Nat) : Prop := ∃ a b c : Int, H p = some (.lst [.int a, .int b, .int c]) ∧ (0 ≤ a ∧ a.natAbs < 2 ^ 3000) ∧ (0 ≤ b ∧ b < 72057594037927931) ∧ (0 ≤ c ∧ c ≤ (n : Int))
theorem Pot.lst {H : Hp} {p : Addr} {n : Nat} (h : Pot H p n) : ∃ l, H p = some (.lst l) := by
  obtain ⟨a, b, c, h, _⟩ := h
  exact ⟨_, h⟩
theorem Pot.mono {H : Hp} {p : Addr} {n m : Nat} (h : Pot H p n) (e : n ≤ m) : Pot H p m := by
  obtain ⟨a, b, c, h1, h2, h3, h4⟩ := h
  exact ⟨a, b, c, h1, h2, h3, h4.1, by omega⟩
theorem Pot.same {H H' : Hp} {p : Addr} {n : Nat} (h : Pot H p n) (s : Same H H') : Pot H' p n := by
  obtain ⟨a, b, c, h1, h2⟩ := h
  exact ⟨a, b, c, s _ _ h1, h2⟩
def spSource (K : PySem.W.Frag) : Sp := fun vs H Q _ => ∃ (a : Addr) (ns : List Int) (k : Int), vs = [.ref a, .int k] ∧ SqL K H a (ns.map V.int) ∧ ns.length ≤ 1000 ∧ 0 ≤ k ∧ k ≤ 1000 ∧
  ∀ (H' : Hp) (p : Addr), Same H H' → H p = none → Pot H' p 0 → Q (.ref p) H'
def spTake : Sp := fun vs H Q _ => ∃ (p : Addr) (n : Nat) (m : Int), vs = [.ref p, .int m] ∧ Pot H p n ∧ n ≤ 1099511627776 ∧ 0 < m ∧ m.natAbs < 2 ^ 200 ∧
  ∀ (H' : Hp) (r : Int), Sx p H H' → Pot H' p (n + 1) → 0 ≤ r → r < m → Q (.int r) H'
theorem natAbs_lt {i : Int} {B : Nat} (h0 : 0 ≤ i) (h : i < (B : Int)) : i.natAbs < B := by omega
theorem big12 : ((((10 : Int) ^ (60 : Int).toNat) ^ (12 : Int).toNat)).natAbs < 2 ^ 3000 := by decide +kernel
theorem pos12 : 0 < ((10 : Int) ^ (60 : Int).toNat) ^ (12 : Int).toNat := by decide +kernel
theorem mod_big {z m : Int} {B : Nat} (hm : 0 < m) (hB : m.natAbs < B) : 0 ≤ z % m ∧ (z % m).natAbs < B := by
  have h1 := Int.emod_nonneg z (Int.ne_of_gt hm)
  have h2 := Int.emod_lt_of_pos z hm
  exact ⟨h1, by omega⟩
section
variable {P : Program} {w : World} {K : PySem.W.Frag} {mg : Str → Option Value} {base : Heap}
theorem ok_source (T : Txt K mg) : FnOk P w K mg base CX0 1 T.f__law_source T.d__law_source ["_law_script", "_law_at"] (spSource K) := by
  refine T.F__law_source.ok sc__law_source (fun vs H Q E h => ?_) (fun cdv A outer s H vs Q E hr h => ?_)
  · obtain ⟨a, ns, k, rfl, _⟩ := h
    rfl
  obtain ⟨a, ns, k, rfl, hS, hlen, hk0, hk1, q⟩ := h
  refine ⟨_, (pss_cons (ps_set (i := 2) sc__law_source.nd rfl (Or.inl rfl) (pe_ifExp (pt_cmpR op_lt (pv 1) (pe_callB (r := rLenS K) call_lenS (by rfl) T.n_len (by decide +kernel) (pa_cons (pv 0) pa_nil)) (nomark _)) (pe_ix (r := rIxL K) ix_list (pv 0) (pv 1) (fun _ _ => rfl)) (pe_op op_add (pe_op op_mulW pe_int (pv 1)) pe_int)))
      (pss_cons (ps_set (i := 3) sc__law_source.nd rfl (Or.inl rfl) (pe_op op_mod (pe_callB call_abs (by rfl) T.n_abs (by decide +kernel) (pa_cons (pv 2) pa_nil)) (pe_op op_powW (pe_op op_powW pe_int pe_int) pe_int)))
      (pss_cons (ps_set (i := 4) sc__law_source.nd rfl (Or.inl rfl) (pe_op op_add (pe_op op_add (pe_op op_mulW (pv 3) pe_int) (pe_op op_mulW pe_int (pv 1))) (pe_callTy call_int1 (by rfl) T.n_int (by decide +kernel) (pa_cons (pe_cmpR op_lt (pv 2) pe_int (nomark _)) pa_nil))))
      (pss_one (ps_ret (pe_lst (pa_cons (pe_callB (call_max2 rfl) (by rfl) T.n_max (by decide +kernel) (pa_cons pe_int (pa_cons (pe_op op_sub (pv 3) (pe_op op_powW pe_int pe_int)) pa_nil))) (pa_cons (pe_op op_mod (pv 4) pe_int) (pa_cons pe_int pa_nil))))))))), ?_⟩
  refine ⟨_, rfl, _, rfl, a, _, rfl, .inl hS, _, _, rfl, rfl, _, rfl, ?_⟩
  refine ite2 (fun c => ?_) (fun c => ?_)
  · have c' := of_decide_eq_true c
    rw [List.length_map] at c'
    obtain ⟨z, _, hz⟩ := atI_int (ns := ns) hk0 c'
    refine ⟨_, rfl, _, rfl, _, _, _, _, rfl, rfl, hS, hz, ?_⟩
    show tSeq _ _ _ [some (.ref a), some (.int k), some (.int z), none, none] H
    generalize z = cell
    clear c c' hz
    refine ⟨_, rfl, _, rfl, _, _, rfl, rfl, powW_of 4 (by decide) (by decide) (by decide), _, _, rfl, rfl, powW_of 200 (by decide) (by decide +kernel) (by decide), _, _, rfl, rfl, pos12, ?_⟩
    have hb := mod_big (z := if cell < 0 then -cell else cell) pos12 big12
    dsimp only
    generalize (if cell < 0 then -cell else cell) % ((10 : Int) ^ (60 : Int).toNat) ^ (12 : Int).toNat = size at hb ⊢
    refine ⟨_, rfl, _, _, rfl, rfl, wide_mul (a := 3000) (b := 64) hb.2 (by decide) (by decide) (by decide) (by decide), ?_⟩
    refine ⟨_, rfl, _, _, rfl, rfl, wide_mul (a := 64) (b := 64) (by decide) (by omega) (by decide) (by decide) (by decide), _, _, rfl, rfl, ?_⟩
    refine ⟨_, rfl, _, _, rfl, rfl, .inr ⟨_, rfl, _, _, rfl, rfl, ?_⟩⟩
    dsimp only
    generalize size * 2862933555777941757 + 3037000493 * k + (if decide (cell < 0) = true then 1 else 0) = mixed
    refine ⟨_, rfl, _, _, rfl, rfl, powW_of 4 (by decide) (by decide) (by decide), _, _, rfl, rfl, _, _, rfl, ?_⟩
    refine ⟨_, rfl, _, _, rfl, rfl, (by show (0 : Int) < 72057594037927931; decide), (by show 3 ≤ sizeLine; decide), fun p hp => ?_⟩
    have hm0 : 0 ≤ mixed % 72057594037927931 := by omega
    have hm1 : mixed % 72057594037927931 < 72057594037927931 := by omega
    refine q _ p (same_new hp) hp ⟨_, _, _, upd_same, ?_, ⟨hm0, hm1⟩, by decide, by decide⟩
    have e18 : (10 : Int) ^ (18 : Int).toNat = 1000000000000000000 := by decide
    rw [e18]
    obtain ⟨h0, h1⟩ := hb
    split
    · exact ⟨by omega, by omega⟩
    · exact ⟨by omega, by decide⟩
  · refine ⟨_, rfl, _, _, rfl, rfl, (by show CMulW 3 k; exact wide_mul (a := 64) (b := 64) (by decide) (by omega) (by decide) (by decide) (by decide)), _, _, rfl, rfl, ?_⟩
    show tSeq _ _ _ [some (.ref a), some (.int k), some (.int (3 * k + 2)), none, none] H
    generalize 3 * k + 2 = cell
    refine ⟨_, rfl, _, rfl, _, _, rfl, rfl, powW_of 4 (by decide) (by decide) (by decide), _, _, rfl, rfl, powW_of 200 (by decide) (by decide +kernel) (by decide), _, _, rfl, rfl, pos12, ?_⟩
    have hb := mod_big (z := if cell < 0 then -cell else cell) pos12 big12
    dsimp only
    generalize (if cell < 0 then -cell else cell) % ((10 : Int) ^ (60 : Int).toNat) ^ (12 : Int).toNat = size at hb ⊢
    refine ⟨_, rfl, _, _, rfl, rfl, wide_mul (a := 3000) (b := 64) hb.2 (by decide) (by decide) (by decide) (by decide), ?_⟩
    refine ⟨_, rfl, _, _, rfl, rfl, wide_mul (a := 64) (b := 64) (by decide) (by omega) (by decide) (by decide) (by decide), _, _, rfl, rfl, ?_⟩
    refine ⟨_, rfl, _, _, rfl, rfl, .inr ⟨_, rfl, _, _, rfl, rfl, ?_⟩⟩
    dsimp only
    generalize size * 2862933555777941757 + 3037000493 * k + (if decide (cell < 0) = true then 1 else 0) = mixed
    refine ⟨_, rfl, _, _, rfl, rfl, powW_of 4 (by decide) (by decide) (by decide), _, _, rfl, rfl, _, _, rfl, ?_⟩
    refine ⟨_, rfl, _, _, rfl, rfl, (by show (0 : Int) < 72057594037927931; decide), (by show 3 ≤ sizeLine; decide), fun p hp => ?_⟩
    have hm0 : 0 ≤ mixed % 72057594037927931 := by omega
    have hm1 : mixed % 72057594037927931 < 72057594037927931 := by omega
    refine q _ p (same_new hp) hp ⟨_, _, _, upd_same, ?_, ⟨hm0, hm1⟩, by decide, by decide⟩
    have e18 : (10 : Int) ^ (18 : Int).toNat = 1000000000000000000 := by decide
    rw [e18]
    obtain ⟨h0, h1⟩ := hb
    split
    · exact ⟨by omega, by omega⟩
    · exact ⟨by omega, by decide⟩
theorem ok_take (T : Txt K mg) : FnOk P w K mg base CX0 1 T.f__law_draw T.d__law_draw ["_law_source_here", "_law_many"] spTake := by
  refine T.F__law_draw.ok sc__law_draw (fun vs H Q E h => ?_) (fun cdv A outer s H vs Q E hr h => ?_)
  · obtain ⟨p, n, m, rfl, _⟩ := h
    rfl
  obtain ⟨p, n, m, rfl, ⟨a, b, c, hp, ⟨a0, a1⟩, ⟨b0, b1⟩, c0, c1⟩, hn, hm, hm2, q⟩ := h
  refine ⟨_, (pss_cons (ps_if (pt_cmpR op_gt (pe_ix (r := rIxL K) ix_list (pv 0) pe_int (fun _ _ => rfl)) pe_int (nomark _)) (pss_cons (ps_set (i := 2) sc__law_draw.nd rfl (Or.inl rfl) (pe_op op_mod (pe_ix (r := rIxL K) ix_list (pv 0) pe_int (fun _ _ => rfl)) (pv 1)))
        (pss_cons (ps_asg (pe_op op_fdivW (pe_ix (r := rIxL K) ix_list (pv 0) pe_int (fun _ _ => rfl)) (pv 1)) (pg_sub (pv 0) pe_int set_list))
        (pss_one (ps_ret (pv 2))))) pss_nil)
      (pss_cons (ps_asg (pe_op op_add (pe_ix (r := rIxL K) ix_list (pv 0) pe_int (fun _ _ => rfl)) pe_int) (pg_sub (pv 0) pe_int set_list))
      (pss_cons (ps_set (i := 3) sc__law_draw.nd rfl (Or.inl rfl) (pe_op op_mod (pe_op op_add (pe_ix (r := rIxL K) ix_list (pv 0) pe_int (fun _ _ => rfl)) (pe_op op_mulW pe_int (pe_ix (r := rIxL K) ix_list (pv 0) pe_int (fun _ _ => rfl)))) pe_int))
      (pss_cons (ps_set (i := 4) sc__law_draw.nd rfl (Or.inl rfl) (pe_op op_mulW (pe_op op_mod (pe_op op_mulW (pv 3) (pv 3)) pe_int) (pv 3)))
      (pss_cons (ps_set (i := 4) sc__law_draw.nd rfl (Or.inl rfl) (pe_op op_mod (pe_op op_add (pe_op op_add (pv 4) (pe_op op_mulW pe_int (pe_ix (r := rIxL K) ix_list (pv 0) pe_int (fun _ _ => rfl)))) (pe_op op_mod (pe_ix (r := rIxL K) ix_list (pv 0) pe_int (fun _ _ => rfl)) pe_int)) pe_int))
      (pss_one (ps_ret (pe_op op_mod (pe_op op_fdivW (pe_op op_mod (pe_op op_mulW (pv 4) (pv 4)) pe_int) pe_int) (pv 1))))))))), ?_⟩
  refine ⟨_, rfl, _, _, _, _, rfl, rfl, SqL.of hp, rfl, _, _, rfl, rfl, _, rfl, ?_⟩
  refine ite2 (fun g => ?_) (fun g => ?_)
  · refine ⟨_, rfl, _, _, _, _, rfl, rfl, SqL.of hp, rfl, _, rfl, _, _, rfl, rfl, hm, ?_⟩
    refine ⟨_, rfl, _, _, _, _, rfl, rfl, SqL.of hp, rfl, _, rfl, _, _, rfl, rfl, wide_div hm hm2 (by decide) (by decide), ?_⟩
    refine ⟨_, rfl, _, _, _, _, rfl, rfl, hp, rfl, ?_⟩
    refine ⟨_, rfl, ?_⟩
    have d0 : 0 ≤ a / m := Int.ediv_nonneg a0 (by omega)
    have d1 : a / m ≤ a := Int.ediv_le_self m a0
    exact q _ _ sx_upd ⟨_, _, _, upd_same, ⟨d0, Nat.lt_of_le_of_lt (by omega) a1⟩, ⟨b0, b1⟩, c0, by omega⟩ (Int.emod_nonneg _ (by omega)) (Int.emod_lt_of_pos _ hm)
  · refine ⟨_, rfl, _, _, _, _, rfl, rfl, SqL.of hp, rfl, _, _, rfl, rfl, ?_⟩
    refine ⟨_, rfl, _, _, _, _, rfl, rfl, hp, rfl, ?_⟩
    dsimp only
    have hq : (upd H p (.lst [.int a, .int b, .int (c + 1)])) p = some (.lst [.int a, .int b, .int (c + 1)]) := upd_same
    refine ⟨_, rfl, _, _, _, _, rfl, rfl, SqL.of hq, rfl, _, rfl, _, _, _, _, rfl, rfl, SqL.of hq, rfl, _, _, rfl, rfl, wide_mul (a := 64) (b := 64) (by decide) (by omega) (by decide) (by decide) (by decide), _, _, rfl, rfl, _, _, rfl, rfl, (by show (0 : Int) < 18014398509481951; decide), ?_⟩
    dsimp only
    generalize b + 11400714819323198 * (c + 1) = pw
    have o0 : 0 ≤ pw % 18014398509481951 := by omega
    have o1 : pw % 18014398509481951 < 18014398509481951 := by omega
    generalize pw % 18014398509481951 = one at o0 o1 ⊢
    refine ⟨_, rfl, _, rfl, _, _, rfl, rfl, wide_mul (a := 64) (b := 64) (by omega) (by omega) (by decide) (by decide) (by decide), _, _, rfl, rfl, (by show (0 : Int) < 36028797018963913; decide), ?_⟩
    dsimp only
    generalize one * one = sq
    have k0 : 0 ≤ sq % 36028797018963913 := by omega
    have k1 : sq % 36028797018963913 < 36028797018963913 := by omega
    generalize sq % 36028797018963913 = low at k0 k1 ⊢
    refine ⟨_, rfl, _, _, rfl, rfl, wide_mul (a := 64) (b := 64) (by omega) (by omega) (by decide) (by decide) (by decide), ?_⟩
    dsimp only
    generalize low * one = two
    refine ⟨_, rfl, _, rfl, _, _, _, _, rfl, rfl, SqL.of hq, rfl, _, _, rfl, rfl, wide_mul (a := 64) (b := 64) (by decide) (by omega) (by decide) (by decide) (by decide), _, _, rfl, rfl, ?_⟩
    refine ⟨_, rfl, _, _, _, _, rfl, rfl, SqL.of hq, rfl, _, _, rfl, rfl, (by show (0 : Int) < 65521; decide), _, _, rfl, rfl, _, _, rfl, rfl, (by show (0 : Int) < 1125899906842597; decide), ?_⟩
    dsimp only
    generalize two + 2654435761 * (c + 1) + b % 65521 = pw2
    have t0 : 0 ≤ pw2 % 1125899906842597 := by omega
    have t1 : pw2 % 1125899906842597 < 1125899906842597 := by omega
    generalize pw2 % 1125899906842597 = three at t0 t1 ⊢
    refine ⟨_, rfl, _, rfl, _, _, rfl, rfl, wide_mul (a := 64) (b := 64) (by omega) (by omega) (by decide) (by decide) (by decide), _, _, rfl, rfl, (by show (0 : Int) < 562949953421231; decide), _, _, rfl, rfl, wide_div (b := 12) (by decide) (by decide) (by decide) (by decide), ?_⟩
    refine ⟨_, rfl, _, _, rfl, rfl, hm, ?_⟩
    exact q _ _ sx_upd ⟨_, _, _, upd_same, ⟨a0, a1⟩, ⟨b0, b1⟩, by omega, by omega⟩ (Int.emod_nonneg _ (by omega)) (Int.emod_lt_of_pos _ hm)
end
/-! block Vall: is_valleys, is_start_valleys, least_usages and _law_valleys (behind bSizes) -/
abbrev prD (p : P2) : PyData := .tuple [.int p.1, .int p.2]
abbrev prDs (ps : List P2) : List PyData := ps.map prD
theorem pv_ints {K : PySem.W.Frag} {H : Hp} : ∀ {a : List Int} {xs : List V}, DpAll K H xs (a.map .int) → xs = a.map V.int
  | [], _, h => by
    cases h
    rfl
  | k :: a, _, h => by
    cases h with
    | cons hx hr =>
    cases hx
    rw [pv_ints hr]
    rfl
theorem pr_inv {K : PySem.W.Frag} {H : Hp} {v : V} {p : P2} (h : Dp K H v (prD p)) : ∃ t, v = .ref t ∧ SqT K H t [.int p.1, .int p.2] := by
  obtain ⟨t, xs, rfl, hs, ha⟩ := dp_tup_inv h
  obtain rfl := pv_ints (a := [p.1, p.2]) ha
  exact ⟨t, rfl, hs⟩
theorem prs_at {K : PySem.W.Frag} {H : Hp} {vs : List V} {ps : List P2} {i : Nat} {x : V} (h : DpAll K H vs (prDs ps)) (hi : vs[i]? = some x) : ∃ p, ps[i]? = some p ∧ Dp K H x (prD p) := by
  obtain ⟨d, ed, hd⟩ := dpAll_get h hi
  rw [prDs, List.getElem?_map] at ed
  obtain ⟨p, ep, rfl⟩ := Option.map_eq_some_iff.mp ed
  exact ⟨p, ep, hd⟩
theorem slT {K : PySem.W.Frag} {H : Hp} {Q : VK} {a : Addr} {xs : List V} {lo hi : Option Int} (h1 : SqT K H a xs)
    (h : ∀ (H' : Hp) (t : Addr), Same H H' → SqT K H' t (cutV xs lo hi) → Q (.ref t) H') : rSlA K (.ref a) lo hi H Q := by
  refine ⟨a, xs, rfl, h1, fun z => ?_, fun _ p hp => h _ p (same_new hp) (SqT.of upd_same)⟩
  have e : cutV xs lo hi = xs := by simp [cutV, z.1, z.2]
  exact h H a (Same.refl _) (by rw [e]; exact h1)
theorem cut_1 {us : List V} : cutV us (some 1) none = us.drop 1 := by
  unfold cutV HT.sIx
  simp only [show ¬((1 : Int) < 0) by decide, if_false]
  have e : (1 : Int).toNat = 1 := rfl
  rw [e]
  by_cases h : us.length = 0
  · rw [List.length_eq_zero_iff.mp h]
    rfl
  · have e2 : min 1 us.length = 1 := by omega
    rw [e2, List.take_of_length_le (by rw [List.length_drop]; omega)]
def spPair (K : PySem.W.Frag) : Sp := fun vs H Q _ => ∃ (v : V) (p : P2), vs = [v] ∧ Dp K H v (prD p) ∧ ∀ H', Same H H' → Q (.bl true) H'
def spVal (K : PySem.W.Frag) : Sp := fun vs H Q _ => ∃ (v : V) (ps : List P2), vs = [v] ∧ Dp K H v (.tuple (prDs ps)) ∧ 1 ≤ ps.length ∧ ps.length ≤ 400 ∧ Strict ps ∧ ∀ H', Same H H' → Q (.bl true) H'
def spSVal (K : PySem.W.Frag) : Sp := fun vs H Q _ => ∃ (v : V) (ps : List P2) (l : Int) (W : List P2), vs = [v] ∧ Dp K H v (.tuple (prDs ps)) ∧ ps = (0, l) :: W ∧ l ≤ 0 ∧ ps.length ≤ 400 ∧ Strict ps ∧ ∀ H', Same H H' → Q (.bl true) H'
section
variable {P : Program} {w : World} {K : PySem.W.Frag} {mg : Str → Option Value} {base : Heap}
end
/-! block Vq: valleys over any data: is_short_integer, check_number, _is_pair, is_valleys, _check_valleys (behind bSizesN's first, bVall's first) -/
theorem iteFx {c : Bool} {A B : Prop} (h : c = false) (b : B) : if c = true then A else B := by
  subst h
  exact b
theorem iteTx {c : Bool} {A B : Prop} (h : c = true) (a : A) : if c = true then A else B := by
  subst h
  exact a
def N61 : Int := 10000000000000000000000000000000000000000000000000000000000000
def numB : PyData → Bool
  | .int i => decide (-N61 < i) && decide (i < N61)
  | _ => false
theorem numB_int {i : Int} : numB (.int i) = (decide (-N61 < i) && decide (i < N61)) := rfl
def pairB : PyData → Bool
  | .tuple [.int _, .int _] => true
  | _ => false
theorem pairB_two {a b : PyData} : pairB (.tuple [a, b]) = ((isInt a && !isBoo a) && (isInt b && !isBoo b)) := by
  cases a <;> first | rfl | (cases b <;> rfl)
theorem pairB_no {ds : List PyData} (n : ¬ ds.length = 2) : pairB (.tuple ds) = false := by
  unfold pairB
  split
  · rename_i h
    cases h
    exact absurd rfl n
  · rfl
def toP2 : PyData → P2
  | .tuple [.int a, .int b] => (a, b)
  | _ => (0, 0)
def adjB : List P2 → Bool
  | p :: q :: r => (decide (p.1 < q.1) && decide (q.2 < p.2)) && adjB (q :: r)
  | _ => true
def valB : PyData → Bool
  | .tuple ds => decide (1 ≤ ds.length ∧ ds.length ≤ 400) && ds.all pairB && adjB (ds.map toP2)
  | _ => false
theorem pairB_iff {d : PyData} : pairB d = true ↔ ∃ p : P2, d = prD p := by
  constructor
  · intro h
    unfold pairB at h
    split at h
    · exact ⟨(_, _), rfl⟩
    · cases h
  · rintro ⟨p, rfl⟩
    rfl
theorem toP2_prD (p : P2) : toP2 (prD p) = p := rfl
theorem adjB_iff : ∀ {ps : List P2}, adjB ps = true ↔ Strict ps
  | [] => by simp [adjB]
  | [p] => by simp [adjB]
  | p :: q :: r => by
    have ih := adjB_iff (ps := q :: r)
    simp only [adjB, Bool.and_eq_true, decide_eq_true_eq, ih]
    constructor
    · rintro ⟨⟨h1, h2⟩, h3⟩
      refine List.pairwise_cons.mpr ⟨fun x hx => ?_, h3⟩
      rcases List.mem_cons.mp hx with rfl | hx
      · exact ⟨h1, h2⟩
      · have := (List.pairwise_cons.mp h3).1 x hx
        omega
    · intro h
      obtain ⟨h1, h2⟩ := List.pairwise_cons.mp h
      exact ⟨h1 q (List.mem_cons_self ..), h2⟩
theorem all_pairs {ds : List PyData} (h : ds.all pairB = true) : ds = prDs (ds.map toP2) := by
  induction ds with
  | nil => rfl
  | cons d ds ih =>
    simp only [List.all_cons, Bool.and_eq_true] at h
    obtain ⟨p, rfl⟩ := pairB_iff.mp h.1
    rw [prDs, List.map_cons, List.map_cons, ← prDs, ← ih h.2]
    rfl
theorem valB_iff {d : PyData} : valB d = true ↔ ∃ ps : List P2, d = .tuple (prDs ps) ∧ 1 ≤ ps.length ∧ ps.length ≤ 400 ∧ Strict ps := by
  constructor
  · intro h
    cases d with
    | tuple ds =>
      simp only [valB, Bool.and_eq_true, decide_eq_true_eq] at h
      obtain ⟨⟨⟨h1, h2⟩, h3⟩, h4⟩ := h
      exact ⟨ds.map toP2, by rw [← all_pairs h3], by simpa using h1, by simpa using h2, adjB_iff.mp h4⟩
    | _ => cases h
  · rintro ⟨ps, rfl, h1, h2, h3⟩
    have e : (prDs ps).map toP2 = ps := by
      rw [prDs, List.map_map]
      have : ps.map (toP2 ∘ prD) = ps.map id := List.map_congr_left fun p _ => rfl
      rw [this, List.map_id]
    have e2 : (prDs ps).all pairB = true := by
      rw [List.all_eq_true]
      intro d hd
      obtain ⟨p, _, rfl⟩ := List.mem_map.mp hd
      rfl
    simp only [valB, e, e2, adjB_iff.mpr h3, Bool.and_true, decide_eq_true_eq]
    rw [prDs, List.length_map]
    exact ⟨h1, h2⟩
/-- how neighbours compare -/
def adjs : List P2 → List Bool
  | p :: q :: r => (decide (p.1 < q.1) && decide (q.2 < p.2)) :: adjs (q :: r)
  | _ => []
theorem adjs_len : ∀ {ps : List P2}, (adjs ps).length = ps.length - 1
  | [] => rfl
  | [p] => rfl
  | p :: q :: r => by
    have := adjs_len (ps := q :: r)
    simp only [adjs, List.length_cons] at *
    omega
theorem adjs_all : ∀ {ps : List P2}, (adjs ps).all id = adjB ps
  | [] => rfl
  | [p] => rfl
  | p :: q :: r => by
    have := adjs_all (ps := q :: r)
    simp only [adjs, adjB, List.all_cons, this, id]
theorem adjs_at : ∀ {ps : List P2} {i : Nat} {p q : P2}, ps[i]? = some p → ps[i + 1]? = some q → (adjs ps)[i]? = some (decide (p.1 < q.1) && decide (q.2 < p.2))
  | [], i, p, q, h, _ => by simp at h
  | [x], i, p, q, _, h => by simp at h
  | x :: y :: r, 0, p, q, h, k => by
    cases h
    cases k
    rfl
  | x :: y :: r, i + 1, p, q, h, k => by
    have := adjs_at (ps := y :: r) (i := i) (p := p) (q := q) (by simpa using h) (by simpa using k)
    simpa [adjs] using this
def spShort (K : PySem.W.Frag) : Sp := fun vs H Q _ => ∃ (v : V) (d : PyData), vs = [v] ∧ Dp K H v d ∧ Q (.bl (numB d)) H
def spChkN (K : PySem.W.Frag) (C : Addr) : Sp := fun vs H Q E => ∃ (v : V) (d : PyData), vs = [v] ∧ Dp K H v d ∧ (numB d = true → Q .non H) ∧
  (numB d = false → ∀ (dx : Addr), H dx = none → E (.ref C) (some dx) (upd H dx (.xd [("value", v)])))
def spPairQ (K : PySem.W.Frag) : Sp := fun vs H Q _ => ∃ (v : V) (d : PyData), vs = [v] ∧ Dp K H v d ∧ Q (.bl (pairB d)) H
def spIsV (K : PySem.W.Frag) : Sp := fun vs H Q _ => ∃ (v : V) (d : PyData), vs = [v] ∧ Dp K H v d ∧ ∀ H', Same H H' → Q (.bl (valB d)) H'
def spChkV (K : PySem.W.Frag) (C : Addr) : Sp := fun vs H Q E => ∃ (v : V) (d : PyData), vs = [v] ∧ Dp K H v d ∧ (valB d = true → ∀ H', Same H H' → Q .non H') ∧ (valB d = false → ∀ H', Same H H' → E (.ref C) none H')
section
variable {P : Program} {w : World} {K : PySem.W.Frag} {mg : Str → Option Value} {base : Heap}
theorem ok_short (T : Txt K mg) : FnOk P w K mg base CX0 2 T.f_is_short_integer T.d_is_short_integer ["value"] (spShort K) := by
  have g_is_integer : FnOk P w K mg base CX0 1 T.f_is_integer T.d_is_integer ["value"] (spIsInt K) := ok_isint T
  refine T.F_is_short_integer.ok sc_is_short_integer (fun vs H Q E h => ?_) (fun cdv A outer s H vs Q E hr h => ?_)
  · obtain ⟨v, d, rfl, _⟩ := h
    rfl
  obtain ⟨v, d, rfl, hd, q⟩ := h
  refine ⟨_, (pss_one (ps_ret (pe_and (pe_call g_is_integer (hr.mono (by omega)) rfl T.m_is_integer T.F_is_integer.kp T.b_is_integer .nil pass0 (pa_cons (pv 0) pa_nil)) (pe_one (pe_chain op_lt op_lt (pe_un un_neg (pe_glob (v := .int 10000000000000000000000000000000000000000000000000000000000000) rfl T.g_NUMBER_END ⟨_, rfl⟩)) (pv 0) (pe_glob (v := .int 10000000000000000000000000000000000000000000000000000000000000) rfl T.g_NUMBER_END ⟨_, rfl⟩)))))), ?_⟩
  refine ⟨_, rfl, v, d, rfl, hd, _, rfl, ?_⟩
  by_cases e : ∃ i, d = .int i
  · obtain ⟨i, rfl⟩ := e
    obtain rfl := dp_int_inv hd
    refine iteT ?_
    refine ⟨_, rfl, _, rfl, _, _, rfl, rfl, _, rfl, ?_⟩
    rw [numB_int] at q
    show if decide (-N61 < i) = true then _ else _
    cases e1 : decide (-N61 < i) with
    | true =>
      refine iteT ?_
      rw [e1, Bool.true_and] at q
      exact ⟨_, _, rfl, rfl, q⟩
    | false =>
      refine iteF ?_
      rw [e1, Bool.false_and] at q
      exact q
  · have e1 : (isInt d && !isBoo d) = false ∧ numB d = false := by
      cases d <;> first | exact absurd ⟨_, rfl⟩ e | exact ⟨rfl, rfl⟩
    rw [e1.1]
    rw [e1.2] at q
    refine iteF ?_
    exact q
theorem ok_inum (T : Txt K mg) : FnOk P w K mg base CX0 1 T.f_InvalidNumber_init T.d_InvalidNumber_init ["self", "value"] (spKeep T.c_InvalidNumber "value") := by
  refine T.F_InvalidNumber_init.ok sc_InvalidNumber_init (fun vs H Q E h => ?_) (fun cdv A outer s H vs Q E hr h => ?_)
  · obtain ⟨a, y, rfl, _⟩ := h
    rfl
  obtain ⟨a, y, rfl, ha, q⟩ := h
  refine ⟨_, (pss_one (ps_keepF (pv 0) (pv 1))), ?_⟩
  exact ⟨_, rfl, _, rfl, a, T.c_InvalidNumber, rfl, T.ox_InvalidNumber, T.no_InvalidNumber, ha, fun dx n ne => q dx n ne⟩
theorem ok_chkn (T : Txt K mg) : FnOk P w K mg base (L2.CX P w) 3 T.f_check_number T.d_check_number ["value"] (spChkN K T.c_InvalidNumber) := by
  have g_is_short_integer := ok_short (P := P) (w := w) (base := base) T
  have g_InvalidNumber_init := ok_inum (P := P) (w := w) (base := base) T
  refine T.F_check_number.okX sc_check_number (fun vs H Q E h => ?_) (fun cdv A outer s H vs Q E hr h => ?_)
  · obtain ⟨v, d, rfl, _⟩ := h
    rfl
  obtain ⟨v, d, rfl, hd, q, qe⟩ := h
  refine ⟨_, (pss_one (ps_if (pt_not (pt_val (pe_call g_is_short_integer (hr.mono (by omega)) rfl T.m_is_short_integer T.F_is_short_integer.kp T.b_is_short_integer .nil pass0 (pa_cons (pv 0) pa_nil)))) (pss_one (ps_raise rfl (takes_of rfl rfl rfl rfl) (pmk_keep T.ox_InvalidNumber T.iC_InvalidNumber T.tI_InvalidNumber g_InvalidNumber_init (hr.mono (by omega)) T.b_InvalidNumber_init pass0 rfl T.g_InvalidNumber (pa_cons (pv 0) pa_nil)))) pss_nil)), ?_⟩
  refine ⟨_, rfl, v, d, rfl, hd, _, rfl, ?_⟩
  cases e : numB d with
  | true =>
    refine iteF ?_
    exact q e
  | false =>
    refine iteT ?_
    exact ⟨_, rfl, _, rfl, fun dx hx => qe e dx hx⟩
theorem ok_pairq (T : Txt K mg) : FnOk P w K mg base CX0 2 T.f__is_pair T.d__is_pair ["value"] (spPairQ K) := by
  have g_is_integer := ok_isint (P := P) (w := w) (base := base) T
  refine T.F__is_pair.ok sc__is_pair (fun vs H Q E h => ?_) (fun cdv A outer s H vs Q E hr h => ?_)
  · obtain ⟨v, d, rfl, _⟩ := h
    rfl
  obtain ⟨v, d, rfl, hd, q⟩ := h
  refine ⟨_, (pss_one (ps_ret (pe_and (pe_callB (r := rIsD K) call_isD (by rfl) T.n_isinstance (by decide +kernel) (pa_cons (pv 0) (pa_cons (pe_bltn (v := .ty "tuple") (by rfl) T.n_tuple (by decide +kernel) rfl) pa_nil))) (pe_and (pe_cmpR op_eq (pe_callB (r := rLenS K) call_lenS (by rfl) T.n_len (by decide +kernel) (pa_cons (pv 0) pa_nil)) pe_int (nomark _)) (pe_and (pe_call g_is_integer (hr.mono (by omega)) rfl T.m_is_integer T.F_is_integer.kp T.b_is_integer .nil pass0 (pa_cons (pe_ix (r := rIxT K) ix_tup (pv 0) pe_int (fun _ _ => rfl)) pa_nil)) (pe_one (pe_call g_is_integer (hr.mono (by omega)) rfl T.m_is_integer T.F_is_integer.kp T.b_is_integer .nil pass0 (pa_cons (pe_ix (r := rIxT K) ix_tup (pv 0) pe_int (fun _ _ => rfl)) pa_nil)))))))), ?_⟩
  refine ⟨_, rfl, _, _, _, _, rfl, hd, kit_tuple _, _, rfl, ?_⟩
  cases et : isTup d with
  | false =>
    have e : pairB d = false := by cases d <;> first | rfl | cases et
    rw [e] at q
    refine iteF ?_
    exact q
  | true =>
  obtain ⟨ds, rfl⟩ : ∃ ds, d = .tuple ds := by
    cases d <;> first | exact ⟨_, rfl⟩ | cases et
  refine iteT ?_
  obtain ⟨a, xs, rfl, hs, hall⟩ := dp_tup_inv hd
  have hl := dpAll_length hall
  refine ⟨_, rfl, a, xs, rfl, .inr hs, rfl, _, rfl, ?_⟩
  have no : ¬ ds.length = 2 → pairB (.tuple ds) = false := pairB_no
  refine ite2 (fun g => ?_) (fun g => ?_)
  · have g2 : xs.length = 2 := by
      have h := of_decide_eq_true g
      have e : ((xs.length : Nat) : Int) = 2 := by simpa using h
      omega
    cases hall with
    | nil => cases g2
    | cons hx hall =>
    cases hall with
    | nil => cases g2
    | cons hy hall =>
    cases hall with
    | cons hz hall =>
      simp only [List.length_cons] at g2
      omega
    | nil =>
    rename_i x dx y dy
    refine ⟨_, rfl, _, _, _, _, rfl, rfl, hs, atI_at (j := 0) rfl rfl, x, dx, rfl, hx, _, rfl, ?_⟩
    rw [pairB_two] at q
    cases ex : (isInt dx && !isBoo dx) with
    | false =>
      rw [ex, Bool.false_and] at q
      refine iteF ?_
      exact q
    | true =>
      rw [ex, Bool.true_and] at q
      refine iteT ?_
      exact ⟨_, rfl, _, _, _, _, rfl, rfl, hs, atI_at (j := 1) rfl rfl, y, dy, rfl, hy, q⟩
  · rw [no (fun z => g (decide_eq_true (by rw [hl, z]; rfl)))] at q
    exact q
theorem ok_isv (T : Txt K mg) : FnOk P w K mg base CX0 3 T.f_is_valleys T.d_is_valleys ["value"] (spIsV K) := by
  have g__is_pair := ok_pairq (P := P) (w := w) (base := base) T
  refine T.F_is_valleys.ok sc_is_valleys (fun vs H Q E h => ?_) (fun cdv A outer s H vs Q E hr h => ?_)
  · obtain ⟨v, d, rfl, _⟩ := h
    rfl
  obtain ⟨v, d, rfl, hd, q⟩ := h
  refine ⟨_, (pss_cons (ps_if (PW.pt (pw_or (pt_not (pt_val (pe_callB (r := rIsD K) call_isD (by rfl) T.n_isinstance (by decide +kernel) (pa_cons (pv 0) (pa_cons (pe_bltn (v := .ty "tuple") (by rfl) T.n_tuple (by decide +kernel) rfl) pa_nil))))) (pw_or1 (pt_not (pt_chain op_le op_le pe_int (pe_callB (r := rLenS K) call_lenS (by rfl) T.n_len (by decide +kernel) (pa_cons (pv 0) pa_nil)) (pe_glob (v := .int 400) rfl T.g_MAX_VALLEYS ⟨_, rfl⟩)))))) (pss_one (ps_ret pe_bl)) pss_nil)
      (pss_cons (ps_if (pt_not (pt_val (pe_callB (r := rAll K) (cr_all rfl) (by rfl) T.n_all (by decide +kernel) (pa_cons (pe_lc (own := [("pair", 1)]) (g := (gName 1)) (by rfl) sc_is_valleys.nd (pi_tup (pv 0)) (blkOk_by (N := N_is_valleys) (sc := (defScope s_is_valleys)) (by decide +kernel)) (fun _ _ _ _ _ => (pg_name (i := 1) sc_is_valleys.nd rfl (Or.inl rfl))) (fun _ _ _ _ _ => pts_nil) (fun _ _ _ _ _ => (pe_call g__is_pair (hr.mono (by omega)) rfl T.m__is_pair T.F__is_pair.kp T.b__is_pair .nil pass0 (pa_cons (pv 1) pa_nil)))) pa_nil)))) (pss_one (ps_ret pe_bl)) pss_nil)
      (pss_one (ps_ret (pe_callB (r := rAll K) (cr_all rfl) (by rfl) T.n_all (by decide +kernel) (pa_cons (pe_lc (own := [("left", 2), ("right", 3)]) (g := (gTup K 2 (gCons (gName 2) (gCons (gName 3) gNil)))) (by rfl) sc_is_valleys.nd (RZ.pi_zipA (by rfl) T.n_zip (pa_cons (pv 0) (pa_cons (pe_slice (r := rSlA K) sl_tupA (pv 0) (po_some pe_int) po_none) pa_nil))) (blkOk_by (N := N_is_valleys) (sc := (defScope s_is_valleys)) (by decide +kernel)) (fun _ _ _ _ _ => (pg_tup (by rfl) (pgs_cons (pg_name (i := 2) sc_is_valleys.nd rfl (Or.inl rfl)) (pgs_cons (pg_name (i := 3) sc_is_valleys.nd rfl (Or.inl rfl)) pgs_nil)))) (fun _ _ _ _ _ => pts_nil) (fun _ _ _ _ _ => (pe_and (pe_cmpR op_lt (pe_ix (r := rIxT K) ix_tup (pv 2) pe_int (fun _ _ => rfl)) (pe_ix (r := rIxT K) ix_tup (pv 3) pe_int (fun _ _ => rfl)) (nomark _)) (pe_one (pe_cmpR op_gt (pe_ix (r := rIxT K) ix_tup (pv 2) pe_int (fun _ _ => rfl)) (pe_ix (r := rIxT K) ix_tup (pv 3) pe_int (fun _ _ => rfl)) (nomark _)))))) pa_nil)))))), ?_⟩
  refine ⟨_, rfl, _, _, _, _, rfl, hd, kit_tuple _, _, rfl, ?_⟩
  cases et : isTup d with
  | false =>
    have e : valB d = false := by cases d <;> first | rfl | cases et
    rw [e] at q
    refine iteT ?_
    exact q _ (Same.refl _)
  | true =>
  obtain ⟨ds, rfl⟩ : ∃ ds, d = .tuple ds := by
    cases d <;> first | exact ⟨_, rfl⟩ | cases et
  obtain ⟨a, xs, rfl, hs, hall⟩ := dp_tup_inv hd
  have hl : xs.length = ds.length := dpAll_length hall
  refine iteF ?_
  refine ⟨_, rfl, a, _, rfl, .inr hs, ?_⟩
  have no : ¬ (1 ≤ ds.length ∧ ds.length ≤ 400) → Q (.bl false) H := fun n => by
    have e : valB (.tuple ds) = false := by simp only [valB, decide_eq_false n, Bool.false_and]
    rw [e] at q
    exact q _ (Same.refl _)
  refine ⟨_, _, rfl, rfl, _, rfl, ?_⟩
  refine ite2 (fun g => ?_) (fun g => ?_)
  · have g1 : 1 ≤ ds.length := by
      have := of_decide_eq_true g
      omega
    refine ⟨_, _, rfl, rfl, _, rfl, ?_⟩
    show (if (!decide ((xs.length : Int) ≤ 400)) = true then _ else _)
    refine ite2 (fun g4 => ?_) (fun g4 => ?_)
    · refine no fun z => ?_
      rw [decide_eq_true (by rw [hl]; omega)] at g4
      cases g4
    have g400 : ds.length ≤ 400 := by
      rw [Bool.not_eq_true', decide_eq_false_iff_not] at g4
      have := Classical.byContradiction (p := (xs.length : Int) ≤ 400) g4
      omega
    clear g g4 no
    refine ⟨_, rfl, a, rfl, ⟨xs, hs⟩, fun D hD => ?_⟩
    refine lc_tup (K := K) (a := a) (xs := xs) (fun i G => Same H G ∧ G D = some (.lst (((ds.take i).map pairB).map V.bl))) ?_ ?_ ?_ ?_
    · exact ⟨same_new hD, by simpa using upd_same⟩
    · rintro i G _ ⟨s1, _⟩
      exact same_sqT s1 hs
    · rintro i x G hi ⟨s1, eD⟩
      obtain ⟨d, ed, hx⟩ := dpAll_get hall hi
      refine ⟨rfl, ?_⟩
      unfold tYes
      refine iteT ?_
      refine ⟨_, rfl, x, d, rfl, dp_same s1 hx, ?_⟩
      have etk : ds.take (i + 1) = ds.take i ++ [d] := by rw [List.take_add_one, ed]; rfl
      refine ⟨_, eD, ?_, ?_, ?_⟩
      · rw [List.length_map, List.length_map, List.length_take]
        exact small1000 (by omega)
      · intro c o hc
        rw [upd_ne (ne_of_none hc hD)]
        exact s1 _ _ hc
      · rw [upd_same, etk, List.map_append, List.map_append]
        rfl
    rintro G ⟨s1, eD⟩
    rw [hl, List.take_length] at eD
    refine ⟨D, _, rfl, SqL.of eD, ?_⟩
    have eid : ((ds.map pairB).all id) = ds.all pairB := by rw [List.all_map]; rfl
    rw [eid]
    refine ⟨_, rfl, ?_⟩
    cases ep : ds.all pairB with
    | false =>
      have e : valB (.tuple ds) = false := by simp only [valB, ep, Bool.and_false, Bool.false_and]
      rw [e] at q
      refine iteT ?_
      exact q _ s1
    | true =>
    refine iteF ?_
    clear eD eid
    have eps := all_pairs ep
    have e : valB (.tuple ds) = adjB (ds.map toP2) := by simp only [valB, ep, decide_eq_true (And.intro g1 g400), Bool.true_and]
    rw [e] at q
    clear e ep
    have lp : (ds.map toP2).length = ds.length := List.length_map ..
    generalize ds.map toP2 = ps at eps q lp
    subst eps
    -- neighbours
    have hsG := same_sqT s1 hs
    refine ⟨_, rfl, _, rfl, _, rfl, ?_⟩
    unfold tNoPart
    dsimp only
    refine slT hsG (fun G1 b s2 hb => ?_)
    rw [cut_1] at hb
    refine ⟨a, b, _, _, rfl, .inr ⟨same_sqT s2 hsG, hb, fun D hD => ?_⟩⟩
    have hsG1 := same_sqT s2 hsG
    have hall1 := dpAll_same (s1.trans s2) hall
    refine lc_it (walk_zipT2 (xs := xs) (ys := xs.drop 1) (n := xs.length - 1) (by rw [List.length_drop]; omega)) (fun i F => Same G1 F ∧ F D = some (.lst (((adjs ps).take i).map V.bl))) ?_ ?_ ?_ ?_
    · exact ⟨same_new hD, by simpa using upd_same⟩
    · rintro i F _ ⟨s3, _⟩
      exact ⟨same_sqT s3 hsG1, same_sqT s3 hb⟩
    · rintro i z F F' hi ⟨s3, eD⟩ ⟨t, x, y, rfl, ht, rfl, hx, hy⟩
      dsimp only at hx hy
      rw [List.getElem?_drop] at hy
      obtain ⟨p1, ep1, dx⟩ := prs_at hall1 hx
      obtain ⟨p2, ep2, dy⟩ := prs_at hall1 hy
      obtain ⟨t1, rfl, k1⟩ := pr_inv dx
      obtain ⟨t2, rfl, k2⟩ := pr_inv dy
      have s4 : Same F (upd F t (.tup [.ref t1, .ref t2])) := same_new ht
      have kt : SqT K (upd F t (.tup [.ref t1, .ref t2])) t [.ref t1, .ref t2] := SqT.of upd_same
      have eD4 := s4 _ _ eD
      generalize (upd F t (.tup [.ref t1, .ref t2])) = F2 at s4 kt eD4 ⊢
      have s34 := s3.trans s4
      have k1 := same_sqT s34 k1
      have k2 := same_sqT s34 k2
      have etk : (adjs ps).take (i + 1) = (adjs ps).take i ++ [decide (p1.1 < p2.1) && decide (p2.2 < p1.2)] := by
        rw [List.take_add_one, adjs_at ep1 (by rw [← ep2, Nat.add_comm])]
        rfl
      have fin : ∀ b : Bool, b = (decide (p1.1 < p2.1) && decide (p2.2 < p1.2)) → ∃ acc, F2 D = some (.lst acc) ∧ acc.length < sizeLine ∧ Same G1 (upd F2 D (.lst (acc ++ [.bl b]))) ∧ upd F2 D (.lst (acc ++ [.bl b])) D = some (.lst (((adjs ps).take (i + 1)).map V.bl)) := fun b eb => by
        refine ⟨_, eD4, ?_, ?_, ?_⟩
        · rw [List.length_map, List.length_take]
          exact small1000 (by omega)
        · intro c o hc
          rw [upd_ne (ne_of_none hc hD)]
          exact s34 _ _ hc
        · rw [upd_same, etk, List.map_append, ← eb]
          rfl
      refine ⟨t, _, rfl, kt, rfl, _, _, rfl, _, _, rfl, rfl, rfl, ?_⟩
      unfold tYes
      refine iteT ?_
      refine ⟨_, rfl, _, _, _, _, rfl, rfl, k1, atI_at (j := 0) rfl rfl, _, rfl, _, _, _, _, rfl, rfl, k2, atI_at (j := 0) rfl rfl, _, _, rfl, rfl, _, rfl, ?_⟩
      cases g1 : decide (p1.1 < p2.1) with
      | true =>
        refine iteT ?_
        refine ⟨_, rfl, _, _, _, _, rfl, rfl, k1, atI_at (j := 1) rfl rfl, _, rfl, _, _, _, _, rfl, rfl, k2, atI_at (j := 1) rfl rfl, _, _, rfl, rfl, ?_⟩
        exact fin _ (by rw [g1, Bool.true_and])
      | false =>
        refine iteF ?_
        exact fin _ (by rw [g1, Bool.false_and])
    rintro F ⟨s3, eD⟩
    rw [hl, prDs, List.length_map, ← adjs_len, List.take_length] at eD
    refine ⟨D, _, rfl, SqL.of eD, ?_⟩
    rw [adjs_all]
    exact q _ (s1.trans (s2.trans s3))
  · refine ⟨_, rfl, ?_⟩
    refine iteT ?_
    exact no fun z => g (decide_eq_true (by rw [hl]; omega))
theorem ok_chkv (T : Txt K mg) : FnOk P w K mg base (L2.CX P w) 4 T.f__check_valleys T.d__check_valleys ["value"] (spChkV K T.c_InvalidValleys) := by
  have g_is_valleys := ok_isv (P := P) (w := w) (base := base) T
  refine T.F__check_valleys.okX sc__check_valleys (fun vs H Q E h => ?_) (fun cdv A outer s H vs Q E hr h => ?_)
  · obtain ⟨v, d, rfl, _⟩ := h
    rfl
  obtain ⟨v, d, rfl, hd, q, qe⟩ := h
  refine ⟨_, (pss_one (ps_if (pt_not (pt_val (pe_call g_is_valleys (hr.mono (by omega)) rfl T.m_is_valleys T.F_is_valleys.kp T.b_is_valleys .nil pass0 (pa_cons (pv 0) pa_nil)))) (pss_one (ps_raise rfl (takes_of rfl rfl rfl rfl) (pmk_own PySem.F.excBase_ValueError T.x_InvalidValleys T.g_InvalidValleys T.k_InvalidValleys (raises_own T.bb_InvalidValleys T.tt_InvalidValleys) rfl))) pss_nil)), ?_⟩
  refine ⟨_, rfl, v, d, rfl, hd, fun H1 s1 => ⟨_, rfl, ?_⟩⟩
  cases e : valB d with
  | true =>
    refine iteF ?_
    exact q e _ s1
  | false =>
    refine iteT ?_
    exact qe e _ s1
end
/-! block V20f: value_at, moved, valley_at, shifted, from_capacity (behind bVq) -/
def valFrom (c : Int) (a : Option Int) (ps : List P2) : Option Int := ps.foldl (fun v p => if p.1 ≤ c then some p.2 else v) a
def valAt (c : Int) (ps : List P2) : Option Int := valFrom c none ps
def repO : Option Int → V
  | none => .non
  | some x => .int x
def movedP (c l : Int) (ps : List P2) : List P2 := ps.map fun p => (p.1 + c, p.2 + l)
def laterP (c : Int) (ps : List P2) : List P2 := ps.filter fun p => decide (p.1 > c)
def fromP (c : Int) (ps : List P2) : List P2 := (c, (valAt c ps).getD 0) :: laterP c ps
theorem valFrom_some {c : Int} : ∀ {ps : List P2} {x : Int}, ∃ y, valFrom c (some x) ps = some y
  | [], x => ⟨x, rfl⟩
  | p :: ps, x => by
    unfold valFrom
    rw [List.foldl_cons]
    split
    · exact valFrom_some (ps := ps)
    · exact valFrom_some (ps := ps)
theorem valAt_some {c : Int} {p : P2} {ps : List P2} (h : p.1 ≤ c) : valAt c (p :: ps) = some ((valAt c (p :: ps)).getD 0) := by
  obtain ⟨y, e⟩ := valFrom_some (c := c) (ps := ps) (x := p.2)
  have e2 : valAt c (p :: ps) = some y := by
    unfold valAt valFrom
    rw [List.foldl_cons, if_pos h]
    exact e
  rw [e2]
  rfl
theorem valFrom_mem {c : Int} : ∀ {ps : List P2} {a : Option Int} {y : Int}, valFrom c a ps = some y → a = some y ∨ ∃ p ∈ ps, p.1 ≤ c ∧ p.2 = y
  | [], a, y, h => .inl h
  | p :: ps, a, y, h => by
    unfold valFrom at h
    rw [List.foldl_cons] at h
    rcases valFrom_mem (ps := ps) h with z | ⟨q, hq, h1, h2⟩
    · by_cases e : p.1 ≤ c
      · rw [if_pos e] at z
        exact .inr ⟨p, List.mem_cons_self .., e, Option.some.inj z⟩
      · rw [if_neg e] at z
        exact .inl z
    · exact .inr ⟨q, List.mem_cons_of_mem _ hq, h1, h2⟩
theorem strict_before {ps : List P2} (h : Strict ps) {p q : P2} (hp : p ∈ ps) (hq : q ∈ ps) (c : Int) (h1 : p.1 ≤ c) (h2 : q.1 > c) : q.2 < p.2 := by
  obtain ⟨i, hi, rfl⟩ := List.getElem_of_mem hp
  obtain ⟨j, hj, rfl⟩ := List.getElem_of_mem hq
  rcases Nat.lt_trichotomy i j with z | z | z
  · exact ((List.pairwise_iff_getElem.mp h) i j hi hj z).2
  · subst z
    omega
  · have := ((List.pairwise_iff_getElem.mp h) j i hj hi z).1
    omega
theorem strict_from {c : Int} {p : P2} {ps : List P2} (h : Strict (p :: ps)) (hc : p.1 ≤ c) : Strict (fromP c (p :: ps)) := by
  unfold fromP
  refine List.pairwise_cons.mpr ⟨fun q hq => ?_, h.filter _⟩
  unfold laterP at hq
  rw [List.mem_filter, decide_eq_true_eq] at hq
  refine ⟨by dsimp only; omega, ?_⟩
  have e := valAt_some (ps := ps) hc
  rcases valFrom_mem e with z | ⟨r, hr, r1, r2⟩
  · cases z
  · dsimp only
    rw [← r2]
    exact strict_before h hr hq.1 c r1 hq.2
theorem from_len {c : Int} {p : P2} {ps : List P2} (hc : p.1 ≤ c) : (fromP c (p :: ps)).length ≤ (p :: ps).length := by
  unfold fromP laterP
  rw [List.filter_cons_of_neg (by rw [decide_eq_true_eq]; omega), List.length_cons, List.length_cons]
  have := List.length_filter_le (fun p : P2 => decide (p.1 > c)) ps
  omega
theorem noLs_prV : ∀ ps : List P2, noLs (prDs ps) = true
  | [] => rfl
  | p :: ps => by
    have := noLs_prV ps
    show noLs (prD p :: prDs ps) = true
    simp only [noLs, noL, this, Bool.and_self]
theorem noLs_one (p : P2) : noL (prD p) = true := by simp [noL, noLs]
def spVat (K : PySem.W.Frag) : Sp := fun vs H Q _ => ∃ (v : V) (ps : List P2) (c : Int), vs = [v, .int c] ∧ Dp K H v (.tuple (prDs ps)) ∧ Q (repO (valAt c ps)) H
def spMvd (K : PySem.W.Frag) : Sp := fun vs H Q _ => ∃ (v : V) (ps : List P2) (c l : Int), vs = [v, .int c, .int l] ∧ Dp K H v (.tuple (prDs ps)) ∧ ps.length ≤ 400 ∧ ∀ (H' : Hp) (r : V), Same H H' → Dp K H' r (.tuple (prDs (movedP c l ps))) → Q r H'
/-- an error that keeps what it was given -/
def badN (K : PySem.W.Frag) (C : Addr) (H : Hp) (E : XK) (x : V) : Prop := ∀ (H' : Hp) (dx : Addr), Same H H' → H' dx = none → E (.ref C) (some dx) (upd H' dx (.xd [("value", x)]))
@[irreducible] def spVA (K : PySem.W.Frag) (CV CN : Addr) : Sp := fun vs H Q E => ∃ (v x : V) (d e : PyData), vs = [v, x] ∧ Dp K H v d ∧ Dp K H x e ∧ (valB d = false → ∀ H', Same H H' → E (.ref CV) none H') ∧
  (valB d = true → numB e = false → badN K CN H E x) ∧ (∀ ps c, d = .tuple (prDs ps) → e = .int c → valB d = true → numB e = true → ∀ H', Same H H' → Q (repO (valAt c ps)) H')
@[irreducible] def spSh (K : PySem.W.Frag) (CV CN : Addr) : Sp := fun vs H Q E => ∃ (v x y : V) (d e f : PyData), vs = [v, x, y] ∧ Dp K H v d ∧ Dp K H x e ∧ Dp K H y f ∧ (valB d = false → ∀ H', Same H H' → E (.ref CV) none H') ∧
  (valB d = true → numB e = false → badN K CN H E x) ∧ (valB d = true → numB e = true → numB f = false → badN K CN H E y) ∧
  (∀ ps c l, d = .tuple (prDs ps) → e = .int c → f = .int l → valB d = true → numB e = true → numB f = true → ∀ (H' : Hp) (r : V), Same H H' → Dp K H' r (.tuple (prDs (movedP c l ps))) → Q r H')
@[irreducible] def spFC (K : PySem.W.Frag) (CV CN : Addr) : Sp := fun vs H Q E => ∃ (v x : V) (d e : PyData), vs = [v, x] ∧ Dp K H v d ∧ Dp K H x e ∧ (valB d = false → ∀ H', Same H H' → E (.ref CV) none H') ∧
  (valB d = true → numB e = false → badN K CN H E x) ∧ (∀ p ps c, d = .tuple (prDs (p :: ps)) → e = .int c → valB d = true → numB e = true → c < p.1 → badN K CN H E x) ∧
  (∀ p ps c, d = .tuple (prDs (p :: ps)) → e = .int c → valB d = true → numB e = true → p.1 ≤ c → ∀ (H' : Hp) (r : V), Same H H' → Dp K H' r (.tuple (prDs (fromP c (p :: ps)))) → Q r H')
theorem numB_inv {d : PyData} (h : numB d = true) : ∃ i, d = .int i := by
  cases d <;> first | exact ⟨_, rfl⟩ | cases h
section
variable {P : Program} {w : World} {K : PySem.W.Frag} {mg : Str → Option Value} {base : Heap}
theorem ok_vat (T : Txt K mg) : FnOk P w K mg base CX0 1 T.f_value_at T.d_value_at ["pairs", "capacity"] (spVat K) := by
  refine T.F_value_at.ok sc_value_at (fun vs H Q E h => ?_) (fun cdv A outer s H vs Q E hr h => ?_)
  · obtain ⟨v, ps, c, rfl, _⟩ := h
    rfl
  obtain ⟨v, ps, c, rfl, hd, q⟩ := h
  refine ⟨_, (pss_cons (ps_set (i := 2) sc_value_at.nd rfl (Or.inl rfl) pe_non)
      (pss_cons (ps_for PassesOwn.never rfl (pi_tup (pv 0)) (pg_tup (by rfl) (pgs_cons (pg_name (i := 3) sc_value_at.nd rfl (Or.inl rfl)) (pgs_cons (pg_name (i := 4) sc_value_at.nd rfl (Or.inl rfl)) pgs_nil)))
        (pss_one (ps_if (pt_cmpR op_le (pv 3) (pv 1) (nomark _)) (pss_one (ps_set (i := 2) sc_value_at.nd rfl (Or.inl rfl) (pv 4))) pss_nil)))
      (pss_one (ps_ret (pv 2))))), ?_⟩
  obtain ⟨a, xs, rfl, hs, hall⟩ := dp_tup_inv hd
  have hl : xs.length = ps.length := by rw [dpAll_length hall, prDs, List.length_map]
  refine ⟨_, rfl, a, rfl, ⟨xs, hs⟩, ?_⟩
  refine for_tup (K := K) (a := a) (xs := xs) (fun i σ G => ∃ y3 y4 : Option V, σ = [some (.ref a), some (.int c), some (repO (valAt c (ps.take i))), y3, y4] ∧ G = H) ⟨none, none, rfl, rfl⟩ (fun i σ G _ ⟨_, _, _, e⟩ => e ▸ hs) ?_ ?_
  · rintro i x σ G hi ⟨y3, y4, rfl, rfl⟩
    obtain ⟨p, ep, dx⟩ := prs_at hall hi
    obtain ⟨t, rfl, k⟩ := pr_inv dx
    have etk : ps.take (i + 1) = ps.take i ++ [p] := by rw [List.take_add_one, ep]; rfl
    have ev : valAt c (ps.take (i + 1)) = if p.1 ≤ c then some p.2 else valAt c (ps.take i) := by
      rw [etk]
      unfold valAt valFrom
      rw [List.foldl_append]
      rfl
    refine ⟨t, _, rfl, k, rfl, _, _, rfl, _, _, rfl, rfl, ?_⟩
    refine ⟨_, rfl, _, rfl, _, _, rfl, rfl, _, rfl, ?_⟩
    refine ite2 (fun g => ?_) (fun g => ?_)
    · rw [if_pos (of_decide_eq_true g)] at ev
      refine ⟨_, rfl, ?_⟩
      exact ⟨_, _, by rw [ev]; rfl, rfl⟩
    · rw [if_neg (fun z => g (decide_eq_true z))] at ev
      exact ⟨_, _, by rw [ev]; rfl, rfl⟩
  · rintro σ G ⟨y3, y4, rfl, rfl⟩
    rw [hl, List.take_length]
    exact ⟨_, rfl, q⟩
theorem ok_mvd (T : Txt K mg) : FnOk P w K mg base CX0 1 T.f_moved T.d_moved ["pairs", "capacity", "low"] (spMvd K) := by
  refine T.F_moved.ok sc_moved (fun vs H Q E h => ?_) (fun cdv A outer s H vs Q E hr h => ?_)
  · obtain ⟨v, ps, c, l, rfl, _⟩ := h
    rfl
  obtain ⟨v, ps, c, l, rfl, hd, h400, q⟩ := h
  refine ⟨_, (pss_one (ps_ret (pe_callTy (r := rTupS K) call_tupS (by rfl) T.n_tuple (by decide +kernel) (pa_cons (pe_lc (own := [("pair", 3)]) (g := (gName 3)) (by rfl) sc_moved.nd (pi_tup (pv 0)) (blkOk_by (N := N_moved) (sc := (defScope s_moved)) (by decide +kernel)) (fun _ _ _ _ _ => (pg_name (i := 3) sc_moved.nd rfl (Or.inl rfl))) (fun _ _ _ _ _ => pts_nil) (fun _ _ _ _ _ => (pe_tup (pa_cons (pe_op op_add (pe_ix (r := rIxT K) ix_tup (pv 3) pe_int (fun _ _ => rfl)) (pv 1)) (pa_cons (pe_op op_add (pe_ix (r := rIxT K) ix_tup (pv 3) pe_int (fun _ _ => rfl)) (pv 2)) pa_nil))))) pa_nil)))), ?_⟩
  obtain ⟨a, xs, rfl, hs, hall⟩ := dp_tup_inv hd
  have hl : xs.length = ps.length := by rw [dpAll_length hall, prDs, List.length_map]
  refine ⟨_, rfl, a, rfl, ⟨xs, hs⟩, fun D hD => ?_⟩
  refine lc_tup (K := K) (a := a) (xs := xs) (fun i G => Same H G ∧ ∃ ws, G D = some (.lst ws) ∧ DpAll K G ws (prDs (movedP c l (ps.take i)))) ⟨same_new hD, [], upd_same, .nil⟩ (fun i G _ ⟨s, _⟩ => same_sqT s hs) ?_ ?_
  · rintro i x G hi ⟨s1, ws, eD, hw⟩
    obtain ⟨p, ep, dx⟩ := prs_at hall hi
    obtain ⟨t, rfl, k⟩ := pr_inv dx
    have etk : ps.take (i + 1) = ps.take i ++ [p] := by rw [List.take_add_one, ep]; rfl
    have kG := same_sqT s1 k
    have wl : ws.length ≤ 400 := by
      have := dpAll_length hw
      rw [prDs, List.length_map, movedP, List.length_map, List.length_take] at this
      omega
    refine ⟨rfl, ?_⟩
    unfold tYes
    refine iteT ?_
    refine ⟨_, rfl, _, _, _, _, rfl, rfl, kG, atI_at (j := 0) rfl rfl, _, rfl, _, _, rfl, rfl, _, rfl, _, _, _, _, rfl, rfl, kG, atI_at (j := 1) rfl rfl, _, rfl, _, _, rfl, rfl, (by show 2 ≤ sizeLine; decide), fun u hu => ?_⟩
    have s2 : Same G (upd G u (.tup [.int (p.1 + c), .int (p.2 + l)])) := same_new hu
    have du : Dp K (upd G u (.tup [.int (p.1 + c), .int (p.2 + l)])) (.ref u) (prD (p.1 + c, p.2 + l)) := .tup (SqT.of upd_same) (.cons (.int _) (.cons (.int _) .nil))
    have eD2 := s2 _ _ eD
    generalize (upd G u (.tup [.int (p.1 + c), .int (p.2 + l)])) = G2 at s2 du eD2 ⊢
    have kk : ∀ b zs, SqT K G2 b zs → SqT K (upd G2 D (.lst (ws ++ [.ref u]))) b zs := fun b zs h => (sx_upd (p := D)).sqT eD2 h
    refine ⟨ws, eD2, small1000 (by omega), fun b o e => by rw [upd_ne (ne_of_none e hD)]; exact s2 _ _ (s1 _ _ e), _, upd_same, ?_⟩
    rw [etk, movedP, List.map_append, prDs, List.map_append]
    exact dpAll_append (dpAll_keep kk (noLs_prV _) (dpAll_same s2 hw)) (.cons (dp_keep kk (noLs_one _) du) .nil)
  · rintro G ⟨s1, ws, eD, hw⟩
    rw [hl, List.take_length] at hw
    refine ⟨D, ws, rfl, .inl ⟨SqL.of eD, fun t ht => ?_⟩⟩
    exact q _ _ (s1.trans (same_new ht)) (.tup (SqT.of upd_same) (dpAll_same (same_new ht) hw))
end
/-! block V20g: valley_at, shifted, from_capacity (behind bV20f) -/
section
variable {P : Program} {w : World} {K : PySem.W.Frag} {mg : Str → Option Value} {base : Heap}
theorem ok_vla (T : Txt K mg) : FnOk P w K mg base (L2.CX P w) 5 T.f_valley_at T.d_valley_at ["valleys", "capacity"] (spVA K T.c_InvalidValleys T.c_InvalidNumber) := by
  have g__check_valleys := ok_chkv (P := P) (w := w) (base := base) T
  have g_check_number := ok_chkn (P := P) (w := w) (base := base) T
  have g_value_at := ok_vat (P := P) (w := w) (base := base) T
  refine T.F_valley_at.okX sc_valley_at (fun vs H Q E h => ?_) (fun cdv A outer s H vs Q E hr h => ?_)
  · unfold spVA at h
    obtain ⟨v, x, d, e, rfl, _⟩ := h
    rfl
  unfold spVA at h
  obtain ⟨v, x, d, e, rfl, hd, he, q1, q2, q⟩ := h
  refine ⟨_, (pss_cons (ps_expr (pe_callS g__check_valleys (hr.mono (by omega)) rfl T.m__check_valleys T.F__check_valleys.kp T.b__check_valleys (fun σ => passAt (takes_of rfl rfl rfl rfl) σ) (pa_cons (pv 0) pa_nil)))
      (pss_cons (ps_expr (pe_callS g_check_number (hr.mono (by omega)) rfl T.m_check_number T.F_check_number.kp T.b_check_number (fun σ => passAt (takes_of rfl rfl rfl rfl) σ) (pa_cons (pv 1) pa_nil)))
      (pss_one (ps_ret (pe_call g_value_at (hr.mono (by omega)) rfl T.m_value_at T.F_value_at.kp T.b_value_at .nil pass0 (pa_cons (pv 0) (pa_cons (pv 1) pa_nil))))))), ?_⟩
  refine ⟨_, rfl, v, d, rfl, hd, fun ev H1 s1 => ?_, fun ev H1 s1 => q1 ev H1 s1⟩
  refine ⟨_, rfl, x, e, rfl, dp_same s1 he, fun en => ?_, fun en dx hx => q2 ev en H1 dx s1 hx⟩
  obtain ⟨ps, rfl, _, _, _⟩ := valB_iff.mp ev
  obtain ⟨c, rfl⟩ := numB_inv en
  obtain rfl := dp_int_inv he
  exact ⟨_, rfl, _, rfl, v, ps, c, rfl, dp_same s1 hd, q ps c rfl rfl ev en H1 s1⟩
theorem ok_shf (T : Txt K mg) : FnOk P w K mg base (L2.CX P w) 5 T.f_shifted T.d_shifted ["valleys", "capacity", "usage"] (spSh K T.c_InvalidValleys T.c_InvalidNumber) := by
  have g__check_valleys := ok_chkv (P := P) (w := w) (base := base) T
  have g_check_number := ok_chkn (P := P) (w := w) (base := base) T
  have g_moved := ok_mvd (P := P) (w := w) (base := base) T
  refine T.F_shifted.okX sc_shifted (fun vs H Q E h => ?_) (fun cdv A outer s H vs Q E hr h => ?_)
  · unfold spSh at h
    obtain ⟨v, x, y, d, e, f, rfl, _⟩ := h
    rfl
  unfold spSh at h
  obtain ⟨v, x, y, d, e, f, rfl, hd, he, hf, q1, q2, q3, q⟩ := h
  refine ⟨_, (pss_cons (ps_expr (pe_callS g__check_valleys (hr.mono (by omega)) rfl T.m__check_valleys T.F__check_valleys.kp T.b__check_valleys (fun σ => passAt (takes_of rfl rfl rfl rfl) σ) (pa_cons (pv 0) pa_nil)))
      (pss_cons (ps_expr (pe_callS g_check_number (hr.mono (by omega)) rfl T.m_check_number T.F_check_number.kp T.b_check_number (fun σ => passAt (takes_of rfl rfl rfl rfl) σ) (pa_cons (pv 1) pa_nil)))
      (pss_cons (ps_expr (pe_callS g_check_number (hr.mono (by omega)) rfl T.m_check_number T.F_check_number.kp T.b_check_number (fun σ => passAt (takes_of rfl rfl rfl rfl) σ) (pa_cons (pv 2) pa_nil)))
      (pss_one (ps_ret (pe_call g_moved (hr.mono (by omega)) rfl T.m_moved T.F_moved.kp T.b_moved .nil pass0 (pa_cons (pv 0) (pa_cons (pv 1) (pa_cons (pv 2) pa_nil))))))))), ?_⟩
  refine ⟨_, rfl, v, d, rfl, hd, fun ev H1 s1 => ?_, fun ev H1 s1 => q1 ev H1 s1⟩
  refine ⟨_, rfl, x, e, rfl, dp_same s1 he, fun en => ?_, fun en dx hx => q2 ev en H1 dx s1 hx⟩
  refine ⟨_, rfl, y, f, rfl, dp_same s1 hf, fun fn => ?_, fun fn dx hx => q3 ev en fn H1 dx s1 hx⟩
  obtain ⟨ps, rfl, _, h400, _⟩ := valB_iff.mp ev
  obtain ⟨c, rfl⟩ := numB_inv en
  obtain ⟨l, rfl⟩ := numB_inv fn
  obtain rfl := dp_int_inv he
  obtain rfl := dp_int_inv hf
  exact ⟨_, rfl, _, rfl, _, rfl, v, ps, c, l, rfl, dp_same s1 hd, h400, fun H2 r s2 dr => q ps c l rfl rfl rfl ev en fn H2 r (s1.trans s2) dr⟩
theorem ok_frc (T : Txt K mg) : FnOk P w K mg base (L2.CX P w) 5 T.f_from_capacity T.d_from_capacity ["valleys", "capacity"] (spFC K T.c_InvalidValleys T.c_InvalidNumber) := by
  have g__check_valleys := ok_chkv (P := P) (w := w) (base := base) T
  have g_check_number := ok_chkn (P := P) (w := w) (base := base) T
  have g_value_at := ok_vat (P := P) (w := w) (base := base) T
  have g_InvalidNumber_init := ok_inum (P := P) (w := w) (base := base) T
  refine T.F_from_capacity.okX sc_from_capacity (fun vs H Q E h => ?_) (fun cdv A outer s H vs Q E hr h => ?_)
  · unfold spFC at h
    obtain ⟨v, x, d, e, rfl, _⟩ := h
    rfl
  unfold spFC at h
  obtain ⟨v, x, d, e, rfl, hd, he, q1, q2, q3, q⟩ := h
  refine ⟨_, (pss_cons (ps_expr (pe_callS g__check_valleys (hr.mono (by omega)) rfl T.m__check_valleys T.F__check_valleys.kp T.b__check_valleys (fun σ => passAt (takes_of rfl rfl rfl rfl) σ) (pa_cons (pv 0) pa_nil)))
      (pss_cons (ps_expr (pe_callS g_check_number (hr.mono (by omega)) rfl T.m_check_number T.F_check_number.kp T.b_check_number (fun σ => passAt (takes_of rfl rfl rfl rfl) σ) (pa_cons (pv 1) pa_nil)))
      (pss_cons (ps_if (pt_cmpR op_lt (pv 1) (pe_ix (r := rIxT K) ix_tup (pe_ix (r := rIxT K) ix_tup (pv 0) pe_int (fun _ _ => rfl)) pe_int (fun _ _ => rfl)) (nomark _)) (pss_one (ps_raise rfl (takes_of rfl rfl rfl rfl) (pmk_keep T.ox_InvalidNumber T.iC_InvalidNumber T.tI_InvalidNumber g_InvalidNumber_init (hr.mono (by omega)) T.b_InvalidNumber_init pass0 rfl T.g_InvalidNumber (pa_cons (pv 1) pa_nil)))) pss_nil)
      (pss_cons (ps_setLc (i := 2) (own := [("pair", 3)]) (g := (gName 3)) (by rfl) sc_from_capacity.nd rfl rfl (sw_true rfl rfl rfl (by decide +kernel)) (pi_tup (pv 0)) (blkOk_by (N := N_from_capacity) (sc := (defScope s_from_capacity)) (by decide +kernel)) (fun _ _ _ _ _ => (pg_name (i := 3) sc_from_capacity.nd rfl (Or.inl rfl))) (fun _ _ _ _ _ => (pts_one (pt_cmpR op_gt (pe_ix (r := rIxT K) ix_tup (pv 3) pe_int (fun _ _ => rfl)) (pv 1) (nomark _)))) (fun _ _ _ _ _ => (pv 3)))
      (pss_one (ps_ret (pe_tup (pa_cons (pe_tup (pa_cons (pv 1) (pa_cons (pe_call g_value_at (hr.mono (by omega)) rfl T.m_value_at T.F_value_at.kp T.b_value_at .nil pass0 (pa_cons (pv 0) (pa_cons (pv 1) pa_nil))) pa_nil))) (StX.pa_star (pv 2) pa_nil))))))))), ?_⟩
  refine ⟨_, rfl, v, d, rfl, hd, fun ev H1 s1 => ?_, fun ev H1 s1 => q1 ev H1 s1⟩
  refine ⟨_, rfl, x, e, rfl, dp_same s1 he, fun en => ?_, fun en dx hx => q2 ev en H1 dx s1 hx⟩
  obtain ⟨ps, rfl, h1, h400, hst⟩ := valB_iff.mp ev
  obtain ⟨c, rfl⟩ := numB_inv en
  obtain rfl := dp_int_inv he
  obtain ⟨p, ps, rfl⟩ : ∃ p r, ps = p :: r := by
    cases ps with
    | nil => simp at h1
    | cons p r => exact ⟨p, r, rfl⟩
  have d1 := dp_same s1 hd
  obtain ⟨a, xs, rfl, hs, hall⟩ := dp_tup_inv d1
  have hl : xs.length = (p :: ps).length := by rw [dpAll_length hall, prDs, List.length_map]
  obtain ⟨x0, xr, rfl, dx0⟩ : ∃ x0 xr, xs = x0 :: xr ∧ Dp K H1 x0 (prD p) := by
    cases hall with
    | cons hx hr => exact ⟨_, _, rfl, hx⟩
  obtain ⟨t0, rfl, k0⟩ := pr_inv dx0
  refine ⟨_, rfl, _, rfl, _, _, _, _, rfl, rfl, hs, atI_at (j := 0) rfl rfl, _, _, _, _, rfl, rfl, k0, atI_at (j := 0) rfl rfl, _, _, rfl, rfl, _, rfl, ?_⟩
  refine ite2 (fun g => ?_) (fun g => ?_)
  · have g' : c < p.1 := of_decide_eq_true g
    exact ⟨_, rfl, _, rfl, fun dx hx => q3 p ps c rfl rfl ev en g' H1 dx s1 hx⟩
  have g' : p.1 ≤ c := by
    have : ¬ c < p.1 := fun z => g (decide_eq_true z)
    omega
  refine ⟨_, rfl, a, rfl, ⟨_, hs⟩, fun D hD => ?_⟩
  refine lc_tup (K := K) (a := a) (xs := .ref t0 :: xr) (fun i G => Same H1 G ∧ ∃ ws, G D = some (.lst ws) ∧ DpAll K H1 ws (prDs (laterP c ((p :: ps).take i)))) ⟨same_new hD, [], upd_same, .nil⟩ (fun i G _ ⟨s, _⟩ => same_sqT s hs) ?_ ?_
  · rintro i x G hi ⟨s2, ws, eD, hw⟩
    obtain ⟨p', ep, dx⟩ := prs_at hall hi
    obtain ⟨t, rfl, k⟩ := pr_inv dx
    have etk : (p :: ps).take (i + 1) = (p :: ps).take i ++ [p'] := by rw [List.take_add_one, ep]; rfl
    have kG := same_sqT s2 k
    have wl : ws.length ≤ 400 := by
      have h1 := dpAll_length hw
      have h2 := List.length_filter_le (fun q : P2 => decide (q.1 > c)) ((p :: ps).take i)
      rw [prDs, List.length_map] at h1
      unfold laterP at h1
      rw [List.length_take] at h2
      omega
    refine ⟨rfl, ?_⟩
    refine ⟨_, rfl, _, _, _, _, rfl, rfl, kG, atI_at (j := 0) rfl rfl, _, rfl, _, _, rfl, rfl, _, rfl, ?_⟩
    have el : laterP c ((p :: ps).take (i + 1)) = laterP c ((p :: ps).take i) ++ if p'.1 > c then [p'] else [] := by
      rw [etk]
      unfold laterP
      rw [List.filter_append, List.filter_cons, List.filter_nil]
      simp only [decide_eq_true_eq]
    refine ite2 (fun z => ?_) (fun z => ?_)
    · rw [if_pos (of_decide_eq_true z)] at el
      refine ⟨_, rfl, ws, eD, small1000 (by omega), fun b o e => by rw [upd_ne (ne_of_none e hD)]; exact s2 _ _ e, _, upd_same, ?_⟩
      rw [el, prDs, List.map_append]
      exact dpAll_append hw (.cons dx .nil)
    · rw [if_neg (fun y => z (decide_eq_true y)), List.append_nil] at el
      rw [el]
      exact ⟨s2, ws, eD, hw⟩
  · rintro G ⟨s2, ws, eD, hw⟩
    rw [hl, List.take_length] at hw
    have dG := dp_same s2 d1
    have es := valAt_some (ps := ps) g'
    have lw : ws.length ≤ 400 := by
      have h1 := dpAll_length hw
      have h2 := List.length_filter_le (fun q : P2 => decide (q.1 > c)) (p :: ps)
      rw [prDs, List.length_map] at h1
      unfold laterP at h1
      omega
    refine ⟨_, rfl, _, rfl, _, rfl, .ref a, p :: ps, c, rfl, dG, ?_⟩
    rw [es]
    simp only [repO]
    refine ⟨(by show 2 ≤ sizeLine; decide), fun u hu => ?_⟩
    have s3 : Same G (upd G u (.tup [.int c, .int ((valAt c (p :: ps)).getD 0)])) := same_new hu
    have du : Dp K (upd G u (.tup [.int c, .int ((valAt c (p :: ps)).getD 0)])) (.ref u) (prD (c, (valAt c (p :: ps)).getD 0)) := .tup (SqT.of upd_same) (.cons (.int _) (.cons (.int _) .nil))
    have eD3 := s3 _ _ eD
    generalize (upd G u (.tup [.int c, .int ((valAt c (p :: ps)).getD 0)])) = G3 at s3 du eD3 ⊢
    refine ⟨_, rfl, D, ws, rfl, .inr (SqL.of eD3), ?_⟩
    refine ⟨(by simp only [List.length_append, List.length_nil, List.length_cons, sizeLine_eq]; omega), fun t ht => ?_⟩
    have s4 : Same G3 (upd G3 t (.tup (.ref u :: (ws ++ [])))) := same_new ht
    refine q p ps c rfl rfl ev en g' _ _ (s1.trans (s2.trans (s3.trans s4))) ?_
    refine .tup (SqT.of upd_same) ?_
    rw [List.append_nil] at s4 ⊢
    exact .cons (dp_same s4 du) (dpAll_same (s2.trans (s3.trans s4)) hw)
end
/-! block V20t: _law_valley_outcome, the tables of lambdas (behind bV20g) -/
abbrev lamQ (x : Str) (st : Stmt) : Str := (PyProof.Rows.envOfC x (defScope st) 0 0 .none).qual ++ "<lambda>"
def lamT {K : PySem.W.Frag} {mg : Str → Option Value} (T : Txt K mg) : List (Addr × Str) :=
  [(T.ct__law_later_right, lamQ "_law_later_right" s__law_later_right), (T.ct__law_outcomes, lamQ "_law_outcomes" s__law_outcomes), (T.ct__law_errors_right, lamQ "_law_errors_right" s__law_errors_right)]
theorem lamU__law_later_right {K : PySem.W.Frag} {mg : Str → Option Value} (T : Txt K mg) : ∀ p ∈ lamT T, p.1 = T.ct__law_later_right → p.2 = lamQ "_law_later_right" s__law_later_right := by
  intro p hp e
  simp only [lamT, List.mem_cons, List.not_mem_nil, or_false] at hp
  rcases hp with rfl | rfl | rfl
  · rfl
  · exact absurd e.symm T.ne__law_later_right__law_outcomes
  · exact absurd e.symm T.ne__law_later_right__law_errors_right
theorem lamU__law_outcomes {K : PySem.W.Frag} {mg : Str → Option Value} (T : Txt K mg) : ∀ p ∈ lamT T, p.1 = T.ct__law_outcomes → p.2 = lamQ "_law_outcomes" s__law_outcomes := by
  intro p hp e
  simp only [lamT, List.mem_cons, List.not_mem_nil, or_false] at hp
  rcases hp with rfl | rfl | rfl
  · exact absurd e T.ne__law_later_right__law_outcomes
  · rfl
  · exact absurd e.symm T.ne__law_outcomes__law_errors_right
theorem lamU__law_errors_right {K : PySem.W.Frag} {mg : Str → Option Value} (T : Txt K mg) : ∀ p ∈ lamT T, p.1 = T.ct__law_errors_right → p.2 = lamQ "_law_errors_right" s__law_errors_right := by
  intro p hp e
  simp only [lamT, List.mem_cons, List.not_mem_nil, or_false] at hp
  rcases hp with rfl | rfl | rfl
  · exact absurd e T.ne__law_later_right__law_errors_right
  · exact absurd e T.ne__law_outcomes__law_errors_right
  · rfl
/-- what is told of an error -/
def toE (CV CN CM : Addr) (Q : VK) : XK := fun cls d H' => (cls = .ref CV ∧ Q (.str "valleys") H') ∨ (∃ dx y, cls = .ref CN ∧ d = some dx ∧ H' dx = some (.xd [("value", y)]) ∧ ∀ t, H' t = none → Q (.ref t) (upd H' t (.tup [.str "number", y]))) ∨
  (∃ dx y, cls = .ref CM ∧ d = some dx ∧ H' dx = some (.xd [("limit", y)]) ∧ ∀ t, H' t = none → Q (.ref t) (upd H' t (.tup [.str "many", y])))
/-- what is told of a call: "returned", or its error -/
def TTo (CV CN CM : Addr) : (XK → Hp → VK → Prop) → Hp → VK → Prop := fun tl H Q => tl (toE CV CN CM Q) H (fun _ H' => Q (.str "returned") H')
theorem gives__law_valley_outcome {K : PySem.W.Frag} {mg : Str → Option Value} (T : Txt K mg) (X : Cx) (e1 : X.K = K) (e2 : X.mg = mg) {q : Str} {cdv : Value} :
    LamX.GivesTo X N__law_valley_outcome "_law_valley_outcome" (defScope s__law_valley_outcome) T.f__law_valley_outcome cdv (defBody s__law_valley_outcome) "_law_call" q (TTo T.c_InvalidValleys T.c_InvalidNumber T.c_TooMany) := by
  subst e1
  subst e2
  intro f c' s H Q tl act hc h
  refine ⟨_, (pss_cons (ps_tryA rfl rfl sc__law_valley_outcome.nd takes0 (fun W pn xe tk _ => (pss_one (ps_expr (pe_acts (fun Ech hW => act _ _ _ Ech _ _ (takes_len tk) hW))))) (.bare ⟨rfl, by decide, .inl T.g_InvalidValleys⟩ (fun a oe cls d pn hz hf => (pss_one (ps_ret pe_str))) (.named (i := 1) rfl rfl ⟨rfl, by decide, .inl T.g_InvalidNumber⟩ (fun a oe cls d pn hz hf => (pss_one (ps_ret (pe_tup (pa_cons pe_str (pa_cons (pe_xfM T.xf_InvalidNumber T.no_InvalidNumber (List.mem_cons_self ..) hz hf (pv 1)) pa_nil)))))) (.named (i := 1) rfl rfl ⟨rfl, by decide, .inl T.g_TooMany⟩ (fun a oe cls d pn hz hf => (pss_one (ps_ret (pe_tup (pa_cons pe_str (pa_cons (pe_xfM T.xf_TooMany T.no_TooMany (List.mem_cons_self ..) hz hf (pv 1)) pa_nil)))))) .nil))))
      (pss_one (ps_ret pe_str))), ?_⟩
  refine ⟨_, fun cls d σ' H' hE hl => ?_, rfl, hc, h⟩
  rcases hE with ⟨rfl, q1⟩ | ⟨dx, y, rfl, rfl, hd, q1⟩ | ⟨dx, y, rfl, rfl, hd, q1⟩
  · exact ⟨true, T.e_InvalidValleys_InvalidValleys, fun _ a ha => q1, fun z => by cases z⟩
  · refine ⟨false, T.e_InvalidNumber_InvalidValleys, (fun z => by cases z), fun _ => ⟨true, T.e_InvalidNumber_InvalidNumber, fun _ a ha => ?_, fun z => by cases z⟩⟩
    exact ⟨_, getSet hl (by decide), rfl, rfl, dx, _, y, rfl, hd, rfl, (by show 2 ≤ sizeLine; decide), q1⟩
  · refine ⟨false, T.e_TooMany_InvalidValleys, (fun z => by cases z), fun _ => ⟨false, T.e_TooMany_InvalidNumber, (fun z => by cases z), fun _ => ⟨true, T.e_TooMany_TooMany, fun _ a ha => ?_, fun z => by cases z⟩⟩⟩
    exact ⟨_, getSet hl (by decide), rfl, rfl, dx, _, y, rfl, hd, rfl, (by show 2 ≤ sizeLine; decide), q1⟩
/-! block V20u: _law_value_at, _law_gaps, _law_random_valleys (behind bV20f) -/
abbrev Asc (gs : List Int) : Prop := gs.Pairwise fun a b => a < b
def spGaps : Sp := fun vs H Q _ => ∃ (p : Addr) (m t : Nat), vs = [.ref p, .int (t : Int)] ∧ Pot H p m ∧ m + 2 * t ≤ 1099511627776 ∧ 1 ≤ t ∧ t ≤ 100 ∧
  ∀ (H' : Hp) (l : Addr) (gs : List Int), Sx p H H' → Pot H' p (m + 2 * t) → H' l = some (.lst (gs.map V.int)) → H l = none → gs.length = t → Asc gs → (∀ g ∈ gs, 0 ≤ g ∧ g ≤ 41 * (t : Int)) → Q (.ref l) H'
/-- valleys as they are drawn -/
structure Rv (most : Nat) (ps : List P2) : Prop where
  one : 1 ≤ ps.length
  len : ps.length ≤ most
  st : Strict ps
  bd : ∀ p ∈ ps, -2000000000000000000000000000000000000000000000000000000000000 ≤ p.1 ∧ p.1 ≤ 2000000000000000000000000000000000000000000000000000000000000 ∧ -2000000000000000000000000000000000000000000000000000000000000 ≤ p.2 ∧ p.2 ≤ 2000000000000000000000000000000000000000000000000000000000000
def spRv (K : PySem.W.Frag) : Sp := fun vs H Q _ => ∃ (p : Addr) (m t : Nat), vs = [.ref p, .int (t : Int)] ∧ Pot H p m ∧ m + 4 * t + 10 ≤ 1099511627776 ∧ 1 ≤ t ∧ t ≤ 100 ∧
  ∀ (H' : Hp) (r : V) (ps : List P2), Sx p H H' → Pot H' p (m + 4 * t + 10) → Dp K H' r (.tuple (prDs ps)) → Rv t ps → Q r H'
theorem asc_snoc {gs : List Int} {x y : Int} (h : Asc gs) (e : gs.getLast? = some x) (l : x < y) : Asc (gs ++ [y]) := by
  refine List.pairwise_append.mpr ⟨h, by simp, fun a ha b hb => ?_⟩
  obtain rfl := List.mem_singleton.mp hb
  obtain ⟨r, rfl⟩ := List.getLast?_eq_some_iff.mp e
  rcases List.mem_append.mp ha with z | z
  · have := (List.pairwise_append.mp h).2.2 a z x (by simp)
    omega
  · rw [List.mem_singleton.mp z]
    exact l
theorem atI_lastZ {ns : List Int} {z : Int} (h : ns.getLast? = some z) : atI (ns.map V.int) (-1) = some (.int z) := by
  obtain ⟨r, rfl⟩ := List.getLast?_eq_some_iff.mp h
  rw [List.map_append]
  exact L2.atI_last _ _
theorem rv_of {first high : Int} {cs ds : List Int} {t most : Nat} (h1 : cs.length = t) (h2 : ds.length = t) (a1 : Asc cs) (a2 : Asc ds) (b1 : ∀ g ∈ cs, 0 ≤ g ∧ g ≤ 41 * (t : Int)) (b2 : ∀ g ∈ ds, 0 ≤ g ∧ g ≤ 41 * (t : Int)) (t1 : 1 ≤ t) (t2 : t ≤ most) (t3 : most ≤ 100)
    (f1 : -1000000000000000000000000000000000000000000000000000000000000 ≤ first ∧ first ≤ 1000000000000000000000000000000000000000000000000000000000000) (f2 : -1000000000000000000000000000000000000000000000000000000000000 ≤ high ∧ high ≤ 1000000000000000000000000000000000000000000000000000000000000) :
    Rv most ((cs.zip ds).map fun z => (first + z.1, high - z.2)) := by
  refine ⟨by rw [List.length_map, List.length_zip]; omega, by rw [List.length_map, List.length_zip]; omega, ?_, ?_⟩
  · rw [Strict, List.pairwise_map, List.pairwise_iff_getElem]
    intro i j hi hj hij
    rw [List.length_zip] at hi hj
    rw [List.getElem_zip, List.getElem_zip]
    have y1 := (List.pairwise_iff_getElem.mp a1) i j (by omega) (by omega) hij
    have y2 := (List.pairwise_iff_getElem.mp a2) i j (by omega) (by omega) hij
    dsimp only
    omega
  · intro p hp
    obtain ⟨z, hz, rfl⟩ := List.mem_map.mp hp
    have y1 := b1 z.1 (List.of_mem_zip hz).1
    have y2 := b2 z.2 (List.of_mem_zip hz).2
    dsimp only
    omega
section
variable {P : Program} {w : World} {K : PySem.W.Frag} {mg : Str → Option Value} {base : Heap}
theorem ok_lvat (T : Txt K mg) : FnOk P w K mg base CX0 1 T.f__law_value_at T.d__law_value_at ["_law_valleys", "_law_bound"] (spVat K) := by
  refine T.F__law_value_at.ok sc__law_value_at (fun vs H Q E h => ?_) (fun cdv A outer s H vs Q E hr h => ?_)
  · obtain ⟨v, ps, c, rfl, _⟩ := h
    rfl
  obtain ⟨v, ps, c, rfl, hd, q⟩ := h
  refine ⟨_, (pss_cons (ps_set (i := 2) sc__law_value_at.nd rfl (Or.inl rfl) pe_non)
      (pss_cons (ps_for PassesOwn.never rfl (pi_tup (pv 0)) (pg_tup (by rfl) (pgs_cons (pg_name (i := 3) sc__law_value_at.nd rfl (Or.inl rfl)) (pgs_cons (pg_name (i := 4) sc__law_value_at.nd rfl (Or.inl rfl)) pgs_nil)))
        (pss_one (ps_if (pt_cmpR op_le (pv 3) (pv 1) (nomark _)) (pss_one (ps_set (i := 2) sc__law_value_at.nd rfl (Or.inl rfl) (pv 4))) pss_nil)))
      (pss_one (ps_ret (pv 2))))), ?_⟩
  obtain ⟨a, xs, rfl, hs, hall⟩ := dp_tup_inv hd
  have hl : xs.length = ps.length := by rw [dpAll_length hall, prDs, List.length_map]
  refine ⟨_, rfl, a, rfl, ⟨xs, hs⟩, ?_⟩
  refine for_tup (K := K) (a := a) (xs := xs) (fun i σ G => ∃ y3 y4 : Option V, σ = [some (.ref a), some (.int c), some (repO (valAt c (ps.take i))), y3, y4] ∧ G = H) ⟨none, none, rfl, rfl⟩ (fun i σ G _ ⟨_, _, _, e⟩ => e ▸ hs) ?_ ?_
  · rintro i x σ G hi ⟨y3, y4, rfl, rfl⟩
    obtain ⟨p, ep, dx⟩ := prs_at hall hi
    obtain ⟨t, rfl, k⟩ := pr_inv dx
    have etk : ps.take (i + 1) = ps.take i ++ [p] := by rw [List.take_add_one, ep]; rfl
    have ev : valAt c (ps.take (i + 1)) = if p.1 ≤ c then some p.2 else valAt c (ps.take i) := by
      rw [etk]
      unfold valAt valFrom
      rw [List.foldl_append]
      rfl
    refine ⟨t, _, rfl, k, rfl, _, _, rfl, _, _, rfl, rfl, ?_⟩
    refine ⟨_, rfl, _, rfl, _, _, rfl, rfl, _, rfl, ?_⟩
    refine ite2 (fun g => ?_) (fun g => ?_)
    · rw [if_pos (of_decide_eq_true g)] at ev
      refine ⟨_, rfl, ?_⟩
      exact ⟨_, _, by rw [ev]; rfl, rfl⟩
    · rw [if_neg (fun z => g (decide_eq_true z))] at ev
      exact ⟨_, _, by rw [ev]; rfl, rfl⟩
  · rintro σ G ⟨y3, y4, rfl, rfl⟩
    rw [hl, List.take_length]
    exact ⟨_, rfl, q⟩
theorem ok_gaps (T : Txt K mg) : FnOk P w K mg base CX0 2 T.f__law_gaps T.d__law_gaps ["_law_source_here", "_law_total"] spGaps := by
  have g__law_draw := ok_take (P := P) (w := w) (base := base) T
  refine T.F__law_gaps.ok sc__law_gaps (fun vs H Q E h => ?_) (fun cdv A outer s H vs Q E hr h => ?_)
  · obtain ⟨p, m, t, rfl, _⟩ := h
    rfl
  obtain ⟨p, m, t, rfl, hp, hm, t1, t2, q⟩ := h
  refine ⟨_, (pss_cons (ps_set (i := 2) sc__law_gaps.nd rfl (Or.inl rfl) (pe_lst (pa_cons pe_int pa_nil)))
      (pss_cons (ps_for PassesOwn.never rfl (pi_range1 rfl T.n_range (pa_cons (pe_op op_sub (pv 1) pe_int) pa_nil)) (pg_name (i := 3) sc__law_gaps.nd rfl (Or.inl rfl))
        (pss_one (ps_expr (pe_bm PySem.F.plainAttrs_list PySem.F.slot_list_append PySem.F.type_list_append mt_append (pv 2) (pa_cons (pe_op op_add (pe_op op_add (pe_ix (r := rIxL K) ix_list (pv 2) (pe_un un_neg pe_int) (fun _ _ => rfl)) pe_int) (pe_call g__law_draw (hr.mono (by omega)) rfl T.m__law_draw T.F__law_draw.kp T.b__law_draw .nil pass0 (pa_cons (pv 0) (pa_cons (pe_ix (r := rIxL K) ix_list (pe_lst (pa_cons pe_int (pa_cons pe_int (pa_cons pe_int (pa_cons pe_int pa_nil))))) (pe_call g__law_draw (hr.mono (by omega)) rfl T.m__law_draw T.F__law_draw.kp T.b__law_draw .nil pass0 (pa_cons (pv 0) (pa_cons pe_int pa_nil))) (fun _ _ => rfl)) pa_nil)))) pa_nil)))))
      (pss_one (ps_ret (pv 2))))), ?_⟩
  obtain ⟨l0, hl0⟩ := hp.lst
  refine ⟨(by show 1 ≤ sizeLine; decide), fun l hl => ?_⟩
  have nlp : l ≠ p := fun z => by rw [z, hl0] at hl; cases hl
  refine ⟨_, rfl, _, _, rfl, rfl, _, rfl, by omega, by omega, ?_⟩
  refine for_range (lo := 0) (n := ((t : Int) - 1).toNat) (fun i σ G => ∃ (y3 : Option V) (gs : List Int) (x : Int), σ = [some (.ref p), some (.int (t : Int)), some (.ref l), y3] ∧ (∀ b o, b ≠ p → H b = some o → G b = some o) ∧ Pot G p (m + 2 * i) ∧
    G l = some (.lst (gs.map V.int)) ∧ gs.length = i + 1 ∧ gs.getLast? = some x ∧ Asc gs ∧ (∀ g ∈ gs, 0 ≤ g ∧ g ≤ 41 * (i : Int)) ∧ 0 ≤ x ∧ x ≤ 41 * (i : Int)) ⟨none, [0], 0, rfl, fun b o _ h => same_new hl _ _ h, hp.same (same_new hl), upd_same, rfl, rfl, by simp, by simp, by omega, by omega⟩ ?_ ?_
  · rintro i σ G hi ⟨y3, gs, x, rfl, sG, hpG, gl, glen, glast, gasc, gbd, x0, x1⟩
    obtain ⟨lg, hlg⟩ := hpG.lst
    refine ⟨_, rfl, ⟨.inl ⟨rfl, _, SqL.of gl⟩, _, rfl, _, rfl, l, _, _, _, rfl, rfl, SqL.of gl, atI_lastZ glast, _, _, rfl, rfl, _, rfl, (by show 4 ≤ sizeLine; decide), fun u hu => ?_⟩⟩
    have nup : u ≠ p := fun z => by rw [z, hlg] at hu; cases hu
    have nul : u ≠ l := fun z => by rw [z, gl] at hu; cases hu
    refine ⟨_, rfl, p, m + 2 * i, 4, rfl, hpG.same (same_new hu), by omega, by decide, by decide, fun G1 r s1 hp1 r0 r1 => ?_⟩
    obtain ⟨z, hz, ez⟩ := atI_int (ns := [1, 2, 6, 40]) r0 r1
    have z1 : 1 ≤ z ∧ z ≤ 40 := by
      simp only [List.mem_cons, List.not_mem_nil, or_false] at hz
      omega
    have eu := s1 u _ nup upd_same
    have gl1 : G1 l = some (.lst (gs.map V.int)) := s1 l _ nlp (by rw [upd_ne nul.symm]; exact gl)
    refine ⟨u, _, _, _, rfl, rfl, SqL.of eu, ez, p, m + 2 * i + 1, z, rfl, hp1, by omega, by omega, Nat.lt_of_le_of_lt (show z.natAbs ≤ 40 by omega) (by decide), fun G2 r2 s2 hp2 c0 c1 => ?_⟩
    have gl2 := s2 l _ nlp gl1
    refine ⟨_, _, rfl, rfl, l, _, _, rfl, rfl, gl2, by rw [List.length_map, sizeLine_eq]; omega, ?_⟩
    refine ⟨_, gs ++ [x + 1 + r2], x + 1 + r2, rfl, fun b o n h => ?_, ?_, ?_, by simp [glen], by simp, asc_snoc gasc glast (by omega), ?_, by omega, by omega⟩
    · have nb : b ≠ l := fun e => by rw [e, hl] at h; cases h
      have nu : b ≠ u := fun e => by
        have := sG b o n h
        rw [e, hu] at this
        cases this
      rw [upd_ne nb]
      exact s2 b _ n (s1 b _ n (by rw [upd_ne nu]; exact sG b o n h))
    · obtain ⟨a1, a2, a3, p1, p2⟩ := hp2.mono (show m + 2 * i + 1 + 1 ≤ m + 2 * (i + 1) by omega)
      exact ⟨a1, a2, a3, by rw [upd_ne nlp.symm]; exact p1, p2⟩
    · rw [upd_same, List.map_append]
      rfl
    · intro g hg
      rcases List.mem_append.mp hg with y | y
      · have := gbd g y
        omega
      · rw [List.mem_singleton.mp y]
        omega
  · rintro σ G ⟨y3, gs, x, rfl, sG, hpG, gl, glen, glast, gasc, gbd, x0, x1⟩
    exact ⟨_, rfl, q G l gs sG (hpG.mono (by omega)) gl hl (by omega) gasc fun g hg => by have := gbd g hg; omega⟩
theorem ok_rvs (T : Txt K mg) : FnOk P w K mg base CX0 3 T.f__law_random_valleys T.d__law_random_valleys ["_law_source_here", "_law_most"] (spRv K) := by
  have g__law_draw := ok_take (P := P) (w := w) (base := base) T
  have g__law_gaps := ok_gaps (P := P) (w := w) (base := base) T
  refine T.F__law_random_valleys.ok sc__law_random_valleys (fun vs H Q E h => ?_) (fun cdv A outer s H vs Q E hr h => ?_)
  · obtain ⟨p, m, t, rfl, _⟩ := h
    rfl
  obtain ⟨p, m, t, rfl, hp, hm, t1, t2, q⟩ := h
  refine ⟨_, (pss_cons (ps_set (i := 2) sc__law_random_valleys.nd rfl (Or.inl rfl) (pe_op op_add pe_int (pe_call g__law_draw (hr.mono (by omega)) rfl T.m__law_draw T.F__law_draw.kp T.b__law_draw .nil pass0 (pa_cons (pv 0) (pa_cons (pv 1) pa_nil)))))
      (pss_cons (ps_par (i := 3) (j := 4) (by rfl) sc__law_random_valleys.nd rfl rfl (by decide) rfl rfl (pa_cons (pe_call g__law_gaps (hr.mono (by omega)) rfl T.m__law_gaps T.F__law_gaps.kp T.b__law_gaps .nil pass0 (pa_cons (pv 0) (pa_cons (pv 2) pa_nil))) (pa_cons (pe_call g__law_gaps (hr.mono (by omega)) rfl T.m__law_gaps T.F__law_gaps.kp T.b__law_gaps .nil pass0 (pa_cons (pv 0) (pa_cons (pv 2) pa_nil))) pa_nil)) (by rfl))
      (pss_cons (ps_set (i := 5) sc__law_random_valleys.nd rfl (Or.inr rfl) (pe_ix (r := rIxL K) ix_list (pe_lst (pa_cons pe_int (pa_cons pe_int (pa_cons pe_int (pa_cons (pe_un un_neg pe_int) (pa_cons (pe_op op_sub pe_int (pe_op op_powW pe_int pe_int)) (pa_cons (pe_op op_powW pe_int pe_int) pa_nil))))))) (pe_call g__law_draw (hr.mono (by omega)) rfl T.m__law_draw T.F__law_draw.kp T.b__law_draw .nil pass0 (pa_cons (pv 0) (pa_cons pe_int pa_nil))) (fun _ _ => rfl)))
      (pss_cons (ps_set (i := 6) sc__law_random_valleys.nd rfl (Or.inr rfl) (pe_ix (r := rIxL K) ix_list (pe_lst (pa_cons pe_int (pa_cons pe_int (pa_cons (pe_un un_neg pe_int) (pa_cons pe_int (pa_cons (pe_op op_powW pe_int pe_int) (pa_cons (pe_op op_sub pe_int (pe_op op_powW pe_int pe_int)) pa_nil))))))) (pe_call g__law_draw (hr.mono (by omega)) rfl T.m__law_draw T.F__law_draw.kp T.b__law_draw .nil pass0 (pa_cons (pv 0) (pa_cons pe_int pa_nil))) (fun _ _ => rfl)))
      (pss_one (ps_ret (pe_callTy (r := rTupS K) call_tupS (by rfl) T.n_tuple (by decide +kernel) (pa_cons (pe_lc (own := [("_law_bound", 7), ("_law_depth", 8)]) (g := (gTup K 2 (gCons (gName 7) (gCons (gName 8) gNil)))) (by rfl) sc__law_random_valleys.nd (pi_zip (by rfl) T.n_zip (pa_cons (pv 3) (pa_cons (pv 4) pa_nil))) (blkOk_by (N := N__law_random_valleys) (sc := (defScope s__law_random_valleys)) (by decide +kernel)) (fun _ _ _ _ _ => (pg_tup (by rfl) (pgs_cons (pg_name (i := 7) sc__law_random_valleys.nd rfl (Or.inl rfl)) (pgs_cons (pg_name (i := 8) sc__law_random_valleys.nd rfl (Or.inl rfl)) pgs_nil)))) (fun _ _ _ _ _ => pts_nil) (fun _ _ _ _ _ => (pe_tup (pa_cons (pe_op op_add (pv 5) (pv 7)) (pa_cons (pe_op op_sub (pv 6) (pv 8)) pa_nil))))) pa_nil)))))))), ?_⟩
  refine ⟨_, rfl, _, rfl, p, m, t, rfl, hp, by omega, by omega, Nat.lt_of_le_of_lt (show ((t : Int)).natAbs ≤ 100 by omega) (by decide), fun H1 r s1 hp1 r0 r1 => ?_⟩
  obtain ⟨n, en⟩ : ∃ n : Nat, 1 + r = (n : Int) := ⟨(1 + r).toNat, by omega⟩
  refine ⟨_, _, rfl, rfl, ?_⟩
  show tSeq _ _ _ [some (.ref p), some (.int (t : Int)), some (.int (1 + r)), none, none, none, none, none, none] H1
  rw [en]
  refine ⟨_, rfl, _, rfl, p, m + 1, n, rfl, hp1, by omega, by omega, by omega, fun H2 lc cs s2 hp2 ec nc lcs asc bc => ?_⟩
  obtain ⟨l1, hl1⟩ := hp1.lst
  have ncp : lc ≠ p := fun z => by rw [z, hl1] at nc; cases nc
  refine ⟨_, rfl, _, rfl, p, m + 1 + 2 * n, n, rfl, hp2, by omega, by omega, by omega, fun H3 ld ds s3 hp3 ed nd lds asd bd => ?_⟩
  obtain ⟨l2, hl2⟩ := hp2.lst
  have ndp : ld ≠ p := fun z => by rw [z, hl2] at nd; cases nd
  have ec3 := s3 lc _ ncp ec
  have S3 := s1.trans (s2.trans s3)
  have e40 : (10 : Int) ^ (40 : Int).toNat = 10000000000000000000000000000000000000000 := by decide
  have e60 : (10 : Int) ^ (60 : Int).toNat = 1000000000000000000000000000000000000000000000000000000000000 := by decide
  have e59 : (10 : Int) ^ (59 : Int).toNat = 100000000000000000000000000000000000000000000000000000000000 := by decide
  refine ⟨_, _, rfl, ?_⟩
  -- the first capacity
  refine ⟨_, rfl, _, _, rfl, rfl, powW_of 4 (by decide) (by decide) (by decide), _, _, rfl, rfl, _, _, rfl, rfl, powW_of 4 (by decide) (by decide) (by decide), ?_⟩
  dsimp only
  rw [e40, e60]
  refine ⟨(by show 6 ≤ sizeLine; decide), fun u hu => ?_⟩
  obtain ⟨l3, hl3⟩ := hp3.lst
  have nup : u ≠ p := fun z => by rw [z, hl3] at hu; cases hu
  refine ⟨_, rfl, p, m + 1 + 2 * n + 2 * n, 6, rfl, hp3.same (same_new hu), by omega, by decide, by decide, fun H4 k s4 hp4 k0 k1 => ?_⟩
  obtain ⟨first, hf, ef⟩ := atI_int (ns := [0, 0, 3, -7, 0 - 10000000000000000000000000000000000000000, 1000000000000000000000000000000000000000000000000000000000000]) k0 k1
  refine ⟨u, _, _, _, rfl, rfl, SqL.of (s4 u _ nup upd_same), ef, ?_⟩
  have S4 : Sx p H H4 := S3.trans ((sx_new hu).trans s4)
  have ec4 := s4 lc _ ncp (same_new hu _ _ ec3)
  have ed4 := s4 ld _ ndp (same_new hu _ _ ed)
  have fb : -1000000000000000000000000000000000000000000000000000000000000 ≤ first ∧ first ≤ 1000000000000000000000000000000000000000000000000000000000000 := by
    simp only [List.mem_cons, List.not_mem_nil, or_false] at hf
    omega
  -- the first usage
  refine ⟨_, rfl, _, _, rfl, rfl, powW_of 4 (by decide) (by decide) (by decide), _, _, rfl, rfl, powW_of 4 (by decide) (by decide) (by decide), _, _, rfl, rfl, ?_⟩
  dsimp only
  rw [e59, e60]
  refine ⟨(by show 6 ≤ sizeLine; decide), fun u2 hu2 => ?_⟩
  obtain ⟨l4, hl4⟩ := hp4.lst
  have nup2 : u2 ≠ p := fun z => by rw [z, hl4] at hu2; cases hu2
  refine ⟨_, rfl, p, m + 1 + 2 * n + 2 * n + 1, 6, rfl, hp4.same (same_new hu2), by omega, by decide, by decide, fun H5 k' s5 hp5 k2 k3 => ?_⟩
  obtain ⟨high, hh, eh⟩ := atI_int (ns := [0, 0, -1, 5, 100000000000000000000000000000000000000000000000000000000000, 0 - 1000000000000000000000000000000000000000000000000000000000000]) k2 k3
  refine ⟨u2, _, _, _, rfl, rfl, SqL.of (s5 u2 _ nup2 upd_same), eh, ?_⟩
  have S5 : Sx p H H5 := S4.trans ((sx_new hu2).trans s5)
  have ec5 := s5 lc _ ncp (same_new hu2 _ _ ec4)
  have ed5 := s5 ld _ ndp (same_new hu2 _ _ ed4)
  have hb : -1000000000000000000000000000000000000000000000000000000000000 ≤ high ∧ high ≤ 1000000000000000000000000000000000000000000000000000000000000 := by
    simp only [List.mem_cons, List.not_mem_nil, or_false] at hh
    omega
  have RV := rv_of (first := first) (high := high) (cs := cs) (ds := ds) (t := n) (most := t) lcs lds asc asd bc bd (by omega) (by omega) (by omega) fb hb
  have zl : (cs.zip ds).length = n := by rw [List.length_zip]; omega
  refine ⟨_, rfl, _, rfl, lc, ld, _, _, rfl, SqL.of ec5, SqL.of ed5, fun C hC => ?_⟩
  have nC : ∀ {b : Addr} {o : HO}, H5 b = some o → b ≠ C := fun e z => by rw [z, hC] at e; cases e
  refine lc_it (walk_zip (xs := cs.map V.int) (ys := ds.map V.int) (n := n) (by rw [List.length_map, List.length_map]; omega)) (fun i F => Same H5 F ∧ ∃ ws : List V, F C = some (.lst ws) ∧ DpAll K F ws (prDs (((cs.zip ds).take i).map fun z => (first + z.1, high - z.2)))) ⟨same_new hC, [], upd_same, .nil⟩ (fun i F _ ⟨s, _⟩ => ⟨s.seq (SqL.of ec5), s.seq (SqL.of ed5)⟩) ?_ ?_
  · rintro i z F F' hi ⟨s6, ws, eC, hw⟩ ⟨t', x, y, rfl, ht', rfl, hx, hy⟩
    dsimp only at hx hy
    rw [List.getElem?_map] at hx hy
    obtain ⟨c, ec, rfl⟩ := Option.map_eq_some_iff.mp hx
    obtain ⟨d, ed, rfl⟩ := Option.map_eq_some_iff.mp hy
    have ez : (cs.zip ds)[i]? = some (c, d) := List.getElem?_zip_eq_some.mpr ⟨ec, ed⟩
    have etk : (cs.zip ds).take (i + 1) = (cs.zip ds).take i ++ [(c, d)] := by rw [List.take_add_one, ez]; rfl
    have s7 : Same F (upd F t' (.tup [.int c, .int d])) := same_new ht'
    have kt : SqT K (upd F t' (.tup [.int c, .int d])) t' [.int c, .int d] := SqT.of upd_same
    have eC7 := s7 _ _ eC
    generalize (upd F t' (.tup [.int c, .int d])) = F2 at s7 kt eC7 ⊢
    refine ⟨t', _, rfl, kt, rfl, _, _, rfl, _, _, rfl, rfl, rfl, ?_⟩
    unfold tYes
    refine iteT ?_
    refine ⟨_, rfl, _, rfl, _, _, rfl, rfl, _, rfl, _, rfl, _, _, rfl, rfl, (by show 2 ≤ sizeLine; decide), fun v hv => ?_⟩
    have s8 : Same F2 (upd F2 v (.tup [.int (first + c), .int (high - d)])) := same_new hv
    have dv : Dp K (upd F2 v (.tup [.int (first + c), .int (high - d)])) (.ref v) (prD (first + c, high - d)) := .tup (SqT.of upd_same) (.cons (.int _) (.cons (.int _) .nil))
    have eC8 := s8 _ _ eC7
    generalize (upd F2 v (.tup [.int (first + c), .int (high - d)])) = F3 at s8 dv eC8 ⊢
    have wl : ws.length ≤ 100 := by
      have := dpAll_length hw
      rw [prDs, List.length_map, List.length_map, List.length_take] at this
      omega
    have kk : ∀ b zs, SqT K F3 b zs → SqT K (upd F3 C (.lst (ws ++ [.ref v]))) b zs := fun b zs h => (sx_upd (p := C)).sqT eC8 h
    refine ⟨ws, eC8, small1000 (by omega), fun b o e => by rw [upd_ne (nC e)]; exact s8 _ _ (s7 _ _ (s6 _ _ e)), _, upd_same, ?_⟩
    rw [etk, List.map_append, prDs, List.map_append]
    exact dpAll_append (dpAll_keep kk (noLs_prV _) (dpAll_same (s7.trans s8) hw)) (.cons (dp_keep kk (noLs_one _) dv) .nil)
  · rintro F ⟨s6, ws, eC, hw⟩
    rw [← zl, List.take_length] at hw
    refine ⟨C, ws, rfl, .inl ⟨SqL.of eC, fun t' ht' => ?_⟩⟩
    have s7 : Same F (upd F t' (.tup ws)) := same_new ht'
    exact q _ _ _ (S5.trans (Same.sx (s6.trans s7))) ((hp5.same (s6.trans s7)).mono (by omega)) (.tup (SqT.of upd_same) (dpAll_same s7 hw)) RV
end
/-! block V20n: _law_near_capacities (behind bV20u) -/
def E60 : Int := 1000000000000000000000000000000000000000000000000000000000000
def spNear (K : PySem.W.Frag) : Sp := fun vs H Q _ => ∃ (p l : Addr) (m : Nat) (xs : List V) (ps : List P2), vs = [.ref p, .ref l] ∧ Pot H p m ∧ m + 2 ≤ 1099511627776 ∧ l ≠ p ∧ H l = some (.lst xs) ∧ DpAll K H xs (prDs ps) ∧ 1 ≤ ps.length ∧ ps.length ≤ 100 ∧ (∀ q ∈ ps, -E60 < q.1 ∧ q.1 < E60) ∧
  ∀ (H' : Hp) (t : Addr) (ns : List Int), Sx p H H' → Pot H' p (m + 2) → H' t = some (.lst (ns.map V.int)) → H t = none → ns.length = 4 → (∀ n ∈ ns, -E60 ≤ n ∧ n ≤ E60) → Q (.ref t) H'
section
variable {P : Program} {w : World} {K : PySem.W.Frag} {mg : Str → Option Value} {base : Heap}
theorem ok_near (T : Txt K mg) : FnOk P w K mg base CX0 2 T.f__law_near_capacities T.d__law_near_capacities ["_law_source_here", "_law_valleys"] (spNear K) := by
  have g__law_draw := ok_take (P := P) (w := w) (base := base) T
  refine T.F__law_near_capacities.ok sc__law_near_capacities (fun vs H Q E h => ?_) (fun cdv A outer s H vs Q E hr h => ?_)
  · obtain ⟨p, l, m, xs, ps, rfl, _⟩ := h
    rfl
  obtain ⟨p, l, m, xs, ps, rfl, hp, hm, nlp, hl, hall, h1, h100, hbd, q⟩ := h
  refine ⟨_, (pss_cons (ps_set (i := 2) sc__law_near_capacities.nd rfl (Or.inl rfl) (pe_lst pa_nil))
      (pss_cons (ps_for PassesOwn.never rfl (pi_list (pv 1)) (pg_tup (by rfl) (pgs_cons (pg_name (i := 3) sc__law_near_capacities.nd rfl (Or.inl rfl)) (pgs_cons (pg_name (i := 4) sc__law_near_capacities.nd rfl (Or.inl rfl)) pgs_nil)))
        (pss_one (ps_expr (pe_bm PySem.F.plainAttrs_list PySem.F.slot_list_extend PySem.F.type_list_extend mt_extend (pv 2) (pa_cons (pe_lst (pa_cons (pe_op op_sub (pv 3) pe_int) (pa_cons (pv 3) (pa_cons (pe_op op_add (pv 3) pe_int) pa_nil)))) pa_nil)))))
      (pss_one (ps_ret (pe_lst (pa_cons (pe_ix (r := rIxL K) ix_list (pv 2) pe_int (fun _ _ => rfl)) (pa_cons (pe_ix (r := rIxL K) ix_list (pv 2) (pe_un un_neg pe_int) (fun _ _ => rfl)) (pa_cons (pe_ix (r := rIxL K) ix_list (pv 2) (pe_call g__law_draw (hr.mono (by omega)) rfl T.m__law_draw T.F__law_draw.kp T.b__law_draw .nil pass0 (pa_cons (pv 0) (pa_cons (pe_callB (r := rLenS K) call_lenS (by rfl) T.n_len (by decide +kernel) (pa_cons (pv 2) pa_nil)) pa_nil))) (fun _ _ => rfl)) (pa_cons (pe_ix (r := rIxL K) ix_list (pv 2) (pe_call g__law_draw (hr.mono (by omega)) rfl T.m__law_draw T.F__law_draw.kp T.b__law_draw .nil pass0 (pa_cons (pv 0) (pa_cons (pe_callB (r := rLenS K) call_lenS (by rfl) T.n_len (by decide +kernel) (pa_cons (pv 2) pa_nil)) pa_nil))) (fun _ _ => rfl)) pa_nil))))))))), ?_⟩
  have el : xs.length = ps.length := by rw [dpAll_length hall, prDs, List.length_map]
  obtain ⟨l0, hl0⟩ := hp.lst
  refine ⟨(by show 0 ≤ sizeLine; decide), fun r hr => ?_⟩
  have S0 : Same H (upd H r (.lst [])) := same_new hr
  have nrp : r ≠ p := fun z => by rw [z, hl0] at hr; cases hr
  have nH : ∀ {b : Addr} {o : HO}, H b = some o → b ≠ r := fun e z => by rw [z, hr] at e; cases e
  refine ⟨_, rfl, l, rfl, ⟨xs, SqL.of (S0 _ _ hl)⟩, ?_⟩
  refine for_list (K := K) (a := l) (xs := xs) (fun i σ G => ∃ (y3 y4 : Option V) (ns : List Int), σ = [some (.ref p), some (.ref l), some (.ref r), y3, y4] ∧ Same H G ∧ G r = some (.lst (ns.map V.int)) ∧ ns.length = 3 * i ∧ ∀ n ∈ ns, -E60 ≤ n ∧ n ≤ E60) ⟨none, none, [], rfl, S0, upd_same, rfl, by simp⟩ (fun i σ G _ ⟨_, _, _, _, s, _⟩ => SqL.of (s _ _ hl)) ?_ ?_
  · rintro i x σ G hi ⟨y3, y4, ns, rfl, s1, gr, nl, nb⟩
    obtain ⟨c, ec, dx⟩ := prs_at hall hi
    obtain ⟨t, rfl, k⟩ := pr_inv dx
    have hi2 := (List.getElem?_eq_some_iff.mp hi).1
    have cb := hbd c (List.mem_of_getElem? ec)
    refine ⟨t, _, rfl, same_sqT s1 k, rfl, _, _, rfl, _, _, rfl, rfl, ?_⟩
    refine ⟨_, rfl, ⟨.inl ⟨rfl, _, SqL.of gr⟩, _, rfl, _, _, rfl, rfl, _, rfl, _, rfl, _, _, rfl, rfl, (by show 3 ≤ sizeLine; decide), fun u hu => ?_⟩⟩
    have s2 : Same G (upd G u (.lst [.int (c.1 - 1), .int c.1, .int (c.1 + 1)])) := same_new hu
    have eu : upd G u (.lst [.int (c.1 - 1), .int c.1, .int (c.1 + 1)]) u = some (.lst [.int (c.1 - 1), .int c.1, .int (c.1 + 1)]) := upd_same
    have gr2 := s2 _ _ gr
    generalize (upd G u (.lst [.int (c.1 - 1), .int c.1, .int (c.1 + 1)])) = G2 at s2 eu gr2 ⊢
    refine ⟨r, u, _, _, rfl, rfl, gr2, eu, (by rw [List.length_map, sizeLine_eq]; simp only [List.length_cons, List.length_nil]; omega), ?_⟩
    refine ⟨_, _, ns ++ [c.1 - 1, c.1, c.1 + 1], rfl, fun b o e => by rw [upd_ne (nH e)]; exact s2 _ _ (s1 _ _ e), by rw [upd_same, List.map_append]; rfl, by simp [nl]; omega, fun n hn => ?_⟩
    rcases List.mem_append.mp hn with z | z
    · exact nb n z
    · simp only [List.mem_cons, List.not_mem_nil, or_false] at z
      omega
  · rintro σ G ⟨y3, y4, ns, rfl, s1, gr, nl, nb⟩
    rw [el] at nl
    have hpG := hp.same s1
    have n0 : 0 < ns.length := by omega
    obtain ⟨x0, e0, z0⟩ := atI_int (ns := ns) (k := 0) (by omega) (by omega)
    obtain ⟨x1, z1⟩ : ∃ x, ns.getLast? = some x := by
      cases hns : ns.getLast? with
      | none => rw [List.getLast?_eq_none_iff] at hns; rw [hns] at n0; cases n0
      | some x => exact ⟨x, rfl⟩
    have e1 : x1 ∈ ns := List.mem_of_getLast? z1
    refine ⟨_, rfl, r, _, _, _, rfl, rfl, SqL.of gr, z0, _, rfl, _, rfl, r, _, _, _, rfl, rfl, SqL.of gr, atI_lastZ z1, ?_⟩
    refine ⟨_, rfl, _, rfl, _, rfl, r, _, rfl, .inl (SqL.of gr), p, m, _, rfl, hpG, by omega, by rw [List.length_map]; omega, by rw [List.length_map]; exact Nat.lt_of_le_of_lt (show ((ns.length : Int)).natAbs ≤ 300 by omega) (by decide), fun G1 r1 s2 hp1 a0 a1 => ?_⟩
    rw [List.length_map] at a1
    obtain ⟨x2, e2, z2⟩ := atI_int (ns := ns) a0 a1
    have gr1 := s2 r _ nrp gr
    refine ⟨r, _, _, _, rfl, rfl, SqL.of gr1, z2, ?_⟩
    refine ⟨_, rfl, _, rfl, _, rfl, r, _, rfl, .inl (SqL.of gr1), p, m + 1, _, rfl, hp1, by omega, by rw [List.length_map]; omega, by rw [List.length_map]; exact Nat.lt_of_le_of_lt (show ((ns.length : Int)).natAbs ≤ 300 by omega) (by decide), fun G2 r2 s3 hp2 b0 b1 => ?_⟩
    rw [List.length_map] at b1
    obtain ⟨x3, e3, z3⟩ := atI_int (ns := ns) b0 b1
    have gr2 := s3 r _ nrp gr1
    refine ⟨r, _, _, _, rfl, rfl, SqL.of gr2, z3, (by show 4 ≤ sizeLine; decide), fun t ht => ?_⟩
    have S : Sx p H G2 := (Same.sx s1).trans (s2.trans s3)
    have nt : H t = none := by
      cases e : H t with
      | none => rfl
      | some o =>
        by_cases z : t = p
        · obtain ⟨lz, hlz⟩ := hp2.lst
          rw [z, hlz] at ht
          cases ht
        · rw [S t o z e] at ht
          cases ht
    refine q _ t [x0, x1, x2, x3] (S.trans (sx_new ht)) (hp2.same (same_new ht)) upd_same nt rfl ?_
    intro n hn
    simp only [List.mem_cons, List.not_mem_nil, or_false] at hn
    rcases hn with rfl | rfl | rfl | rfl
    · exact nb _ e0
    · exact nb _ e1
    · exact nb _ e2
    · exact nb _ e3
end
/-! block V20s: _law_shifts_right (behind bV20n) -/
theorem rv_val {t : Nat} {ps : List P2} (h : Rv t ps) (ht : t ≤ 400) : valB (.tuple (prDs ps)) = true := valB_iff.mpr ⟨ps, rfl, h.one, Nat.le_trans h.len ht, h.st⟩
theorem numB_of {i : Int} (h1 : -N61 < i) (h2 : i < N61) : numB (.int i) = true := by
  rw [numB_int, decide_eq_true h1, decide_eq_true h2] <;> rfl
theorem prDs_inj : ∀ {ps qs : List P2}, prDs ps = prDs qs → ps = qs
  | [], [], _ => rfl
  | [], q :: qs, h => by cases h
  | p :: ps, [], h => by cases h
  | (a, b) :: ps, (c, d) :: qs, h => by
    have h1 : prD (a, b) = prD (c, d) := (List.cons.inj h).1
    have h2 : prDs ps = prDs qs := (List.cons.inj h).2
    have e1 : a = c := by injection h1 with h1; injection h1 with h1 _; injection h1
    have e2 : b = d := by injection h1 with h1; injection h1 with _ h1; injection h1 with h1 _; injection h1
    rw [e1, e2, prDs_inj h2]
theorem tup_inj {ps qs : List P2} (h : PyData.tuple (prDs ps) = .tuple (prDs qs)) : ps = qs := by
  injection h with h
  exact prDs_inj h
theorem int_inj {a b : Int} (h : PyData.int a = .int b) : a = b := by injection h
theorem sh_use {K : PySem.W.Frag} {CV CN : Addr} {H : Hp} {Q : VK} {E : XK} {v : V} {ps : List P2} {c l : Int} (hd : Dp K H v (.tuple (prDs ps))) (hv : valB (.tuple (prDs ps)) = true) (hc : numB (.int c) = true) (hl : numB (.int l) = true)
    (q : ∀ (H' : Hp) (r : V), Same H H' → Dp K H' r (.tuple (prDs (movedP c l ps))) → Q r H') : spSh K CV CN [v, .int c, .int l] H Q E := by
  unfold spSh
  refine ⟨v, .int c, .int l, _, _, _, rfl, hd, .int c, .int l, (fun z => by rw [hv] at z; cases z), (fun _ z => by rw [hc] at z; cases z), (fun _ _ z => by rw [hl] at z; cases z), fun qs c' l' e1 e2 e3 _ _ _ H' r s d => ?_⟩
  rw [← tup_inj e1, ← int_inj e2, ← int_inj e3] at d
  exact q H' r s d
theorem va_use {K : PySem.W.Frag} {CV CN : Addr} {H : Hp} {Q : VK} {E : XK} {v : V} {ps : List P2} {c : Int} (hd : Dp K H v (.tuple (prDs ps))) (hv : valB (.tuple (prDs ps)) = true) (hc : numB (.int c) = true)
    (q : ∀ (H' : Hp), Same H H' → Q (repO (valAt c ps)) H') : spVA K CV CN [v, .int c] H Q E := by
  unfold spVA
  refine ⟨v, .int c, _, _, rfl, hd, .int c, (fun z => by rw [hv] at z; cases z), (fun _ z => by rw [hc] at z; cases z), fun qs c' e1 e2 _ _ H' s => ?_⟩
  rw [← tup_inj e1, ← int_inj e2]
  exact q H' s
theorem fc_use {K : PySem.W.Frag} {CV CN : Addr} {H : Hp} {Q : VK} {E : XK} {v : V} {p : P2} {ps : List P2} {c : Int} (hd : Dp K H v (.tuple (prDs (p :: ps)))) (hv : valB (.tuple (prDs (p :: ps))) = true) (hc : numB (.int c) = true) (hp : p.1 ≤ c)
    (q : ∀ (H' : Hp) (r : V), Same H H' → Dp K H' r (.tuple (prDs (fromP c (p :: ps)))) → Q r H') : spFC K CV CN [v, .int c] H Q E := by
  unfold spFC
  refine ⟨v, .int c, _, _, rfl, hd, .int c, (fun z => by rw [hv] at z; cases z), (fun _ z => by rw [hc] at z; cases z), (fun p' qs c' e1 e2 _ _ hlt => ?_), fun p' qs c' e1 e2 _ _ hle H' r s d => ?_⟩
  · have z := tup_inj e1
    cases z
    rw [← int_inj e2] at hlt
    omega
  · have z := tup_inj e1
    cases z
    rw [← int_inj e2] at d
    exact q H' r s d
theorem fc_low {K : PySem.W.Frag} {CV CN : Addr} {H : Hp} {Q : VK} {E : XK} {v : V} {p : P2} {ps : List P2} {c : Int} (hd : Dp K H v (.tuple (prDs (p :: ps)))) (hv : valB (.tuple (prDs (p :: ps))) = true) (hp : c < p.1)
    (q : badN K CN H E (.int c)) : spFC K CV CN [v, .int c] H Q E := by
  unfold spFC
  refine ⟨v, .int c, _, _, rfl, hd, .int c, (fun z => by rw [hv] at z; cases z), (fun _ _ => q), (fun p' qs c' e1 e2 _ _ hlt => q), fun p' qs c' e1 e2 _ _ hle H' r s d => ?_⟩
  have z := tup_inj e1
  cases z
  rw [← int_inj e2] at hle
  omega
theorem eqv_prs : ∀ ps : List P2, PyData.eqvAll (prDs ps) (prDs ps) = true
  | [] => by simp [PyData.eqvAll]
  | p :: ps => by
    have := eqv_prs ps
    simp only [prDs, List.map_cons, PyData.eqvAll] at *
    rw [this]
    simp [PyData.eqv, PyData.eqvAll]
theorem prs_layV : ∀ ps : List P2, PyData.canLayAll0 (prDs ps) = true
  | [] => rfl
  | p :: ps => by
    show PyData.canLayAll0 (prD p :: prDs ps) = true
    simp only [PyData.canLayAll0, prD, PyData.canLay0, prs_layV ps, Bool.and_self]
theorem prs_depthV : ∀ ps : List P2, PyData.depthAll (prDs ps) ≤ 2
  | [] => by simp [prDs, PyData.depthAll]
  | p :: ps => by
    have h1 := prs_depthV ps
    show PyData.depthAll (prD p :: prDs ps) ≤ 2
    simp only [PyData.depthAll, prD, PyData.depth]
    omega
theorem shaped_tps (ps : List P2) : SeqAt.shaped (.tuple (prDs ps)) = true := by
  have h := prs_depthV ps
  unfold SeqAt.shaped
  rw [Bool.and_eq_true, decide_eq_true_eq]
  refine ⟨by simp only [PyData.canLay0]; exact prs_layV ps, ?_⟩
  simp only [PyData.depth]
  omega
theorem shaped_four (a b c d : List P2) : SeqAt.shaped (.list [.tuple (prDs a), .tuple (prDs b), .tuple (prDs c), .tuple (prDs d)]) = true := by
  have h1 := prs_depthV a
  have h2 := prs_depthV b
  have h3 := prs_depthV c
  have h4 := prs_depthV d
  unfold SeqAt.shaped
  rw [Bool.and_eq_true, decide_eq_true_eq]
  refine ⟨by simp only [PyData.canLay0, PyData.canLayAll0, prs_layV, Bool.and_self], ?_⟩
  simp only [PyData.depth, PyData.depthAll]
  omega
theorem eqv_four (a b c d : List P2) : PyData.eqv (.list [.tuple (prDs a), .tuple (prDs b), .tuple (prDs c), .tuple (prDs d)]) (.list [.tuple (prDs a), .tuple (prDs b), .tuple (prDs c), .tuple (prDs d)]) = true := by
  simp only [PyData.eqv, PyData.eqvAll, eqv_prs, Bool.and_self]
def spShR (K : PySem.W.Frag) : Sp := fun vs H Q _ => ∃ (p : Addr) (m : Nat) (v : V) (ps : List P2), vs = [.ref p, v] ∧ Pot H p m ∧ m + 2 ≤ 1099511627776 ∧ Dp K H v (.tuple (prDs ps)) ∧ Rv 12 ps ∧ ∀ H', Sx p H H' → Pot H' p (m + 2) → Q (.bl true) H'
section
variable {P : Program} {w : World} {K : PySem.W.Frag} {mg : Str → Option Value} {base : Heap}
theorem ok_shr (T : Txt K mg) : FnOk P w K mg base CX0 6 T.f__law_shifts_right T.d__law_shifts_right ["_law_source_here", "_law_valleys"] (spShR K) := by
  have g__law_draw := ok_take (P := P) (w := w) (base := base) T
  have g_shifted := ok_shf (P := P) (w := w) (base := base) T
  refine T.F__law_shifts_right.ok sc__law_shifts_right (fun vs H Q E h => ?_) (fun cdv A outer s H vs Q E hr h => ?_)
  · obtain ⟨p, m, v, ps, rfl, _⟩ := h
    rfl
  obtain ⟨p, m, v, ps, rfl, hp, hm, hd, hv, q⟩ := h
  refine ⟨_, (pss_cons (ps_set (i := 2) sc__law_shifts_right.nd rfl (Or.inl rfl) (pe_lst (pa_cons pe_int (pa_cons pe_int (pa_cons (pe_un un_neg pe_int) (pa_cons (pe_op op_sub pe_int (pe_op op_powW pe_int pe_int)) (pa_cons (pe_op op_sub (pe_op op_powW pe_int pe_int) pe_int) (pa_cons (pe_op op_sub pe_int (pe_op op_powW pe_int pe_int)) pa_nil))))))))
      (pss_cons (ps_asg (pe_tup (pa_cons (pe_ix (r := rIxL K) ix_list (pv 2) (pe_call g__law_draw (hr.mono (by omega)) rfl T.m__law_draw T.F__law_draw.kp T.b__law_draw .nil pass0 (pa_cons (pv 0) (pa_cons pe_int pa_nil))) (fun _ _ => rfl)) (pa_cons (pe_ix (r := rIxL K) ix_list (pv 2) (pe_call g__law_draw (hr.mono (by omega)) rfl T.m__law_draw T.F__law_draw.kp T.b__law_draw .nil pass0 (pa_cons (pv 0) (pa_cons pe_int pa_nil))) (fun _ _ => rfl)) pa_nil))) (pg_tup (by rfl) (pgs_cons (pg_name (i := 3) sc__law_shifts_right.nd rfl (Or.inr rfl)) (pgs_cons (pg_name (i := 4) sc__law_shifts_right.nd rfl (Or.inr rfl)) pgs_nil))))
      (pss_cons (ps_set (i := 5) sc__law_shifts_right.nd rfl (Or.inl rfl) (pe_callTy (r := rTupS K) call_tupS (by rfl) T.n_tuple (by decide +kernel) (pa_cons (pe_lc (own := [("_law_bound", 9), ("_law_held", 10)]) (g := (gTup K 2 (gCons (gName 9) (gCons (gName 10) gNil)))) (by rfl) sc__law_shifts_right.nd (pi_tup (pv 1)) (blkOk_by (N := N__law_shifts_right) (sc := (defScope s__law_shifts_right)) (by decide +kernel)) (fun _ _ _ _ _ => (pg_tup (by rfl) (pgs_cons (pg_name (i := 9) sc__law_shifts_right.nd rfl (Or.inl rfl)) (pgs_cons (pg_name (i := 10) sc__law_shifts_right.nd rfl (Or.inl rfl)) pgs_nil)))) (fun _ _ _ _ _ => pts_nil) (fun _ _ _ _ _ => (pe_tup (pa_cons (pe_op op_add (pv 9) (pv 3)) (pa_cons (pe_op op_add (pv 10) (pv 4)) pa_nil))))) pa_nil)))
      (pss_cons (ps_set (i := 6) sc__law_shifts_right.nd rfl (Or.inl rfl) (pe_callTy (r := rTupS K) call_tupS (by rfl) T.n_tuple (by decide +kernel) (pa_cons (pe_lc (own := [("_law_bound", 9), ("_law_held", 10)]) (g := (gTup K 2 (gCons (gName 9) (gCons (gName 10) gNil)))) (by rfl) sc__law_shifts_right.nd (pi_tup (pv 1)) (blkOk_by (N := N__law_shifts_right) (sc := (defScope s__law_shifts_right)) (by decide +kernel)) (fun _ _ _ _ _ => (pg_tup (by rfl) (pgs_cons (pg_name (i := 9) sc__law_shifts_right.nd rfl (Or.inl rfl)) (pgs_cons (pg_name (i := 10) sc__law_shifts_right.nd rfl (Or.inl rfl)) pgs_nil)))) (fun _ _ _ _ _ => pts_nil) (fun _ _ _ _ _ => (pe_tup (pa_cons (pe_op op_add (pv 9) (pv 3)) (pa_cons (pv 10) pa_nil))))) pa_nil)))
      (pss_cons (ps_set (i := 7) sc__law_shifts_right.nd rfl (Or.inl rfl) (pe_callTy (r := rTupS K) call_tupS (by rfl) T.n_tuple (by decide +kernel) (pa_cons (pe_lc (own := [("_law_bound", 9), ("_law_held", 10)]) (g := (gTup K 2 (gCons (gName 9) (gCons (gName 10) gNil)))) (by rfl) sc__law_shifts_right.nd (pi_tup (pv 1)) (blkOk_by (N := N__law_shifts_right) (sc := (defScope s__law_shifts_right)) (by decide +kernel)) (fun _ _ _ _ _ => (pg_tup (by rfl) (pgs_cons (pg_name (i := 9) sc__law_shifts_right.nd rfl (Or.inl rfl)) (pgs_cons (pg_name (i := 10) sc__law_shifts_right.nd rfl (Or.inl rfl)) pgs_nil)))) (fun _ _ _ _ _ => pts_nil) (fun _ _ _ _ _ => (pe_tup (pa_cons (pv 9) (pa_cons (pe_op op_add (pv 10) (pv 4)) pa_nil))))) pa_nil)))
      (pss_cons (ps_set (i := 8) sc__law_shifts_right.nd rfl (Or.inl rfl) (pe_lst (pa_cons (pe_callN g_shifted (hr.mono (by omega)) rfl T.m_shifted T.F_shifted.kp T.kn_shifted_0 passN (pa_cons (pv 1) pa_nil) (pk_cons (pv 4) (pk_cons (pv 3) pk_nil))) (pa_cons (pe_callN g_shifted (hr.mono (by omega)) rfl T.m_shifted T.F_shifted.kp T.kn_shifted_1 passN (pa_cons (pv 1) pa_nil) (pk_cons (pv 3) pk_nil)) pa_nil))))
      (pss_one (ps_ret (pe_cmpR (r := rEqD K) (op_eqD hr.units) (pe_op op_cat (pv 8) (pe_lst (pa_cons (pe_callN g_shifted (hr.mono (by omega)) rfl T.m_shifted T.F_shifted.kp T.kn_shifted_2 passN (pa_cons (pv 1) pa_nil) (pk_cons (pv 4) pk_nil)) (pa_cons (pe_call g_shifted (hr.mono (by omega)) rfl T.m_shifted T.F_shifted.kp T.b_shifted T.vd_shifted passN (pa_cons (pv 1) pa_nil)) pa_nil)))) (pe_lst (pa_cons (pv 5) (pa_cons (pv 6) (pa_cons (pv 7) (pa_cons (pv 1) pa_nil))))) (nomark _)))))))))), ?_⟩
  have e40 : (10 : Int) ^ (40 : Int).toNat = 10000000000000000000000000000000000000000 := by decide
  have e61 : (10 : Int) ^ (61 : Int).toNat = 10000000000000000000000000000000000000000000000000000000000000 := by decide
  obtain ⟨l0, hl0⟩ := hp.lst
  refine ⟨_, rfl, _, _, rfl, rfl, powW_of 4 (by decide) (by decide) (by decide), _, _, rfl, rfl, _, _, rfl, rfl, powW_of 4 (by decide) (by decide) (by decide), _, _, rfl, rfl, _, _, rfl, rfl, powW_of 4 (by decide) (by decide) (by decide), _, _, rfl, rfl, ?_⟩
  dsimp only
  rw [e40, e61]
  refine ⟨(by show 6 ≤ sizeLine; decide), fun u hu => ?_⟩
  have nup : u ≠ p := fun z => by rw [z, hl0] at hu; cases hu
  have bd : ∀ z ∈ [0, 1, -5, 0 - 10000000000000000000000000000000000000000, 10000000000000000000000000000000000000000000000000000000000000 - 1, 1 - 10000000000000000000000000000000000000000000000000000000000000], numB (.int z) = true := by
    intro z hz
    simp only [List.mem_cons, List.not_mem_nil, or_false] at hz
    apply numB_of <;> unfold N61 <;> omega
  refine ⟨_, rfl, _, rfl, p, m, 6, rfl, hp.same (same_new hu), by omega, by decide, by decide, fun H1 r1 s1 hp1 a0 a1 => ?_⟩
  obtain ⟨more, m1, m2⟩ := atI_int (ns := [0, 1, -5, 0 - 10000000000000000000000000000000000000000, 10000000000000000000000000000000000000000000000000000000000000 - 1, 1 - 10000000000000000000000000000000000000000000000000000000000000]) a0 a1
  have eu1 := s1 u _ nup upd_same
  refine ⟨u, _, _, _, rfl, rfl, SqL.of eu1, m2, ?_⟩
  refine ⟨_, rfl, _, rfl, p, m + 1, 6, rfl, hp1, by omega, by decide, by decide, fun H2 r2 s2 hp2 b0 b1 => ?_⟩
  obtain ⟨less, n1, n2⟩ := atI_int (ns := [0, 1, -5, 0 - 10000000000000000000000000000000000000000, 10000000000000000000000000000000000000000000000000000000000000 - 1, 1 - 10000000000000000000000000000000000000000000000000000000000000]) b0 b1
  have eu2 := s2 u _ nup eu1
  refine ⟨u, _, _, _, rfl, rfl, SqL.of eu2, n2, (by show 2 ≤ sizeLine; decide), fun t ht => ?_⟩
  have bm := bd more m1
  have bl := bd less n1
  have b0' : numB (.int 0) = true := by decide +kernel
  obtain ⟨l1, hl1⟩ := hp1.lst
  obtain ⟨l2, hl2⟩ := hp2.lst
  have S2 : Sx p H H2 := (sx_new hu).trans (s1.trans s2)
  have noP : noL (.tuple (prDs ps)) = true := by simp only [noL]; exact noLs_prV ps
  have d2 : Dp K H2 v (.tuple (prDs ps)) := s2.dp hl1 noP (s1.dp (same_new hu _ _ hl0) noP (dp_same (same_new hu) hd))
  have s3 : Same H2 (upd H2 t (.tup [.int more, .int less])) := same_new ht
  refine ⟨t, _, rfl, SqT.of upd_same, rfl, _, _, rfl, _, _, rfl, rfl, ?_⟩
  have d3 := dp_same s3 d2
  have S3 := S2.trans (Same.sx s3)
  have hp3 := hp2.same s3
  generalize (upd H2 t (.tup [.int more, .int less])) = G0 at s3 d3 S3 hp3 ⊢
  clear d2 S2 s3 hp2
  have hval := rv_val hv (by decide)
  have h12 := hv.len
  clear hv bd m1 n1 m2 n2
  obtain ⟨a, xs, rfl, hs, hall⟩ := dp_tup_inv d3
  have hl : xs.length = ps.length := by rw [dpAll_length hall, prDs, List.length_map]
  -- comprehension 0
  refine ⟨_, rfl, a, rfl, ⟨xs, hs⟩, fun D hD => ?_⟩
  refine lc_tup (K := K) (a := a) (xs := xs) (fun i F => Same G0 F ∧ ∃ ws, F D = some (.lst ws) ∧ DpAll K F ws (prDs ((ps.take i).map (fun q : P2 => (q.1 + more, q.2 + less))))) ⟨same_new hD, [], upd_same, .nil⟩ (fun i F _ ⟨s, _⟩ => same_sqT s hs) ?_ ?_
  · rintro i x F hi ⟨s4, ws, eD, hw⟩
    obtain ⟨c, ec, dx⟩ := prs_at hall hi
    obtain ⟨t', rfl, k⟩ := pr_inv dx
    have etk : ps.take (i + 1) = ps.take i ++ [c] := by rw [List.take_add_one, ec]; rfl
    have wl : ws.length ≤ 12 := by
      have := dpAll_length hw
      rw [prDs, List.length_map, List.length_map, List.length_take] at this
      omega
    refine ⟨t', _, rfl, same_sqT s4 k, rfl, _, _, rfl, _, _, rfl, rfl, rfl, ?_⟩
    unfold tYes
    refine iteT ?_
    refine ⟨_, rfl, _, rfl, _, _, rfl, rfl, _, rfl, _, rfl, _, _, rfl, rfl, (by show 2 ≤ sizeLine; decide), fun y hy => ?_⟩
    have s5 : Same F (upd F y (.tup [.int (c.1 + more), .int (c.2 + less)])) := same_new hy
    have dy : Dp K (upd F y (.tup [.int (c.1 + more), .int (c.2 + less)])) (.ref y) (prD (c.1 + more, c.2 + less)) := .tup (SqT.of upd_same) (.cons (.int _) (.cons (.int _) .nil))
    have eD5 := s5 _ _ eD
    generalize (upd F y (.tup [.int (c.1 + more), .int (c.2 + less)])) = F2 at s5 dy eD5 ⊢
    have kk : ∀ b zs, SqT K F2 b zs → SqT K (upd F2 D (.lst (ws ++ [.ref y]))) b zs := fun b zs h => (sx_upd (p := D)).sqT eD5 h
    refine ⟨ws, eD5, small1000 (by omega), fun b o e => by rw [upd_ne (ne_of_none e hD)]; exact s5 _ _ (s4 _ _ e), _, upd_same, ?_⟩
    rw [etk, List.map_append, prDs, List.map_append]
    exact dpAll_append (dpAll_keep kk (noLs_prV _) (dpAll_same s5 hw)) (.cons (dp_keep kk (noLs_one _) dy) .nil)
  rintro F ⟨s4, ws, eD, hw⟩
  rw [hl, List.take_length] at hw
  refine ⟨D, ws, rfl, .inl ⟨SqL.of eD, fun w0 hw0 => ?_⟩⟩
  have s5 : Same F (upd F w0 (.tup ws)) := same_new hw0
  have dw0 : Dp K (upd F w0 (.tup ws)) (.ref w0) (.tuple (prDs (ps.map (fun q : P2 => (q.1 + more, q.2 + less))))) := .tup (SqT.of upd_same) (dpAll_same s5 hw)
  generalize (upd F w0 (.tup ws)) = G1 at s5 dw0 ⊢
  have s0' := s4.trans s5
  clear s4 s5 eD hw
  have hs := same_sqT s0' hs
  have hall := dpAll_same s0' hall
  -- comprehension 1
  refine ⟨_, rfl, a, rfl, ⟨xs, hs⟩, fun D hD => ?_⟩
  refine lc_tup (K := K) (a := a) (xs := xs) (fun i F => Same G1 F ∧ ∃ ws, F D = some (.lst ws) ∧ DpAll K F ws (prDs ((ps.take i).map (fun q : P2 => (q.1 + more, q.2))))) ⟨same_new hD, [], upd_same, .nil⟩ (fun i F _ ⟨s, _⟩ => same_sqT s hs) ?_ ?_
  · rintro i x F hi ⟨s4, ws, eD, hw⟩
    obtain ⟨c, ec, dx⟩ := prs_at hall hi
    obtain ⟨t', rfl, k⟩ := pr_inv dx
    have etk : ps.take (i + 1) = ps.take i ++ [c] := by rw [List.take_add_one, ec]; rfl
    have wl : ws.length ≤ 12 := by
      have := dpAll_length hw
      rw [prDs, List.length_map, List.length_map, List.length_take] at this
      omega
    refine ⟨t', _, rfl, same_sqT s4 k, rfl, _, _, rfl, _, _, rfl, rfl, rfl, ?_⟩
    unfold tYes
    refine iteT ?_
    refine ⟨_, rfl, _, rfl, _, _, rfl, rfl, _, rfl, (by show 2 ≤ sizeLine; decide), fun y hy => ?_⟩
    have s5 : Same F (upd F y (.tup [.int (c.1 + more), .int (c.2)])) := same_new hy
    have dy : Dp K (upd F y (.tup [.int (c.1 + more), .int (c.2)])) (.ref y) (prD (c.1 + more, c.2)) := .tup (SqT.of upd_same) (.cons (.int _) (.cons (.int _) .nil))
    have eD5 := s5 _ _ eD
    generalize (upd F y (.tup [.int (c.1 + more), .int (c.2)])) = F2 at s5 dy eD5 ⊢
    have kk : ∀ b zs, SqT K F2 b zs → SqT K (upd F2 D (.lst (ws ++ [.ref y]))) b zs := fun b zs h => (sx_upd (p := D)).sqT eD5 h
    refine ⟨ws, eD5, small1000 (by omega), fun b o e => by rw [upd_ne (ne_of_none e hD)]; exact s5 _ _ (s4 _ _ e), _, upd_same, ?_⟩
    rw [etk, List.map_append, prDs, List.map_append]
    exact dpAll_append (dpAll_keep kk (noLs_prV _) (dpAll_same s5 hw)) (.cons (dp_keep kk (noLs_one _) dy) .nil)
  rintro F ⟨s4, ws, eD, hw⟩
  rw [hl, List.take_length] at hw
  refine ⟨D, ws, rfl, .inl ⟨SqL.of eD, fun w1 hw1 => ?_⟩⟩
  have s5 : Same F (upd F w1 (.tup ws)) := same_new hw1
  have dw1 : Dp K (upd F w1 (.tup ws)) (.ref w1) (.tuple (prDs (ps.map (fun q : P2 => (q.1 + more, q.2))))) := .tup (SqT.of upd_same) (dpAll_same s5 hw)
  generalize (upd F w1 (.tup ws)) = G2 at s5 dw1 ⊢
  have s1' := s4.trans s5
  clear s4 s5 eD hw
  have hs := same_sqT s1' hs
  have hall := dpAll_same s1' hall
  -- comprehension 2
  refine ⟨_, rfl, a, rfl, ⟨xs, hs⟩, fun D hD => ?_⟩
  refine lc_tup (K := K) (a := a) (xs := xs) (fun i F => Same G2 F ∧ ∃ ws, F D = some (.lst ws) ∧ DpAll K F ws (prDs ((ps.take i).map (fun q : P2 => (q.1, q.2 + less))))) ⟨same_new hD, [], upd_same, .nil⟩ (fun i F _ ⟨s, _⟩ => same_sqT s hs) ?_ ?_
  · rintro i x F hi ⟨s4, ws, eD, hw⟩
    obtain ⟨c, ec, dx⟩ := prs_at hall hi
    obtain ⟨t', rfl, k⟩ := pr_inv dx
    have etk : ps.take (i + 1) = ps.take i ++ [c] := by rw [List.take_add_one, ec]; rfl
    have wl : ws.length ≤ 12 := by
      have := dpAll_length hw
      rw [prDs, List.length_map, List.length_map, List.length_take] at this
      omega
    refine ⟨t', _, rfl, same_sqT s4 k, rfl, _, _, rfl, _, _, rfl, rfl, rfl, ?_⟩
    unfold tYes
    refine iteT ?_
    refine ⟨_, rfl, _, rfl, _, rfl, _, _, rfl, rfl, (by show 2 ≤ sizeLine; decide), fun y hy => ?_⟩
    have s5 : Same F (upd F y (.tup [.int (c.1), .int (c.2 + less)])) := same_new hy
    have dy : Dp K (upd F y (.tup [.int (c.1), .int (c.2 + less)])) (.ref y) (prD (c.1, c.2 + less)) := .tup (SqT.of upd_same) (.cons (.int _) (.cons (.int _) .nil))
    have eD5 := s5 _ _ eD
    generalize (upd F y (.tup [.int (c.1), .int (c.2 + less)])) = F2 at s5 dy eD5 ⊢
    have kk : ∀ b zs, SqT K F2 b zs → SqT K (upd F2 D (.lst (ws ++ [.ref y]))) b zs := fun b zs h => (sx_upd (p := D)).sqT eD5 h
    refine ⟨ws, eD5, small1000 (by omega), fun b o e => by rw [upd_ne (ne_of_none e hD)]; exact s5 _ _ (s4 _ _ e), _, upd_same, ?_⟩
    rw [etk, List.map_append, prDs, List.map_append]
    exact dpAll_append (dpAll_keep kk (noLs_prV _) (dpAll_same s5 hw)) (.cons (dp_keep kk (noLs_one _) dy) .nil)
  rintro F ⟨s4, ws, eD, hw⟩
  rw [hl, List.take_length] at hw
  refine ⟨D, ws, rfl, .inl ⟨SqL.of eD, fun w2 hw2 => ?_⟩⟩
  have s5 : Same F (upd F w2 (.tup ws)) := same_new hw2
  have dw2 : Dp K (upd F w2 (.tup ws)) (.ref w2) (.tuple (prDs (ps.map (fun q : P2 => (q.1, q.2 + less))))) := .tup (SqT.of upd_same) (dpAll_same s5 hw)
  generalize (upd F w2 (.tup ws)) = G3 at s5 dw2 ⊢
  have s2' := s4.trans s5
  clear s4 s5 eD hw
  have hs := same_sqT s2' hs
  have hall := dpAll_same s2' hall
  have dv : Dp K G3 (.ref a) (.tuple (prDs ps)) := .tup hs hall
  refine ⟨_, rfl, _, rfl, _, rfl, rfl, rfl, sh_use dv hval bm bl fun G4 x1 s4 d4 => ?_⟩
  have dv4 := dp_same s4 dv
  refine ⟨_, rfl, _, rfl, rfl, rfl, sh_use dv4 hval bm b0' fun G5 x2 s5 d5 => ?_⟩
  have dv5 := dp_same s5 dv4
  refine ⟨(by show 2 ≤ sizeLine; decide), fun f1 hf1 => ?_⟩
  have s6 : Same G5 (upd G5 f1 (.lst [x1, x2])) := same_new hf1
  have ef1 : upd G5 f1 (.lst [x1, x2]) f1 = some (.lst [x1, x2]) := upd_same
  generalize (upd G5 f1 (.lst [x1, x2])) = G6 at s6 ef1 ⊢
  have dv6 := dp_same s6 dv5
  refine ⟨_, rfl, _, rfl, _, rfl, rfl, rfl, sh_use dv6 hval b0' bl fun G7 x3 s7 d7 => ?_⟩
  have dv7 := dp_same s7 dv6
  refine ⟨_, rfl, sh_use dv7 hval b0' b0' fun G8 x4 s8 d8 => ?_⟩
  have dv8 := dp_same s8 dv7
  refine ⟨(by show 2 ≤ sizeLine; decide), fun f2 hf2 => ?_⟩
  have s9 : Same G8 (upd G8 f2 (.lst [x3, x4])) := same_new hf2
  have ef2 : upd G8 f2 (.lst [x3, x4]) f2 = some (.lst [x3, x4]) := upd_same
  generalize (upd G8 f2 (.lst [x3, x4])) = G9 at s9 ef2 ⊢
  refine ⟨f1, f2, _, _, rfl, rfl, s9 _ _ (s8 _ _ (s7 _ _ ef1)), ef2, (by show 4 ≤ sizeLine; decide), fun f3 hf3 => ?_⟩
  have s10 : Same G9 (upd G9 f3 (.lst ([x1, x2] ++ [x3, x4]))) := same_new hf3
  have ef3 : upd G9 f3 (.lst ([x1, x2] ++ [x3, x4])) f3 = some (.lst [x1, x2, x3, x4]) := upd_same
  generalize (upd G9 f3 (.lst ([x1, x2] ++ [x3, x4]))) = G10 at s10 ef3 ⊢
  have s48 := s5.trans (s6.trans (s7.trans (s8.trans (s9.trans s10))))
  have s410 := s4.trans s48
  refine ⟨_, rfl, _, rfl, _, rfl, _, rfl, (by show 4 ≤ sizeLine; decide), fun f4 hf4 => ?_⟩
  have s11 : Same G10 (upd G10 f4 (.lst [.ref w0, .ref w1, .ref w2, .ref a])) := same_new hf4
  have ef4 : upd G10 f4 (.lst [.ref w0, .ref w1, .ref w2, .ref a]) f4 = some (.lst [.ref w0, .ref w1, .ref w2, .ref a]) := upd_same
  generalize (upd G10 f4 (.lst [.ref w0, .ref w1, .ref w2, .ref a])) = G11 at s11 ef4 ⊢
  have E1 : movedP more less ps = ps.map (fun q : P2 => (q.1 + more, q.2 + less)) := rfl
  have E2 : movedP more 0 ps = ps.map (fun q : P2 => (q.1 + more, q.2)) := by unfold movedP; simp
  have E3 : movedP 0 less ps = ps.map (fun q : P2 => (q.1, q.2 + less)) := by unfold movedP; simp
  have E4 : movedP 0 0 ps = ps := by unfold movedP; simp
  rw [E1] at d4
  rw [E2] at d5
  rw [E3] at d7
  rw [E4] at d8
  have s511 := s48.trans s11
  have s611 := (s6.trans (s7.trans (s8.trans (s9.trans s10)))).trans s11
  have s811 := (s8.trans (s9.trans s10)).trans s11
  have s911 := (s9.trans s10).trans s11
  have L1 : Dp K G11 (.ref f3) (.list [.tuple (prDs (ps.map (fun q : P2 => (q.1 + more, q.2 + less)))), .tuple (prDs (ps.map (fun q : P2 => (q.1 + more, q.2)))), .tuple (prDs (ps.map (fun q : P2 => (q.1, q.2 + less)))), .tuple (prDs ps)]) :=
    .lst (SqL.of (s11 _ _ ef3)) (.cons (dp_same s511 d4) (.cons (dp_same s611 d5) (.cons (dp_same s811 d7) (.cons (dp_same s911 d8) .nil))))
  have sw0 := s1'.trans (s2'.trans (s410.trans s11))
  have sw1 := s2'.trans (s410.trans s11)
  have sw2 := s410.trans s11
  have L2 : Dp K G11 (.ref f4) (.list [.tuple (prDs (ps.map (fun q : P2 => (q.1 + more, q.2 + less)))), .tuple (prDs (ps.map (fun q : P2 => (q.1 + more, q.2)))), .tuple (prDs (ps.map (fun q : P2 => (q.1, q.2 + less)))), .tuple (prDs ps)]) :=
    .lst (SqL.of ef4) (.cons (dp_same sw0 dw0) (.cons (dp_same sw1 dw1) (.cons (dp_same sw2 dw2) (.cons (dp_same sw2 dv) .nil))))
  refine ⟨_, _, L1, L2, shaped_four _ _ _ _, shaped_four _ _ _ _, ?_⟩
  rw [eqv_four]
  have SS := s0'.trans (s1'.trans (s2'.trans (s410.trans s11)))
  exact q _ (S3.trans (Same.sx SS)) (hp3.same SS)
end
/-! block V20l: _law_later_right (behind bV20s, bV20t) -/
theorem Pot.ext {H H' : Hp} {p : Addr} {n : Nat} (h : Pot H p n) (s : LamX.ExtN H H') : Pot H' p n := by
  obtain ⟨a, b, c, h1, h2⟩ := h
  exact ⟨a, b, c, extN_lst s h1, h2⟩
def spLat {mg : Str → Option Value} (K : PySem.W.Frag) (T : Txt K mg) : Sp := fun vs H Q _ => ∃ (p : Addr) (m : Nat) (v : V) (p0 : P2) (ps : List P2), vs = [.ref p, v] ∧ Pot H p m ∧ m + 2 ≤ 1099511627776 ∧ LamX.Tabs (lamT T) H ∧ Dp K H v (.tuple (prDs (p0 :: ps))) ∧ Rv 12 (p0 :: ps) ∧
  ∀ H', SxN p H H' → LamX.Tabs (lamT T) H' → Pot H' p (m + 2) → Q (.bl true) H'
theorem shaped_num {x : Str} {i : Int} (h : PyData.strOk x = true) : SeqAt.shaped (.tuple [.str x, .int i]) = true := by
  unfold SeqAt.shaped
  simp [PyData.canLay0, PyData.canLayAll0, PyData.depth, PyData.depthAll, h]
theorem eqv_pr (p : P2) : PyData.eqv (prD p) (prD p) = true := by simp [PyData.eqv, PyData.eqvAll]
theorem shaped_pr (p : P2) : SeqAt.shaped (prD p) = true := by rfl
theorem eqv_tps (ps : List P2) : PyData.eqv (.tuple (prDs ps)) (.tuple (prDs ps)) = true := by simp only [PyData.eqv, eqv_prs]
section
variable {P : Program} {w : World} {K : PySem.W.Frag} {mg : Str → Option Value} {base : Heap}
theorem ok_lat (T : Txt K mg) (TB__law_later_right : LamX.TabB base mg T.cc__law_later_right T.ct__law_later_right) : FnOk P w K mg base CX0 12 T.f__law_later_right T.d__law_later_right ["_law_source_here", "_law_valleys"] (spLat K T) := by
  have g__law_draw := ok_take (P := P) (w := w) (base := base) T
  have g__law_value_at := ok_lvat (P := P) (w := w) (base := base) T
  have g_from_capacity := ok_frc (P := P) (w := w) (base := base) T
  have g_is_valleys := ok_isv (P := P) (w := w) (base := base) T
  refine okC T.F__law_later_right T.hc__law_later_right sc__law_later_right (fun vs H Q E h => ?_) (fun A outer s H vs Q E hr h => ?_)
  · obtain ⟨p, m, v, p0, ps, rfl, _⟩ := h
    rfl
  obtain ⟨p, m, v, p0, ps, rfl, hp, hm, hT, hd, hv, q⟩ := h
  refine ⟨_, (pss_cons (ps_set (i := 2) sc__law_later_right.nd rfl (Or.inr rfl) (pe_op op_add (pe_ix (r := rIxT K) ix_tup (pe_ix (r := rIxT K) ix_tup (pv 1) pe_int (fun _ _ => rfl)) pe_int (fun _ _ => rfl)) (pe_call g__law_draw (hr.mono (by omega)) rfl T.m__law_draw T.F__law_draw.kp T.b__law_draw .nil pass0 (pa_cons (pv 0) (pa_cons (pe_ix (r := rIxL K) ix_list (pe_lst (pa_cons pe_int (pa_cons pe_int (pa_cons pe_int (pa_cons pe_int pa_nil))))) (pe_call g__law_draw (hr.mono (by omega)) rfl T.m__law_draw T.F__law_draw.kp T.b__law_draw .nil pass0 (pa_cons (pv 0) (pa_cons pe_int pa_nil))) (fun _ _ => rfl)) pa_nil)))))
      (pss_cons (ps_set (i := 3) sc__law_later_right.nd rfl (Or.inl rfl) (pe_call g_from_capacity (hr.mono (by omega)) rfl T.m_from_capacity T.F_from_capacity.kp T.b_from_capacity .nil passN (pa_cons (pv 1) (pa_cons (pv 2) pa_nil))))
      (pss_cons (ps_if (PW.pt (pw_or (pt_cmpR (r := rNeD K) (op_neD hr.units) (pe_ix (r := rIxT K) ix_tup (pv 3) pe_int (fun _ _ => rfl)) (pe_tup (pa_cons (pv 2) (pa_cons (pe_call g__law_value_at (hr.mono (by omega)) rfl T.m__law_value_at T.F__law_value_at.kp T.b__law_value_at .nil pass0 (pa_cons (pv 1) (pa_cons (pv 2) pa_nil))) pa_nil))) (nomark _)) (pw_or1 (pt_cmpR op_notBl (pe_call g_is_valleys (hr.mono (by omega)) rfl T.m_is_valleys T.F_is_valleys.kp T.b_is_valleys .nil pass0 (pa_cons (pv 3) pa_nil)) pe_bl (nomark _))))) (pss_one (ps_ret pe_bl)) pss_nil)
      (pss_cons (ps_if (pt_cmpR (r := rNeD K) (op_neD hr.units) (pe_slice (r := rSlA K) sl_tupA (pv 3) (po_some pe_int) po_none) (pe_callTy (r := rTupS K) call_tupS (by rfl) T.n_tuple (by decide +kernel) (pa_cons (pe_lc (own := [("_law_pair", 4)]) (g := (gName 4)) (by rfl) sc__law_later_right.nd (pi_tup (pv 1)) (blkOk_by (N := N__law_later_right) (sc := (defScope s__law_later_right)) (by decide +kernel)) (fun _ _ _ _ _ => (pg_name (i := 4) sc__law_later_right.nd rfl (Or.inl rfl))) (fun _ _ _ _ _ => (pts_one (pt_cmpR op_gt (pe_ix (r := rIxT K) ix_tup (pv 4) pe_int (fun _ _ => rfl)) (pv 2) (nomark _)))) (fun _ _ _ _ _ => (pv 4))) pa_nil)) (nomark _)) (pss_one (ps_ret pe_bl)) pss_nil)
      (pss_one (ps_ret (pe_cmpR (r := rEqD K) (op_eqD hr.units) (pe_lamF (T := lamT T) (k := 8) (c := T.cc__law_later_right) (P := T.ct__law_later_right) T.F__law_valley_outcome T.b__law_valley_outcome rfl T.m__law_valley_outcome sc__law_valley_outcome rfl (.inl rfl) (fun cdv => gives__law_valley_outcome T _ rfl rfl) TB__law_later_right rfl (.head _) (lamU__law_later_right T) (hr.mono (by omega)) (LamX.lamS_by (sc := defScope s__law_later_right) (by decide +kernel)) rfl (fun _ _ _ _ _ => rfl) (fun A outer s H E f c hr => (pe_call (E := E) g_from_capacity (hr.mono (by omega)) rfl T.m_from_capacity T.F_from_capacity.kp T.b_from_capacity .nil (passes_call (takes_of rfl rfl rfl rfl) (fun _ _ _ _ h => h)) (pa_cons (pv 1) (pa_cons (pe_op op_sub (pe_ix (r := rIxT K) ix_tup (pe_ix (r := rIxT K) ix_tup (pv 1) pe_int (fun _ _ => rfl)) pe_int (fun _ _ => rfl)) pe_int) pa_nil))))) (pe_tup (pa_cons pe_str (pa_cons (pe_op op_sub (pe_ix (r := rIxT K) ix_tup (pe_ix (r := rIxT K) ix_tup (pv 1) pe_int (fun _ _ => rfl)) pe_int (fun _ _ => rfl)) pe_int) pa_nil))) (nomark _)))))))), ?_⟩
  have hval := rv_val hv (by decide)
  have hbd := hv.bd p0 (List.mem_cons_self ..)
  have h12 := hv.len
  have hst := hv.st
  obtain ⟨l0, hl0⟩ := hp.lst
  have noP : noL (.tuple (prDs (p0 :: ps))) = true := by simp only [noL]; exact noLs_prV _
  obtain ⟨a, xs, rfl, hs, hall⟩ := dp_tup_inv hd
  obtain ⟨x0, xr, rfl, dx0⟩ : ∃ x0 xr, xs = x0 :: xr ∧ Dp K H x0 (prD p0) := by
    cases hall with
    | cons hx hr => exact ⟨_, _, rfl, hx⟩
  obtain ⟨t0, rfl, k0⟩ := pr_inv dx0
  refine ⟨_, rfl, _, _, _, _, rfl, rfl, hs, atI_at (j := 0) rfl rfl, _, _, _, _, rfl, rfl, k0, atI_at (j := 0) rfl rfl, ?_⟩
  refine ⟨_, rfl, (by show 4 ≤ sizeLine; decide), fun u hu => ?_⟩
  have nup : u ≠ p := fun z => by rw [z, hl0] at hu; cases hu
  refine ⟨_, rfl, p, m, 4, rfl, hp.same (same_new hu), by omega, by decide, by decide, fun H1 r1 s1 hp1 a0 a1 => ?_⟩
  obtain ⟨z, hz, ez⟩ := atI_int (ns := [1, 4, 30, 200]) a0 a1
  have z1 : 1 ≤ z ∧ z ≤ 200 := by
    simp only [List.mem_cons, List.not_mem_nil, or_false] at hz
    omega
  refine ⟨u, _, _, _, rfl, rfl, SqL.of (s1 u _ nup upd_same), ez, p, m + 1, z, rfl, hp1, by omega, by omega, Nat.lt_of_le_of_lt (show z.natAbs ≤ 200 by omega) (by decide), fun H2 r2 s2 hp2 b0 b1 => ?_⟩
  refine ⟨_, _, rfl, rfl, ?_⟩
  obtain ⟨l1, hl1⟩ := hp1.lst
  obtain ⟨l2, hl2⟩ := hp2.lst
  have S2 : Sx p H H2 := (sx_new hu).trans (s1.trans s2)
  have d2 : Dp K H2 (.ref a) (.tuple (prDs (p0 :: ps))) := S2.dp hl0 noP hd
  have T2 := tabs_sx hT S2 hl0
  clear hs hall k0 dx0 hd hT
  -- what is said of the beginning
  have cle : p0.1 ≤ p0.1 + r2 := by omega
  have bc : numB (.int (p0.1 + r2)) = true := by
    apply numB_of <;> unfold N61 <;> omega
  have fl := from_len (ps := ps) cle
  have fs := strict_from hst cle
  have fv : valB (.tuple (prDs (fromP (p0.1 + r2) (p0 :: ps)))) = true := valB_iff.mpr ⟨_, rfl, by unfold fromP; rw [List.length_cons]; omega, by omega, fs⟩
  have cs := valAt_some (ps := ps) cle
  have lo : p0.1 - 1 < p0.1 := by omega
  show tSeq _ _ _ [some (.ref p), some (.ref a), some (.int (p0.1 + r2)), none, none] H2
  refine ⟨_, rfl, _, rfl, fc_use d2 hval bc cle fun H3 later s3 d3 => ?_⟩
  have d2a := dp_same s3 d2
  have d3' := d3
  obtain ⟨al, ls, rfl, hls, hlall⟩ := dp_tup_inv d3
  obtain ⟨y0, yr, rfl, dy0, dyr⟩ : ∃ y0 yr, ls = y0 :: yr ∧ Dp K H3 y0 (prD (p0.1 + r2, (valAt (p0.1 + r2) (p0 :: ps)).getD 0)) ∧ DpAll K H3 yr (prDs (laterP (p0.1 + r2) (p0 :: ps))) := by
    cases hlall with
    | cons hx hr => exact ⟨_, _, rfl, hx, hr⟩
  have T3 := tabs_same T2 s3
  refine ⟨_, rfl, _, _, _, _, rfl, rfl, hls, atI_at (j := 0) rfl rfl, _, rfl, _, rfl, _, rfl, .ref a, p0 :: ps, _, rfl, d2a, ?_⟩
  rw [cs]
  simp only [repO]
  refine ⟨(by show 2 ≤ sizeLine; decide), fun u2 hu2 => ?_⟩
  have s4 : Same H3 (upd H3 u2 (.tup [.int (p0.1 + r2), .int ((valAt (p0.1 + r2) (p0 :: ps)).getD 0)])) := same_new hu2
  have du : Dp K (upd H3 u2 (.tup [.int (p0.1 + r2), .int ((valAt (p0.1 + r2) (p0 :: ps)).getD 0)])) (.ref u2) (prD (p0.1 + r2, (valAt (p0.1 + r2) (p0 :: ps)).getD 0)) := .tup (SqT.of upd_same) (.cons (.int _) (.cons (.int _) .nil))
  generalize (upd H3 u2 (.tup [.int (p0.1 + r2), .int ((valAt (p0.1 + r2) (p0 :: ps)).getD 0)])) = H4 at s4 du ⊢
  refine ⟨_, _, dp_same s4 dy0, du, shaped_pr _, shaped_pr _, _, rfl, ?_⟩
  refine iteFx (by rw [eqv_pr]; rfl) ?_
  refine ⟨_, rfl, .ref al, _, rfl, dp_same s4 d3', fun H5 s5 => ?_⟩
  rw [fv]
  refine ⟨_, _, rfl, rfl, _, rfl, ?_⟩
  refine iteFx (by decide) ?_
  -- what comes later
  have s35 := s4.trans s5
  have hls5 := same_sqT s35 hls
  refine ⟨_, rfl, _, rfl, ?_⟩
  unfold tNoPart
  dsimp only
  refine slT hls5 (fun H6 b s6 hb => ?_)
  rw [cut_1, List.drop_one, List.tail_cons] at hb
  have d6 := dp_same (s35.trans s6) d2a
  have dyr6 := dpAll_same (s35.trans s6) dyr
  obtain ⟨a', xs', ea', hs, hall⟩ := dp_tup_inv d6
  cases ea'
  have hl : xs'.length = (p0 :: ps).length := by rw [dpAll_length hall, prDs, List.length_map]
  refine ⟨_, rfl, a, rfl, ⟨xs', hs⟩, fun D hD => ?_⟩
  refine lc_tup (K := K) (a := a) (xs := xs') (fun i F => Same H6 F ∧ ∃ ws, F D = some (.lst ws) ∧ DpAll K H6 ws (prDs (laterP (p0.1 + r2) ((p0 :: ps).take i)))) ⟨same_new hD, [], upd_same, .nil⟩ (fun i F _ ⟨s, _⟩ => same_sqT s hs) ?_ ?_
  · rintro i x F hi ⟨s7, ws, eD, hw⟩
    obtain ⟨p', ep, dx⟩ := prs_at hall hi
    obtain ⟨t, rfl, k⟩ := pr_inv dx
    have etk : (p0 :: ps).take (i + 1) = (p0 :: ps).take i ++ [p'] := by rw [List.take_add_one, ep]; rfl
    have kF := same_sqT s7 k
    have wl : ws.length ≤ 12 := by
      have h1 := dpAll_length hw
      have h2 := List.length_filter_le (fun q : P2 => decide (q.1 > p0.1 + r2)) ((p0 :: ps).take i)
      rw [prDs, List.length_map] at h1
      unfold laterP at h1
      rw [List.length_take] at h2
      omega
    refine ⟨rfl, ?_⟩
    refine ⟨_, rfl, _, _, _, _, rfl, rfl, kF, atI_at (j := 0) rfl rfl, _, rfl, _, _, rfl, rfl, _, rfl, ?_⟩
    have el : laterP (p0.1 + r2) ((p0 :: ps).take (i + 1)) = laterP (p0.1 + r2) ((p0 :: ps).take i) ++ if p'.1 > p0.1 + r2 then [p'] else [] := by
      rw [etk]
      unfold laterP
      rw [List.filter_append, List.filter_cons, List.filter_nil]
      simp only [decide_eq_true_eq]
    refine ite2 (fun z => ?_) (fun z => ?_)
    · rw [if_pos (of_decide_eq_true z)] at el
      refine ⟨_, rfl, ws, eD, small1000 (by omega), fun b o e => by rw [upd_ne (ne_of_none e hD)]; exact s7 _ _ e, _, upd_same, ?_⟩
      rw [el, prDs, List.map_append]
      exact dpAll_append hw (.cons dx .nil)
    · rw [if_neg (fun y => z (decide_eq_true y)), List.append_nil] at el
      rw [el]
      exact ⟨s7, ws, eD, hw⟩
  rintro F ⟨s7, ws, eD, hw⟩
  rw [hl, List.take_length] at hw
  refine ⟨D, ws, rfl, .inl ⟨SqL.of eD, fun t ht => ?_⟩⟩
  have s8 : Same F (upd F t (.tup ws)) := same_new ht
  have dt : Dp K (upd F t (.tup ws)) (.ref t) (.tuple (prDs (laterP (p0.1 + r2) (p0 :: ps)))) := .tup (SqT.of upd_same) (dpAll_same (s7.trans s8) hw)
  generalize (upd F t (.tup ws)) = H8 at s8 dt ⊢
  have s68 := s7.trans s8
  refine ⟨.tuple (prDs (laterP (p0.1 + r2) (p0 :: ps))), _, .tup (same_sqT s68 hb) (dpAll_same s68 dyr6), dt, shaped_tps _, shaped_tps _, _, rfl, ?_⟩
  refine iteFx (by rw [eqv_tps]; rfl) ?_
  -- below the first capacity
  have S28 := s3.trans (s35.trans (s6.trans s68))
  refine ⟨tabs_same T2 S28, fun H9 x9 T9 => ?_⟩
  have d9 := dp_ext x9 (dp_same S28 d2)
  have d9' := d9
  obtain ⟨a', xs9, ea', hs9, hall9⟩ := dp_tup_inv d9
  cases ea'
  obtain ⟨y0', yr', rfl, dy9⟩ : ∃ x0 xr, xs9 = x0 :: xr ∧ Dp K H9 x0 (prD p0) := by
    cases hall9 with
    | cons hx hr => exact ⟨_, _, rfl, hx⟩
  obtain ⟨t9, rfl, k9⟩ := pr_inv dy9
  refine ⟨_, rfl, _, rfl, _, _, _, _, rfl, rfl, hs9, atI_at (j := 0) rfl rfl, _, _, _, _, rfl, rfl, k9, atI_at (j := 0) rfl rfl, _, _, rfl, rfl, ?_⟩
  refine fc_low d9' hval lo ?_
  intro H10 dx s10 hdx
  refine .inr (.inl ⟨dx, _, rfl, rfl, upd_same, fun t2 ht2 => ?_⟩)
  have s11 : Same H10 (upd H10 dx (.xd [("value", .int (p0.1 - 1))])) := same_new hdx
  have s12 : Same (upd H10 dx (.xd [("value", .int (p0.1 - 1))])) (upd (upd H10 dx (.xd [("value", .int (p0.1 - 1))])) t2 (.tup [.str "number", .int (p0.1 - 1)])) := same_new ht2
  have dt2 : Dp K (upd (upd H10 dx (.xd [("value", .int (p0.1 - 1))])) t2 (.tup [.str "number", .int (p0.1 - 1)])) (.ref t2) (.tuple [.str "number", .int (p0.1 - 1)]) := .tup (SqT.of upd_same) (.cons (.str _) (.cons (.int _) .nil))
  have S912 := s10.trans (s11.trans s12)
  generalize (upd (upd H10 dx (.xd [("value", .int (p0.1 - 1))])) t2 (.tup [.str "number", .int (p0.1 - 1)])) = H12 at S912 dt2 ⊢
  refine ⟨_, rfl, _, _, _, _, rfl, rfl, same_sqT S912 hs9, atI_at (j := 0) rfl rfl, _, _, _, _, rfl, rfl, same_sqT S912 k9, atI_at (j := 0) rfl rfl, _, _, rfl, rfl, (by show 2 ≤ sizeLine; decide), fun t3 ht3 => ?_⟩
  have s13 : Same H12 (upd H12 t3 (.tup [.str "number", .int (p0.1 - 1)])) := same_new ht3
  refine ⟨_, .tuple [.str "number", .int (p0.1 - 1)], dp_same s13 dt2, .tup (SqT.of upd_same) (.cons (.str _) (.cons (.int _) .nil)), shaped_num (by decide +kernel), shaped_num (by decide +kernel), ?_⟩
  rw [show PyData.eqv (.tuple [.str "number", .int (p0.1 - 1)]) (.tuple [.str "number", .int (p0.1 - 1)]) = true from by simp [PyData.eqv, PyData.eqvAll]]
  have S913 := S912.trans s13
  have X : LamX.ExtN H2 (upd H12 t3 (.tup [.str "number", .int (p0.1 - 1)])) := ((extN_same S28).trans x9).trans (extN_same S913)
  exact q _ ((SxN.of S2).trans (SxN.ext X)) (tabs_same T9 S913) (hp2.ext X)
end
/-! block V20o: _law_outcomes (behind bV20l) -/
/-- an outcome: "valleys", or the number that is refused -/
def El (H : Hp) (x : V) (e : PyData) (y : V) (r : PyData) : Prop := (y = .str "valleys" ∧ r = .str "valleys") ∨ ∃ t, y = .ref t ∧ H t = some (.tup [.str "number", x]) ∧ r = .tuple [.str "number", e]
theorem El.ext {H H' : Hp} {x y : V} {e r : PyData} (h : El H x e y r) (s : LamX.ExtN H H') : El H' x e y r := by
  rcases h with h | ⟨t, h1, h2, h3⟩
  · exact .inl h
  · exact .inr ⟨t, h1, s _ _ h2 (fun q z => by cases z), h3⟩
theorem El.upd {H : Hp} {x y : V} {e r : PyData} {l : Addr} {us vs : List V} (h : El H x e y r) (hl : H l = some (.lst us)) : El (upd H l (.lst vs)) x e y r := by
  rcases h with h | ⟨t, h1, h2, h3⟩
  · exact .inl h
  · exact .inr ⟨t, h1, by rw [upd_ne (fun z => by rw [z, hl] at h2; cases h2)]; exact h2, h3⟩
theorem El.dp {K : PySem.W.Frag} {H : Hp} {x y : V} {e r : PyData} (h : El H x e y r) (he : Dp K H x e) : Dp K H y r := by
  rcases h with ⟨rfl, rfl⟩ | ⟨t, rfl, h2, rfl⟩
  · exact .str _
  · exact .tup (SqT.of h2) (.cons (.str _) (.cons he .nil))
/-- what the four calls come to -/
def Due (d e r : PyData) : Prop := (valB d = false ∧ r = .str "valleys") ∨ (valB d = true ∧ numB e = false ∧ r = .tuple [.str "number", e])
section
variable {K : PySem.W.Frag} {CV CN CM : Addr} {H : Hp} {Q R : VK} {v x : V} {d e r : PyData}
theorem due_v (hc : Due d e r) (ev : valB d = false) (q : ∀ H' y, Same H H' → El H' x e y r → Q y H') : ∀ H', Same H H' → toE CV CN CM Q (.ref CV) none H' := fun H' s => by
  rcases hc with ⟨_, hr⟩ | ⟨h, _⟩
  · exact .inl ⟨rfl, q H' _ s (.inl ⟨rfl, hr⟩)⟩
  · rw [ev] at h
    cases h
theorem due_n (hc : Due d e r) (ev : valB d = true) (q : ∀ H' y, Same H H' → El H' x e y r → Q y H') : badN K CN H (toE CV CN CM Q) x := fun H' dx s hdx => by
  rcases hc with ⟨h, _⟩ | ⟨_, _, hr⟩
  · rw [ev] at h
    cases h
  · refine .inr (.inl ⟨dx, x, rfl, rfl, upd_same, fun t ht => ?_⟩)
    exact q _ _ (s.trans ((same_new hdx).trans (same_new ht))) (.inr ⟨t, rfl, upd_same, hr⟩)
theorem due_no (hc : Due d e r) (ev : valB d = true) (en : numB e = true) : False := by
  rcases hc with ⟨h, _⟩ | ⟨_, h, _⟩
  · rw [ev] at h
    cases h
  · rw [en] at h
    cases h
theorem oc_va (hd : Dp K H v d) (he : Dp K H x e) (hc : Due d e r) (q : ∀ H' y, Same H H' → El H' x e y r → Q y H') : spVA K CV CN [v, x] H R (toE CV CN CM Q) :=by
  unfold spVA
  exact ⟨v, x, d, e, rfl, hd, he, fun ev => due_v hc ev q, fun ev _ => due_n hc ev q, fun _ _ _ _ ev en => (due_no hc ev en).elim⟩
theorem oc_fc (hd : Dp K H v d) (he : Dp K H x e) (hc : Due d e r) (q : ∀ H' y, Same H H' → El H' x e y r → Q y H') : spFC K CV CN [v, x] H R (toE CV CN CM Q) :=by
  unfold spFC
  exact ⟨v, x, d, e, rfl, hd, he, fun ev => due_v hc ev q, fun ev _ => due_n hc ev q, fun _ _ _ _ _ ev _ _ => due_n hc ev q, fun _ _ _ _ _ ev en => (due_no hc ev en).elim⟩
theorem oc_sh1 (hd : Dp K H v d) (he : Dp K H x e) (hc : Due d e r) (q : ∀ H' y, Same H H' → El H' x e y r → Q y H') : spSh K CV CN [v, .int 0, x] H R (toE CV CN CM Q) :=by
  unfold spSh
  exact ⟨v, .int 0, x, d, .int 0, e, rfl, hd, .int 0, he, fun ev => due_v hc ev q, fun _ z => absurd z (by decide +kernel), fun ev _ _ => due_n hc ev q, fun _ _ _ _ _ _ ev _ en => (due_no hc ev en).elim⟩
theorem oc_sh2 (hd : Dp K H v d) (he : Dp K H x e) (hc : Due d e r) (q : ∀ H' y, Same H H' → El H' x e y r → Q y H') : spSh K CV CN [v, x, .non] H R (toE CV CN CM Q) :=by
  unfold spSh
  exact ⟨v, x, .non, d, e, .none, rfl, hd, he, .non, fun ev => due_v hc ev q, fun ev _ => due_n hc ev q, fun ev en _ => (due_no hc ev en).elim, fun _ _ _ _ _ z _ _ _ => by cases z⟩
/-- shifted by nothing -/
theorem oc_sh0 (hd : Dp K H v d) (ev : valB d = false) (q : ∀ H', Same H H' → Q (.str "valleys") H') : spSh K CV CN [v, .int 0, .int 0] H R (toE CV CN CM Q) :=by
  unfold spSh
  exact ⟨v, .int 0, .int 0, d, .int 0, .int 0, rfl, hd, .int 0, .int 0, fun _ H' s => .inl ⟨rfl, q H' s⟩, fun z _ => (by rw [ev] at z; cases z), fun z _ _ => (by rw [ev] at z; cases z), fun _ _ _ _ _ _ z _ _ => (by rw [ev] at z; cases z)⟩
end
def spOut {mg : Str → Option Value} (K : PySem.W.Frag) (T : Txt K mg) : Sp := fun vs H Q _ => ∃ (v x : V) (d e r : PyData), vs = [v, x] ∧ Dp K H v d ∧ Dp K H x e ∧ LamX.Tabs (lamT T) H ∧ Due d e r ∧
  ∀ (H' : Hp) (l : Addr) (us : List V), LamX.ExtN H H' → LamX.Tabs (lamT T) H' → H' l = some (.lst us) → DpAll K H' us [r, r, r, r] → Q (.ref l) H'
section
variable {P : Program} {w : World} {K : PySem.W.Frag} {mg : Str → Option Value} {base : Heap}
theorem ok_out (T : Txt K mg) (TB__law_outcomes : LamX.TabB base mg T.cc__law_outcomes T.ct__law_outcomes) : FnOk P w K mg base CX0 12 T.f__law_outcomes T.d__law_outcomes ["_law_valleys", "_law_number"] (spOut K T) := by
  have g_valley_at := ok_vla (P := P) (w := w) (base := base) T
  have g_from_capacity := ok_frc (P := P) (w := w) (base := base) T
  have g_shifted := ok_shf (P := P) (w := w) (base := base) T
  refine okC T.F__law_outcomes T.hc__law_outcomes sc__law_outcomes (fun vs H Q E h => ?_) (fun A outer s H vs Q E hr h => ?_)
  · obtain ⟨v, x, d, e, r, rfl, _⟩ := h
    rfl
  obtain ⟨v, x, d, e, r, rfl, hd, he, hT, hc, q⟩ := h
  refine ⟨_, (pss_cons (ps_set (i := 2) sc__law_outcomes.nd rfl (Or.inl rfl) (pe_lst (pa_cons (pe_lamF (T := lamT T) (k := 8) (c := T.cc__law_outcomes) (P := T.ct__law_outcomes) T.F__law_valley_outcome T.b__law_valley_outcome rfl T.m__law_valley_outcome sc__law_valley_outcome rfl (.inl rfl) (fun cdv => gives__law_valley_outcome T _ rfl rfl) TB__law_outcomes rfl (.tail _ (.head _)) (lamU__law_outcomes T) (hr.mono (by omega)) (LamX.lamS_by (sc := defScope s__law_outcomes) (by decide +kernel)) rfl (fun _ _ _ _ _ => rfl) (fun A outer s H E f c hr => (pe_call (E := E) g_valley_at (hr.mono (by omega)) rfl T.m_valley_at T.F_valley_at.kp T.b_valley_at .nil (passes_call (takes_of rfl rfl rfl rfl) (fun _ _ _ _ h => h)) (pa_cons (pv 0) (pa_cons (pv 1) pa_nil))))) pa_nil)))
      (pss_cons (ps_expr (pe_bm PySem.F.plainAttrs_list PySem.F.slot_list_append PySem.F.type_list_append mt_append (pv 2) (pa_cons (pe_lamF (T := lamT T) (k := 8) (c := T.cc__law_outcomes) (P := T.ct__law_outcomes) T.F__law_valley_outcome T.b__law_valley_outcome rfl T.m__law_valley_outcome sc__law_valley_outcome rfl (.inl rfl) (fun cdv => gives__law_valley_outcome T _ rfl rfl) TB__law_outcomes rfl (.tail _ (.head _)) (lamU__law_outcomes T) (hr.mono (by omega)) (LamX.lamS_by (sc := defScope s__law_outcomes) (by decide +kernel)) rfl (fun _ _ _ _ _ => rfl) (fun A outer s H E f c hr => (pe_call (E := E) g_from_capacity (hr.mono (by omega)) rfl T.m_from_capacity T.F_from_capacity.kp T.b_from_capacity .nil (passes_call (takes_of rfl rfl rfl rfl) (fun _ _ _ _ h => h)) (pa_cons (pv 0) (pa_cons (pv 1) pa_nil))))) pa_nil)))
      (pss_cons (ps_expr (pe_bm PySem.F.plainAttrs_list PySem.F.slot_list_append PySem.F.type_list_append mt_append (pv 2) (pa_cons (pe_lamF (T := lamT T) (k := 8) (c := T.cc__law_outcomes) (P := T.ct__law_outcomes) T.F__law_valley_outcome T.b__law_valley_outcome rfl T.m__law_valley_outcome sc__law_valley_outcome rfl (.inl rfl) (fun cdv => gives__law_valley_outcome T _ rfl rfl) TB__law_outcomes rfl (.tail _ (.head _)) (lamU__law_outcomes T) (hr.mono (by omega)) (LamX.lamS_by (sc := defScope s__law_outcomes) (by decide +kernel)) rfl (fun _ _ _ _ _ => rfl) (fun A outer s H E f c hr => (pe_callN (E := E) g_shifted (hr.mono (by omega)) rfl T.m_shifted T.F_shifted.kp T.kn_shifted_2 (passes_call (takes_of rfl rfl rfl rfl) (fun _ _ _ _ h => h)) (pa_cons (pv 0) pa_nil) (pk_cons (pv 1) pk_nil)))) pa_nil)))
      (pss_cons (ps_expr (pe_bm PySem.F.plainAttrs_list PySem.F.slot_list_append PySem.F.type_list_append mt_append (pv 2) (pa_cons (pe_lamF (T := lamT T) (k := 8) (c := T.cc__law_outcomes) (P := T.ct__law_outcomes) T.F__law_valley_outcome T.b__law_valley_outcome rfl T.m__law_valley_outcome sc__law_valley_outcome rfl (.inl rfl) (fun cdv => gives__law_valley_outcome T _ rfl rfl) TB__law_outcomes rfl (.tail _ (.head _)) (lamU__law_outcomes T) (hr.mono (by omega)) (LamX.lamS_by (sc := defScope s__law_outcomes) (by decide +kernel)) rfl (fun _ _ _ _ _ => rfl) (fun A outer s H E f c hr => (pe_callN (E := E) g_shifted (hr.mono (by omega)) rfl T.m_shifted T.F_shifted.kp T.kn_shifted_0 (passes_call (takes_of rfl rfl rfl rfl) (fun _ _ _ _ h => h)) (pa_cons (pv 0) pa_nil) (pk_cons pe_non (pk_cons (pv 1) pk_nil))))) pa_nil)))
      (pss_one (ps_ret (pv 2))))))), ?_⟩
  refine ⟨hT, fun H1 x1 T1 => ⟨_, rfl, _, rfl, ?_⟩⟩
  refine oc_va (dp_ext x1 hd) (dp_ext x1 he) hc fun H2 y1 s2 e2 => ?_
  refine ⟨(by show 1 ≤ sizeLine; decide), fun l hl => ?_⟩
  have X2 : LamX.ExtN H H2 := x1.trans (extN_same s2)
  have e3 : El (upd H2 l (.lst [y1])) x e y1 r := e2.ext (extN_same (same_new hl))
  have X3 : LamX.ExtN H2 (upd H2 l (.lst [y1])) := extN_same (same_new hl)
  have T3 := tabs_same (tabs_same T1 s2) (same_new (o := .lst [y1]) hl)
  have g3 : upd H2 l (.lst [y1]) l = some (.lst [y1]) := upd_same
  generalize (upd H2 l (.lst [y1])) = G3 at e3 X3 T3 g3 ⊢
  have hd2 := dp_ext X2 hd
  have he2 := dp_ext X2 he
  clear e2 s2 x1 T1 hT hd
  -- the second
  refine ⟨_, rfl, ⟨.inl ⟨rfl, _, SqL.of g3⟩, T3, fun H4 x4 T4 => ⟨_, rfl, _, rfl, ?_⟩⟩⟩
  refine oc_fc (dp_ext (X3.trans x4) hd2) (dp_ext (X3.trans x4) he2) hc fun H5 y2 s5 f5 => ?_
  have x45 := x4.trans (extN_same s5)
  have g5 := extN_lst x45 g3
  refine ⟨l, [y1], y2, rfl, rfl, g5, (by show 1 < sizeLine; decide), ?_⟩
  have p5 := e3.ext x45
  have X5 : LamX.ExtN H2 (upd H5 l (.lst ([y1] ++ [y2]))) := fun b o h n => by
    rw [upd_ne (ne_of_none h hl)]
    exact (X3.trans x45) b o h n
  have T5 := tabs_sx (tabs_same T4 s5) (sx_upd (p := l) (o := .lst ([y1] ++ [y2]))) g5
  have p6 := p5.upd (vs := [y1] ++ [y2]) g5
  have f6 := f5.upd (vs := [y1] ++ [y2]) g5
  have g6 : upd H5 l (.lst ([y1] ++ [y2])) l = some (.lst [y1, y2]) := upd_same
  generalize (upd H5 l (.lst ([y1] ++ [y2]))) = G6 at X5 T5 p6 f6 g6 ⊢
  clear e3 X3 T3 g3 x4 T4 s5 f5 x45 g5 p5
  -- the third
  refine ⟨_, rfl, ⟨.inl ⟨rfl, _, SqL.of g6⟩, T5, fun H7 x7 T7 => ⟨_, rfl, _, rfl, rfl, rfl, ?_⟩⟩⟩
  refine oc_sh1 (dp_ext (X5.trans x7) hd2) (dp_ext (X5.trans x7) he2) hc fun H8 y3 s8 f8 => ?_
  have x78 := x7.trans (extN_same s8)
  have g8 := extN_lst x78 g6
  refine ⟨l, [y1, y2], y3, rfl, rfl, g8, (by show 2 < sizeLine; decide), ?_⟩
  have p8 := p6.ext x78
  have q8 := f6.ext x78
  have X8 : LamX.ExtN H2 (upd H8 l (.lst ([y1, y2] ++ [y3]))) := fun b o h n => by
    rw [upd_ne (ne_of_none h hl)]
    exact (X5.trans x78) b o h n
  have T8 := tabs_sx (tabs_same T7 s8) (sx_upd (p := l) (o := .lst ([y1, y2] ++ [y3]))) g8
  have p9 := p8.upd (vs := [y1, y2] ++ [y3]) g8
  have q9 := q8.upd (vs := [y1, y2] ++ [y3]) g8
  have f9 := f8.upd (vs := [y1, y2] ++ [y3]) g8
  have g9 : upd H8 l (.lst ([y1, y2] ++ [y3])) l = some (.lst [y1, y2, y3]) := upd_same
  generalize (upd H8 l (.lst ([y1, y2] ++ [y3]))) = G9 at X8 T8 p9 q9 f9 g9 ⊢
  clear X5 T5 p6 f6 g6 x7 T7 s8 f8 x78 g8 p8 q8
  -- the fourth
  refine ⟨_, rfl, ⟨.inl ⟨rfl, _, SqL.of g9⟩, T8, fun H10 x10 T10 => ⟨_, rfl, _, rfl, rfl, rfl, ?_⟩⟩⟩
  refine oc_sh2 (dp_ext (X8.trans x10) hd2) (dp_ext (X8.trans x10) he2) hc fun H11 y4 s11 f11 => ?_
  have x1011 := x10.trans (extN_same s11)
  have g11 := extN_lst x1011 g9
  refine ⟨l, [y1, y2, y3], y4, rfl, rfl, g11, (by show 3 < sizeLine; decide), ?_⟩
  have p11 := p9.ext x1011
  have q11 := q9.ext x1011
  have r11 := f9.ext x1011
  have X11 : LamX.ExtN H2 (upd H11 l (.lst ([y1, y2, y3] ++ [y4]))) := fun b o h n => by
    rw [upd_ne (ne_of_none h hl)]
    exact (X8.trans x1011) b o h n
  have T11 := tabs_sx (tabs_same T10 s11) (sx_upd (p := l) (o := .lst ([y1, y2, y3] ++ [y4]))) g11
  have p12 := p11.upd (vs := [y1, y2, y3] ++ [y4]) g11
  have q12 := q11.upd (vs := [y1, y2, y3] ++ [y4]) g11
  have r12 := r11.upd (vs := [y1, y2, y3] ++ [y4]) g11
  have f12 := f11.upd (vs := [y1, y2, y3] ++ [y4]) g11
  have g12 : upd H11 l (.lst ([y1, y2, y3] ++ [y4])) l = some (.lst [y1, y2, y3, y4]) := upd_same
  generalize (upd H11 l (.lst ([y1, y2, y3] ++ [y4]))) = G12 at X11 T11 p12 q12 r12 f12 g12 ⊢
  have X := X2.trans X11
  have heG := dp_ext X he
  exact ⟨_, rfl, q G12 l _ X T11 g12 (.cons (p12.dp heG) (.cons (q12.dp heG) (.cons (r12.dp heG) (.cons (f12.dp heG) .nil))))⟩
end
/-! block V20e: _law_errors_right (behind bV20o) -/
def odds : List PyData := [.none, .tuple [], .list [prD (0, 0)], .tuple (prDs [(0, 0), (0, -1)]), .tuple (prDs [(0, 0), (1, 0)]), .tuple [.tuple [.int 0, .bool true]], .int 7, prD (0, 0)]
def nums : List PyData := [.none, .bool true, .str "0", .int 10000000000000000000000000000000000000000000000000000000000000, .int (0 - 10000000000000000000000000000000000000000000000000000000000000), .tuple [.int 0], .list []]
theorem odds_no : ∀ d ∈ odds, valB d = false := by
  intro d hd
  simp only [odds, List.mem_cons, List.not_mem_nil, or_false] at hd
  rcases hd with rfl | rfl | rfl | rfl | rfl | rfl | rfl | rfl <;> decide +kernel
theorem nums_no : ∀ d ∈ nums, numB d = false ∧ fine d ∧ d.depth ≤ 3 ∧ d.bulk ≤ 100 := by
  intro d hd
  simp only [nums, List.mem_cons, List.not_mem_nil, or_false] at hd
  rcases hd with rfl | rfl | rfl | rfl | rfl | rfl | rfl <;> refine ⟨by decide +kernel, ?_, by decide +kernel, by decide +kernel⟩ <;> simp only [fine, fines, and_true] <;> decide +kernel
theorem atI_exV {vs : List V} {r : Int} (h0 : 0 ≤ r) (h1 : r < (vs.length : Int)) : ∃ v, vs[r.toNat]? = some v ∧ atI vs r = some v := by
  have h : r.toNat < vs.length := by omega
  exact ⟨vs[r.toNat], List.getElem?_eq_getElem h, atI_at (j := r.toNat) (by omega) (List.getElem?_eq_getElem h)⟩
/-- data that stays when the source is drawn from -/
def St (K : PySem.W.Frag) (p : Addr) (H : Hp) (v : V) (d : PyData) : Prop := ∀ H', Sx p H H' → Dp K H' v d
theorem St.dp {K : PySem.W.Frag} {p : Addr} {H : Hp} {v : V} {d : PyData} (h : St K p H v d) : Dp K H v d := h H Sx.refl
theorem St.mono {K : PySem.W.Frag} {p : Addr} {H H' : Hp} {v : V} {d : PyData} (h : St K p H v d) (s : Sx p H H') : St K p H' v d := fun H2 t => h H2 (s.trans t)
theorem st_noL {K : PySem.W.Frag} {p : Addr} {H : Hp} {v : V} {d : PyData} {l : List V} (hp : H p = some (.lst l)) (n : noL d = true) (h : Dp K H v d) : St K p H v d := fun _ s => s.dp hp n h
theorem st_one {K : PySem.W.Frag} {p a : Addr} {H : Hp} {v : V} {d : PyData} {l : List V} (hp : H p = some (.lst l)) (n : noL d = true) (h : Dp K H v d) (ha : H a = some (.lst [v])) (nap : a ≠ p) : St K p H (.ref a) (.list [d]) :=
  fun _ s => .lst (SqL.of (s a _ nap ha)) (.cons (s.dp hp n h) .nil)
theorem st_nil {K : PySem.W.Frag} {p a : Addr} {H : Hp} (ha : H a = some (.lst [])) (nap : a ≠ p) : St K p H (.ref a) (.list []) := fun _ s => .lst (SqL.of (s a _ nap ha)) .nil
def spErr {mg : Str → Option Value} (K : PySem.W.Frag) (T : Txt K mg) : Sp := fun vs H Q _ => ∃ (p : Addr) (m : Nat) (v : V) (ps : List P2), vs = [.ref p, v] ∧ Pot H p m ∧ m + 2 ≤ 1099511627776 ∧ LamX.Tabs (lamT T) H ∧ Dp K H v (.tuple (prDs ps)) ∧ Rv 12 ps ∧
  ∀ H', SxN p H H' → LamX.Tabs (lamT T) H' → Pot H' p (m + 2) → Q (.bl true) H'
section
variable {P : Program} {w : World} {K : PySem.W.Frag} {mg : Str → Option Value} {base : Heap}
theorem ok_err (T : Txt K mg) (TB__law_outcomes : LamX.TabB base mg T.cc__law_outcomes T.ct__law_outcomes) (TB__law_errors_right : LamX.TabB base mg T.cc__law_errors_right T.ct__law_errors_right) : FnG P w K mg base CX0 14 T.f__law_errors_right T.d__law_errors_right ["_law_source_here", "_law_valleys"] (spErr K T) := by
  have g__law_draw := ok_take (P := P) (w := w) (base := base) T
  have g__law_outcomes := ok_out (P := P) (w := w) (base := base) T TB__law_outcomes
  have g_shifted := ok_shf (P := P) (w := w) (base := base) T
  refine okCG T.F__law_errors_right T.hc__law_errors_right sc__law_errors_right (fun vs H Q E h => ?_) (fun A outer s H vs Q E hr gd h => ?_)
  · obtain ⟨p, m, v, ps, rfl, _⟩ := h
    rfl
  obtain ⟨p, m, v, ps, rfl, hp, hm, hT, hd, hv, q⟩ := h
  refine ⟨_, (pss_cons (ps_set (i := 2) sc__law_errors_right.nd rfl (Or.inr rfl) (pe_ix (r := rIxL K) ix_list (pe_lst (pa_cons pe_non (pa_cons (pw_tup (pws_nil (E := [])) (by decide)) (pa_cons (pe_lst (pa_cons (pw_tup (pws_cons (pw_int (E := []) (n := 0) pe_int (by decide +kernel) (fun σ H Q q => q)) (pws_cons (pw_int (E := []) (n := 0) pe_int (by decide +kernel) (fun σ H Q q => q)) (pws_nil (E := [])))) (by decide)) pa_nil)) (pa_cons (pw_tup (pws_cons (pw_tup (pws_cons (pw_int (E := []) (n := 0) pe_int (by decide +kernel) (fun σ H Q q => q)) (pws_cons (pw_int (E := []) (n := 0) pe_int (by decide +kernel) (fun σ H Q q => q)) (pws_nil (E := [])))) (by decide)) (pws_cons (pw_tup (pws_cons (pw_int (E := []) (n := 0) pe_int (by decide +kernel) (fun σ H Q q => q)) (pws_cons (pw_int (E := []) (n := -1) (pe_un un_neg pe_int) (by decide +kernel) (fun σ H Q q => ⟨_, rfl, q⟩)) (pws_nil (E := [])))) (by decide)) (pws_nil (E := [])))) (by decide)) (pa_cons (pw_tup (pws_cons (pw_tup (pws_cons (pw_int (E := []) (n := 0) pe_int (by decide +kernel) (fun σ H Q q => q)) (pws_cons (pw_int (E := []) (n := 0) pe_int (by decide +kernel) (fun σ H Q q => q)) (pws_nil (E := [])))) (by decide)) (pws_cons (pw_tup (pws_cons (pw_int (E := []) (n := 1) pe_int (by decide +kernel) (fun σ H Q q => q)) (pws_cons (pw_int (E := []) (n := 0) pe_int (by decide +kernel) (fun σ H Q q => q)) (pws_nil (E := [])))) (by decide)) (pws_nil (E := [])))) (by decide)) (pa_cons (pw_tup (pws_cons (pw_tup (pws_cons (pw_int (E := []) (n := 0) pe_int (by decide +kernel) (fun σ H Q q => q)) (pws_cons (pw_bl (E := [])) (pws_nil (E := [])))) (by decide)) (pws_nil (E := []))) (by decide)) (pa_cons pe_int (pa_cons (pw_tup (pws_cons (pw_int (E := []) (n := 0) pe_int (by decide +kernel) (fun σ H Q q => q)) (pws_cons (pw_int (E := []) (n := 0) pe_int (by decide +kernel) (fun σ H Q q => q)) (pws_nil (E := [])))) (by decide)) pa_nil))))))))) (pe_call g__law_draw (hr.mono (by omega)) rfl T.m__law_draw T.F__law_draw.kp T.b__law_draw .nil pass0 (pa_cons (pv 0) (pa_cons pe_int pa_nil))) (fun _ _ => rfl)))
      (pss_cons (ps_set (i := 3) sc__law_errors_right.nd rfl (Or.inl rfl) (pe_ix (r := rIxL K) ix_list (pe_lst (pa_cons pe_non (pa_cons pe_bl (pa_cons pe_str (pa_cons (pe_op op_powW pe_int pe_int) (pa_cons (pe_op op_sub pe_int (pe_op op_powW pe_int pe_int)) (pa_cons (pw_tup (pws_cons (pw_int (E := []) (n := 0) pe_int (by decide +kernel) (fun σ H Q q => q)) (pws_nil (E := []))) (by decide)) (pa_cons (pe_lst pa_nil) pa_nil)))))))) (pe_call g__law_draw (hr.mono (by omega)) rfl T.m__law_draw T.F__law_draw.kp T.b__law_draw .nil pass0 (pa_cons (pv 0) (pa_cons pe_int pa_nil))) (fun _ _ => rfl)))
      (pss_cons (ps_if (pt_cmpR (r := rNeD K) (op_neD hr.units) (pe_op op_cat (pe_call g__law_outcomes (hr.mono (by omega)) rfl T.m__law_outcomes T.F__law_outcomes.kp T.b__law_outcomes .nil pass0 (pa_cons (pv 2) (pa_cons (pv 3) pa_nil))) (pe_call g__law_outcomes (hr.mono (by omega)) rfl T.m__law_outcomes T.F__law_outcomes.kp T.b__law_outcomes .nil pass0 (pa_cons (pv 2) (pa_cons pe_int pa_nil)))) (pe_op op_rep (pe_lst (pa_cons pe_str pa_nil)) pe_int) (nomark _)) (pss_one (ps_ret pe_bl)) pss_nil)
      (pss_cons (ps_if (pt_cmpR (r := rNeD K) (op_neD hr.units) (pe_lamF (T := lamT T) (k := 8) (c := T.cc__law_errors_right) (P := T.ct__law_errors_right) T.F__law_valley_outcome T.b__law_valley_outcome rfl T.m__law_valley_outcome sc__law_valley_outcome rfl (.inl rfl) (fun cdv => gives__law_valley_outcome T _ rfl rfl) TB__law_errors_right rfl (.tail _ (.tail _ (.head _))) (lamU__law_errors_right T) (hr.mono (by omega)) (LamX.lamS_by (sc := defScope s__law_errors_right) (by decide +kernel)) rfl (fun _ _ _ _ _ => rfl) (fun A outer s H E f c hr => (pe_call (E := E) g_shifted (hr.mono (by omega)) rfl T.m_shifted T.F_shifted.kp T.b_shifted T.vd_shifted (passes_call (takes_of rfl rfl rfl rfl) (fun _ _ _ _ h => h)) (pa_cons (pv 2) pa_nil)))) pe_str (nomark _)) (pss_one (ps_ret pe_bl)) pss_nil)
      (pss_one (ps_ret (pe_cmpR op_eq (pe_callB (r := rRepr K) (call_reprD gd (room66 hr)) (by rfl) T.n_repr (by decide +kernel) (pa_cons (pe_call g__law_outcomes (hr.mono (by omega)) rfl T.m__law_outcomes T.F__law_outcomes.kp T.b__law_outcomes .nil pass0 (pa_cons (pv 1) (pa_cons (pv 3) pa_nil))) pa_nil)) (pe_callB (r := rRepr K) (call_reprD gd (room66 hr)) (by rfl) T.n_repr (by decide +kernel) (pa_cons (pe_op op_rep (pe_lst (pa_cons (pe_tup (pa_cons pe_str (pa_cons (pv 3) pa_nil))) pa_nil)) pe_int) pa_nil)) (nomark _)))))))), ?_⟩
  have hval := rv_val hv (by decide)
  obtain ⟨l0, hl0⟩ := hp.lst
  have noP : noL (.tuple (prDs ps)) = true := by simp only [noL]; exact noLs_prV _
  refine ⟨Ns.nil, fun H1 v1 s1 d1 => ⟨Ns.nil, fun H2 v2 s2 d2 => ⟨(by show 1 ≤ sizeLine; decide), fun l hl => ⟨Ns.nil, fun H3 v3 s3 d3 => ⟨Ns.nil, fun H4 v4 s4 d4 => ⟨Ns.nil, fun H5 v5 s5 d5 => ⟨Ns.nil, fun H6 v6 s6 d6 => ⟨(by show 8 ≤ sizeLine; decide), fun lo hlo => ?_⟩⟩⟩⟩⟩⟩⟩⟩
  have sl : Same H2 (upd H2 l (.lst [v2])) := same_new hl
  have el : upd H2 l (.lst [v2]) l = some (.lst [v2]) := upd_same
  have nlp : l ≠ p := fun z => by rw [z, s2 _ _ (s1 _ _ hl0)] at hl; cases hl
  generalize (upd H2 l (.lst [v2])) = H2' at sl el s3
  have so : Same H6 (upd H6 lo (.lst [.non, v1, .ref l, v3, v4, v5, .int 7, v6])) := same_new hlo
  have eo : upd H6 lo (.lst [.non, v1, .ref l, v3, v4, v5, .int 7, v6]) lo = some (.lst [.non, v1, .ref l, v3, v4, v5, .int 7, v6]) := upd_same
  have S26 := s3.trans (s4.trans (s5.trans s6))
  have S06 := (s1.trans (s2.trans sl)).trans S26
  have nop : lo ≠ p := fun z => by rw [z, S06 _ _ hl0] at hlo; cases hlo
  generalize (upd H6 lo (.lst [.non, v1, .ref l, v3, v4, v5, .int 7, v6])) = G at so eo ⊢
  have hpG : G p = some (.lst l0) := so _ _ (S06 _ _ hl0)
  have pick : ∀ (i : Nat) (y : V), [V.non, v1, .ref l, v3, v4, v5, .int 7, v6][i]? = some y → ∃ d ∈ odds, St K p G y d := by
    intro i y hy
    match i, hy with
    | 0, hy => cases hy; exact ⟨.none, by simp [odds], fun _ _ => .non⟩
    | 1, hy => cases hy; exact ⟨.tuple [], by simp [odds], st_noL hpG (by decide) (dp_same (s2.trans (sl.trans (S26.trans so))) d1)⟩
    | 2, hy => cases hy; exact ⟨.list [prD (0, 0)], by simp [odds], st_one hpG (noLs_one _) (dp_same (sl.trans (S26.trans so)) d2) ((S26.trans so) _ _ el) nlp⟩
    | 3, hy => cases hy; exact ⟨.tuple (prDs [(0, 0), (0, -1)]), by simp [odds], st_noL hpG (by decide) (dp_same (s4.trans (s5.trans (s6.trans so))) d3)⟩
    | 4, hy => cases hy; exact ⟨.tuple (prDs [(0, 0), (1, 0)]), by simp [odds], st_noL hpG (by decide) (dp_same (s5.trans (s6.trans so)) d4)⟩
    | 5, hy => cases hy; exact ⟨.tuple [.tuple [.int 0, .bool true]], by simp [odds], st_noL hpG (by decide) (dp_same (s6.trans so) d5)⟩
    | 6, hy => cases hy; exact ⟨.int 7, by simp [odds], fun _ _ => .int _⟩
    | 7, hy => cases hy; exact ⟨prD (0, 0), by simp [odds], st_noL hpG (noLs_one _) (dp_same so d6)⟩
    | i + 8, hy => simp at hy
  have S0G := S06.trans so
  clear d1 d2 d3 d4 d5 d6
  refine ⟨_, rfl, p, m, 8, rfl, hp.same S0G, by omega, by decide, by decide, fun G1 r1 t1 hp1 a0 a1 => ?_⟩
  obtain ⟨odd, ho1, ho2⟩ := atI_exV (vs := [V.non, v1, .ref l, v3, v4, v5, .int 7, v6]) (r := r1) a0 a1
  obtain ⟨d, hd1, std⟩ := pick _ _ ho1
  refine ⟨lo, _, _, _, rfl, rfl, SqL.of (t1 lo _ nop eo), ho2, ?_⟩
  have std1 := std.mono t1
  have S1 : Sx p H G1 := (Same.sx S0G).trans t1
  obtain ⟨l1, hl1⟩ := hp1.lst
  clear pick std ho1 ho2 eo hpG
  -- the number
  have e61 : (10 : Int) ^ (61 : Int).toNat = 10000000000000000000000000000000000000000000000000000000000000 := by decide
  refine ⟨_, _, rfl, rfl, powW_of 4 (by decide) (by decide) (by decide), _, _, rfl, rfl, powW_of 4 (by decide) (by decide) (by decide), _, _, rfl, rfl, ?_⟩
  dsimp only
  rw [e61]
  refine ⟨Ns.nil, fun H8 v8 s8 d8 => ⟨(by show 0 ≤ sizeLine; decide), fun k hk => ⟨(by show 7 ≤ sizeLine; decide), fun ln hln => ?_⟩⟩⟩
  have sk : Same H8 (upd H8 k (.lst [])) := same_new hk
  have ek : upd H8 k (.lst []) k = some (.lst []) := upd_same
  have nkp : k ≠ p := fun z => by rw [z, s8 _ _ hl1] at hk; cases hk
  generalize (upd H8 k (.lst [])) = H8' at sk ek hln ⊢
  have sn : Same H8' (upd H8' ln (.lst [.non, .bl true, .str "0", .int 10000000000000000000000000000000000000000000000000000000000000, .int (0 - 10000000000000000000000000000000000000000000000000000000000000), v8, .ref k])) := same_new hln
  have en : upd H8' ln (.lst [.non, .bl true, .str "0", .int 10000000000000000000000000000000000000000000000000000000000000, .int (0 - 10000000000000000000000000000000000000000000000000000000000000), v8, .ref k]) ln = some (.lst [.non, .bl true, .str "0", .int 10000000000000000000000000000000000000000000000000000000000000, .int (0 - 10000000000000000000000000000000000000000000000000000000000000), v8, .ref k]) := upd_same
  have nnp : ln ≠ p := fun z => by rw [z, sk _ _ (s8 _ _ hl1)] at hln; cases hln
  generalize (upd H8' ln (.lst [.non, .bl true, .str "0", .int 10000000000000000000000000000000000000000000000000000000000000, .int (0 - 10000000000000000000000000000000000000000000000000000000000000), v8, .ref k])) = G2 at sn en ⊢
  have S12 := s8.trans (sk.trans sn)
  have hpG2 := S12 _ _ hl1
  have pick : ∀ (i : Nat) (y : V), [V.non, .bl true, .str "0", .int 10000000000000000000000000000000000000000000000000000000000000, .int (0 - 10000000000000000000000000000000000000000000000000000000000000), v8, .ref k][i]? = some y → ∃ d ∈ nums, St K p G2 y d := by
    intro i y hy
    match i, hy with
    | 0, hy => cases hy; exact ⟨.none, by simp [nums], fun _ _ => .non⟩
    | 1, hy => cases hy; exact ⟨.bool true, by simp [nums], fun _ _ => .bl _⟩
    | 2, hy => cases hy; exact ⟨.str "0", by simp [nums], fun _ _ => .str _⟩
    | 3, hy => cases hy; exact ⟨_, .tail _ (.tail _ (.tail _ (.head _))), fun _ _ => .int _⟩
    | 4, hy => cases hy; exact ⟨_, .tail _ (.tail _ (.tail _ (.tail _ (.head _)))), fun _ _ => .int _⟩
    | 5, hy => cases hy; exact ⟨.tuple [.int 0], by simp [nums], st_noL hpG2 (by decide) (dp_same (sk.trans sn) d8)⟩
    | 6, hy => cases hy; exact ⟨.list [], by simp [nums], st_nil (sn _ _ ek) nkp⟩
    | i + 7, hy => simp at hy
  refine ⟨_, rfl, p, m + 1, 7, rfl, hp1.same S12, by omega, by decide, by decide, fun G3 r2 t2 hp3 b0 b1 => ?_⟩
  obtain ⟨num, hn1, hn2⟩ := atI_exV (vs := [V.non, .bl true, .str "0", .int 10000000000000000000000000000000000000000000000000000000000000, .int (0 - 10000000000000000000000000000000000000000000000000000000000000), v8, .ref k]) (r := r2) b0 b1
  obtain ⟨e, he1, ste⟩ := pick _ _ hn1
  refine ⟨ln, _, _, _, rfl, rfl, SqL.of (t2 ln _ nnp en), hn2, ?_⟩
  have S3 : Sx p H G3 := S1.trans ((Same.sx S12).trans t2)
  have do3 : Dp K G3 odd d := (std1.mono ((Same.sx S12).trans t2)).dp
  have dn3 : Dp K G3 num e := (ste.mono t2).dp
  have T3 := tabs_sx hT S3 hl0
  have dv3 : Dp K G3 v (.tuple (prDs ps)) := S3.dp hl0 noP hd
  have vno := odds_no d hd1
  obtain ⟨nno, nfi, nde, nbu⟩ := nums_no e he1
  clear pick hn1 hn2 en ste std1 hpG2 hl1 d8 S12 sn sk s8 ek nkp nnp hln hk nlp nop
  refine ⟨_, rfl, _, rfl, odd, num, d, e, .str "valleys", rfl, do3, dn3, T3, .inl ⟨vno, rfl⟩, fun H4 f1 us1 x4 T4 g4 a4 => ?_⟩
  refine ⟨_, rfl, odd, .int 0, d, .int 0, .str "valleys", rfl, dp_ext x4 do3, .int 0, T4, .inl ⟨vno, rfl⟩, fun H5 f2 us2 x5 T5 g5 a5 => ?_⟩
  have a4' := dpAll_map (fun _ _ => extN_L x5) (fun _ _ => extN_T x5) a4
  have l4 := dpAll_length a4'
  have l5 := dpAll_length a5
  refine ⟨f1, f2, us1, us2, rfl, rfl, extN_lst x5 g4, g5, (by rw [l4, l5]; decide), fun f3 hf3 => ?_⟩
  have s6 : Same H5 (upd H5 f3 (.lst (us1 ++ us2))) := same_new hf3
  have d6 : Dp K (upd H5 f3 (.lst (us1 ++ us2))) (.ref f3) (.list ([.str "valleys", .str "valleys", .str "valleys", .str "valleys"] ++ [.str "valleys", .str "valleys", .str "valleys", .str "valleys"])) := .lst (SqL.of upd_same) (dpAll_same s6 (dpAll_append a4' a5))
  generalize (upd H5 f3 (.lst (us1 ++ us2))) = H6 at s6 d6 ⊢
  refine ⟨(by show 1 ≤ sizeLine; decide), fun f4 hf4 => ?_⟩
  have s7 : Same H6 (upd H6 f4 (.lst [.str "valleys"])) := same_new hf4
  refine ⟨f4, 8, _, rfl, rfl, upd_same, by decide, by decide, (by show 8 ≤ sizeLine; decide), fun f5 hf5 => ?_⟩
  have s8 : Same (upd H6 f4 (.lst [.str "valleys"])) (upd (upd H6 f4 (.lst [.str "valleys"])) f5 (.lst (List.replicate (8 : Int).toNat [V.str "valleys"]).flatten)) := same_new hf5
  have d8 : Dp K (upd (upd H6 f4 (.lst [.str "valleys"])) f5 (.lst (List.replicate (8 : Int).toNat [V.str "valleys"]).flatten)) (.ref f5) (.list [.str "valleys", .str "valleys", .str "valleys", .str "valleys", .str "valleys", .str "valleys", .str "valleys", .str "valleys"]) :=
    .lst (SqL.of upd_same) (.cons (.str _) (.cons (.str _) (.cons (.str _) (.cons (.str _) (.cons (.str _) (.cons (.str _) (.cons (.str _) (.cons (.str _) .nil))))))))
  have s78 := s7.trans s8
  generalize (upd (upd H6 f4 (.lst [.str "valleys"])) f5 (.lst (List.replicate (8 : Int).toNat [V.str "valleys"]).flatten)) = H8 at s78 d8 ⊢
  refine ⟨_, _, dp_same s78 d6, d8, by decide +kernel, by decide +kernel, _, rfl, ?_⟩
  refine iteFx (by decide +kernel) ?_
  have s68 := s6.trans s78
  have x38 : LamX.ExtN G3 H8 := (x4.trans x5).trans (extN_same s68)
  have T8 := tabs_same T5 s68
  clear a4 a5 a4' l4 l5 g4 g5 d6 d8
  -- shifted by nothing
  refine ⟨T8, fun H9 x9 T9 => ⟨_, rfl, ?_⟩⟩
  have x39 := x38.trans x9
  refine oc_sh0 (dp_ext x39 do3) vno fun H10 s10 => ?_
  refine ⟨.str "valleys", .str "valleys", .str _, .str _, by decide +kernel, by decide +kernel, _, rfl, ?_⟩
  refine iteFx (by decide +kernel) ?_
  have x310 : LamX.ExtN G3 H10 := x39.trans (extN_same s10)
  have T10 := tabs_same T9 s10
  -- the number that is refused
  refine ⟨_, rfl, _, rfl, v, num, _, e, .tuple [.str "number", e], rfl, dp_ext x310 dv3, dp_ext x310 dn3, T10, .inr ⟨hval, nno, rfl⟩, fun H11 f6 us6 x11 T11 g11 a11 => ?_⟩
  have fr : fine (.list [.tuple [.str "number", e], .tuple [.str "number", e], .tuple [.str "number", e], .tuple [.str "number", e]]) := by
    simp only [fine, fines, and_true]
    have hs : (((Str.ofString "number").cps.toList.all fun c => decide (c < 16 ^ 8)) = true) := by decide +kernel
    exact ⟨⟨hs, nfi⟩, ⟨hs, nfi⟩, ⟨hs, nfi⟩, hs, nfi⟩
  have dr : (PyData.list [.tuple [.str "number", e], .tuple [.str "number", e], .tuple [.str "number", e], .tuple [.str "number", e]]).depth ≤ 64 := by
    simp only [PyData.depth, PyData.depthAll]
    omega
  have br : (PyData.list [.tuple [.str "number", e], .tuple [.str "number", e], .tuple [.str "number", e], .tuple [.str "number", e]]).bulk ≤ 80000 := by
    simp only [PyData.bulk, PyData.bulkAll]
    have : (Str.ofString "number").cps.size = 6 := by decide +kernel
    omega
  refine ⟨_, _, rfl, .lst (SqL.of g11) a11, fr, dr, br, ?_⟩
  have x311 := x310.trans x11
  refine ⟨_, rfl, (by show 2 ≤ sizeLine; decide), fun t1 ht1 => ⟨(by show 1 ≤ sizeLine; decide), fun f7 hf7 => ?_⟩⟩
  have s12 : Same H11 (upd H11 t1 (.tup [.str "number", num])) := same_new ht1
  have d12 : Dp K (upd H11 t1 (.tup [.str "number", num])) (.ref t1) (.tuple [.str "number", e]) := .tup (SqT.of upd_same) (.cons (.str _) (.cons (dp_same s12 (dp_ext x311 dn3)) .nil))
  generalize (upd H11 t1 (.tup [.str "number", num])) = H12 at s12 d12 hf7 ⊢
  have s13 : Same H12 (upd H12 f7 (.lst [.ref t1])) := same_new hf7
  refine ⟨f7, 4, _, rfl, rfl, upd_same, by decide, by decide, (by show 4 ≤ sizeLine; decide), fun f8 hf8 => ?_⟩
  have s14 : Same (upd H12 f7 (.lst [.ref t1])) (upd (upd H12 f7 (.lst [.ref t1])) f8 (.lst (List.replicate (4 : Int).toNat [V.ref t1]).flatten)) := same_new hf8
  have s34 := s13.trans s14
  have d13 := dp_same s34 d12
  have d14 : Dp K (upd (upd H12 f7 (.lst [.ref t1])) f8 (.lst (List.replicate (4 : Int).toNat [V.ref t1]).flatten)) (.ref f8) (.list [.tuple [.str "number", e], .tuple [.str "number", e], .tuple [.str "number", e], .tuple [.str "number", e]]) :=
    .lst (SqL.of upd_same) (.cons d13 (.cons d13 (.cons d13 (.cons d13 .nil))))
  generalize (upd (upd H12 f7 (.lst [.ref t1])) f8 (.lst (List.replicate (4 : Int).toNat [V.ref t1]).flatten)) = H14 at s34 d14 ⊢
  refine ⟨_, _, rfl, d14, fr, dr, br, rfl, ?_⟩
  rw [decide_eq_true rfl]
  have s1114 := s12.trans s34
  have x314 : LamX.ExtN G3 H14 := x311.trans (extN_same s1114)
  exact q _ ((SxN.of S3).trans (SxN.ext x314)) (tabs_same T11 s1114) (hp3.ext x314)
end
/-! block V20L: _law_long_right (behind bV20e) -/
def P4 (s f : Int) (n : Nat) : List P2 := (List.range n).map fun k : Nat => (s * (k : Int), 0 - f * (k : Int))
theorem P4_len (s f : Int) (n : Nat) : (P4 s f n).length = n := by unfold P4; rw [List.length_map, List.length_range]
theorem P4_at {s f : Int} {n k : Nat} (h : k < n) : (P4 s f n)[k]? = some (s * (k : Int), 0 - f * (k : Int)) := by
  unfold P4
  rw [List.getElem?_map, List.getElem?_range h]
  rfl
theorem P4_succ (s f : Int) (n : Nat) : P4 s f (n + 1) = P4 s f n ++ [(s * (n : Int), 0 - f * (n : Int))] := by
  unfold P4
  rw [List.range_succ, List.map_append]
  rfl
theorem P4_strict {s f : Int} (hs : 1 ≤ s) (hf : 1 ≤ f) (n : Nat) : Strict (P4 s f n) := by
  unfold P4
  rw [Strict, List.pairwise_map]
  refine List.pairwise_lt_range.imp fun {a b} h => ?_
  have h1 := Int.mul_lt_mul_of_pos_left (show (a : Int) < (b : Int) by omega) (show 0 < s by omega)
  have h2 := Int.mul_lt_mul_of_pos_left (show (a : Int) < (b : Int) by omega) (show 0 < f by omega)
  exact ⟨h1, by omega⟩
theorem P4_val {s f : Int} (hs : 1 ≤ s) : ∀ {n k : Nat}, k < n → valAt (s * (k : Int)) (P4 s f n) = some (0 - f * (k : Int))
  | 0, k, h => by omega
  | n + 1, k, h => by
    rw [P4_succ]
    unfold valAt valFrom
    rw [List.foldl_append]
    show (if s * (n : Int) ≤ s * (k : Int) then some (0 - f * (n : Int)) else _) = _
    by_cases e : k = n
    · subst e
      rw [if_pos (Int.le_refl _)]
    · have h1 := Int.mul_lt_mul_of_pos_left (show (k : Int) < (n : Int) by omega) (show 0 < s by omega)
      rw [if_neg (by omega)]
      exact P4_val hs (by omega)
theorem P4_later {s f : Int} (hs : 1 ≤ s) : laterP (s * ((399 : Nat) : Int)) (P4 s f 400) = [] := by
  unfold laterP
  rw [List.filter_eq_nil_iff]
  intro p hp
  unfold P4 at hp
  obtain ⟨k, hk, rfl⟩ := List.mem_map.mp hp
  rw [List.mem_range] at hk
  have := Int.mul_le_mul_of_nonneg_left (show (k : Int) ≤ ((399 : Nat) : Int) by omega) (show 0 ≤ s by omega)
  rw [decide_eq_true_eq]
  dsimp only
  omega
theorem P4_first {s f : Int} (hs : 1 ≤ s) : (laterP 0 (P4 s f 400)).length = 399 := by
  unfold laterP P4
  rw [List.filter_map, List.length_map]
  have e : (List.range 400).filter ((fun p : P2 => decide (p.1 > 0)) ∘ fun k : Nat => (s * (k : Int), 0 - f * (k : Int))) = (List.range 400).filter fun k => decide (0 < k) := by
    refine List.filter_congr fun k _ => ?_
    show decide (s * (k : Int) > 0) = decide (0 < k)
    rw [decide_eq_decide]
    constructor
    · intro h
      rcases Nat.eq_zero_or_pos k with z | z
      · subst z
        simp at h
      · exact z
    · intro h
      exact Int.mul_pos (by omega) (by omega)
  rw [e]
  decide +kernel
theorem cut_n {us : List V} {n : Nat} (h : n ≤ us.length) : cutV us (some (n : Int)) none = us.drop n := by
  unfold cutV HT.sIx
  simp only [show ¬((n : Int) < 0) by omega, if_false]
  have e : ((n : Int)).toNat = n := by omega
  rw [e, Nat.min_eq_left h, List.take_of_length_le (by rw [List.length_drop]; omega)]
theorem dpAll_dropL {K : PySem.W.Frag} {H : Hp} : ∀ (n : Nat) {xs : List V} {ds : List PyData}, DpAll K H xs ds → DpAll K H (xs.drop n) (ds.drop n)
  | 0, _, _, h => h
  | n + 1, [], [], h => .nil
  | n + 1, _ :: _, _ :: _, .cons _ h => dpAll_dropL n h
theorem P4_end (s f : Int) : (P4 s f 400).drop 399 = [(s * ((399 : Nat) : Int), 0 - f * ((399 : Nat) : Int))] := by
  rw [P4_succ s f 399, List.drop_append, P4_len, List.drop_of_length_le (by rw [P4_len]; decide)]
  rfl
theorem P4_cons (s f : Int) : ∃ ps, P4 s f 400 = (s * ((0 : Nat) : Int), 0 - f * ((0 : Nat) : Int)) :: ps := by
  have h := P4_at (s := s) (f := f) (n := 400) (k := 0) (by decide)
  cases e : P4 s f 400 with
  | nil => rw [e] at h; cases h
  | cons p ps =>
    rw [e] at h
    have : p = (s * ((0 : Nat) : Int), 0 - f * ((0 : Nat) : Int)) := by simpa using h
    exact ⟨ps, by rw [this]⟩
def spLng : Sp := fun vs H Q _ => ∃ (p : Addr) (m : Nat), vs = [.ref p] ∧ Pot H p m ∧ m + 2 ≤ 1099511627776 ∧ ∀ H', Sx p H H' → Pot H' p (m + 2) → Q (.bl true) H'
section
variable {P : Program} {w : World} {K : PySem.W.Frag} {mg : Str → Option Value} {base : Heap}
theorem ok_lng (T : Txt K mg) : FnOk P w K mg base CX0 6 T.f__law_long_right T.d__law_long_right ["_law_source_here"] spLng := by
  have g__law_draw := ok_take (P := P) (w := w) (base := base) T
  have g_valley_at := ok_vla (P := P) (w := w) (base := base) T
  have g_from_capacity := ok_frc (P := P) (w := w) (base := base) T
  have g_shifted := ok_shf (P := P) (w := w) (base := base) T
  refine T.F__law_long_right.ok sc__law_long_right (fun vs H Q E h => ?_) (fun cdv A outer s H vs Q E hr h => ?_)
  · obtain ⟨p, m, rfl, _⟩ := h
    rfl
  obtain ⟨p, m, rfl, hp, hm, q⟩ := h
  refine ⟨_, (pss_cons (ps_asg (pe_tup (pa_cons (pe_op op_add pe_int (pe_call g__law_draw (hr.mono (by omega)) rfl T.m__law_draw T.F__law_draw.kp T.b__law_draw .nil pass0 (pa_cons (pv 0) (pa_cons pe_int pa_nil)))) (pa_cons (pe_op op_add pe_int (pe_call g__law_draw (hr.mono (by omega)) rfl T.m__law_draw T.F__law_draw.kp T.b__law_draw .nil pass0 (pa_cons (pv 0) (pa_cons pe_int pa_nil)))) pa_nil))) (pg_tup (by rfl) (pgs_cons (pg_name (i := 1) sc__law_long_right.nd rfl (Or.inr rfl)) (pgs_cons (pg_name (i := 2) sc__law_long_right.nd rfl (Or.inr rfl)) pgs_nil))))
      (pss_cons (ps_set (i := 3) sc__law_long_right.nd rfl (Or.inl rfl) (pe_callTy (r := rTupS K) call_tupS (by rfl) T.n_tuple (by decide +kernel) (pa_cons (pe_lc (own := [("_law_number", 4)]) (g := (gName 4)) (by rfl) sc__law_long_right.nd (pi_range1 rfl T.n_range (pa_cons pe_int pa_nil)) (blkOk_by (N := N__law_long_right) (sc := (defScope s__law_long_right)) (by decide +kernel)) (fun _ _ _ _ _ => (pg_name (i := 4) sc__law_long_right.nd rfl (Or.inl rfl))) (fun _ _ _ _ _ => pts_nil) (fun _ _ _ _ _ => (pe_tup (pa_cons (pe_op op_mulW (pv 1) (pv 4)) (pa_cons (pe_op op_sub pe_int (pe_op op_mulW (pv 2) (pv 4))) pa_nil))))) pa_nil)))
      (pss_cons (ps_for PassesOwn.never rfl (pi_tup (pe_tup (pa_cons pe_int (pa_cons pe_int (pa_cons pe_int (pa_cons pe_int (pa_cons pe_int pa_nil))))))) (pg_name (i := 4) sc__law_long_right.nd rfl (Or.inl rfl))
        (pss_one (ps_if (pt_cmpR (r := rNeD K) (op_neD hr.units) (pe_call g_valley_at (hr.mono (by omega)) rfl T.m_valley_at T.F_valley_at.kp T.b_valley_at .nil passN (pa_cons (pv 3) (pa_cons (pe_op op_mulW (pv 1) (pv 4)) pa_nil))) (pe_op op_sub pe_int (pe_op op_mulW (pv 2) (pv 4))) (nomark _)) (pss_one (ps_ret pe_bl)) pss_nil)))
      (pss_cons (ps_set (i := 5) sc__law_long_right.nd rfl (Or.inl rfl) (pe_callN g_shifted (hr.mono (by omega)) rfl T.m_shifted T.F_shifted.kp T.kn_shifted_3 passN (pa_cons (pv 3) pa_nil) (pk_cons pe_int (pk_cons (pe_un un_neg pe_int) pk_nil))))
      (pss_cons (ps_if (PW.pt (pw_or (pt_cmpR (r := rNeD K) (op_neD hr.units) (pe_ix (r := rIxT K) ix_tup (pv 5) pe_int (fun _ _ => rfl)) (pe_tup (pa_cons (pe_op op_add (pe_op op_mulW (pv 1) pe_int) pe_int) (pa_cons (pe_op op_sub (pe_un un_neg pe_int) (pe_op op_mulW (pv 2) pe_int)) pa_nil))) (nomark _)) (pw_or1 (pt_cmpR op_ne (pe_callB (r := rLenS K) call_lenS (by rfl) T.n_len (by decide +kernel) (pa_cons (pv 5) pa_nil)) pe_int (nomark _))))) (pss_one (ps_ret pe_bl)) pss_nil)
      (pss_one (ps_ret (pe_and (pe_cmpR (r := rEqD K) (op_eqD hr.units) (pe_call g_from_capacity (hr.mono (by omega)) rfl T.m_from_capacity T.F_from_capacity.kp T.b_from_capacity .nil passN (pa_cons (pv 3) (pa_cons (pe_op op_mulW (pv 1) pe_int) pa_nil))) (pe_slice (r := rSlA K) sl_tupA (pv 3) (po_some pe_int) po_none) (nomark _)) (pe_one (pe_cmpR op_eq (pe_callB (r := rLenS K) call_lenS (by rfl) T.n_len (by decide +kernel) (pa_cons (pe_call g_from_capacity (hr.mono (by omega)) rfl T.m_from_capacity T.F_from_capacity.kp T.b_from_capacity .nil passN (pa_cons (pv 3) (pa_cons pe_int pa_nil))) pa_nil)) pe_int (nomark _))))))))))), ?_⟩
  refine ⟨_, rfl, p, m, 9, rfl, hp, by omega, by decide, by decide, fun H1 r1 s1 hp1 a0 a1 => ⟨_, _, rfl, rfl, ?_⟩⟩
  refine ⟨_, rfl, p, m + 1, 9, rfl, hp1, by omega, by decide, by decide, fun H2 r2 s2 hp2 b0 b1 => ⟨_, _, rfl, rfl, (by show 2 ≤ sizeLine; decide), fun t ht => ?_⟩⟩
  have s3 : Same H2 (upd H2 t (.tup [.int (1 + r1), .int (1 + r2)])) := same_new ht
  refine ⟨t, _, rfl, SqT.of upd_same, rfl, _, _, rfl, _, _, rfl, rfl, ?_⟩
  have S3 : Sx p H (upd H2 t (.tup [.int (1 + r1), .int (1 + r2)])) := s1.trans (s2.trans (Same.sx s3))
  have hp3 := hp2.same s3
  generalize (upd H2 t (.tup [.int (1 + r1), .int (1 + r2)])) = G0 at S3 hp3 ⊢
  clear s3 hp2 s2 hp1 s1
  have st1 : 1 ≤ 1 + r1 ∧ 1 + r1 ≤ 9 := by omega
  have st2 : 1 ≤ 1 + r2 ∧ 1 + r2 ≤ 9 := by omega
  show tSeq _ _ _ [some (.ref p), some (.int (1 + r1)), some (.int (1 + r2)), none, none, none] G0
  generalize 1 + r1 = s at st1 ⊢
  generalize 1 + r2 = f at st2 ⊢
  clear a0 a1 b0 b1
  have mul : ∀ (x : Int) (k : Int), 1 ≤ x → x ≤ 9 → 0 ≤ k → k ≤ 400 → CMulW x k := fun x k h1 h2 h3 h4 => wide_mul (a := 64) (b := 64) (by omega) (by omega) (by decide) (by decide) (by decide)
  refine ⟨_, rfl, by decide, by decide, fun D hD => ?_⟩
  refine lc_range (lo := 0) (n := (400 : Int).toNat) (fun i F => Same G0 F ∧ ∃ ws, F D = some (.lst ws) ∧ DpAll K F ws (prDs (P4 s f i))) ⟨same_new hD, [], upd_same, .nil⟩ ?_ ?_
  · rintro i F hi ⟨s4, ws, eD, hw⟩
    have hi' : i < 400 := hi
    have wl : ws.length = i := by rw [dpAll_length hw, prDs, List.length_map, P4_len]
    have e0 : (0 : Int) + (i : Int) = (i : Int) := by omega
    rw [e0]
    refine ⟨rfl, ?_⟩
    unfold tYes
    refine iteT ?_
    refine ⟨_, rfl, _, rfl, _, _, rfl, rfl, mul _ _ st1.1 st1.2 (by omega) (by omega), _, rfl, _, rfl, _, _, rfl, rfl, mul _ _ st2.1 st2.2 (by omega) (by omega), _, _, rfl, rfl, (by show 2 ≤ sizeLine; decide), fun y hy => ?_⟩
    have s5 : Same F (upd F y (.tup [.int (s * (i : Int)), .int (0 - f * (i : Int))])) := same_new hy
    have dy : Dp K (upd F y (.tup [.int (s * (i : Int)), .int (0 - f * (i : Int))])) (.ref y) (prD (s * (i : Int), 0 - f * (i : Int))) := .tup (SqT.of upd_same) (.cons (.int _) (.cons (.int _) .nil))
    have eD5 := s5 _ _ eD
    generalize (upd F y (.tup [.int (s * (i : Int)), .int (0 - f * (i : Int))])) = F2 at s5 dy eD5 ⊢
    have kk : ∀ b zs, SqT K F2 b zs → SqT K (upd F2 D (.lst (ws ++ [.ref y]))) b zs := fun b zs h => (sx_upd (p := D)).sqT eD5 h
    refine ⟨ws, eD5, small1000 (by omega), fun b o e => by rw [upd_ne (ne_of_none e hD)]; exact s5 _ _ (s4 _ _ e), _, upd_same, ?_⟩
    rw [P4_succ, prDs, List.map_append]
    exact dpAll_append (dpAll_keep kk (noLs_prV _) (dpAll_same s5 hw)) (.cons (dp_keep kk (noLs_one _) dy) .nil)
  rintro F ⟨s4, ws, eD, hw⟩
  have hw' : DpAll K F ws (prDs (P4 s f 400)) := hw
  refine ⟨D, ws, rfl, .inl ⟨SqL.of eD, fun a ha => ?_⟩⟩
  have s5 : Same F (upd F a (.tup ws)) := same_new ha
  have dv : Dp K (upd F a (.tup ws)) (.ref a) (.tuple (prDs (P4 s f 400))) := .tup (SqT.of upd_same) (dpAll_same s5 hw')
  generalize (upd F a (.tup ws)) = G1 at s5 dv ⊢
  have S45 := s4.trans s5
  clear s4 s5 eD hw hw'
  have hval : valB (.tuple (prDs (P4 s f 400))) = true := valB_iff.mpr ⟨_, rfl, by rw [P4_len]; decide, by rw [P4_len]; decide, P4_strict st1.1 st2.1 400⟩
  have bnd : ∀ k : Nat, k < 400 → numB (.int (s * (k : Int))) = true := fun k hk => by
    have h1 := Int.mul_le_mul (show s ≤ 9 by omega) (show (k : Int) ≤ 400 by omega) (by omega) (by omega)
    have h2 := Int.mul_nonneg (show 0 ≤ s by omega) (show 0 ≤ (k : Int) by omega)
    apply numB_of <;> unfold N61 <;> omega
  refine ⟨(by show 5 ≤ sizeLine; decide), fun u hu => ?_⟩
  have s6 : Same G1 (upd G1 u (.tup [.int 0, .int 1, .int 199, .int 398, .int 399])) := same_new hu
  have eu : SqT K (upd G1 u (.tup [.int 0, .int 1, .int 199, .int 398, .int 399])) u [.int 0, .int 1, .int 199, .int 398, .int 399] := SqT.of upd_same
  generalize (upd G1 u (.tup [.int 0, .int 1, .int 199, .int 398, .int 399])) = G2 at s6 eu ⊢
  have dv2 := dp_same s6 dv
  have S6 := S45.trans s6
  refine ⟨u, rfl, ⟨_, eu⟩, ?_⟩
  refine for_tup (K := K) (a := u) (xs := [.int 0, .int 1, .int 199, .int 398, .int 399]) (fun i σ G => ∃ y4 : Option V, σ = [some (.ref p), some (.int s), some (.int f), some (.ref a), y4, none] ∧ Same G2 G) ⟨none, rfl, Same.refl _⟩ (fun i σ G _ ⟨_, _, s⟩ => same_sqT s eu) ?_ ?_
  · rintro i x σ G hi ⟨y4, rfl, s7⟩
    obtain ⟨k, hk, rfl⟩ : ∃ k : Nat, k < 400 ∧ x = .int (k : Int) := by
      match i, hi with
      | 0, hi => cases hi; exact ⟨0, by decide, rfl⟩
      | 1, hi => cases hi; exact ⟨1, by decide, rfl⟩
      | 2, hi => cases hi; exact ⟨199, by decide, rfl⟩
      | 3, hi => cases hi; exact ⟨398, by decide, rfl⟩
      | 4, hi => cases hi; exact ⟨399, by decide, rfl⟩
      | i + 5, hi => simp at hi
    refine ⟨_, rfl, _, rfl, _, rfl, _, _, rfl, rfl, mul _ _ st1.1 st1.2 (by omega) (by omega), ?_⟩
    refine va_use (dp_same s7 dv2) hval (bnd k hk) fun H3 s8 => ?_
    rw [P4_val st1.1 hk]
    refine ⟨_, rfl, _, rfl, _, _, rfl, rfl, mul _ _ st2.1 st2.2 (by omega) (by omega), _, _, rfl, rfl, ?_⟩
    refine ⟨.int (0 - f * (k : Int)), .int (0 - f * (k : Int)), .int _, .int _, by rfl, by rfl, _, rfl, ?_⟩
    refine iteFx (by simp [PyData.eqv]) ?_
    exact ⟨_, rfl, s7.trans s8⟩
  · rintro σ G ⟨y4, rfl, s7⟩
    have dvG := dp_same s7 dv2
    have b5 : numB (.int 5) = true := by decide +kernel
    have b7 : numB (.int (-7)) = true := by decide +kernel
    refine ⟨_, rfl, _, rfl, rfl, rfl, sh_use dvG hval b5 b7 fun G3 lo s8 dl => ?_⟩
    obtain ⟨al, ls, rfl, hls, hlall⟩ := dp_tup_inv dl
    have ll : ls.length = 400 := by rw [dpAll_length hlall, prDs, List.length_map, movedP, List.length_map, P4_len]
    obtain ⟨x, hx⟩ : ∃ x, ls[399]? = some x := ⟨ls[399], List.getElem?_eq_getElem (by omega)⟩
    obtain ⟨pr, epr, dx⟩ := prs_at hlall hx
    have ep : pr = (s * ((399 : Nat) : Int) + 5, 0 - f * ((399 : Nat) : Int) + -7) := by
      unfold movedP at epr
      rw [List.getElem?_map, P4_at (by decide)] at epr
      exact (Option.some.inj epr).symm
    subst ep
    refine ⟨_, rfl, al, _, _, x, rfl, rfl, hls, atI_at (j := 399) rfl hx, _, rfl, _, _, rfl, rfl, mul _ _ st1.1 st1.2 (by decide) (by decide), _, _, rfl, rfl, _, rfl, _, rfl, _, _, rfl, rfl, mul _ _ st2.1 st2.2 (by decide) (by decide), _, _, rfl, rfl, (by show 2 ≤ sizeLine; decide), fun u2 hu2 => ?_⟩
    have s9 : Same G3 (upd G3 u2 (.tup [.int (s * 399 + 5), .int (-7 - f * 399)])) := same_new hu2
    have du : Dp K (upd G3 u2 (.tup [.int (s * 399 + 5), .int (-7 - f * 399)])) (.ref u2) (prD (s * 399 + 5, -7 - f * 399)) := .tup (SqT.of upd_same) (.cons (.int _) (.cons (.int _) .nil))
    generalize (upd G3 u2 (.tup [.int (s * 399 + 5), .int (-7 - f * 399)])) = G4 at s9 du ⊢
    refine ⟨_, _, dp_same s9 dx, du, shaped_pr _, shaped_pr _, _, rfl, ?_⟩
    have ee : ((s * ((399 : Nat) : Int) + 5, 0 - f * ((399 : Nat) : Int) + -7) : P2) = (s * 399 + 5, -7 - f * 399) := by
      have e1 : ((399 : Nat) : Int) = 399 := rfl
      rw [e1]
      exact Prod.ext rfl (by show 0 - f * 399 + -7 = -7 - f * 399; omega)
    rw [ee]
    refine iteFx (by rw [eqv_pr]; rfl) ?_
    refine ⟨_, rfl, al, ls, rfl, .inr (same_sqT s9 hls), rfl, _, rfl, ?_⟩
    refine iteFx (by rw [ll]; decide) ?_
    -- from the last capacity, from the first one
    have S79 := s8.trans s9
    have dv4 := dp_same S79 dvG
    obtain ⟨ps, hP⟩ := P4_cons s f
    have f399 : fromP (s * ((399 : Nat) : Int)) (P4 s f 400) = [(s * ((399 : Nat) : Int), 0 - f * ((399 : Nat) : Int))] := by
      unfold fromP
      rw [P4_val st1.1 (by decide), P4_later st1.1]
      rfl
    have l0 : (fromP 0 (P4 s f 400)).length = 400 := by
      unfold fromP
      rw [List.length_cons, P4_first st1.1]
    have hval' := hval
    have dv4' := dv4
    rw [hP] at hval' dv4' f399 l0
    have le1 : s * ((0 : Nat) : Int) ≤ s * ((399 : Nat) : Int) := Int.mul_le_mul_of_nonneg_left (by decide) (by omega)
    refine ⟨_, rfl, _, rfl, _, _, rfl, rfl, mul _ _ st1.1 st1.2 (by decide) (by decide), ?_⟩
    refine fc_use dv4' hval' (bnd 399 (by decide)) le1 fun G5 r5 s10 d5 => ?_
    have d5' : Dp K G5 r5 (.tuple (prDs [(s * ((399 : Nat) : Int), 0 - f * ((399 : Nat) : Int))])) := by rw [← f399]; exact d5
    obtain ⟨a', xs, ea, hxs, hxall⟩ := dp_tup_inv (dp_same s10 dv4)
    cases ea
    have xl : xs.length = 400 := by rw [dpAll_length hxall, prDs, List.length_map, P4_len]
    refine ⟨_, rfl, _, rfl, ?_⟩
    unfold tNoPart
    dsimp only
    refine slT hxs (fun G6 b s11 hb => ?_)
    have e399 : (399 : Int) = ((399 : Nat) : Int) := rfl
    rw [e399, cut_n (by omega)] at hb
    have db : Dp K G6 (.ref b) (.tuple (prDs [(s * ((399 : Nat) : Int), 0 - f * ((399 : Nat) : Int))])) := by
      rw [← P4_end, prDs, List.map_drop]
      exact .tup hb (dpAll_same s11 (dpAll_dropL 399 hxall))
    refine ⟨_, _, dp_same s11 d5', db, shaped_tps _, shaped_tps _, _, rfl, ?_⟩
    refine iteTx (eqv_tps _) ?_
    have s410 := s10.trans s11
    refine ⟨_, rfl, ?_⟩
    refine fc_use (dp_same s410 dv4') hval' (by decide +kernel) (by simp) fun G7 r7 s12 d7 => ?_
    obtain ⟨a7, x7, rfl, h7, h7all⟩ := dp_tup_inv d7
    have x7l : x7.length = 400 := by rw [dpAll_length h7all, prDs, List.length_map, l0]
    refine ⟨a7, x7, rfl, .inr h7, rfl, ?_⟩
    rw [x7l]
    have SS := S6.trans (s7.trans (S79.trans (s410.trans s12)))
    exact q _ (S3.trans (Same.sx SS)) (hp3.same SS)
end
/-! block Law20 (behind bV20L) -/
theorem ite_mid20 {c : Bool} {te1 te2 : TE} {σ : L2.St} {H : Hp} {Q : VK} (R : V → Hp → Prop) (h1 : c = true → ∀ Q : VK, (∀ x H', R x H' → Q x H') → te1 σ H Q) (h2 : c = false → ∀ Q : VK, (∀ x H', R x H' → Q x H') → te2 σ H Q)
    (h : ∀ x H', R x H' → Q x H') : if c = true then te1 σ H Q else te2 σ H Q := by
  cases c with
  | true => exact h1 rfl Q h
  | false => exact h2 rfl Q h
theorem iteTx20 {c : Bool} {A B : Prop} (h : c = true) (a : A) : if c = true then A else B := by
  rw [if_pos h]
  exact a
theorem and_mid20 {c : Bool} {t : TT} {σ : L2.St} {H : Hp} {Q : Bool → Hp → Prop} (R : Hp → Prop) (h1 : c = true → ∀ Q : Bool → Hp → Prop, (∀ H', R H' → Q false H') → t σ H Q) (h2 : c = false → R H) (h : ∀ H', R H' → Q false H') : if c = true then t σ H Q else Q false H := by
  cases c with
  | true => exact h1 rfl Q h
  | false => exact h _ (h2 rfl)
/-- what is known within a turn: the source at p, the valleys v, those of them that are inside at D -/
structure Bd {mg : Str → Option Value} (K : PySem.W.Frag) (T : Txt K mg) (p D : Addr) (v : V) (ps qs : List P2) (ws : List V) (Gs G : Hp) (m : Nat) : Prop where
  sx : SxN p Gs G
  tab : LamX.Tabs (lamT T) G
  pot : Pot G p m
  dv : Dp K G v (.tuple (prDs ps))
  eD : G D = some (.lst ws)
  dw : DpAll K G ws (prDs qs)
section
variable {mg : Str → Option Value} {K : PySem.W.Frag} {T : Txt K mg} {p D : Addr} {v : V} {ps qs : List P2} {ws : List V} {Gs G G' : Hp} {m m' : Nat}
theorem Bd.step (b : Bd K T p D v ps qs ws Gs G m) (n : D ≠ p) (s : SxN p G G') (t : LamX.Tabs (lamT T) G') (hp : Pot G' p m') : Bd K T p D v ps qs ws Gs G' m' := by
  obtain ⟨l, hl⟩ := b.pot.lst
  exact ⟨b.sx.trans s, t, hp, s.dp hl (by simp only [noL]; exact noLs_prV _) b.dv, s D _ n b.eD (fun q z => by cases z), dpAll_keep (fun a xs z => s.sqT hl z) (noLs_prV _) b.dw⟩
theorem Bd.sxp (b : Bd K T p D v ps qs ws Gs G m) (n : D ≠ p) (s : Sx p G G') (hp : Pot G' p m') : Bd K T p D v ps qs ws Gs G' m' := by
  obtain ⟨l, hl⟩ := b.pot.lst
  exact b.step n (.of s) (tabs_sx b.tab s hl) hp
theorem Bd.same (b : Bd K T p D v ps qs ws Gs G m) (n : D ≠ p) (s : Same G G') : Bd K T p D v ps qs ws Gs G' m := b.sxp n (Same.sx s) (b.pot.same s)
theorem Bd.mono (b : Bd K T p D v ps qs ws Gs G m) (h : m ≤ m') : Bd K T p D v ps qs ws Gs G m' := ⟨b.sx, b.tab, b.pot.mono h, b.dv, b.eD, b.dw⟩
end
theorem tabs_start {mg : Str → Option Value} {K : PySem.W.Frag} {T : Txt K mg} {H : Hp} (h : ∀ p ∈ [(T.cc__law_later_right, T.ct__law_later_right), (T.cc__law_outcomes, T.ct__law_outcomes), (T.cc__law_errors_right, T.ct__law_errors_right)], H p.2 = some (.tbl #[])) : LamX.Tabs (lamT T) H := by
  intro q hq
  simp only [lamT, List.mem_cons, List.not_mem_nil, or_false] at hq
  rcases hq with rfl | rfl | rfl
  · exact LamX.TabS.nil (h (T.cc__law_later_right, T.ct__law_later_right) (by simp))
  · exact LamX.TabS.nil (h (T.cc__law_outcomes, T.ct__law_outcomes) (by simp))
  · exact LamX.TabS.nil (h (T.cc__law_errors_right, T.ct__law_errors_right) (by simp))
theorem ext_free {H H1 H2 : Hp} {p : Addr} (s : LamX.ExtN H H1) (h : H1 p = none) (t : SxN p H1 H2) : LamX.ExtN H H2 := fun b o e z => by
  have e1 := s b o e z
  exact t b o (fun y => by rw [y, h] at e1; cases e1) e1 z
/-- within the capacity 10 ** 60 -/
def inP (ps : List P2) : List P2 := ps.filter fun q => decide ((if q.1 < 0 then -q.1 else q.1) < E60)
theorem inP_bd {ps : List P2} : ∀ q ∈ inP ps, -E60 < q.1 ∧ q.1 < E60 := by
  intro q hq
  unfold inP at hq
  rw [List.mem_filter, decide_eq_true_eq] at hq
  have := hq.2
  split at this <;> omega
theorem rv_fine {t : Nat} {ps : List P2} (h : Rv t ps) : fine (.tuple (prDs ps)) := by
  simp only [fine]
  have : ∀ qs : List P2, (∀ q ∈ qs, -2000000000000000000000000000000000000000000000000000000000000 ≤ q.1 ∧ q.1 ≤ 2000000000000000000000000000000000000000000000000000000000000 ∧ -2000000000000000000000000000000000000000000000000000000000000 ≤ q.2 ∧ q.2 ≤ 2000000000000000000000000000000000000000000000000000000000000) → fines (prDs qs) := by
    intro qs
    induction qs with
    | nil => intro _; exact trivial
    | cons q qs ih =>
      intro hb
      have h0 := hb q (List.mem_cons_self ..)
      have h1 := ih fun z hz => hb z (List.mem_cons_of_mem _ hz)
      have big : (2000000000000000000000000000000000000000000000000000000000000 : Nat) < 10 ^ 180 := by decide +kernel
      show fine (prD q) ∧ fines (prDs qs)
      refine ⟨?_, h1⟩
      simp only [fine, fines, and_true]
      exact ⟨Nat.lt_of_le_of_lt (by omega) big, Nat.lt_of_le_of_lt (by omega) big⟩
  exact this ps h.bd
theorem prs_bulk : ∀ ps : List P2, PyData.bulkAll (prDs ps) ≤ 1000 * ps.length
  | [] => by simp [prDs, PyData.bulkAll]
  | q :: ps => by
    have h := prs_bulk ps
    show PyData.bulkAll (prD q :: prDs ps) ≤ _
    simp only [PyData.bulkAll, PyData.bulk, List.length_cons]
    omega
theorem rv_bulk {t : Nat} {ps : List P2} (h : Rv t ps) (ht : t ≤ 12) : (PyData.tuple (prDs ps)).bulk ≤ 80000 := by
  have h1 := prs_bulk ps
  have h2 := h.len
  simp only [PyData.bulk]
  omega
theorem rv_depth (ps : List P2) : (PyData.tuple (prDs ps)).depth ≤ 64 := by
  have h1 := prs_depthV ps
  simp only [PyData.depth]
  omega
theorem shaped_lps (ps : List P2) : SeqAt.shaped (.list (prDs ps)) = true := by
  have h := shaped_tps ps
  unfold SeqAt.shaped at h ⊢
  simpa [PyData.canLay0, PyData.depth] using h
theorem eqv_lps_nil (ps : List P2) : PyData.eqv (.list (prDs ps)) (.list []) = decide (ps = []) := by
  cases ps <;> simp [PyData.eqv, PyData.eqvAll, prDs]
def repOD : Option Int → PyData
  | none => .none
  | some x => .int x
theorem rep_dp {K : PySem.W.Frag} {H : Hp} : ∀ o : Option Int, Dp K H (repO o) (repOD o)
  | none => .non
  | some x => .int x
theorem rep_mem {c : Int} {ps : List P2} {x : Int} (h : valAt c ps = some x) : ∃ q ∈ ps, q.2 = x := by
  rcases valFrom_mem h with z | ⟨q, hq, _, e⟩
  · cases z
  · exact ⟨q, hq, e⟩
theorem rep_two {t : Nat} {ps : List P2} (h : Rv t ps) (c : Int) : fine (.list [repOD (valAt c ps), repOD (valAt c ps)]) ∧ (PyData.list [repOD (valAt c ps), repOD (valAt c ps)]).depth ≤ 64 ∧ (PyData.list [repOD (valAt c ps), repOD (valAt c ps)]).bulk ≤ 80000 := by
  cases e : valAt c ps with
  | none => exact ⟨by simp [repOD, fine, fines], by simp [repOD, PyData.depth, PyData.depthAll], by simp [repOD, PyData.bulk, PyData.bulkAll]⟩
  | some x =>
    obtain ⟨q, hq, rfl⟩ := rep_mem e
    have hb := h.bd q hq
    have big : (2000000000000000000000000000000000000000000000000000000000000 : Nat) < 10 ^ 180 := by decide +kernel
    have f : q.2.natAbs < 10 ^ 180 := Nat.lt_of_le_of_lt (by omega) big
    exact ⟨by simp only [repOD, fine, fines, and_true]; exact ⟨f, f⟩, by simp [repOD, PyData.depth, PyData.depthAll], by simp [repOD, PyData.bulk, PyData.bulkAll]⟩
def spLaw (K : PySem.W.Frag) (cs : List (Addr × Addr)) : Sp := fun vs H Q _ => ∃ (a : Addr) (ns : List Int), vs = [.ref a] ∧ (∀ p ∈ cs, H p.2 = some (.tbl #[])) ∧ SqL K H a (ns.map V.int) ∧ ns.length ≤ 63 ∧ ∀ H', Q (.bl true) H'
section
variable {P : Program} {w : World} {K : PySem.W.Frag} {mg : Str → Option Value} {base : Heap}
theorem ok_law {f : Addr} {fd : FuncData} (F : Fun K "law" "law" s_law f fd) (T : Txt K mg) (TB__law_later_right : LamX.TabB base mg T.cc__law_later_right T.ct__law_later_right) (TB__law_outcomes : LamX.TabB base mg T.cc__law_outcomes T.ct__law_outcomes) (TB__law_errors_right : LamX.TabB base mg T.cc__law_errors_right T.ct__law_errors_right) :
    FnG P w K mg base CX0 60 f fd ["_law_script"] (spLaw K [(T.cc__law_later_right, T.ct__law_later_right), (T.cc__law_outcomes, T.ct__law_outcomes), (T.cc__law_errors_right, T.ct__law_errors_right)]) := by
  have g__law_source := ok_source (P := P) (w := w) (base := base) T
  have g__law_random_valleys := ok_rvs (P := P) (w := w) (base := base) T
  have g__law_near_capacities := ok_near (P := P) (w := w) (base := base) T
  have g_valley_at := ok_vla (P := P) (w := w) (base := base) T
  have g__law_value_at := ok_lvat (P := P) (w := w) (base := base) T
  have g__law_shifts_right := ok_shr (P := P) (w := w) (base := base) T
  have g__law_errors_right := ok_err (P := P) (w := w) (base := base) T TB__law_outcomes TB__law_errors_right
  have g__law_later_right := ok_lat (P := P) (w := w) (base := base) T TB__law_later_right
  have g__law_long_right := ok_lng (P := P) (w := w) (base := base) T
  refine okG F sc_law (fun vs H Q E h => ?_) (fun cdv A outer s H vs Q E hr gd h => ?_)
  · obtain ⟨a, ns, rfl, _⟩ := h
    rfl
  obtain ⟨a, ns, rfl, hT0, hS, hlen, q⟩ := h
  have hT := tabs_start (T := T) hT0
  refine ⟨_, (pss_cons (ps_for PassesOwn.never rfl (pi_range1 rfl T.n_range (pa_cons (pe_callB (call_max2 rfl) (by rfl) T.n_max (by decide +kernel) (pa_cons pe_int (pa_cons (pe_callB (call_min2 rfl) (by rfl) T.n_min (by decide +kernel) (pa_cons pe_int (pa_cons (pe_callB (r := rLenS K) call_lenS (by rfl) T.n_len (by decide +kernel) (pa_cons (pv 0) pa_nil)) pa_nil))) pa_nil))) pa_nil)) (pg_name (i := 1) sc_law.nd rfl (Or.inl rfl))
        (pss_cons (ps_set (i := 2) sc_law.nd rfl (Or.inl rfl) (pe_call g__law_source (hr.mono (by omega)) rfl T.m__law_source T.F__law_source.kp T.b__law_source .nil pass0 (pa_cons (pv 0) (pa_cons (pv 1) pa_nil))))
        (pss_cons (ps_set (i := 3) sc_law.nd rfl (Or.inl rfl) (pe_call g__law_random_valleys (hr.mono (by omega)) rfl T.m__law_random_valleys T.F__law_random_valleys.kp T.b__law_random_valleys .nil pass0 (pa_cons (pv 2) (pa_cons pe_int pa_nil))))
        (pss_cons (ps_set (i := 4) sc_law.nd rfl (Or.inl rfl) (pe_callB (r := rRepr K) (call_reprD gd (room66 hr)) (by rfl) T.n_repr (by decide +kernel) (pa_cons (pv 3) pa_nil)))
        (pss_cons (ps_setLc (i := 5) (own := [("_law_pair", 8)]) (g := (gName 8)) (by rfl) sc_law.nd rfl rfl (sw_true rfl rfl rfl (by decide +kernel)) (pi_tup (pv 3)) (blkOk_by (N := N_law) (sc := (defScope s_law)) (by decide +kernel)) (fun _ _ _ _ _ => (pg_name (i := 8) sc_law.nd rfl (Or.inl rfl))) (fun _ _ _ _ _ => (pts_one (pt_cmpR op_lt (pe_callB call_abs (by rfl) T.n_abs (by decide +kernel) (pa_cons (pe_ix (r := rIxT K) ix_tup (pv 8) pe_int (fun _ _ => rfl)) pa_nil)) (pe_op op_powW pe_int pe_int) (nomark _)))) (fun _ _ _ _ _ => (pv 8)))
        (pss_cons (ps_for PassesOwn.never rfl (pi_list (pe_ifExp (pt_cmpR (r := rNeD K) (op_neD hr.units) (pv 5) (pe_lst pa_nil) (nomark _)) (pe_call g__law_near_capacities (hr.mono (by omega)) rfl T.m__law_near_capacities T.F__law_near_capacities.kp T.b__law_near_capacities .nil pass0 (pa_cons (pv 2) (pa_cons (pv 5) pa_nil))) (pe_lst (pa_cons pe_int (pa_cons (pe_op op_sub (pe_op op_powW pe_int pe_int) pe_int) pa_nil))))) (pg_name (i := 6) sc_law.nd rfl (Or.inl rfl))
          (pss_cons (ps_set (i := 7) sc_law.nd rfl (Or.inl rfl) (pe_lst (pa_cons (pe_call g_valley_at (hr.mono (by omega)) rfl T.m_valley_at T.F_valley_at.kp T.b_valley_at .nil passN (pa_cons (pv 3) (pa_cons (pv 6) pa_nil))) (pa_cons (pe_call g_valley_at (hr.mono (by omega)) rfl T.m_valley_at T.F_valley_at.kp T.b_valley_at .nil passN (pa_cons (pv 3) (pa_cons (pv 6) pa_nil))) pa_nil))))
          (pss_one (ps_if (pt_cmpR op_ne (pe_callB (r := rRepr K) (call_reprD gd (room66 hr)) (by rfl) T.n_repr (by decide +kernel) (pa_cons (pv 7) pa_nil)) (pe_callB (r := rRepr K) (call_reprD gd (room66 hr)) (by rfl) T.n_repr (by decide +kernel) (pa_cons (pe_op op_rep (pe_lst (pa_cons (pe_call g__law_value_at (hr.mono (by omega)) rfl T.m__law_value_at T.F__law_value_at.kp T.b__law_value_at .nil pass0 (pa_cons (pv 3) (pa_cons (pv 6) pa_nil))) pa_nil)) pe_int) pa_nil)) (nomark _)) (pss_one (ps_ret pe_bl)) pss_nil))))
        (pss_cons (ps_if (PW.pt (pw_or (pt_not (pt_val (pe_call g__law_shifts_right (hr.mono (by omega)) rfl T.m__law_shifts_right T.F__law_shifts_right.kp T.b__law_shifts_right .nil pass0 (pa_cons (pv 2) (pa_cons (pv 3) pa_nil))))) (pw_or1 (pt_not (pt_val (pe_callG g__law_errors_right (hr.mono (by omega)) gd rfl T.m__law_errors_right T.F__law_errors_right.kp T.b__law_errors_right .nil (pa_cons (pv 2) (pa_cons (pv 3) pa_nil)))))))) (pss_one (ps_ret pe_bl)) pss_nil)
        (pss_cons (ps_if (PW.pt (pw_and (pt_cmpR (r := rNeD K) (op_neD hr.units) (pv 5) (pe_lst pa_nil) (nomark _)) (pw_and1 (pt_not (pt_val (pe_call g__law_later_right (hr.mono (by omega)) rfl T.m__law_later_right T.F__law_later_right.kp T.b__law_later_right .nil pass0 (pa_cons (pv 2) (pa_cons (pv 3) pa_nil)))))))) (pss_one (ps_ret pe_bl)) pss_nil)
        (pss_one (ps_if (PW.pt (pw_or (pt_cmpR op_ne (pe_callB (r := rRepr K) (call_reprD gd (room66 hr)) (by rfl) T.n_repr (by decide +kernel) (pa_cons (pv 3) pa_nil)) (pv 4) (nomark _)) (pw_or1 (PW.pt (pw_and (pt_cmpR op_eq (pv 1) pe_int (nomark _)) (pw_and1 (pt_not (pt_val (pe_call g__law_long_right (hr.mono (by omega)) rfl T.m__law_long_right T.F__law_long_right.kp T.b__law_long_right .nil pass0 (pa_cons (pv 2) pa_nil)))))))))) (pss_one (ps_ret pe_bl)) pss_nil))))))))))
      (pss_one (ps_ret (pe_and (pe_cmpR (r := rEqD K) (op_eqD hr.units) (pe_call g_valley_at (hr.mono (by omega)) rfl T.m_valley_at T.F_valley_at.kp T.b_valley_at .nil passN (pa_cons (pw_tup (pws_cons (pw_tup (pws_cons (pw_int (E := []) (n := 0) pe_int (by decide +kernel) (fun σ H Q q => q)) (pws_cons (pw_int (E := []) (n := 0) pe_int (by decide +kernel) (fun σ H Q q => q)) (pws_nil (E := [])))) (by decide)) (pws_nil (E := []))) (by decide)) (pa_cons (pe_op op_sub (pe_op op_powW pe_int pe_int) pe_int) pa_nil))) pe_int (nomark _)) (pe_one (pe_cmpR op_isN (pe_call g_valley_at (hr.mono (by omega)) rfl T.m_valley_at T.F_valley_at.kp T.b_valley_at .nil passN (pa_cons (pw_tup (pws_cons (pw_tup (pws_cons (pw_int (E := []) (n := -3) (pe_un un_neg pe_int) (by decide +kernel) (fun σ H Q q => ⟨_, rfl, q⟩)) (pws_cons (pw_int (E := []) (n := 2) pe_int (by decide +kernel) (fun σ H Q q => q)) (pws_nil (E := [])))) (by decide)) (pws_cons (pw_tup (pws_cons (pw_int (E := []) (n := 4) pe_int (by decide +kernel) (fun σ H Q q => q)) (pws_cons (pw_int (E := []) (n := 1) pe_int (by decide +kernel) (fun σ H Q q => q)) (pws_nil (E := [])))) (by decide)) (pws_nil (E := [])))) (by decide)) (pa_cons (pe_un un_neg pe_int) pa_nil))) pe_non (nomark _))))))), ?_⟩
  refine ⟨_, rfl, a, _, rfl, .inl hS, _, _, rfl, _, _, rfl, _, rfl, ?_, ?_, ?_⟩
  · show -(2 ^ 62) ≤ (if (if (((ns.map V.int).length : Nat) : Int) < 10 then (((ns.map V.int).length : Nat) : Int) else 10) > 1 then (if (((ns.map V.int).length : Nat) : Int) < 10 then (((ns.map V.int).length : Nat) : Int) else 10) else 1)
    split <;> (try split) <;> omega
  · show (if (if (((ns.map V.int).length : Nat) : Int) < 10 then (((ns.map V.int).length : Nat) : Int) else 10) > 1 then (if (((ns.map V.int).length : Nat) : Int) < 10 then (((ns.map V.int).length : Nat) : Int) else 10) else 1) < 2 ^ 62
    split <;> (try split) <;> omega
  have hturns : (if (if (((ns.map V.int).length : Nat) : Int) < 10 then (((ns.map V.int).length : Nat) : Int) else 10) > 1 then (if (((ns.map V.int).length : Nat) : Int) < 10 then (((ns.map V.int).length : Nat) : Int) else 10) else 1).toNat ≤ 10 := by
    split <;> (try split) <;> omega
  generalize (if (if (((ns.map V.int).length : Nat) : Int) < 10 then (((ns.map V.int).length : Nat) : Int) else 10) > 1 then (if (((ns.map V.int).length : Nat) : Int) < 10 then (((ns.map V.int).length : Nat) : Int) else 10) else 1) = turns at hturns ⊢
  refine for_range (lo := 0) (n := turns.toNat) (fun i σ G => ∃ y1 y2 y3 y4 y5 y6 y7 y8 : Option V, σ = [some (.ref a), y1, y2, y3, y4, y5, y6, y7, y8] ∧ LamX.ExtN H G ∧ LamX.Tabs (lamT T) G) ⟨none, none, none, none, none, none, none, none, rfl, LamX.ExtN.refl _, hT⟩ ?_ ?_
  · rintro i σ G hi ⟨y1, y2, y3, y4, y5, y6, y7, y8, rfl, xG, tG⟩
    have e60 : (10 : Int) ^ (60 : Int).toNat = E60 := by decide
    have e61 : (10 : Int) ^ (61 : Int).toNat = 10000000000000000000000000000000000000000000000000000000000000 := by decide
    refine ⟨_, rfl, _, rfl, a, ns, 0 + (i : Int), rfl, extN_L xG hS, by omega, by omega, by omega, fun G1 p s1 hpn hp => ?_⟩
    refine ⟨_, rfl, p, 0, 12, rfl, hp, by decide, by decide, by decide, fun G2 v ps s2 hp2 dv hv => ?_⟩
    obtain ⟨l1, hl1⟩ := hp.lst
    have tG2 := tabs_sx (tabs_same tG s1) s2 hl1
    have hval := rv_val hv (by decide)
    have S2 : Sx p G G2 := (Same.sx s1).trans s2
    have fv := rv_fine hv
    have bv := rv_bulk hv (by decide)
    have dpv := rv_depth ps
    -- kept
    refine ⟨_, rfl, _, _, rfl, dv, fv, dpv, bv, ?_⟩
    -- inside
    obtain ⟨av, xs, rfl, hs, hall⟩ := dp_tup_inv dv
    have hl : xs.length = ps.length := by rw [dpAll_length hall, prDs, List.length_map]
    have h12 := hv.len
    refine ⟨_, rfl, av, rfl, ⟨xs, hs⟩, fun D hD => ?_⟩
    obtain ⟨l2, hl2⟩ := hp2.lst
    have nDp : D ≠ p := fun z => by rw [z, hl2] at hD; cases hD
    refine lc_tup (K := K) (a := av) (xs := xs) (fun i F => Same G2 F ∧ ∃ ws, F D = some (.lst ws) ∧ DpAll K G2 ws (prDs (inP (ps.take i)))) ⟨same_new hD, [], upd_same, .nil⟩ (fun i F _ ⟨s, _⟩ => same_sqT s hs) ?_ ?_
    · rintro i x F hi ⟨s3, ws, eD, hw⟩
      obtain ⟨c, ec, dx⟩ := prs_at hall hi
      obtain ⟨t, rfl, k⟩ := pr_inv dx
      have etk : ps.take (i + 1) = ps.take i ++ [c] := by rw [List.take_add_one, ec]; rfl
      have el : inP (ps.take (i + 1)) = inP (ps.take i) ++ if (if c.1 < 0 then -c.1 else c.1) < E60 then [c] else [] := by
        rw [etk]
        unfold inP
        rw [List.filter_append, List.filter_cons, List.filter_nil]
        simp only [decide_eq_true_eq]
      have wl : ws.length ≤ 12 := by
        have h1 := dpAll_length hw
        have h2 := List.length_filter_le (fun q : P2 => decide ((if q.1 < 0 then -q.1 else q.1) < E60)) (ps.take i)
        rw [prDs, List.length_map] at h1
        unfold inP at h1
        rw [List.length_take] at h2
        omega
      refine ⟨rfl, ?_⟩
      refine ⟨_, rfl, _, _, _, _, rfl, rfl, same_sqT s3 k, atI_at (j := 0) rfl rfl, _, rfl, _, _, rfl, rfl, powW_of 4 (by decide) (by decide) (by decide), _, _, rfl, rfl, _, rfl, ?_⟩
      rw [e60]
      refine ite2 (fun z => ?_) (fun z => ?_)
      · rw [if_pos (of_decide_eq_true z)] at el
        refine ⟨_, rfl, ws, eD, small1000 (by omega), fun b o e => by rw [upd_ne (ne_of_none e hD)]; exact s3 _ _ e, _, upd_same, ?_⟩
        rw [el, prDs, List.map_append]
        exact dpAll_append hw (.cons dx .nil)
      · rw [if_neg (fun y => z (decide_eq_true y)), List.append_nil] at el
        rw [el]
        exact ⟨s3, ws, eD, hw⟩
    rintro F ⟨s3, ws, eD, hw⟩
    rw [hl, List.take_length] at hw
    have wl := dpAll_length hw
    rw [prDs, List.length_map] at wl
    have ib := inP_bd (ps := ps)
    have il : (inP ps).length ≤ 12 := by
      have h2 := List.length_filter_le (fun q : P2 => decide ((if q.1 < 0 then -q.1 else q.1) < E60)) ps
      unfold inP
      omega
    have B0 : Bd K T p D (.ref av) ps (inP ps) ws G1 F 58 := ⟨.of (s2.trans (Same.sx s3)), tabs_same tG2 s3, hp2.same s3, dp_same s3 dv, eD, dpAll_same s3 hw⟩
    generalize inP ps = qs at B0 ib il wl
    clear hw eD s3 hD hl2 hall hs hl dv hp2
    have eD := B0.eD
    show tSeq _ _ _ [some (.ref a), some (.int (0 + (i : Int))), some (.ref p), some (.ref av), some (.str (PyData.tuple (prDs ps)).shown), some (.ref D), y6, y7, y8] F
    generalize hn : (0 + (i : Int)) = n
    refine ⟨_, rfl, (by show 0 ≤ sizeLine; decide), fun r hr => ?_⟩
    have B1 := B0.same nDp (same_new (o := .lst []) hr)
    have er : (upd F r (.lst [])) r = some (.lst []) := upd_same
    generalize (upd F r (.lst [])) = F1 at B1 er ⊢
    refine ⟨.list (prDs qs), .list [], .lst (SqL.of B1.eD) B1.dw, .lst (SqL.of er) .nil, shaped_lps qs, rfl, _, rfl, ?_⟩
    refine ite_mid20 (fun x H' => ∃ (t : Addr) (ns : List Int), x = .ref t ∧ Bd K T p D (.ref av) ps qs ws G1 H' 60 ∧ H' t = some (.lst (ns.map V.int)) ∧ ∀ n ∈ ns, numB (.int n) = true) (fun z Q q => ?_) (fun z Q q => ?_) ?_
    · rw [eqv_lps_nil] at z
      have h1 : 1 ≤ qs.length := by
        cases qs with
        | nil => simp at z
        | cons q0 q1 => simp
      refine ⟨_, rfl, _, rfl, p, D, 58, ws, qs, rfl, B1.pot, by decide, nDp, B1.eD, B1.dw, h1, by omega, ib, fun H' t ns sx pot' et ht _ nb => ?_⟩
      refine q _ _ ⟨t, ns, rfl, B1.sxp nDp sx pot', et, fun z hz => ?_⟩
      have := nb z hz
      unfold E60 at this
      apply numB_of <;> unfold N61 <;> omega
    · refine ⟨_, _, rfl, rfl, powW_of 4 (by decide) (by decide) (by decide), _, _, rfl, rfl, (by show 2 ≤ sizeLine; decide), fun t ht => ?_⟩
      refine q _ _ ⟨t, [0, 10 ^ (61 : Int).toNat - 1], rfl, (B1.same nDp (same_new ht)).mono (by decide), upd_same, fun z hz => ?_⟩
      simp only [List.mem_cons, List.not_mem_nil, or_false] at hz
      rw [e61] at hz
      rcases hz with rfl | rfl
      · apply numB_of <;> unfold N61 <;> omega
      · apply numB_of <;> unfold N61 <;> omega
    rintro x F2 ⟨t, ns, rfl, B2, et, hns⟩
    refine ⟨_, rfl, ⟨_, SqL.of et⟩, ?_⟩
    refine for_list (K := K) (a := t) (xs := ns.map V.int) (fun i σ G' => ∃ y6 y7 : Option V, σ = [some (.ref a), some (.int n), some (.ref p), some (.ref av), some (.str (PyData.tuple (prDs ps)).shown), some (.ref D), y6, y7, y8] ∧ Same F2 G') ⟨y6, y7, rfl, Same.refl _⟩ (fun i σ G' _ ⟨_, _, _, s⟩ => SqL.of (s _ _ et)) ?_ ?_
    · rintro i x σ G' hi ⟨y6', y7', rfl, s4⟩
      obtain ⟨z, hz, rfl⟩ : ∃ z ∈ ns, x = V.int z := by
        obtain ⟨z, h1, h2⟩ := List.mem_map.mp (List.mem_of_getElem? hi)
        exact ⟨z, h1, h2.symm⟩
      have bz := hns z hz
      have dv4 := dp_same s4 B2.dv
      refine ⟨_, rfl, _, rfl, va_use dv4 hval bz fun H5 s5 => ?_⟩
      refine ⟨_, rfl, _, rfl, va_use (dp_same s5 dv4) hval bz fun H6 s6 => ⟨(by show 2 ≤ sizeLine; decide), fun u hu => ?_⟩⟩
      have s7 : Same H6 (upd H6 u (.lst [repO (valAt z ps), repO (valAt z ps)])) := same_new hu
      have eu : (upd H6 u (.lst [repO (valAt z ps), repO (valAt z ps)])) u = some (.lst [repO (valAt z ps), repO (valAt z ps)]) := upd_same
      have S7 := s4.trans (s5.trans (s6.trans s7))
      generalize (upd H6 u (.lst [repO (valAt z ps), repO (valAt z ps)])) = H7 at S7 eu ⊢
      clear s7 s6 s5 dv4
      obtain ⟨tw1, tw2, tw3⟩ := rep_two hv z
      have dl : ∀ {H8 : Hp} {u : Addr}, H8 u = some (.lst [repO (valAt z ps), repO (valAt z ps)]) → Dp K H8 (.ref u) (.list [repOD (valAt z ps), repOD (valAt z ps)]) := fun e => .lst (SqL.of e) (.cons (rep_dp _) (.cons (rep_dp _) .nil))
      refine ⟨_, rfl, _, _, rfl, dl eu, tw1, tw2, tw3, ?_⟩
      refine ⟨_, rfl, _, rfl, .ref av, ps, z, rfl, dp_same S7 B2.dv, (by show 1 ≤ sizeLine; decide), fun u1 hu1 => ⟨u1, 2, _, rfl, rfl, upd_same, by decide, by decide, (by show 1 * 2 ≤ sizeLine; decide), fun u2 hu2 => ?_⟩⟩
      have s9 := (same_new (o := .lst [repO (valAt z ps)]) hu1).trans (same_new (o := .lst [repO (valAt z ps), repO (valAt z ps)]) hu2)
      refine ⟨_, _, rfl, dl upd_same, tw1, tw2, tw3, rfl, _, rfl, ?_⟩
      refine iteFx (by simp) ?_
      exact ⟨_, _, rfl, S7.trans s9⟩
    rintro σ F3 ⟨y6', y7', rfl, s4⟩
    have B3 := B2.same nDp s4
    clear B2 B1 B0 et er hr
    refine ⟨_, rfl, _, rfl, p, 60, .ref av, ps, rfl, B3.pot, by decide, B3.dv, hv, fun F4 s5 hp5 => ⟨_, rfl, ?_⟩⟩
    have B4 := B3.sxp nDp s5 hp5
    clear B3 s5 hp5 s4
    refine iteFx rfl ?_
    refine ⟨_, rfl, _, rfl, p, 62, .ref av, ps, rfl, B4.pot, by decide, B4.tab, B4.dv, hv, fun F5 x6 T5 hp6 => ⟨_, rfl, ?_⟩⟩
    have B5 := B4.step nDp x6 T5 hp6
    clear B4 x6 T5 hp6
    refine iteFx rfl ?_
    show tSeq _ _ _ [some (.ref a), some (.int n), some (.ref p), some (.ref av), some (.str (PyData.tuple (prDs ps)).shown), some (.ref D), y6', y7', y8] F5
    refine ⟨_, rfl, (by show 0 ≤ sizeLine; decide), fun r hr => ?_⟩
    have B6 := B5.same nDp (same_new (o := .lst []) hr)
    have er : (upd F5 r (.lst [])) r = some (.lst []) := upd_same
    generalize (upd F5 r (.lst [])) = F6 at B6 er ⊢
    refine ⟨.list (prDs qs), .list [], .lst (SqL.of B6.eD) B6.dw, .lst (SqL.of er) .nil, shaped_lps qs, rfl, _, rfl, ?_⟩
    clear B5 er hr
    refine and_mid20 (fun F7 => ∃ m7, Bd K T p D (.ref av) ps qs ws G1 F7 m7 ∧ m7 ≤ 66) (fun z Q q => ?_) (fun z => ⟨_, B6, by decide⟩) ?_
    · obtain ⟨p0, pr, rfl⟩ : ∃ p0 pr, ps = p0 :: pr := by
        cases hp0 : ps with
        | nil => exact absurd hv.one (by rw [hp0]; decide)
        | cons p0 pr => exact ⟨p0, pr, rfl⟩
      refine ⟨_, rfl, _, rfl, p, 64, .ref av, p0, pr, rfl, B6.pot, by decide, B6.tab, B6.dv, hv, fun F7 x7 T7 hp7 => ⟨_, rfl, ?_⟩⟩
      exact q _ ⟨_, B6.step nDp x7 T7 hp7, by decide⟩
    rintro F7 ⟨m7, B7, hm7⟩
    clear B6
    refine iteFx rfl ?_
    refine ⟨_, rfl, _, _, rfl, B7.dv, fv, dpv, bv, _, rfl, rfl, _, rfl, ?_⟩
    refine iteFx (by simp) ?_
    refine ⟨_, rfl, rfl, _, rfl, ?_⟩
    refine and_mid20 (fun F8 => ∃ m8, Bd K T p D (.ref av) ps qs ws G1 F8 m8) (fun z Q q => ?_) (fun z => ⟨_, B7⟩) ?_
    · refine ⟨_, rfl, p, m7, rfl, B7.pot, by omega, fun F8 s8 hp8 => ⟨_, rfl, ?_⟩⟩
      exact q _ ⟨_, B7.sxp nDp s8 hp8⟩
    rintro F8 ⟨m8, B8⟩
    refine iteFx rfl ?_
    exact ⟨_, _, _, _, _, _, _, _, rfl, ext_free xG hpn ((SxN.of (Same.sx s1)).trans B8.sx), B8.tab⟩
  · rintro σ G ⟨y1, y2, y3, y4, y5, y6, y7, y8, rfl, xG, tG⟩
    have e61 : (10 : Int) ^ (61 : Int).toNat = 10000000000000000000000000000000000000000000000000000000000000 := by decide
    refine ⟨Ns.nil, fun G1 v1 s1 d1 => ?_⟩
    refine ⟨_, _, rfl, rfl, powW_of 4 (by decide) (by decide) (by decide), _, _, rfl, rfl, ?_⟩
    refine va_use (ps := [(0, 0)]) d1 (by decide) (by rw [e61]; apply numB_of <;> unfold N61 <;> omega) fun G2 s2 => ?_
    have v1 : valAt (10 ^ (61 : Int).toNat - 1) [(0, 0)] = some 0 := by rw [e61]; decide
    rw [v1]
    refine ⟨.int 0, .int 0, .int _, .int _, rfl, rfl, _, rfl, ?_⟩
    refine iteTx20 (by decide) ?_
    refine ⟨Ns.nil, fun G3 v3 s3 d3 => ⟨_, rfl, ?_⟩⟩
    refine va_use (ps := [(-3, 2), (4, 1)]) d3 (by decide) (by apply numB_of <;> unfold N61 <;> omega) fun G4 s4 => ?_
    have v2 : valAt (-4) [(-3, 2), (4, 1)] = none := by decide
    rw [v2]
    exact ⟨rfl, q _⟩
end
/-- where the table of a def's lambdas lies -/
theorem tabIn_of {K : PySem.W.Frag} {x : Str} {f c P : Addr} {cl1 cl2 : Value} {z1 z2 : Option Addr} {b1 b2 : Array (Option Value)} {fd : FuncData} {vs : Array Value} (h1 : PySem.W.nsIn K mainGlobals x = some (some (.ref f))) (h2 : K.lookup f = some ⟨cl1, z1, .func fd, b1⟩)
    (h3 : fd.code = .ref c) (h4 : K.lookup c = some ⟨cl2, z2, .fields vs, b2⟩) (h5 : (vs[11]? : Option Value) = some (.ref P)) : PySem.W.tabIn K x = some (c, P) := by
  unfold PySem.W.tabIn
  rw [h1]
  dsimp only
  rw [h2]
  dsimp only
  rw [h3]
  dsimp only
  rw [h4]
  dsimp only
  rw [h5]
theorem all_mk {l : PySem.W.OpenLaw} {w : World} {K : PySem.W.Frag} {h : Heap} {mg : Str → Option Value} {fa : Addr} (X : K.In h) (G : h.Ns mainGlobals mg) (hfa : mg "law" = some (.ref fa))
    {od0 an0 : Option Addr} {sl0 : Array (Option Value)} {oc0 kV0 dc0 pm0 cd0 ct0 : Value} {f0 : Addr}
    {od1 an1 : Option Addr} {sl1 : Array (Option Value)} {oc1 kV1 dc1 pm1 cd1 ct1 : Value} {f1 : Addr}
    {od2 an2 : Option Addr} {sl2 : Array (Option Value)} {oc2 kV2 dc2 pm2 cd2 ct2 : Value} {f2 : Addr}
    {od3 an3 : Option Addr} {sl3 : Array (Option Value)} {oc3 kV3 dc3 pm3 cd3 ct3 : Value} {f3 : Addr}
    {od4 an4 : Option Addr} {sl4 : Array (Option Value)} {oc4 kV4 dc4 pm4 cd4 ct4 : Value} {f4 : Addr}
    {od5 an5 : Option Addr} {sl5 : Array (Option Value)} {oc5 dc5 pm5 cd5 ct5 : Value} {f5 kD5 : Addr} {kt5_0 : Tok}  {kt5_1 : Tok}
    {od6 an6 : Option Addr} {sl6 : Array (Option Value)} {oc6 kV6 dc6 pm6 cd6 ct6 : Value} {f6 : Addr}
    {od7 an7 : Option Addr} {sl7 : Array (Option Value)} {oc7 kV7 dc7 pm7 cd7 ct7 : Value} {f7 : Addr}
    {od8 an8 : Option Addr} {sl8 : Array (Option Value)} {oc8 kV8 dc8 pm8 cd8 ct8 : Value} {f8 : Addr}
    {od9 an9 : Option Addr} {sl9 : Array (Option Value)} {oc9 kV9 dc9 pm9 cd9 ct9 : Value} {f9 : Addr}
    {od10 an10 : Option Addr} {sl10 : Array (Option Value)} {oc10 kV10 dc10 pm10 cd10 ct10 : Value} {f10 : Addr}
    {od11 an11 : Option Addr} {sl11 : Array (Option Value)} {oc11 kV11 dc11 pm11 cd11 ct11 : Value} {f11 : Addr}
    {od12 an12 : Option Addr} {sl12 : Array (Option Value)} {oc12 kV12 dc12 pm12 cd12 ct12 : Value} {f12 : Addr}
    {od13 an13 : Option Addr} {sl13 : Array (Option Value)} {oc13 kV13 dc13 pm13 cd13 ct13 : Value} {f13 : Addr}
    {od14 an14 : Option Addr} {sl14 : Array (Option Value)} {oc14 kV14 dc14 pm14 cd14 ct14 : Value} {f14 : Addr}
    {od15 an15 : Option Addr} {sl15 : Array (Option Value)} {oc15 kV15 dc15 pm15 cd15 ct15 : Value} {f15 : Addr}
    {od16 an16 : Option Addr} {sl16 : Array (Option Value)} {oc16 kV16 dc16 pm16 cd16 ct16 : Value} {f16 : Addr}
    {od17 an17 : Option Addr} {sl17 : Array (Option Value)} {oc17 kV17 dc17 pm17 cd17 ct17 : Value} {f17 : Addr}
    {od18 an18 : Option Addr} {sl18 : Array (Option Value)} {oc18 kV18 dc18 pm18 cd18 ct18 : Value} {f18 : Addr}
    {od19 an19 : Option Addr} {sl19 : Array (Option Value)} {oc19 kV19 dc19 pm19 cd19 ct19 : Value} {f19 : Addr}
    {od20 an20 : Option Addr} {sl20 : Array (Option Value)} {oc20 kV20 dc20 pm20 cd20 ct20 : Value} {f20 : Addr}
    {od21 an21 : Option Addr} {sl21 : Array (Option Value)} {oc21 kV21 dc21 pm21 cd21 ct21 : Value} {f21 : Addr}
    {od22 an22 : Option Addr} {sl22 : Array (Option Value)} {oc22 kV22 dc22 pm22 cd22 ct22 : Value} {f22 : Addr}
    {od23 an23 : Option Addr} {sl23 : Array (Option Value)} {oc23 kV23 dc23 pm23 cd23 ct23 : Value} {f23 : Addr}
    {od24 an24 : Option Addr} {sl24 : Array (Option Value)} {oc24 kV24 dc24 pm24 cd24 ct24 : Value} {f24 : Addr}
    {od25 an25 : Option Addr} {sl25 : Array (Option Value)} {oc25 kV25 dc25 pm25 cd25 ct25 : Value} {f25 : Addr}
    {u0c : Addr}
    {u1c : Addr}
    {tk0 : Tok}
    {tk1 : Tok}
    {x0c : Addr}
    {lc0 lt0 : Addr}
    {lc1 lt1 : Addr}
    {lc2 lt2 : Addr}
    (a0 : PySem.W.nsIn K mainGlobals "is_integer" = some (some (.ref f0)))
    (l0 : K.lookup f0 = some ⟨oc0, od0, .func (PySem.W.fnOf "is_integer" "is_integer" (defArgs s_is_integer) (defBody s_is_integer) (defScope s_is_integer) .none kV0 dc0 pm0 an0 cd0 ct0), sl0⟩)
    (c0 : PySem.W.codeIn K cd0 "is_integer" = true) (k0 : PySem.W.keepIn K (.ref f0) = true)
    (a1 : PySem.W.nsIn K mainGlobals "is_short_integer" = some (some (.ref f1)))
    (l1 : K.lookup f1 = some ⟨oc1, od1, .func (PySem.W.fnOf "is_short_integer" "is_short_integer" (defArgs s_is_short_integer) (defBody s_is_short_integer) (defScope s_is_short_integer) .none kV1 dc1 pm1 an1 cd1 ct1), sl1⟩)
    (c1 : PySem.W.codeIn K cd1 "is_short_integer" = true) (k1 : PySem.W.keepIn K (.ref f1) = true)
    (a2 : PySem.W.nsIn K mainGlobals "check_number" = some (some (.ref f2)))
    (l2 : K.lookup f2 = some ⟨oc2, od2, .func (PySem.W.fnOf "check_number" "check_number" (defArgs s_check_number) (defBody s_check_number) (defScope s_check_number) .none kV2 dc2 pm2 an2 cd2 ct2), sl2⟩)
    (c2 : PySem.W.codeIn K cd2 "check_number" = true) (k2 : PySem.W.keepIn K (.ref f2) = true)
    (a3 : PySem.W.nsIn K mainGlobals "is_valleys" = some (some (.ref f3)))
    (l3 : K.lookup f3 = some ⟨oc3, od3, .func (PySem.W.fnOf "is_valleys" "is_valleys" (defArgs s_is_valleys) (defBody s_is_valleys) (defScope s_is_valleys) .none kV3 dc3 pm3 an3 cd3 ct3), sl3⟩)
    (c3 : PySem.W.codeIn K cd3 "is_valleys" = true) (k3 : PySem.W.keepIn K (.ref f3) = true)
    (a4 : PySem.W.nsIn K mainGlobals "valley_at" = some (some (.ref f4)))
    (l4 : K.lookup f4 = some ⟨oc4, od4, .func (PySem.W.fnOf "valley_at" "valley_at" (defArgs s_valley_at) (defBody s_valley_at) (defScope s_valley_at) .none kV4 dc4 pm4 an4 cd4 ct4), sl4⟩)
    (c4 : PySem.W.codeIn K cd4 "valley_at" = true) (k4 : PySem.W.keepIn K (.ref f4) = true)
    (a5 : PySem.W.nsIn K mainGlobals "shifted" = some (some (.ref f5)))
    (l5 : K.lookup f5 = some ⟨oc5, od5, .func (PySem.W.fnOf "shifted" "shifted" (defArgs s_shifted) (defBody s_shifted) (defScope s_shifted) .none (.ref kD5) dc5 pm5 an5 cd5 ct5), sl5⟩)
    (kn5_0 : PySem.W.nsIn K kD5 "capacity" = some (some (.int 0 kt5_0)))
    (kn5_1 : PySem.W.nsIn K kD5 "usage" = some (some (.int 0 kt5_1)))
    (c5 : PySem.W.codeIn K cd5 "shifted" = true) (k5 : PySem.W.keepIn K (.ref f5) = true)
    (a6 : PySem.W.nsIn K mainGlobals "from_capacity" = some (some (.ref f6)))
    (l6 : K.lookup f6 = some ⟨oc6, od6, .func (PySem.W.fnOf "from_capacity" "from_capacity" (defArgs s_from_capacity) (defBody s_from_capacity) (defScope s_from_capacity) .none kV6 dc6 pm6 an6 cd6 ct6), sl6⟩)
    (c6 : PySem.W.codeIn K cd6 "from_capacity" = true) (k6 : PySem.W.keepIn K (.ref f6) = true)
    (a7 : PySem.W.nsIn K mainGlobals "value_at" = some (some (.ref f7)))
    (l7 : K.lookup f7 = some ⟨oc7, od7, .func (PySem.W.fnOf "value_at" "value_at" (defArgs s_value_at) (defBody s_value_at) (defScope s_value_at) .none kV7 dc7 pm7 an7 cd7 ct7), sl7⟩)
    (c7 : PySem.W.codeIn K cd7 "value_at" = true) (k7 : PySem.W.keepIn K (.ref f7) = true)
    (a8 : PySem.W.nsIn K mainGlobals "moved" = some (some (.ref f8)))
    (l8 : K.lookup f8 = some ⟨oc8, od8, .func (PySem.W.fnOf "moved" "moved" (defArgs s_moved) (defBody s_moved) (defScope s_moved) .none kV8 dc8 pm8 an8 cd8 ct8), sl8⟩)
    (c8 : PySem.W.codeIn K cd8 "moved" = true) (k8 : PySem.W.keepIn K (.ref f8) = true)
    (a9 : PySem.W.nsIn K mainGlobals "_is_pair" = some (some (.ref f9)))
    (l9 : K.lookup f9 = some ⟨oc9, od9, .func (PySem.W.fnOf "_is_pair" "_is_pair" (defArgs s__is_pair) (defBody s__is_pair) (defScope s__is_pair) .none kV9 dc9 pm9 an9 cd9 ct9), sl9⟩)
    (c9 : PySem.W.codeIn K cd9 "_is_pair" = true) (k9 : PySem.W.keepIn K (.ref f9) = true)
    (a10 : PySem.W.nsIn K mainGlobals "_check_valleys" = some (some (.ref f10)))
    (l10 : K.lookup f10 = some ⟨oc10, od10, .func (PySem.W.fnOf "_check_valleys" "_check_valleys" (defArgs s__check_valleys) (defBody s__check_valleys) (defScope s__check_valleys) .none kV10 dc10 pm10 an10 cd10 ct10), sl10⟩)
    (c10 : PySem.W.codeIn K cd10 "_check_valleys" = true) (k10 : PySem.W.keepIn K (.ref f10) = true)
    (a11 : PySem.W.nsIn K mainGlobals "_law_source" = some (some (.ref f11)))
    (l11 : K.lookup f11 = some ⟨oc11, od11, .func (PySem.W.fnOf "_law_source" "_law_source" (defArgs s__law_source) (defBody s__law_source) (defScope s__law_source) .none kV11 dc11 pm11 an11 cd11 ct11), sl11⟩)
    (c11 : PySem.W.codeIn K cd11 "_law_source" = true) (k11 : PySem.W.keepIn K (.ref f11) = true)
    (a12 : PySem.W.nsIn K mainGlobals "_law_draw" = some (some (.ref f12)))
    (l12 : K.lookup f12 = some ⟨oc12, od12, .func (PySem.W.fnOf "_law_draw" "_law_draw" (defArgs s__law_draw) (defBody s__law_draw) (defScope s__law_draw) .none kV12 dc12 pm12 an12 cd12 ct12), sl12⟩)
    (c12 : PySem.W.codeIn K cd12 "_law_draw" = true) (k12 : PySem.W.keepIn K (.ref f12) = true)
    (a13 : PySem.W.nsIn K mainGlobals "_law_value_at" = some (some (.ref f13)))
    (l13 : K.lookup f13 = some ⟨oc13, od13, .func (PySem.W.fnOf "_law_value_at" "_law_value_at" (defArgs s__law_value_at) (defBody s__law_value_at) (defScope s__law_value_at) .none kV13 dc13 pm13 an13 cd13 ct13), sl13⟩)
    (c13 : PySem.W.codeIn K cd13 "_law_value_at" = true) (k13 : PySem.W.keepIn K (.ref f13) = true)
    (a14 : PySem.W.nsIn K mainGlobals "_law_gaps" = some (some (.ref f14)))
    (l14 : K.lookup f14 = some ⟨oc14, od14, .func (PySem.W.fnOf "_law_gaps" "_law_gaps" (defArgs s__law_gaps) (defBody s__law_gaps) (defScope s__law_gaps) .none kV14 dc14 pm14 an14 cd14 ct14), sl14⟩)
    (c14 : PySem.W.codeIn K cd14 "_law_gaps" = true) (k14 : PySem.W.keepIn K (.ref f14) = true)
    (a15 : PySem.W.nsIn K mainGlobals "_law_random_valleys" = some (some (.ref f15)))
    (l15 : K.lookup f15 = some ⟨oc15, od15, .func (PySem.W.fnOf "_law_random_valleys" "_law_random_valleys" (defArgs s__law_random_valleys) (defBody s__law_random_valleys) (defScope s__law_random_valleys) .none kV15 dc15 pm15 an15 cd15 ct15), sl15⟩)
    (c15 : PySem.W.codeIn K cd15 "_law_random_valleys" = true) (k15 : PySem.W.keepIn K (.ref f15) = true)
    (a16 : PySem.W.nsIn K mainGlobals "_law_near_capacities" = some (some (.ref f16)))
    (l16 : K.lookup f16 = some ⟨oc16, od16, .func (PySem.W.fnOf "_law_near_capacities" "_law_near_capacities" (defArgs s__law_near_capacities) (defBody s__law_near_capacities) (defScope s__law_near_capacities) .none kV16 dc16 pm16 an16 cd16 ct16), sl16⟩)
    (c16 : PySem.W.codeIn K cd16 "_law_near_capacities" = true) (k16 : PySem.W.keepIn K (.ref f16) = true)
    (a17 : PySem.W.nsIn K mainGlobals "_law_valley_outcome" = some (some (.ref f17)))
    (l17 : K.lookup f17 = some ⟨oc17, od17, .func (PySem.W.fnOf "_law_valley_outcome" "_law_valley_outcome" (defArgs s__law_valley_outcome) (defBody s__law_valley_outcome) (defScope s__law_valley_outcome) .none kV17 dc17 pm17 an17 cd17 ct17), sl17⟩)
    (c17 : PySem.W.codeIn K cd17 "_law_valley_outcome" = true) (k17 : PySem.W.keepIn K (.ref f17) = true)
    (a18 : PySem.W.nsIn K mainGlobals "_law_shifts_right" = some (some (.ref f18)))
    (l18 : K.lookup f18 = some ⟨oc18, od18, .func (PySem.W.fnOf "_law_shifts_right" "_law_shifts_right" (defArgs s__law_shifts_right) (defBody s__law_shifts_right) (defScope s__law_shifts_right) .none kV18 dc18 pm18 an18 cd18 ct18), sl18⟩)
    (c18 : PySem.W.codeIn K cd18 "_law_shifts_right" = true) (k18 : PySem.W.keepIn K (.ref f18) = true)
    (a19 : PySem.W.nsIn K mainGlobals "_law_later_right" = some (some (.ref f19)))
    (l19 : K.lookup f19 = some ⟨oc19, od19, .func (PySem.W.fnOf "_law_later_right" "_law_later_right" (defArgs s__law_later_right) (defBody s__law_later_right) (defScope s__law_later_right) .none kV19 dc19 pm19 an19 cd19 ct19), sl19⟩)
    (c19 : PySem.W.codeIn K cd19 "_law_later_right" = true) (k19 : PySem.W.keepIn K (.ref f19) = true)
    (a20 : PySem.W.nsIn K mainGlobals "_law_outcomes" = some (some (.ref f20)))
    (l20 : K.lookup f20 = some ⟨oc20, od20, .func (PySem.W.fnOf "_law_outcomes" "_law_outcomes" (defArgs s__law_outcomes) (defBody s__law_outcomes) (defScope s__law_outcomes) .none kV20 dc20 pm20 an20 cd20 ct20), sl20⟩)
    (c20 : PySem.W.codeIn K cd20 "_law_outcomes" = true) (k20 : PySem.W.keepIn K (.ref f20) = true)
    (a21 : PySem.W.nsIn K mainGlobals "_law_errors_right" = some (some (.ref f21)))
    (l21 : K.lookup f21 = some ⟨oc21, od21, .func (PySem.W.fnOf "_law_errors_right" "_law_errors_right" (defArgs s__law_errors_right) (defBody s__law_errors_right) (defScope s__law_errors_right) .none kV21 dc21 pm21 an21 cd21 ct21), sl21⟩)
    (c21 : PySem.W.codeIn K cd21 "_law_errors_right" = true) (k21 : PySem.W.keepIn K (.ref f21) = true)
    (a22 : PySem.W.nsIn K mainGlobals "_law_long_right" = some (some (.ref f22)))
    (l22 : K.lookup f22 = some ⟨oc22, od22, .func (PySem.W.fnOf "_law_long_right" "_law_long_right" (defArgs s__law_long_right) (defBody s__law_long_right) (defScope s__law_long_right) .none kV22 dc22 pm22 an22 cd22 ct22), sl22⟩)
    (c22 : PySem.W.codeIn K cd22 "_law_long_right" = true) (k22 : PySem.W.keepIn K (.ref f22) = true)
    (a25 : PySem.W.nsIn K mainGlobals "law" = some (some (.ref f25)))
    (l25 : K.lookup f25 = some ⟨oc25, od25, .func (PySem.W.fnOf "law" "law" (defArgs s_law) (defBody s_law) (defScope s_law) .none kV25 dc25 pm25 an25 cd25 ct25), sl25⟩)
    (c25 : PySem.W.codeIn K cd25 "law" = true) (k25 : PySem.W.keepIn K (.ref f25) = true)
    (u0g : PySem.W.nsIn K mainGlobals "InvalidNumber" = some (some (.ref u0c))) (u0q : PySem.W.excInitIn K u0c [.type "IndexError", .type "LookupError", .type "Exception", .type "BaseException", .type "object"] "IndexError.__new__" = true) (u0o : PySem.W.excOver K u0c [.type "IndexError", .type "LookupError", .type "Exception", .type "BaseException", .type "object"] = true) (u0d : PySem.W.hasDictIn K u0c = true) (u0s : PySem.W.findIn K (.ref u0c) "__setattr__" = some (some (.builtin "object.__setattr__"))) (u0b : PySem.W.subIn K (.ref u0c) (.type "BaseException") = some true) (u0t : PySem.W.typeIn K (.ref u0c) = some (.type "type")) (u0k : PySem.W.keepIn K (.ref u0c) = true) (u0i : PySem.W.findIn K (.ref u0c) "__init__" = some (some (.ref f23))) (u0f : PySem.W.typeIn K (.ref f23) = some (.type "function")) (u0n : PySem.W.findIn K (.ref u0c) "value" = some none) (u0ga : PySem.W.findIn K (.ref u0c) "__getattribute__" = some (some (.builtin "BaseException.__getattribute__"))) (u0gg : PySem.W.findIn K (.ref u0c) "__getattr__" = some none) (u0cl : PySem.W.isClsIn K u0c = true) (u0ss : PySem.W.subIn K (.ref u0c) (.ref u0c) = some true) (u0ha : PySem.W.findIn K (.ref u0c) "__class__" = some (some (.builtin "object.__class__"))) (u0hn : PySem.W.specialIn K (.builtin "object.__class__") "__get__" = some (some (.builtin "getset_descriptor.__get__"))) (u0ht : PySem.W.takesIn K (.builtin "object.__class__") = some true) (u0hm : PySem.W.mroIn K u0c (.type "object") = some true)
    (l23 : K.lookup f23 = some ⟨oc23, od23, .func (PySem.W.fnOf "__init__" "InvalidNumber.__init__" (defArgs s_InvalidNumber_init) (defBody s_InvalidNumber_init) (defScope s_InvalidNumber_init) .none kV23 dc23 pm23 an23 cd23 ct23), sl23⟩)
    (c23 : PySem.W.codeIn K cd23 "InvalidNumber.__init__" = true) (k23 : PySem.W.keepIn K (.ref f23) = true)
    (u1g : PySem.W.nsIn K mainGlobals "TooMany" = some (some (.ref u1c))) (u1q : PySem.W.excInitIn K u1c [.type "OverflowError", .type "ArithmeticError", .type "Exception", .type "BaseException", .type "object"] "OverflowError.__new__" = true) (u1o : PySem.W.excOver K u1c [.type "OverflowError", .type "ArithmeticError", .type "Exception", .type "BaseException", .type "object"] = true) (u1d : PySem.W.hasDictIn K u1c = true) (u1s : PySem.W.findIn K (.ref u1c) "__setattr__" = some (some (.builtin "object.__setattr__"))) (u1b : PySem.W.subIn K (.ref u1c) (.type "BaseException") = some true) (u1t : PySem.W.typeIn K (.ref u1c) = some (.type "type")) (u1k : PySem.W.keepIn K (.ref u1c) = true) (u1i : PySem.W.findIn K (.ref u1c) "__init__" = some (some (.ref f24))) (u1f : PySem.W.typeIn K (.ref f24) = some (.type "function")) (u1n : PySem.W.findIn K (.ref u1c) "limit" = some none) (u1ga : PySem.W.findIn K (.ref u1c) "__getattribute__" = some (some (.builtin "BaseException.__getattribute__"))) (u1gg : PySem.W.findIn K (.ref u1c) "__getattr__" = some none) (u1cl : PySem.W.isClsIn K u1c = true) (u1ss : PySem.W.subIn K (.ref u1c) (.ref u1c) = some true) (u1ha : PySem.W.findIn K (.ref u1c) "__class__" = some (some (.builtin "object.__class__"))) (u1hn : PySem.W.specialIn K (.builtin "object.__class__") "__get__" = some (some (.builtin "getset_descriptor.__get__"))) (u1ht : PySem.W.takesIn K (.builtin "object.__class__") = some true) (u1hm : PySem.W.mroIn K u1c (.type "object") = some true)
    (l24 : K.lookup f24 = some ⟨oc24, od24, .func (PySem.W.fnOf "__init__" "TooMany.__init__" (defArgs s_TooMany_init) (defBody s_TooMany_init) (defScope s_TooMany_init) .none kV24 dc24 pm24 an24 cd24 ct24), sl24⟩)
    (c24 : PySem.W.codeIn K cd24 "TooMany.__init__" = true) (k24 : PySem.W.keepIn K (.ref f24) = true)
    (gc0 : PySem.W.nsIn K mainGlobals "NUMBER_END" = some (some (.int 10000000000000000000000000000000000000000000000000000000000000 tk0)))
    (gc1 : PySem.W.nsIn K mainGlobals "MAX_VALLEYS" = some (some (.int 400 tk1)))
    (x0g : PySem.W.nsIn K mainGlobals "InvalidValleys" = some (some (.ref x0c))) (x0x : PySem.W.excIn K x0c [.type "ValueError", .type "Exception", .type "BaseException", .type "object"] "ValueError.__new__" = true) (x0k : PySem.W.keepIn K (.ref x0c) = true) (x0b : PySem.W.subIn K (.ref x0c) (.type "BaseException") = some true) (x0t : PySem.W.typeIn K (.ref x0c) = some (.type "type")) (x0i : PySem.W.isClsIn K x0c = true)
    (ye0 : PySem.W.subIn K (.ref x0c) (.ref x0c) = some true)
    (ye1 : PySem.W.subIn K (.ref u0c) (.ref x0c) = some false)
    (ye2 : PySem.W.subIn K (.ref u1c) (.ref x0c) = some false)
    (ye3 : PySem.W.subIn K (.ref u1c) (.ref u0c) = some false)
    (lt0i : PySem.W.tabIn K "_law_later_right" = some (lc0, lt0)) (ln0 : K.lookup lt0 = none)
    (lt1i : PySem.W.tabIn K "_law_outcomes" = some (lc1, lt1)) (ln1 : K.lookup lt1 = none)
    (lt2i : PySem.W.tabIn K "_law_errors_right" = some (lc2, lt2)) (ln2 : K.lookup lt2 = none)
    (lx0_1 : lt0 ≠ lt1)
    (lx0_2 : lt0 ≠ lt2)
    (lx1_2 : lt1 ≠ lt2)
    (z0 : PySem.W.nsIn K mainGlobals "abs" = some none)
    (z1 : PySem.W.nsIn K mainGlobals "all" = some none)
    (z2 : PySem.W.nsIn K mainGlobals "bool" = some none)
    (z3 : PySem.W.nsIn K mainGlobals "int" = some none)
    (z4 : PySem.W.nsIn K mainGlobals "isinstance" = some none)
    (z5 : PySem.W.nsIn K mainGlobals "len" = some none)
    (z6 : PySem.W.nsIn K mainGlobals "max" = some none)
    (z7 : PySem.W.nsIn K mainGlobals "min" = some none)
    (z8 : PySem.W.nsIn K mainGlobals "range" = some none)
    (z9 : PySem.W.nsIn K mainGlobals "repr" = some none)
    (z10 : PySem.W.nsIn K mainGlobals "tuple" = some none)
    (z11 : PySem.W.nsIn K mainGlobals "zip" = some none) :
    ∃ (cs : List (Addr × Addr)) (fd : FuncData), (∀ p ∈ cs, ∃ y ∈ Lw.lamNames, PySem.W.tabIn K y = some p) ∧ (∀ p ∈ cs, K.lookup p.2 = none) ∧ (∀ (s : Shared) (v : Value), BindsTo s fd ⟨[v], []⟩ [("_law_script", v)]) ∧ ∀ base : Heap, K.In base → base.Ns mainGlobals mg → (∀ p ∈ cs, LamX.TabB base mg p.1 p.2) → FnG l.prog w K mg base CX0 60 fa fd ["_law_script"] (spLaw K cs) := by
  have e := hfa.symm.trans (PySem.W.mg_of X G a25)
  cases e
  obtain ⟨T, te0, te1, te2⟩ : ∃ T : Txt K mg, (T.cc__law_later_right, T.ct__law_later_right) = (lc0, lt0) ∧ (T.cc__law_outcomes, T.ct__law_outcomes) = (lc1, lt1) ∧ (T.cc__law_errors_right, T.ct__law_errors_right) = (lc2, lt2) := by
    have F0 := fun_mk (st := s_is_integer) l0 c0 k0
    have F1 := fun_mk (st := s_is_short_integer) l1 c1 k1
    have F2 := fun_mk (st := s_check_number) l2 c2 k2
    have F3 := fun_mk (st := s_is_valleys) l3 c3 k3
    have F4 := fun_mk (st := s_valley_at) l4 c4 k4
    have F5 := fun_mk (st := s_shifted) l5 c5 k5
    have F6 := fun_mk (st := s_from_capacity) l6 c6 k6
    have F7 := fun_mk (st := s_value_at) l7 c7 k7
    have F8 := fun_mk (st := s_moved) l8 c8 k8
    have F9 := fun_mk (st := s__is_pair) l9 c9 k9
    have F10 := fun_mk (st := s__check_valleys) l10 c10 k10
    have F11 := fun_mk (st := s__law_source) l11 c11 k11
    have F12 := fun_mk (st := s__law_draw) l12 c12 k12
    have F13 := fun_mk (st := s__law_value_at) l13 c13 k13
    have F14 := fun_mk (st := s__law_gaps) l14 c14 k14
    have F15 := fun_mk (st := s__law_random_valleys) l15 c15 k15
    have F16 := fun_mk (st := s__law_near_capacities) l16 c16 k16
    have F17 := fun_mk (st := s__law_valley_outcome) l17 c17 k17
    have F18 := fun_mk (st := s__law_shifts_right) l18 c18 k18
    have F19 := fun_mk (st := s__law_later_right) l19 c19 k19
    have F20 := fun_mk (st := s__law_outcomes) l20 c20 k20
    have F21 := fun_mk (st := s__law_errors_right) l21 c21 k21
    have F22 := fun_mk (st := s__law_long_right) l22 c22 k22
    have F23 := fun_mk (st := s_InvalidNumber_init) l23 c23 k23
    have F24 := fun_mk (st := s_TooMany_init) l24 c24 k24
    have B0 := F0.binds (ps := ["value"]) fun _ _ _ _ _ _ us hl => match us, hl with | [_], _ => rfl
    have B1 := F1.binds (ps := ["value"]) fun _ _ _ _ _ _ us hl => match us, hl with | [_], _ => rfl
    have B2 := F2.binds (ps := ["value"]) fun _ _ _ _ _ _ us hl => match us, hl with | [_], _ => rfl
    have B3 := F3.binds (ps := ["value"]) fun _ _ _ _ _ _ us hl => match us, hl with | [_], _ => rfl
    have B4 := F4.binds (ps := ["valleys", "capacity"]) fun _ _ _ _ _ _ us hl => match us, hl with | [_, _], _ => rfl
    have D5 := Rp.kw_two (st := s_shifted) l5 c5 k5 kn5_0 kn5_1
    have E5 := D5.binds0 (ps := ["valleys", "capacity", "usage"]) 1 (by simp) rfl (fun D doc pm an cdv ct us ks l1 l2 => match us, ks, l1, l2 with | [u0], [k1, k2], _, _ => ⟨_, _, _, _, _, _, rfl, rfl, _, _, _, _, _, _, rfl, rfl, rfl⟩)
    have M5_0 := D5.kbinds0 (ps := ["valleys", "capacity", "usage"]) 1 ["usage", "capacity"] [] (fun us mv ws => us ++ Rp.kwSwap ws) (by simp) (fun q h => by simp at h; try (rcases h with rfl); simp) (fun r1 r2 r3 => r1.append (Rp.kwSwap_rel r3)) (fun D doc pm an cdv ct us mv ws l1 l2 l3 => match us, mv, ws, l1, l2, l3 with | [u0], [], [w0, w1], _, _, _ => rfl)
    have M5_1 := D5.kbinds0 (ps := ["valleys", "capacity", "usage"]) 1 ["capacity"] [("usage", .int 0)] (fun us mv ws => us ++ (ws ++ mv)) (by simp) (fun q h => by simp at h; try (rcases h with rfl); simp) (fun r1 r2 r3 => r1.append (r3.append r2)) (fun D doc pm an cdv ct us mv ws l1 l2 l3 => match us, mv, ws, l1, l2, l3 with | [u0], [m0], [w0], _, _, _ => ⟨_, _, _, _, _, _, rfl, rfl, rfl⟩)
    have M5_2 := D5.kbinds0 (ps := ["valleys", "capacity", "usage"]) 1 ["usage"] [("capacity", .int 0)] (fun us mv ws => us ++ (mv ++ ws)) (by simp) (fun q h => by simp at h; try (rcases h with rfl); simp) (fun r1 r2 r3 => r1.append (r2.append r3)) (fun D doc pm an cdv ct us mv ws l1 l2 l3 => match us, mv, ws, l1, l2, l3 with | [u0], [m0], [w0], _, _, _ => ⟨_, _, _, _, _, _, rfl, rfl, rfl⟩)
    have M5_3 := D5.kbinds0 (ps := ["valleys", "capacity", "usage"]) 1 ["capacity", "usage"] [] (fun us mv ws => us ++ ws) (by simp) (fun q h => by simp at h; try (rcases h with rfl); simp) (fun r1 r2 r3 => r1.append r3) (fun D doc pm an cdv ct us mv ws l1 l2 l3 => match us, mv, ws, l1, l2, l3 with | [u0], [], [w0, w1], _, _, _ => rfl)
    have B6 := F6.binds (ps := ["valleys", "capacity"]) fun _ _ _ _ _ _ us hl => match us, hl with | [_, _], _ => rfl
    have B7 := F7.binds (ps := ["pairs", "capacity"]) fun _ _ _ _ _ _ us hl => match us, hl with | [_, _], _ => rfl
    have B8 := F8.binds (ps := ["pairs", "capacity", "low"]) fun _ _ _ _ _ _ us hl => match us, hl with | [_, _, _], _ => rfl
    have B9 := F9.binds (ps := ["value"]) fun _ _ _ _ _ _ us hl => match us, hl with | [_], _ => rfl
    have B10 := F10.binds (ps := ["value"]) fun _ _ _ _ _ _ us hl => match us, hl with | [_], _ => rfl
    have B11 := F11.binds (ps := ["_law_script", "_law_at"]) fun _ _ _ _ _ _ us hl => match us, hl with | [_, _], _ => rfl
    have B12 := F12.binds (ps := ["_law_source_here", "_law_many"]) fun _ _ _ _ _ _ us hl => match us, hl with | [_, _], _ => rfl
    have B13 := F13.binds (ps := ["_law_valleys", "_law_bound"]) fun _ _ _ _ _ _ us hl => match us, hl with | [_, _], _ => rfl
    have B14 := F14.binds (ps := ["_law_source_here", "_law_total"]) fun _ _ _ _ _ _ us hl => match us, hl with | [_, _], _ => rfl
    have B15 := F15.binds (ps := ["_law_source_here", "_law_most"]) fun _ _ _ _ _ _ us hl => match us, hl with | [_, _], _ => rfl
    have B16 := F16.binds (ps := ["_law_source_here", "_law_valleys"]) fun _ _ _ _ _ _ us hl => match us, hl with | [_, _], _ => rfl
    have B17 := F17.binds (ps := ["_law_call"]) fun _ _ _ _ _ _ us hl => match us, hl with | [_], _ => rfl
    have B18 := F18.binds (ps := ["_law_source_here", "_law_valleys"]) fun _ _ _ _ _ _ us hl => match us, hl with | [_, _], _ => rfl
    have B19 := F19.binds (ps := ["_law_source_here", "_law_valleys"]) fun _ _ _ _ _ _ us hl => match us, hl with | [_, _], _ => rfl
    have B20 := F20.binds (ps := ["_law_valleys", "_law_number"]) fun _ _ _ _ _ _ us hl => match us, hl with | [_, _], _ => rfl
    have B21 := F21.binds (ps := ["_law_source_here", "_law_valleys"]) fun _ _ _ _ _ _ us hl => match us, hl with | [_, _], _ => rfl
    have B22 := F22.binds (ps := ["_law_source_here"]) fun _ _ _ _ _ _ us hl => match us, hl with | [_], _ => rfl
    have B23 := F23.binds (ps := ["self", "value"]) fun _ _ _ _ _ _ us hl => match us, hl with | [_, _], _ => rfl
    have B24 := F24.binds (ps := ["self", "limit"]) fun _ _ _ _ _ _ us hl => match us, hl with | [_, _], _ => rfl
    exact ⟨{
      f_is_integer := f0, d_is_integer := _, F_is_integer := F0, b_is_integer := B0, m_is_integer := PySem.W.mg_of X G a0,
      f_is_short_integer := f1, d_is_short_integer := _, F_is_short_integer := F1, b_is_short_integer := B1, m_is_short_integer := PySem.W.mg_of X G a1,
      f_check_number := f2, d_check_number := _, F_check_number := F2, b_check_number := B2, m_check_number := PySem.W.mg_of X G a2,
      f_is_valleys := f3, d_is_valleys := _, F_is_valleys := F3, b_is_valleys := B3, m_is_valleys := PySem.W.mg_of X G a3,
      f_valley_at := f4, d_valley_at := _, F_valley_at := F4, b_valley_at := B4, m_valley_at := PySem.W.mg_of X G a4,
      f_shifted := f5, d_shifted := _, F_shifted := F5, ds_shifted := E5.choose, vd_shifted := E5.choose_spec.1, b_shifted := E5.choose_spec.2, gn_shifted_0 := _, kn_shifted_0 := M5_0.choose_spec, gn_shifted_1 := _, kn_shifted_1 := M5_1.choose_spec, gn_shifted_2 := _, kn_shifted_2 := M5_2.choose_spec, gn_shifted_3 := _, kn_shifted_3 := M5_3.choose_spec, m_shifted := PySem.W.mg_of X G a5,
      f_from_capacity := f6, d_from_capacity := _, F_from_capacity := F6, b_from_capacity := B6, m_from_capacity := PySem.W.mg_of X G a6,
      f_value_at := f7, d_value_at := _, F_value_at := F7, b_value_at := B7, m_value_at := PySem.W.mg_of X G a7,
      f_moved := f8, d_moved := _, F_moved := F8, b_moved := B8, m_moved := PySem.W.mg_of X G a8,
      f__is_pair := f9, d__is_pair := _, F__is_pair := F9, b__is_pair := B9, m__is_pair := PySem.W.mg_of X G a9,
      f__check_valleys := f10, d__check_valleys := _, F__check_valleys := F10, b__check_valleys := B10, m__check_valleys := PySem.W.mg_of X G a10,
      f__law_source := f11, d__law_source := _, F__law_source := F11, b__law_source := B11, m__law_source := PySem.W.mg_of X G a11,
      f__law_draw := f12, d__law_draw := _, F__law_draw := F12, b__law_draw := B12, m__law_draw := PySem.W.mg_of X G a12,
      f__law_value_at := f13, d__law_value_at := _, F__law_value_at := F13, b__law_value_at := B13, m__law_value_at := PySem.W.mg_of X G a13,
      f__law_gaps := f14, d__law_gaps := _, F__law_gaps := F14, b__law_gaps := B14, m__law_gaps := PySem.W.mg_of X G a14,
      f__law_random_valleys := f15, d__law_random_valleys := _, F__law_random_valleys := F15, b__law_random_valleys := B15, m__law_random_valleys := PySem.W.mg_of X G a15,
      f__law_near_capacities := f16, d__law_near_capacities := _, F__law_near_capacities := F16, b__law_near_capacities := B16, m__law_near_capacities := PySem.W.mg_of X G a16,
      f__law_valley_outcome := f17, d__law_valley_outcome := _, F__law_valley_outcome := F17, b__law_valley_outcome := B17, m__law_valley_outcome := PySem.W.mg_of X G a17,
      f__law_shifts_right := f18, d__law_shifts_right := _, F__law_shifts_right := F18, b__law_shifts_right := B18, m__law_shifts_right := PySem.W.mg_of X G a18,
      f__law_later_right := f19, d__law_later_right := _, F__law_later_right := F19, b__law_later_right := B19, m__law_later_right := PySem.W.mg_of X G a19, cc__law_later_right := lc0, ct__law_later_right := lt0, hc__law_later_right := Rp.code_is a19 lt0i,
      f__law_outcomes := f20, d__law_outcomes := _, F__law_outcomes := F20, b__law_outcomes := B20, m__law_outcomes := PySem.W.mg_of X G a20, cc__law_outcomes := lc1, ct__law_outcomes := lt1, hc__law_outcomes := Rp.code_is a20 lt1i,
      f__law_errors_right := f21, d__law_errors_right := _, F__law_errors_right := F21, b__law_errors_right := B21, m__law_errors_right := PySem.W.mg_of X G a21, cc__law_errors_right := lc2, ct__law_errors_right := lt2, hc__law_errors_right := Rp.code_is a21 lt2i,
      f__law_long_right := f22, d__law_long_right := _, F__law_long_right := F22, b__law_long_right := B22, m__law_long_right := PySem.W.mg_of X G a22,
      c_InvalidNumber := u0c, g_InvalidNumber := PySem.W.mg_of X G u0g, f_InvalidNumber_init := f23, d_InvalidNumber_init := _, F_InvalidNumber_init := F23, b_InvalidNumber_init := B23, ox_InvalidNumber := ⟨⟨_, _, _, _, PySem.F.excBase_IndexError, PySem.F.store_IndexError, u0q, u0o⟩, u0d, u0s, u0b, u0t, u0k⟩, iC_InvalidNumber := u0i, tI_InvalidNumber := u0f, no_InvalidNumber := u0n, xf_InvalidNumber := ⟨u0ga, u0gg, u0b, u0d⟩, xc_InvalidNumber := ⟨u0ga, u0gg, u0b, u0d, u0ha, u0hn, u0ht, u0hm⟩, e_InvalidNumber_InvalidNumber := exm_sub u0b u0cl u0t u0ss,
      c_TooMany := u1c, g_TooMany := PySem.W.mg_of X G u1g, f_TooMany_init := f24, d_TooMany_init := _, F_TooMany_init := F24, b_TooMany_init := B24, ox_TooMany := ⟨⟨_, _, _, _, PySem.F.excBase_OverflowError, PySem.F.store_OverflowError, u1q, u1o⟩, u1d, u1s, u1b, u1t, u1k⟩, iC_TooMany := u1i, tI_TooMany := u1f, no_TooMany := u1n, xf_TooMany := ⟨u1ga, u1gg, u1b, u1d⟩, xc_TooMany := ⟨u1ga, u1gg, u1b, u1d, u1ha, u1hn, u1ht, u1hm⟩, e_TooMany_TooMany := exm_sub u1b u1cl u1t u1ss,
      ne__law_later_right__law_outcomes := lx0_1,
      ne__law_later_right__law_errors_right := lx0_2,
      ne__law_outcomes__law_errors_right := lx1_2,
      e_InvalidValleys_InvalidValleys := exm_sub x0b x0i x0t ye0,
      e_InvalidNumber_InvalidValleys := exm_sub x0b x0i x0t ye1,
      e_TooMany_InvalidValleys := exm_sub x0b x0i x0t ye2,
      e_TooMany_InvalidNumber := exm_sub u0b u0cl u0t ye3,
      t_NUMBER_END := tk0, g_NUMBER_END := PySem.W.mg_of X G gc0,
      t_MAX_VALLEYS := tk1, g_MAX_VALLEYS := PySem.W.mg_of X G gc1,
      c_InvalidValleys := x0c, g_InvalidValleys := PySem.W.mg_of X G x0g, x_InvalidValleys := x0x, k_InvalidValleys := x0k, bb_InvalidValleys := x0b, tt_InvalidValleys := x0t,
      n_abs := PySem.W.mg_none_of X G z0,
      n_all := PySem.W.mg_none_of X G z1,
      n_bool := PySem.W.mg_none_of X G z2,
      n_int := PySem.W.mg_none_of X G z3,
      n_isinstance := PySem.W.mg_none_of X G z4,
      n_len := PySem.W.mg_none_of X G z5,
      n_max := PySem.W.mg_none_of X G z6,
      n_min := PySem.W.mg_none_of X G z7,
      n_range := PySem.W.mg_none_of X G z8,
      n_repr := PySem.W.mg_none_of X G z9,
      n_tuple := PySem.W.mg_none_of X G z10,
      n_zip := PySem.W.mg_none_of X G z11 }, rfl, rfl, rfl⟩
  refine ⟨[(T.cc__law_later_right, T.ct__law_later_right), (T.cc__law_outcomes, T.ct__law_outcomes), (T.cc__law_errors_right, T.ct__law_errors_right)], PySem.W.fnOf "law" "law" (defArgs s_law) (defBody s_law) (defScope s_law) .none kV25 dc25 pm25 an25 cd25 ct25, ?_, ?_, fun s v => .of_eq rfl, fun base _ _ TB => ok_law (fun_mk (st := s_law) l25 c25 k25) T (TB (T.cc__law_later_right, T.ct__law_later_right) (by simp)) (TB (T.cc__law_outcomes, T.ct__law_outcomes) (by simp)) (TB (T.cc__law_errors_right, T.ct__law_errors_right) (by simp))⟩
  · intro p hp
    simp only [List.mem_cons, List.not_mem_nil, or_false] at hp
    rcases hp with rfl | rfl | rfl
    · exact ⟨"_law_later_right", by decide, te0 ▸ lt0i⟩
    · exact ⟨"_law_outcomes", by decide, te1 ▸ lt1i⟩
    · exact ⟨"_law_errors_right", by decide, te2 ▸ lt2i⟩
  · intro p hp
    simp only [List.mem_cons, List.not_mem_nil, or_false] at hp
    rcases hp with rfl | rfl | rfl
    · rw [te0]; exact ln0
    · rw [te1]; exact ln1
    · rw [te2]; exact ln2
end Lw

open PySem PySem.W PyProof.Rows
set_option maxRecDepth 100000 in
set_option maxHeartbeats 0 in
theorem PySem.Challenge.cw_roomprofile_k20_values_and_shifts_holds : PySem.Challenge.rw_roomprofile_k20_values_and_shifts.Holds := by
  w_on; o_law; k_head; (case hw => w_witness2)
  k_fill
  refine Rp.law_endT (l := PySem.Challenge.rw_roomprofile_k20_values_and_shifts) (n := 63) (k := 60) (x := "_law_script") (sp := Lw.spLaw) (nms := Lw.lamNames) rfl (by decide) rfl ⟨rfl, by decide, by decide⟩ (by decide +kernel) (fun w h Y => PySem.W.km_in_of Y) ?F (fun K cs H a ns hl hT hS => ⟨a, ns, rfl, hT, hS, hl, fun _ => rfl⟩)
  case F =>
    intro w mg fa h KX G hmg
    refine' Lw.all_mk KX G hmg ?a0 ?l0 ?c0 ?k0 ?a1 ?l1 ?c1 ?k1 ?a2 ?l2 ?c2 ?k2 ?a3 ?l3 ?c3 ?k3 ?a4 ?l4 ?c4 ?k4 ?a5 ?l5 ?kn5_0 ?kn5_1 ?c5 ?k5 ?a6 ?l6 ?c6 ?k6 ?a7 ?l7 ?c7 ?k7 ?a8 ?l8 ?c8 ?k8 ?a9 ?l9 ?c9 ?k9 ?a10 ?l10 ?c10 ?k10 ?a11 ?l11 ?c11 ?k11 ?a12 ?l12 ?c12 ?k12 ?a13 ?l13 ?c13 ?k13 ?a14 ?l14 ?c14 ?k14 ?a15 ?l15 ?c15 ?k15 ?a16 ?l16 ?c16 ?k16 ?a17 ?l17 ?c17 ?k17 ?a18 ?l18 ?c18 ?k18 ?a19 ?l19 ?c19 ?k19 ?a20 ?l20 ?c20 ?k20 ?a21 ?l21 ?c21 ?k21 ?a22 ?l22 ?c22 ?k22 ?a25 ?l25 ?c25 ?k25 ?u0g ?u0q ?u0o ?u0d ?u0s ?u0b ?u0t ?u0k ?u0i ?u0f ?u0n ?u0ga ?u0gg ?u0cl ?u0ss ?u0ha ?u0hn ?u0ht ?u0hm ?l23 ?c23 ?k23 ?u1g ?u1q ?u1o ?u1d ?u1s ?u1b ?u1t ?u1k ?u1i ?u1f ?u1n ?u1ga ?u1gg ?u1cl ?u1ss ?u1ha ?u1hn ?u1ht ?u1hm ?l24 ?c24 ?k24 ?gc0 ?gc1 ?x0g ?x0x ?x0k ?x0b ?x0t ?x0i ?ye0 ?ye1 ?ye2 ?ye3 ?lt0i ?ln0 ?lt1i ?ln1 ?lt2i ?ln2 ?lx0_1 ?lx0_2 ?lx1_2 ?z0 ?z1 ?z2 ?z3 ?z4 ?z5 ?z6 ?z7 ?z8 ?z9 ?z10 ?z11
    (case a0 => k_is)
    (case l0 => k_is)
    (case c0 => k_is)
    (case k0 => k_is)
    (case a1 => k_is)
    (case l1 => k_is)
    (case c1 => k_is)
    (case k1 => k_is)
    (case a2 => k_is)
    (case l2 => k_is)
    (case c2 => k_is)
    (case k2 => k_is)
    (case a3 => k_is)
    (case l3 => k_is)
    (case c3 => k_is)
    (case k3 => k_is)
    (case a4 => k_is)
    (case l4 => k_is)
    (case c4 => k_is)
    (case k4 => k_is)
    (case a5 => k_is)
    (case l5 => k_is)
    (case kn5_0 => k_is)
    (case kn5_1 => k_is)
    (case c5 => k_is)
    (case k5 => k_is)
    (case a6 => k_is)
    (case l6 => k_is)
    (case c6 => k_is)
    (case k6 => k_is)
    (case a7 => k_is)
    (case l7 => k_is)
    (case c7 => k_is)
    (case k7 => k_is)
    (case a8 => k_is)
    (case l8 => k_is)
    (case c8 => k_is)
    (case k8 => k_is)
    (case a9 => k_is)
    (case l9 => k_is)
    (case c9 => k_is)
    (case k9 => k_is)
    (case a10 => k_is)
    (case l10 => k_is)
    (case c10 => k_is)
    (case k10 => k_is)
    (case a11 => k_is)
    (case l11 => k_is)
    (case c11 => k_is)
    (case k11 => k_is)
    (case a12 => k_is)
    (case l12 => k_is)
    (case c12 => k_is)
    (case k12 => k_is)
    (case a13 => k_is)
    (case l13 => k_is)
    (case c13 => k_is)
    (case k13 => k_is)
    (case a14 => k_is)
    (case l14 => k_is)
    (case c14 => k_is)
    (case k14 => k_is)
    (case a15 => k_is)
    (case l15 => k_is)
    (case c15 => k_is)
    (case k15 => k_is)
    (case a16 => k_is)
    (case l16 => k_is)
    (case c16 => k_is)
    (case k16 => k_is)
    (case a17 => k_is)
    (case l17 => k_is)
    (case c17 => k_is)
    (case k17 => k_is)
    (case a18 => k_is)
    (case l18 => k_is)
    (case c18 => k_is)
    (case k18 => k_is)
    (case a19 => k_is)
    (case l19 => k_is)
    (case c19 => k_is)
    (case k19 => k_is)
    (case a20 => k_is)
    (case l20 => k_is)
    (case c20 => k_is)
    (case k20 => k_is)
    (case a21 => k_is)
    (case l21 => k_is)
    (case c21 => k_is)
    (case k21 => k_is)
    (case a22 => k_is)
    (case l22 => k_is)
    (case c22 => k_is)
    (case k22 => k_is)
    (case a25 => k_is)
    (case l25 => k_is)
    (case c25 => k_is)
    (case k25 => k_is)
    (case u0g => k_is)
    (case u0q => kx_is)
    (case u0o => kx_is)
    (case u0d => k_is)
    (case u0s => k_is)
    (case u0b => k_is)
    (case u0t => k_is)
    (case u0k => k_is)
    (case u0i => k_is)
    (case u0f => k_is)
    (case u0n => k_is)
    (case u0ga => k_is)
    (case u0gg => k_is)
    (case u0cl => k_is)
    (case u0ss => k_is)
    (case u0ha => k_is)
    (case u0hn => k_is)
    (case u0ht => k_is)
    (case u0hm => k_is)
    (case l23 => k_is)
    (case c23 => k_is)
    (case k23 => k_is)
    (case u1g => k_is)
    (case u1q => kx_is)
    (case u1o => kx_is)
    (case u1d => k_is)
    (case u1s => k_is)
    (case u1b => k_is)
    (case u1t => k_is)
    (case u1k => k_is)
    (case u1i => k_is)
    (case u1f => k_is)
    (case u1n => k_is)
    (case u1ga => k_is)
    (case u1gg => k_is)
    (case u1cl => k_is)
    (case u1ss => k_is)
    (case u1ha => k_is)
    (case u1hn => k_is)
    (case u1ht => k_is)
    (case u1hm => k_is)
    (case l24 => k_is)
    (case c24 => k_is)
    (case k24 => k_is)
    (case gc0 => k_is)
    (case gc1 => k_is)
    (case x0g => k_is)
    (case x0x => k_exc)
    (case x0k => k_is)
    (case x0b => k_is)
    (case x0t => k_is)
    (case x0i => k_is)
    (case ye0 => first | rfl | k_is)
    (case ye1 => first | rfl | k_is)
    (case ye2 => first | rfl | k_is)
    (case ye3 => first | rfl | k_is)
    (case lt0i => refine' Lw.tabIn_of ?h1 ?h2 ?h3 ?h4 ?h5; (case h1 => k_is); (case h2 => k_is); (case h3 => rfl); (case h4 => k_is); (case h5 => rfl))
    (case ln0 => kernel_rfl)
    (case lt1i => refine' Lw.tabIn_of ?h1 ?h2 ?h3 ?h4 ?h5; (case h1 => k_is); (case h2 => k_is); (case h3 => rfl); (case h4 => k_is); (case h5 => rfl))
    (case ln1 => kernel_rfl)
    (case lt2i => refine' Lw.tabIn_of ?h1 ?h2 ?h3 ?h4 ?h5; (case h1 => k_is); (case h2 => k_is); (case h3 => rfl); (case h4 => k_is); (case h5 => rfl))
    (case ln2 => kernel_rfl)
    (case lx0_1 => decide)
    (case lx0_2 => decide)
    (case lx1_2 => decide)
    (case z0 => k_is)
    (case z1 => k_is)
    (case z2 => k_is)
    (case z3 => k_is)
    (case z4 => k_is)
    (case z5 => k_is)
    (case z6 => k_is)
    (case z7 => k_is)
    (case z8 => k_is)
    (case z9 => k_is)
    (case z10 => k_is)
    (case z11 => k_is)
