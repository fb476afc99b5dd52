import PyProof.Rows.All
import Wide.All
import OpenK.AllK
import Wide.FinOn
import HandS.ForMost
import HandS.IsInst
import HandS.TupAny
import HandS.Wide
import HandS.Codes
import HandS.Style
import PyProof.ReprRoads
import PyProof.ReprLen
import PyProof.ReprBulk
import PyProof.FitsInt
import HandS.Defaults
import HandS.MakeKwOnly
import HandS.TryOnly
import HandS.ForExc
import HandS.TryMany
import HandS.Zip
import HandS.Walk
import HandS.TupSets
import HandS.NamedTupSort
import HandS.SortOrd
import HandS.SortRule
import PyProof.TupleOfSeq
import HandS.ExcIs
import HandS.ExcField
import HandS.HotCalls
import HandS.SetFor
import HandS.ExcInit
import KE.KExcInit
import KE.KExcIs
import PyProof.AutoSeq1
import HandS.TupMul
import PyProof.MaxThree
import HandS.Rev
import PyProof.SumWalkG
import PyProof.WalksMore
import HandS.Lambda
import KE.KNest
import HandS.Deep
import HandS.CallLocal
import KE.KExcLine
import HandS.Star
import HandS.Gcd
import PySem.Challenge.RW_roomprofile_k23_joint_valleys_complete
set_option Elab.async false
set_option linter.all false
set_option maxRecDepth 100000
set_option maxHeartbeats 4000000
/-! Rp: what the proofs of the laws over roomprofile share: powers, data, repr, isinstance, heaps. -/
namespace Rp
open PySem L2

/-! ### powers of great ints -/
def CPowW (i j : Int) : Prop := 0 ≤ j ∧ (Builtin.Int.intBits i : Int) * j ≤ 2 ^ 27
theorem bits_le {i : Int} {b : Nat} (hi : i.natAbs < 2 ^ b) : Builtin.Int.intBits i ≤ b := by
  unfold Builtin.Int.intBits
  split
  · exact Nat.zero_le _
  · rename_i hne
    have h0 : i.natAbs ≠ 0 := by
      intro z
      apply hne
      have : i = 0 := by omega
      subst this
      rfl
    have := (Nat.log2_lt h0).mpr hi
    omega
theorem powW_of {i j : Int} (b : Nat) (h0 : 0 ≤ j) (hi : i.natAbs < 2 ^ b) (hb : (b : Int) * j ≤ 2 ^ 27) : CPowW i j := by
  refine ⟨h0, Int.le_trans ?_ hb⟩
  have := bits_le hi
  exact Int.mul_le_mul_of_nonneg_right (by omega) h0
section
variable {X : Cx}
theorem op_powW : OpR X (binaryOp .Pow) (rI CPowW fun i j => .int (i ^ j.toNat)) := opI fun _ _ _ _ _ _ _ hc q => PyProof.Rows.pow_int hc.1 hc.2 q
end

/-! ### data -/
def tyN : PyData → String
  | .none => "NoneType"
  | .bool _ => "bool"
  | .int _ => "int"
  | .str _ => "str"
  | .list _ => "list"
  | .tuple _ => "tuple"
  | .dict _ => "dict"
theorem dp_ty {K : PySem.W.Frag} {H : Hp} {v : V} {d : PyData} (h : Dp K H v d) : TyX K H v (.type (tyN d)) := by
  cases h with
  | non => exact .base .non
  | bl b => exact .base (.bl b)
  | int i => exact .base (.int i)
  | str x => exact .base (.str x)
  | lst hs ha =>
    rcases hs with (e | ⟨o, e⟩) | ⟨o, its, n, hk, hc, _⟩
    · exact .base (.lst e)
    · exact .base (.frz e)
    · exact .kList hk hc
  | tup hs ha =>
    rcases hs with (e | ⟨o, e⟩) | ⟨o, its, n, hk, hc, _⟩
    · exact .base (.tup e)
    · exact .fTuple e
    · exact .kTuple hk hc
def isInt : PyData → Bool
  | .int _ => true
  | .bool _ => true
  | _ => false
def isBoo : PyData → Bool
  | .bool _ => true
  | _ => false
def isTup : PyData → Bool
  | .tuple _ => true
  | _ => false
def isStr : PyData → Bool
  | .str _ => true
  | _ => false
def isLst : PyData → Bool
  | .list _ => true
  | _ => false
theorem kit_int (d : PyData) : kitB (tyN d) "int" = some (isInt d) := by cases d <;> (simp only [tyN, isInt]; decide +kernel)
theorem kit_bool (d : PyData) : kitB (tyN d) "bool" = some (isBoo d) := by cases d <;> (simp only [tyN, isBoo]; decide +kernel)
theorem kit_tuple (d : PyData) : kitB (tyN d) "tuple" = some (isTup d) := by cases d <;> (simp only [tyN, isTup]; decide +kernel)
theorem kit_str (d : PyData) : kitB (tyN d) "str" = some (isStr d) := by cases d <;> (simp only [tyN, isStr]; decide +kernel)
theorem kit_list (d : PyData) : kitB (tyN d) "list" = some (isLst d) := by cases d <;> (simp only [tyN, isLst]; decide +kernel)
section
variable {X : Cx}
def rIsD (K : PySem.W.Frag) : List V → Hp → VK → Prop := fun xs H Q => ∃ (v : V) (n : String) (d : PyData) (b : Bool), xs = [v, .ty n] ∧ Dp K H v d ∧ kitB (tyN d) n = some b ∧ Q (.bl b) H
theorem call_isD : CallR X (.builtin "isinstance") (rIsD X.K) := by
  intro pins s σ H xs us Q I r h
  obtain ⟨v, n, d, b, e, hd, hk, q⟩ := h
  exact call_isi pins s σ H xs us Q I r ⟨v, .ty n, _, _, _, e, .ty n, dp_ty hd, kit_ty hk, q⟩
end

/-! ### len, list(..), tuple(..) by names -/
section
variable {X : Cx}
def rLenS (K : PySem.W.Frag) : List V → Hp → VK → Prop := fun xs H Q => ∃ (p : Addr) (ys : List V), xs = [.ref p] ∧ (SqL K H p ys ∨ SqT K H p ys) ∧ Q (.int ys.length) H
theorem call_lenS : CallR X (.builtin "len") (rLenS X.K) := call_len_seq
def rListS (K : PySem.W.Frag) : List V → Hp → VK → Prop := fun xs H Q => ∃ (p : Addr) (ys : List V), xs = [.ref p] ∧ (SqL K H p ys ∨ SqT K H p ys) ∧ ∀ l, H l = none → Q (.ref l) (upd H l (.lst ys))
theorem call_listS : CallR X (.type "list") (rListS X.K) := call_list_of
def rTupS (K : PySem.W.Frag) : List V → Hp → VK → Prop := fun xs H Q => ∃ (p : Addr) (ys : List V), xs = [.ref p] ∧ ((SqL K H p ys ∧ ∀ l, H l = none → Q (.ref l) (upd H l (.tup ys))) ∨ (SqT K H p ys ∧ Q (.ref p) H))
theorem call_tupS : CallR X (.type "tuple") (rTupS X.K) := call_tuple_of
end

/-! ### repr of data -/
mutual
/-- data whose text is made without trouble: no dicts, ints of at most 180 digits, signs below 16 ^ 8 -/
def fine : PyData → Prop
  | .int i => i.natAbs < 10 ^ 180
  | .str x => (x.cps.toList.all fun c => decide (c < 16 ^ 8)) = true
  | .list xs => fines xs
  | .tuple xs => fines xs
  | .dict _ => False
  | _ => True
def fines : List PyData → Prop
  | [] => True
  | x :: xs => fine x ∧ fines xs
end
theorem int_log {i : Int} (h : i.natAbs < 10 ^ 180) : i.natAbs.log2 < 1920 := by
  by_cases z : i.natAbs = 0
  · rw [z]
    decide
  · exact (Nat.log2_lt z).mpr (Nat.lt_trans h (by decide +kernel))
theorem shown_int {i : Int} (h : i.natAbs < 10 ^ 180) : (PyData.shown (.int i)).length ≤ 200 := by
  have e := int_text_length_le10 (k := 180) (by decide) h
  show (Str.ofString (toString i)).length ≤ 200
  rw [ofString_length]
  omega
mutual
theorem fine_ok : ∀ d : PyData, fine d → d.showable = true ∧ d.leavesShort 200 = true ∧ d.hasDict = false
  | .none, _ => by simp [PyData.showable, PyData.leavesShort, PyData.hasDict]
  | .bool _, _ => by simp [PyData.showable, PyData.leavesShort, PyData.hasDict]
  | .int i, h => by
    simp only [fine] at h
    simp only [PyData.showable, PyData.leavesShort, PyData.hasDict, decide_eq_true_eq, and_true]
    exact ⟨int_log h, shown_int h⟩
  | .str x, h => by
    simp only [fine] at h
    simp only [PyData.showable, PyData.leavesShort, PyData.hasDict, and_true, true_and]
    exact h
  | .list xs, h => by
    simp only [fine] at h
    simp only [PyData.showable, PyData.leavesShort, PyData.hasDict]
    exact fines_ok xs h
  | .tuple xs, h => by
    simp only [fine] at h
    simp only [PyData.showable, PyData.leavesShort, PyData.hasDict]
    exact fines_ok xs h
  | .dict _, h => by simp only [fine] at h
theorem fines_ok : ∀ xs : List PyData, fines xs → PyData.showableAll xs = true ∧ PyData.leavesShortAll 200 xs = true ∧ PyData.hasDictAll xs = false
  | [], _ => by simp [PyData.showableAll, PyData.leavesShortAll, PyData.hasDictAll]
  | x :: xs, h => by
    simp only [fines] at h
    obtain ⟨a1, a2, a3⟩ := fine_ok x h.1
    obtain ⟨b1, b2, b3⟩ := fines_ok xs h.2
    simp only [PyData.showableAll, PyData.leavesShortAll, PyData.hasDictAll, a1, a2, a3, b1, b2, b3, Bool.and_self, Bool.or_self, and_self]
end
section
variable {X : Cx}
def rRepr (K : PySem.W.Frag) : List V → Hp → VK → Prop := fun xs H Q => ∃ (v : V) (d : PyData), xs = [v] ∧ Dp K H v d ∧ fine d ∧ d.depth ≤ 64 ∧ d.bulk ≤ 80000 ∧ Q (.str d.shown) H
theorem call_reprD (hg : X.A.guards = some []) (hu : X.A.units + 66 < cLine) : CallR X (.builtin "repr") (rRepr X.K) := by
  intro pins s σ H xs us Q I r h
  obtain ⟨v, d, rfl, hd, hf, hdep, hw, q⟩ := h
  obtain ⟨hs, hl, hnd⟩ := fine_ok d hf
  have hz : d.shown.length ≤ sizeLine := by
    have := PyData.shown_le_bulk 200 (by decide) d hl
    rw [sizeLine_eq]
    omega
  obtain ⟨u, rfl, ru⟩ := vals1 r
  have hsm : ∀ as : List Addr, d.hasDict = true → sysModules ∉ as := fun as => PyData.noDict_hsm hnd
  obtain ⟨as, hr⟩ := Dp.reads I d v u hd ru
  cases hr with
  | none => exact P.repr_of_none ⟨.str _, H, I.tok _, ⟨_, rfl⟩, q⟩
  | bool b => exact P.repr_of_bool ⟨.str _, H, I.tok _, ⟨_, rfl⟩, q⟩
  | int i t => exact P.repr_of_int (by simpa [PyData.showable] using hs) ⟨.str _, H, I.tok _, ⟨_, rfl⟩, q⟩
  | str x t => exact P.repr_of_str ⟨.str _, H, I.tok _, ⟨_, rfl⟩, q⟩ (by simpa only [PyData.shown] using hz)
  | list h1 h2 h3 h4 =>
    refine repr_of_reads' (h₀ := s.heap) (.list h1 h2 h3 h4) hs (hsm _) hg (by omega) (fun _ _ e => e) (fun h' u' tk hk => ?_) hz
    exact ⟨.str _, H, I.kept hk, ⟨_, rfl⟩, q⟩
  | tuple h1 h2 h3 h4 =>
    refine repr_of_reads' (h₀ := s.heap) (.tuple h1 h2 h3 h4) hs (hsm _) hg (by omega) (fun _ _ e => e) (fun h' u' tk hk => ?_) hz
    exact ⟨.str _, H, I.kept hk, ⟨_, rfl⟩, q⟩
  | dict _ _ _ _ _ => exact absurd hnd (by simp [PyData.hasDict])
end

/-! ### what stays of the heap -/
theorem same_sqT {K : PySem.W.Frag} {H H' : Hp} {a : Addr} {xs : List V} (s : Same H H') (h : SqT K H a xs) : SqT K H' a xs := by
  rcases h with (h | ⟨o, h⟩) | h
  · exact .inl (.inl (s _ _ h))
  · exact .inl (.inr ⟨o, s _ _ h⟩)
  · exact .inr h
theorem same_new {H : Hp} {p : Addr} {o : HO} (h : H p = none) : Same H (upd H p o) := fun b u q => by rw [upd_ne (ne_of_none q h)]; exact q
mutual
theorem dp_same {K : PySem.W.Frag} {H H' : Hp} (s : Same H H') : ∀ {d : PyData} {v : V}, Dp K H v d → Dp K H' v d
  | .none, _, h => by cases h; exact .non
  | .bool _, _, h => by cases h; exact .bl _
  | .int _, _, h => by cases h; exact .int _
  | .str _, _, h => by cases h; exact .str _
  | .list ds, _, h => by
    cases h with
    | lst hs ha => exact .lst (s.seq hs) (dpAll_same s ha)
  | .tuple ds, _, h => by
    cases h with
    | tup hs ha => exact .tup (same_sqT s hs) (dpAll_same s ha)
  | .dict _, _, h => by cases h
theorem dpAll_same {K : PySem.W.Frag} {H H' : Hp} (s : Same H H') : ∀ {ds : List PyData} {vs : List V}, DpAll K H vs ds → DpAll K H' vs ds
  | [], _, h => by cases h; exact .nil
  | d :: ds, _, h => by
    cases h with
    | cons h1 h2 => exact .cons (dp_same s h1) (dpAll_same s h2)
end
/-- all but p stays -/
def Sx (p : Addr) (H H' : Hp) : Prop := ∀ b o, b ≠ p → H b = some o → H' b = some o
theorem Sx.refl {p : Addr} {H : Hp} : Sx p H H := fun _ _ _ h => h
theorem Sx.trans {p : Addr} {H H1 H2 : Hp} (a : Sx p H H1) (b : Sx p H1 H2) : Sx p H H2 := fun c o n h => b c o n (a c o n h)
theorem Same.sx {p : Addr} {H H' : Hp} (s : Same H H') : Sx p H H' := fun b o _ h => s b o h
theorem sx_upd {p : Addr} {H : Hp} {o : HO} : Sx p H (upd H p o) := fun b u n h => by rw [upd_ne n]; exact h
theorem sx_new {p q : Addr} {H : Hp} {o : HO} (h : H q = none) : Sx p H (upd H q o) := fun b u _ q => same_new h b u q
/-! data without lists and dicts -/
mutual
def noL : PyData → Bool
  | .list _ => false
  | .dict _ => false
  | .tuple ds => noLs ds
  | _ => true
def noLs : List PyData → Bool
  | [] => true
  | d :: ds => noL d && noLs ds
end
theorem Sx.sqT {K : PySem.W.Frag} {p a : Addr} {H H' : Hp} {l xs : List V} (s : Sx p H H') (hp : H p = some (.lst l)) (h : SqT K H a xs) : SqT K H' a xs := by
  rcases h with (h | ⟨o, h⟩) | h
  · exact .inl (.inl (s _ _ (ne_of h hp (by intro z; cases z)) h))
  · exact .inl (.inr ⟨o, s _ _ (ne_of h hp (by intro z; cases z)) h⟩)
  · exact .inr h
mutual
theorem dp_keep {K : PySem.W.Frag} {H H' : Hp} (s : ∀ a xs, SqT K H a xs → SqT K H' a xs) : ∀ {d : PyData} {v : V}, noL d = true → Dp K H v d → Dp K H' v d
  | .none, _, _, h => by cases h; exact .non
  | .bool _, _, _, h => by cases h; exact .bl _
  | .int _, _, _, h => by cases h; exact .int _
  | .str _, _, _, h => by cases h; exact .str _
  | .list ds, _, n, h => by simp [noL] at n
  | .tuple ds, _, n, h => by
    cases h with
    | tup hs ha => exact .tup (s _ _ hs) (dpAll_keep s (by simpa [noL] using n) ha)
  | .dict _, _, _, h => by cases h
theorem dpAll_keep {K : PySem.W.Frag} {H H' : Hp} (s : ∀ a xs, SqT K H a xs → SqT K H' a xs) : ∀ {ds : List PyData} {vs : List V}, noLs ds = true → DpAll K H vs ds → DpAll K H' vs ds
  | [], _, _, h => by cases h; exact .nil
  | d :: ds, _, n, h => by
    cases h with
    | cons h1 h2 =>
      have n' : noL d = true ∧ noLs ds = true := by simpa [noLs] using n
      exact .cons (dp_keep s n'.1 h1) (dpAll_keep s n'.2 h2)
end
theorem Sx.dp {K : PySem.W.Frag} {p : Addr} {H H' : Hp} {l : List V} {d : PyData} {v : V} (s : Sx p H H') (hp : H p = some (.lst l)) (n : noL d = true) (h : Dp K H v d) : Dp K H' v d :=
  dp_keep (fun _ _ z => s.sqT hp z) n h
theorem dpAll_length {K : PySem.W.Frag} {H : Hp} : ∀ {vs : List V} {ds : List PyData}, DpAll K H vs ds → vs.length = ds.length
  | _, _, .nil => rfl
  | _, _, .cons _ h => congrArg (· + 1) (dpAll_length h)
theorem dpAll_get {K : PySem.W.Frag} {H : Hp} : ∀ {vs : List V} {ds : List PyData} {i : Nat} {v : V}, DpAll K H vs ds → vs[i]? = some v → ∃ d, ds[i]? = some d ∧ Dp K H v d
  | _, _, _, _, .nil, e => by simp at e
  | _, _, 0, _, .cons h _, e => by
    simp at e
    subst e
    exact ⟨_, rfl, h⟩
  | _, _, i + 1, _, .cons _ t, e => by
    obtain ⟨d, e1, e2⟩ := dpAll_get (i := i) t (by simpa using e)
    exact ⟨d, by simpa using e1, e2⟩
theorem dpAll_append {K : PySem.W.Frag} {H : Hp} : ∀ {vs ws : List V} {ds es : List PyData}, DpAll K H vs ds → DpAll K H ws es → DpAll K H (vs ++ ws) (ds ++ es)
  | _, _, _, _, .nil, h => h
  | _, _, _, _, .cons h t, h' => .cons h (dpAll_append t h')
theorem dpAll_one {K : PySem.W.Frag} {H : Hp} {v : V} {d : PyData} (h : Dp K H v d) : DpAll K H [v] [d] := .cons h .nil
theorem dpAll_rev {K : PySem.W.Frag} {H : Hp} : ∀ {vs : List V} {ds : List PyData}, DpAll K H vs ds → DpAll K H vs.reverse ds.reverse
  | _, _, .nil => .nil
  | _, _, .cons h t => by
    rw [List.reverse_cons, List.reverse_cons]
    exact dpAll_append (dpAll_rev t) (.cons h .nil)
theorem dp_int_inv {K : PySem.W.Frag} {H : Hp} {v : V} {i : Int} (h : Dp K H v (.int i)) : v = .int i := by cases h; rfl
theorem dp_str_inv {K : PySem.W.Frag} {H : Hp} {v : V} {x : Str} (h : Dp K H v (.str x)) : v = .str x := by cases h; rfl
theorem dp_none_inv {K : PySem.W.Frag} {H : Hp} {v : V} (h : Dp K H v .none) : v = .non := by cases h; rfl
theorem dp_bool_inv {K : PySem.W.Frag} {H : Hp} {v : V} {b : Bool} (h : Dp K H v (.bool b)) : v = .bl b := by cases h; rfl
theorem dp_tup_inv {K : PySem.W.Frag} {H : Hp} {v : V} {ds : List PyData} (h : Dp K H v (.tuple ds)) : ∃ a xs, v = .ref a ∧ SqT K H a xs ∧ DpAll K H xs ds := by
  cases h with
  | tup h1 h2 => exact ⟨_, _, rfl, h1, h2⟩
theorem dp_lst_inv {K : PySem.W.Frag} {H : Hp} {v : V} {ds : List PyData} (h : Dp K H v (.list ds)) : ∃ a xs, v = .ref a ∧ SqL K H a xs ∧ DpAll K H xs ds := by
  cases h with
  | lst h1 h2 => exact ⟨_, _, rfl, h1, h2⟩
theorem tup_fresh {K : PySem.W.Frag} {H : Hp} {p : Addr} {xs : List V} {ds : List PyData} (hp : H p = none) (h : DpAll K H xs ds) : Same H (upd H p (.tup xs)) ∧ Dp K (upd H p (.tup xs)) (.ref p) (.tuple ds) :=
  ⟨same_new hp, .tup (.inl (.inl upd_same)) (dpAll_same (same_new hp) h)⟩
theorem lst_fresh {K : PySem.W.Frag} {H : Hp} {p : Addr} {xs : List V} {ds : List PyData} (hp : H p = none) (h : DpAll K H xs ds) : Same H (upd H p (.lst xs)) ∧ Dp K (upd H p (.lst xs)) (.ref p) (.list ds) :=
  ⟨same_new hp, .lst (.inl (.inl upd_same)) (dpAll_same (same_new hp) h)⟩
theorem Same.sx_free {H H1 H2 : Hp} {p : Addr} (s : Same H H1) (h : H p = none) (t : Sx p H1 H2) : Same H H2 := fun b o e =>
  t b o (ne_of_none e h) (s b o e)
theorem small {n : Nat} (h : n ≤ 1000) : n ≤ sizeLine := Nat.le_of_lt (small1000 h)
theorem small' {n : Nat} (h : n ≤ 1000000) : n ≤ sizeLine := by rw [sizeLine_eq]; omega

theorem atI_at {α : Type} {xs : List α} {k : Int} {j : Nat} {v : α} (e : k = (j : Int)) (h : xs[j]? = some v) : atI xs k = some v := by
  subst e
  exact atI_nat h
theorem atI_int {ns : List Int} {k : Int} (h0 : 0 ≤ k) (h : k < (ns.length : Int)) : ∃ z, z ∈ ns ∧ atI (ns.map V.int) k = some (.int z) := by
  have hk : k.toNat < ns.length := by omega
  refine ⟨ns[k.toNat], List.getElem_mem hk, atI_at (j := k.toNat) (by omega) ?_⟩
  rw [List.getElem?_map, List.getElem?_eq_getElem hk]
  rfl

/-! ### the script as the law gets it: it never changes -/
def Scr (K : PySem.W.Frag) (H : Hp) (a : Addr) (ns : List Int) : Prop := (∃ o, H a = some (.frz o (.lst (ns.map V.int)))) ∨
  ∃ (o : Obj) (its : Array Value) (n : Nat), K.lookup a = some o ∧ o.cls = .type "list" ∧ o.dict = none ∧ o.data = .seq its n ∧ its.size ≤ sizeLine ∧ Vals (ns.map V.int) its.toList
theorem Scr.sq {K : PySem.W.Frag} {H : Hp} {a : Addr} {ns : List Int} (h : Scr K H a ns) : SqL K H a (ns.map V.int) := by
  rcases h with ⟨o, h⟩ | h
  · exact .inl (.inr ⟨o, h⟩)
  · exact .inr h
theorem Scr.of {K : PySem.W.Frag} {H : Hp} {a : Addr} {ns : List Int} (hO : Only H) (h : SqL K H a (ns.map V.int)) : Scr K H a ns := by
  rcases h with (h | h) | h
  · rcases hO a with z | ⟨o, xs, z⟩
    · rw [h] at z; cases z
    · rw [h] at z; cases z
  · exact .inl h
  · exact .inr h
theorem Scr.same {K : PySem.W.Frag} {H H' : Hp} {a : Addr} {ns : List Int} (s : Same H H') (h : Scr K H a ns) : Scr K H' a ns := by
  rcases h with ⟨o, h⟩ | h
  · exact .inl ⟨o, s _ _ h⟩
  · exact .inr h
theorem Scr.sx {K : PySem.W.Frag} {H H' : Hp} {a p : Addr} {ns : List Int} {l : List V} (s : Sx p H H') (hp : H p = some (.lst l)) (h : Scr K H a ns) : Scr K H' a ns := by
  rcases h with ⟨o, h⟩ | h
  · exact .inl ⟨o, s _ _ (ne_of h hp (by intro z; cases z)) h⟩
  · exact .inr h
end Rp
/-! RpG: defs that say repr of made data: the layer's judgements where no repr is under way (guards known), and the law's end over them. -/
namespace Rp
open PySem L2 PyProof.Rows

structure FnG (P : Program) (w : World) (K : PySem.W.Frag) (mg : Str → Option Value) (base : Heap) (CX : CXT) (k : Nat) (f : Addr) (fd : FuncData) (ps : List Str) (sp : Sp) : Prop where
  len : ∀ vs H Q E, sp vs H Q E → vs.length = ps.length
  run : ∀ (A : Around) (outer : List Env) (s : Shared) (H : Hp) (args : Args) (us : List Value) (vs : List V) (Q : VK) (E : XK), Room k A → A.guards = some [] →
    Env0 P w K mg base A outer s H → BindsTo s fd args (ps.zip us) → Vals vs us → sp vs H Q E → codeAny (model P w) A (.call (.ref f) args) (CR CX outer P w H s Q E) s

theorem room66 {k : Nat} {A : Around} (hr : Room k A) : A.units + 66 < cLine := by
  have := hr.un
  omega
section
variable {P : Program} {w : World} {K : PySem.W.Frag} {mg : Str → Option Value} {base : Heap}
theorem okG {name qual : Str} {st : Stmt} {f : Addr} {fd : FuncData} {N ps : List Str} {k : Nat} {sp : Sp} (F : Fun K name qual st f fd) (S : FnScope N ps (defScope st))
    (hlen : ∀ vs H Q E, sp vs H Q E → vs.length = ps.length)
    (hb : ∀ (cdv : Value) (A : Around) (outer : List Env) (s : Shared) (H : Hp) (vs : List V) (Q : VK) (E : XK),
      Room k (A.deeper (envOfC qual (defScope st) s.heap.objs.size f cdv)) → A.guards = some [] → sp vs H Q E →
      ∃ t, PSs (cxOf CX0 P w K mg base N qual (defScope st) f cdv A outer s H E).nox (defBody st) t ∧
        t { nx := fun _ H' => Q .non H', rt := Q } (start N vs) H) : FnG P w K mg base CX0 (k + 1) f fd ps sp := by
  obtain ⟨oc, od, kV, doc, pm, an, cdv, ct, osl, rfl, lk, hcd⟩ := F.ex
  refine ⟨hlen, fun A outer s H args us vs Q E room gd en bd rv want => ?_⟩
  have kin : K.In s.heap := en.mod.kin.keeps fun b o z => (en.bs b o z).1
  have nolim : s.heap.NoLimit := en.mod.nolimit.keeps fun b o z => (en.bs b o z).1
  have hl := hlen _ _ _ _ want
  refine Att.call_fn kin nolim lk hcd room.depth bd ?_ (fun s1 ic => ?_) S.co S.gen S.kind
  · refine List.all_eq_true.mpr fun y hy => ?_
    obtain ⟨a, b⟩ := y
    rcases S.par a (List.of_mem_zip hy).1 with z | z
    · simp [z]
    · simp [z]
  · obtain ⟨t, ht, hq⟩ := hb cdv A outer s H vs Q E (room.deeper _) gd want
    have I := inv_start (CX := CX0) (P := P) (w := w) (K := K) (mg := mg) (base := base) (E := E) S room.hd en hl rv ic
    refine wpAny_mono (ht.nox.run [] s1 (start N vs) H _ I hq) (fun fl s' hs => ?_) (fun e s' hs => hs)
    cases fl with
    | ret u =>
      obtain ⟨v, σ', H', J, rr, q⟩ := hs
      exact ⟨v, H', J.os, J.bare, J.base, J.hok, rr, q⟩
    | next =>
      obtain ⟨σ', H', J, q⟩ := hs
      exact ⟨V.non, H', J.os, J.bare, J.base, J.hok, rfl, q⟩
    | brk =>
      obtain ⟨_, _, _, q⟩ := hs
      exact False.elim q
    | cont =>
      obtain ⟨_, _, _, q⟩ := hs
      exact False.elim q
end
section
variable {X : Cx} {k : Nat} {f : Addr} {fd : FuncData} {ps : List Str} {sp : Sp} {dvs : List V} {ds : List Value} {x : Str} {p pos : Pos} {e : Expr} {es : List Expr} {t : TA}
theorem runG {pins : List (Addr × Obj)} {σ : L2.St} {H : Hp} {s : Shared} {Q : VK} {us : List Value} {vs : List V} (F : FnG X.prog X.w X.K X.mg X.base CX0 k f fd ps sp) (room : Room k X.A) (gd : X.A.guards = some [])
    (bd : Binds X.K fd ps ds) (dv : Vals dvs ds) (I : Inv X pins σ H s) (rv : Vals vs us) (want : sp (vs ++ dvs) H Q E0) : wpAny (model X.prog X.w) X.A (call (.ref f) us) (EP X pins σ Q) X.xe s := by
  have rv2 : Vals (vs ++ dvs) (us ++ ds) := rv.append dv
  have hl : (us ++ ds).length = ps.length := by
    rw [← rv2.length]
    exact F.len _ _ _ _ want
  refine wpAny_call (codeAny_mono (F.run X.A X.stack s H ⟨us, []⟩ (us ++ ds) (vs ++ dvs) Q E0 room gd I.env0 (bd s us I.kIn hl) rv2 want) fun r s' hq => ?_)
  cases r with
  | error e => exact False.elim hq
  | ok fl =>
    cases fl with
    | ret u => exact I.after hq
    | next => exact False.elim hq
    | brk => exact False.elim hq
    | cont => exact False.elim hq
theorem pe_callG (F : FnG X.prog X.w X.K X.mg X.base CX0 k f fd ps sp) (room : Room k X.A) (gd : X.A.guards = some []) (gl : Gl X x) (hm : X.mg x = some (.ref f)) (kp : PySem.W.keepIn X.K (.ref f) = true)
    (bd : Binds X.K fd ps ds) (dv : Vals dvs ds) (ha : PA X (e :: es) t) (nodbg : (x == ("__debug__" : Str)) = false := by decide)
    (he : starEach (e :: es) X.env = (false, eval e X.env) :: starEach es X.env := by rfl) (hpl : (backTo pos (starEach es X.env)).any (·.1) = false := by rfl) :
    PE X (.Call (.Name x p) (e :: es) [] pos) (tCall sp dvs E0 t) := by
  constructor
  intro pins s σ H Q I want
  refine wpAny_Call_Name_kw (ld_glob I gl hm (PySem.W.callWith_K (h₀ := X.base) I.ok.mod.kin kp (thn (ha.run pos pins s σ H _ I want) ?_) he hpl) nodbg)
  rintro us s1 ⟨vs, H1, I1, rv, q⟩
  exact ⟨I1.kIn, runG F room gd bd dv I1 rv q⟩
theorem pe_callG0 (F : FnG X.prog X.w X.K X.mg X.base CX0 k f fd ps sp) (room : Room k X.A) (gd : X.A.guards = some []) (gl : Gl X x) (hm : X.mg x = some (.ref f)) (kp : PySem.W.keepIn X.K (.ref f) = true)
    (bd : Binds X.K fd ps ds) (dv : Vals dvs ds) (nodbg : (x == ("__debug__" : Str)) = false := by decide) : PE X (.Call (.Name x p) [] [] pos) (tCall sp dvs E0 tNil) := by
  constructor
  intro pins s σ H Q I want
  exact wpAny_Call_Name_kw (ld_glob I gl hm (PySem.W.callWith_K0 I.kIn kp (runG (us := []) F room gd bd dv I .nil want)) nodbg)
end

/-! ### the law's end -/
/-- a heap that tells of the script alone -/
theorem script_heap {P : Program} {w : World} {K : PySem.W.Frag} {h : Heap} {a : Addr} {vs : List Value} {ns : List Int} (kin : K.In h) (ha : h.get? a = some { cls := .type "list", data := .seq vs.toArray })
    (hi : IntsAre vs ns) (hl : ns.length ≤ sizeLine) :
    ∃ H : Hp, Only H ∧ SqL K H a (ns.map V.int) ∧ HOk P w H h ∧ (∀ b, H b ≠ none → b = a) ∧ (∀ b o, K.lookup b = some o → H b = none) := by
  have rv := vals_ints hi
  have len := hi.length
  cases hk : K.lookup a with
  | some o =>
    have eo := kin a o hk
    rw [ha] at eo
    cases eo
    refine ⟨fun _ => none, fun _ => .inl rfl, .inr ⟨_, vs.toArray, _, hk, rfl, rfl, rfl, ?_, by simpa using rv⟩, (fun b u z => nomatch z), (fun b z => absurd rfl z), fun _ _ _ => rfl⟩
    rw [List.size_toArray, len]
    exact hl
  | none =>
    let H : Hp := fun b => if b = a then some (.frz { cls := .type "list", data := .seq vs.toArray } (.lst (ns.map V.int))) else none
    have at_a : H a = some (.frz { cls := .type "list", data := .seq vs.toArray } (.lst (ns.map V.int))) := if_pos rfl
    have off : ∀ b, b ≠ a → H b = none := fun b z => if_neg z
    refine ⟨H, fun b => ?_, .inl (.inr ⟨_, at_a⟩), fun b u z => ?_, fun b z => ?_, fun b o z => off b ?_⟩
    · by_cases c : b = a
      · exact .inr ⟨_, _, c ▸ at_a⟩
      · exact .inl (off b c)
    · by_cases c : b = a
      · subst c
        rw [at_a] at z
        cases z
        refine ⟨ha, ?_, vs, _, rv, ha⟩
        rw [List.length_map]
        exact hl
      · rw [off b c] at z
        cases z
    · by_cases c : b = a
      · exact c
      · exact absurd (off b c) z
    · intro c
      rw [c, hk] at z
      cases z

theorem law_end {l : PySem.W.OpenLaw} {n k : Nat} {q : Program} {loose : List Str} {XP : (Str → Option Value) → Heap → Prop} {YP : World → Heap → Prop} {d : DefRec} {K : Params → PySem.W.Frag} {sp : PySem.W.Frag → Sp} {x : Str}
    (hn : l.most = some n) (hn2 : n ≤ sizeLine) (hdf : d.params.defaults = []) (hr : Room k callerA)
    (hY : ∀ (w : World) (h : Heap), YP w h → (K w.params).In h)
    (F : ∀ (w : World) (mg : Str → Option Value) (fa : Addr) (h : Heap), (K w.params).In h → h.Ns mainGlobals mg → mg d.name = some (.ref fa) →
      ∃ fd : FuncData, (∀ (s : Shared) (u : Value), BindsTo s fd ⟨[u], []⟩ [(x, u)]) ∧
        ∀ base : Heap, (K w.params).In base → base.Ns mainGlobals mg → FnG l.prog w (K w.params) mg base CX0 k fa fd [x] (sp (K w.params)))
    (hsp : ∀ (K : PySem.W.Frag) (H : Hp) (a : Addr) (ns : List Int), ns.length ≤ n → Only H → SqL K H a (ns.map V.int) → sp K [.ref a] H (fun v _ => v = .bl true) fun _ _ _ => False) :
    PySem.W.WalkO q loose XP YP l.row.toRowW d [] (fun f vs => PySem.call f vs) := by
  refine Att.attach_call hn hdf fun w s₀ s₁ mg mb fa o pm cd doc a vs ns G Y ho hd hcd hmg hobj hints hlen hgens => ?_
  have kin := hY w _ Y
  obtain ⟨fd, bd, FF⟩ := F w mg fa _ kin G.T.g hmg
  obtain ⟨H, hO, hS, hok, only, notK⟩ := script_heap (P := l.prog) (w := w) kin hobj hints (Nat.le_trans hlen hn2)
  have free : ∀ {b : Addr} {ob : Obj} {es : Array DictEntry} {ep : Nat}, s₁.heap.get? b = some ob → ob.data = .dict es ep → H b = none := by
    intro b ob es ep h1 h2
    cases c : H b with
    | none => rfl
    | some u =>
      have e : b = a := only b (by rw [c]; exact fun z => nomatch z)
      rw [e, hobj] at h1
      have h3 := congrArg Obj.data (Option.some.inj h1)
      rw [h2] at h3
      exact nomatch h3
  have ns' : ∀ {b : Addr} {m : Str → Option Value}, s₁.heap.Ns b m → (hidT s₁.heap H).Ns b m := by
    rintro b m ⟨ob, es, ep, h1, h2, h3⟩
    exact ⟨ob, es, ep, hidT_get h1 (free h1 h2), h2, h3⟩
  have kinB : (K w.params).In (hidT s₁.heap H) := fun b ob e => hidT_get (kin b ob e) (notK b ob e)
  have lim : (hidT s₁.heap H).NoLimit := by
    obtain ⟨mc, h1, h2⟩ := G.T.nolimit
    exact ⟨mc, ns' h1, h2⟩
  have en : Env0 l.prog w (K w.params) mg (hidT s₁.heap H) callerA [] s₁ H :=
    ⟨rfl, ⟨kinB, ns' G.T.g, ⟨mb, ns' G.T.b, G.T.builtins⟩, lim⟩, fun b ob e => of_hidT e, Nat.le_of_eq (hidT_size _ _), trivial, (fun b z => nomatch z), hok, .of_eq hgens⟩
  refine codeAny_mono ((FF _ kinB (ns' G.T.g)).run callerA [] s₁ H ⟨[.ref a], []⟩ [.ref a] [.ref a] _ _ hr rfl en (bd s₁ (.ref a)) (.cons rfl .nil) (hsp _ H a ns hlen hO hS)) fun r s' z => ?_
  cases r with
  | error e => exact False.elim z
  | ok fl =>
    cases fl with
    | next => exact False.elim z
    | brk => exact False.elim z
    | cont => exact False.elim z
    | ret u =>
      obtain ⟨v, H', os, bare, un, hok', rr, e⟩ := z
      have e' : v = .bl true := e
      subst e'
      obtain rfl : u = Value.bool true := rr
      refine ⟨rfl, OldK.of_keep fun b ob hb => ?_, os, bare⟩
      cases c : H b with
      | none => exact un.keep b ob hb c (fun z => nomatch z) (fun z => nomatch z)
      | some u =>
        rcases hO b with z | ⟨ox, xs, z⟩
        · rw [c] at z
          cases z
        · obtain ⟨e1, _⟩ := hok b _ z
          obtain ⟨e2, _⟩ := hok' b _ (un.frzs b ox _ z)
          rw [hb] at e1
          cases e1
          exact e2
end Rp
/-! Kw: a def with one keyword-only parameter whose default is None. -/
namespace Rp
open PySem L2
theorem kw_one {K : PySem.W.Frag} {x qual m : Str} {st : Stmt} {f D : Addr} {oc : Value} {od an : Option Addr} {osl : Array (Option Value)} {doc pm cdv ct : Value}
    (l : K.lookup f = some ⟨oc, od, .func (PySem.W.fnOf x qual (defArgs st) (defBody st) (defScope st) .none (.ref D) doc pm an cdv ct), osl⟩) (c : PySem.W.codeIn K cdv qual = true) (k : PySem.W.keepIn K (.ref f) = true)
    (hn : PySem.W.nsIn K D m = some (some .none)) : FunD K x qual (defArgs st) (defBody st) (defScope st) [] [(m, .non)] f (PySem.W.fnOf x qual (defArgs st) (defBody st) (defScope st) .none (.ref D) doc pm an cdv ct) :=
  ⟨⟨oc, od, .none, .ref D, doc, pm, an, cdv, ct, osl, rfl, l, c, .inl ⟨rfl, rfl⟩, .inr ⟨D, rfl, fun q hq => by
    rw [List.mem_singleton.mp hq]
    exact ⟨.none, hn, rfl⟩⟩⟩, k⟩
end Rp
namespace Rp
open PySem L2
theorem kw_ref {K : PySem.W.Frag} {x qual m : Str} {st : Stmt} {f D A : Addr} {oc : Value} {od an : Option Addr} {osl : Array (Option Value)} {doc pm cdv ct : Value}
    (l : K.lookup f = some ⟨oc, od, .func (PySem.W.fnOf x qual (defArgs st) (defBody st) (defScope st) .none (.ref D) doc pm an cdv ct), osl⟩) (c : PySem.W.codeIn K cdv qual = true) (k : PySem.W.keepIn K (.ref f) = true)
    (hn : PySem.W.nsIn K D m = some (some (.ref A))) : FunD K x qual (defArgs st) (defBody st) (defScope st) [] [(m, .ref A)] f (PySem.W.fnOf x qual (defArgs st) (defBody st) (defScope st) .none (.ref D) doc pm an cdv ct) :=
  ⟨⟨oc, od, .none, .ref D, doc, pm, an, cdv, ct, osl, rfl, l, c, .inl ⟨rfl, rfl⟩, .inr ⟨D, rfl, fun q hq => by
    rw [List.mem_singleton.mp hq]
    exact ⟨.ref A, hn, rfl⟩⟩⟩, k⟩
end Rp
namespace Rp
open PySem L2
/-- two values in the other order -/
def kwSwap {α : Type} : List α → List α
  | [a, b] => [b, a]
  | l => l
theorem kwSwap_rel {zs : List V} {ws : List Value} (h : Vals zs ws) : Vals (kwSwap zs) (kwSwap ws) := by
  cases h with
  | nil => exact .nil
  | cons r1 h =>
    cases h with
    | nil => exact .cons r1 .nil
    | cons r2 h =>
      cases h with
      | nil => exact .cons r2 (.cons r1 .nil)
      | cons r3 h => exact .cons r1 (.cons r2 (.cons r3 h))
theorem kw_two {K : PySem.W.Frag} {x qual m1 m2 : Str} {st : Stmt} {f D : Addr} {oc : Value} {od an : Option Addr} {osl : Array (Option Value)} {doc pm cdv ct : Value} {i1 i2 : Int} {t1 t2 : Tok}
    (l : K.lookup f = some ⟨oc, od, .func (PySem.W.fnOf x qual (defArgs st) (defBody st) (defScope st) .none (.ref D) doc pm an cdv ct), osl⟩) (c : PySem.W.codeIn K cdv qual = true) (k : PySem.W.keepIn K (.ref f) = true)
    (h1 : PySem.W.nsIn K D m1 = some (some (.int i1 t1))) (h2 : PySem.W.nsIn K D m2 = some (some (.int i2 t2))) :
    FunD K x qual (defArgs st) (defBody st) (defScope st) [] [(m1, .int i1), (m2, .int i2)] f (PySem.W.fnOf x qual (defArgs st) (defBody st) (defScope st) .none (.ref D) doc pm an cdv ct) := by
  refine ⟨⟨oc, od, .none, .ref D, doc, pm, an, cdv, ct, osl, rfl, l, c, .inl ⟨rfl, rfl⟩, .inr ⟨D, rfl, fun q hq => ?_⟩⟩, k⟩
  rcases List.mem_cons.mp hq with rfl | hq
  · exact ⟨_, h1, ⟨t1, rfl⟩⟩
  · rw [List.mem_singleton.mp hq]
    exact ⟨_, h2, ⟨t2, rfl⟩⟩
end Rp
/-! Jm: jobs as a type of trees, their data, sizes; what the pot holds. No Python here. -/
namespace Lw
open PySem L2 Rp

abbrev M30 : Int := 1000000000000000000000000000000
inductive J where
  | st (i : Int)
  | ps (par : Bool) (xs : List J)
  | rn (cop : Bool) (n : Int) (x : J)
def kwP (b : Bool) : Str := if b then "par" else "seq"
def kwR (b : Bool) : Str := if b then "copies" else "repeat"
mutual
def J.toD : J → PyData
  | .st i => .int i
  | .ps k xs => .tuple [.str (kwP k), .tuple (J.toDs xs)]
  | .rn k n x => .tuple [.str (kwR k), .int n, x.toD]
def J.toDs : List J → List PyData
  | [] => []
  | x :: xs => x.toD :: J.toDs xs
end
mutual
theorem J.noL : ∀ j : J, noL j.toD = true
  | .st _ => rfl
  | .ps _ xs => by
    have h := J.noLs xs
    simp [J.toD, Rp.noL, Rp.noLs, h]
  | .rn _ _ x => by
    have h := J.noL x
    simp [J.toD, Rp.noL, Rp.noLs, h]
theorem J.noLs : ∀ js : List J, noLs (J.toDs js) = true
  | [] => rfl
  | x :: xs => by
    have h1 := J.noL x
    have h2 := J.noLs xs
    simp [J.toDs, Rp.noLs, h1, h2]
end
theorem J.toDs_eq : ∀ xs : List J, J.toDs xs = xs.map J.toD
  | [] => rfl
  | x :: xs => by rw [J.toDs, J.toDs_eq xs]; rfl

/-! sizes as the program finds them -/
def within (nodes steps : Int) : Option (Int × Int) := if steps ≤ M30 then some (nodes, steps) else none
mutual
def szJ : J → Int → Int → Option (Int × Int)
  | .st i, room, lv => if room < 1 ∨ lv < 1 then none else if -M30 ≤ i ∧ i ≤ M30 then some (1, 1) else none
  | .ps _ xs, room, lv => if room < 1 ∨ lv < 1 then none else if (xs.length : Int) > 400 then none else szJs xs 1 0 room lv
  | .rn _ n x, room, lv => if room < 1 ∨ lv < 1 then none else if ¬ (0 ≤ n ∧ n ≤ M30) then none else
      match szJ x (room - 1) (lv - 1) with
      | none => none
      | some (a, b) => within (a + 1) (b * n)
def szJs : List J → Int → Int → Int → Int → Option (Int × Int)
  | [], nodes, steps, _, _ => within nodes steps
  | x :: xs, nodes, steps, room, lv =>
      match szJ x (room - nodes) (lv - 1) with
      | none => none
      | some (a, b) => szJs xs (nodes + a) (steps + b) room lv
end
mutual
def J.nodes : J → Int
  | .st _ => 1
  | .ps _ xs => 1 + J.nodesL xs
  | .rn _ _ x => x.nodes + 1
def J.nodesL : List J → Int
  | [] => 0
  | x :: xs => x.nodes + J.nodesL xs
end
mutual
def J.steps : J → Int
  | .st _ => 1
  | .ps _ xs => J.stepsL xs
  | .rn _ n x => x.steps * n
def J.stepsL : List J → Int
  | [] => 0
  | x :: xs => x.steps + J.stepsL xs
end
mutual
def J.deep : J → Nat
  | .st _ => 1
  | .ps _ xs => J.deepL xs + 1
  | .rn _ _ x => x.deep + 1
def J.deepL : List J → Nat
  | [] => 0
  | x :: xs => max x.deep (J.deepL xs)
end
mutual
/-- a job but for nodes and nesting -/
def J.ok : J → Prop
  | .st i => -M30 ≤ i ∧ i ≤ M30
  | .ps _ xs => (xs.length : Int) ≤ 400 ∧ J.okL xs ∧ J.stepsL xs ≤ M30
  | .rn _ n x => (0 ≤ n ∧ n ≤ M30) ∧ x.ok ∧ x.steps * n ≤ M30
def J.okL : List J → Prop
  | [] => True
  | x :: xs => x.ok ∧ J.okL xs
end
mutual
theorem J.nodes_pos : ∀ j : J, 1 ≤ j.nodes
  | .st _ => by simp [J.nodes]
  | .ps _ xs => by have := J.nodesL_pos xs; simp only [J.nodes]; omega
  | .rn _ _ x => by have := J.nodes_pos x; simp only [J.nodes]; omega
theorem J.nodesL_pos : ∀ xs : List J, 0 ≤ J.nodesL xs
  | [] => by simp [J.nodesL]
  | x :: xs => by have := J.nodes_pos x; have := J.nodesL_pos xs; simp only [J.nodesL]; omega
end
theorem J.deep_pos : ∀ j : J, 1 ≤ j.deep
  | .st _ => by simp [J.deep]
  | .ps _ xs => by simp only [J.deep]; omega
  | .rn _ _ x => by simp only [J.deep]; omega
mutual
theorem J.steps_nn : ∀ j : J, j.ok → 0 ≤ j.steps
  | .st _, _ => by simp [J.steps]
  | .ps _ xs, h => by
    simp only [J.ok] at h
    simp only [J.steps]
    exact J.stepsL_nn xs h.2.1
  | .rn _ n x, h => by
    simp only [J.ok] at h
    simp only [J.steps]
    exact Int.mul_nonneg (J.steps_nn x h.2.1) h.1.1
theorem J.stepsL_nn : ∀ xs : List J, J.okL xs → 0 ≤ J.stepsL xs
  | [], _ => by simp [J.stepsL]
  | x :: xs, h => by
    simp only [J.okL] at h
    have := J.steps_nn x h.1
    have := J.stepsL_nn xs h.2
    simp only [J.stepsL]
    omega
end
theorem J.steps_le (j : J) (h : j.ok) : j.steps ≤ M30 := by
  cases j with
  | st i => simp only [J.steps]; decide
  | ps k xs => simp only [J.ok] at h; simp only [J.steps]; exact h.2.2
  | rn k n x => simp only [J.ok] at h; simp only [J.steps]; exact h.2.2
/-! the closed form: is a job within room and levels, and then its sizes -/
mutual
theorem szJ_some : ∀ (j : J) (room lv : Int), j.ok → j.nodes ≤ room → (j.deep : Int) ≤ lv → szJ j room lv = some (j.nodes, j.steps)
  | .st i, room, lv, h, h1, h2 => by
    simp only [J.ok] at h
    simp only [J.nodes, J.deep] at h1 h2
    simp only [szJ, J.nodes, J.steps]
    rw [if_neg (by omega), if_pos h]
  | .ps k xs, room, lv, h, h1, h2 => by
    simp only [J.ok] at h
    simp only [J.nodes, J.deep] at h1 h2
    have hn := J.nodesL_pos xs
    simp only [szJ, J.nodes, J.steps]
    rw [if_neg (by omega), if_neg (by omega)]
    have := szJs_some xs 1 0 room lv h.2.1 (by omega) (by omega) (by omega) (by omega)
    rw [this, Int.zero_add]
  | .rn k n x, room, lv, h, h1, h2 => by
    simp only [J.ok] at h
    simp only [J.nodes, J.deep] at h1 h2
    have hn := J.nodes_pos x
    simp only [szJ, J.nodes, J.steps]
    rw [if_neg (by omega), if_neg (by omega), szJ_some x (room - 1) (lv - 1) h.2.1 (by omega) (by omega)]
    simp only [within]
    rw [if_pos h.2.2]
theorem szJs_some : ∀ (xs : List J) (nodes steps room lv : Int), J.okL xs → 1 ≤ nodes → nodes + J.nodesL xs ≤ room → (J.deepL xs : Int) ≤ lv - 1 → steps + J.stepsL xs ≤ M30 → szJs xs nodes steps room lv = some (nodes + J.nodesL xs, steps + J.stepsL xs)
  | [], nodes, steps, room, lv, _, _, _, _, h => by
    simp only [J.nodesL, J.stepsL, szJs, within, Int.add_zero] at *
    rw [if_pos h]
  | x :: xs, nodes, steps, room, lv, h, h0, h1, h2, h3 => by
    simp only [J.okL] at h
    simp only [J.nodesL, J.stepsL, J.deepL] at *
    have p1 := J.nodes_pos x
    have p2 := J.nodesL_pos xs
    have p3 := J.stepsL_nn xs h.2
    simp only [szJs]
    rw [szJ_some x (room - nodes) (lv - 1) h.1 (by omega) (by omega)]
    simp only
    rw [szJs_some xs (nodes + x.nodes) (steps + x.steps) room lv h.2 (by omega) (by omega) (by omega) (by omega)]
    rw [Int.add_assoc, Int.add_assoc]
end
mutual
theorem szJ_inv : ∀ (j : J) (room lv a b : Int), szJ j room lv = some (a, b) → j.ok ∧ j.nodes ≤ room ∧ (j.deep : Int) ≤ lv ∧ a = j.nodes ∧ b = j.steps
  | .st i, room, lv, a, b, h => by
    simp only [szJ] at h
    split at h
    · cases h
    · split at h
      · rename_i h1 h2
        cases h
        simp only [J.ok, J.nodes, J.deep, J.steps]
        refine ⟨h2, by omega, by omega, ?_, ?_⟩ <;> trivial
      · cases h
  | .ps k xs, room, lv, a, b, h => by
    simp only [szJ] at h
    split at h
    · cases h
    · split at h
      · cases h
      · rename_i h1 h2
        obtain ⟨q1, q2, q3, q4, q5, q6⟩ := szJs_inv xs 1 0 room lv a b h (by omega)
        simp only [J.ok, J.nodes, J.deep, J.steps]
        have q3' : (J.deepL xs : Int) ≤ lv - 1 := by
          rcases q3 with q3 | q3
          · exact q3
          · subst q3
            simp only [J.deepL]
            omega
        refine ⟨⟨by omega, q1, by omega⟩, by omega, by omega, by omega, by omega⟩
  | .rn k n x, room, lv, a, b, h => by
    simp only [szJ] at h
    split at h
    · cases h
    · split at h
      · cases h
      · rename_i h1 h2
        split at h
        · cases h
        · rename_i a1 b1 h3
          obtain ⟨q1, q2, q3, q4, q5⟩ := szJ_inv x (room - 1) (lv - 1) a1 b1 h3
          simp only [within] at h
          split at h
          · rename_i h4
            cases h
            subst q4 q5
            simp only [J.ok, J.nodes, J.deep, J.steps]
            refine ⟨⟨Decidable.not_not.mp h2, q1, h4⟩, by omega, by omega, ?_, ?_⟩ <;> trivial
          · cases h
theorem szJs_inv : ∀ (xs : List J) (nodes steps room lv a b : Int), szJs xs nodes steps room lv = some (a, b) → nodes ≤ room → J.okL xs ∧ nodes + J.nodesL xs ≤ room ∧ ((J.deepL xs : Int) ≤ lv - 1 ∨ xs = []) ∧ steps + J.stepsL xs ≤ M30 ∧ a = nodes + J.nodesL xs ∧ b = steps + J.stepsL xs
  | [], nodes, steps, room, lv, a, b, h, h0 => by
    simp only [szJs, within] at h
    split at h
    · rename_i h1
      cases h
      simp only [J.okL, J.nodesL, J.stepsL, Int.add_zero]
      refine ⟨trivial, h0, .inr ?_, h1, ?_, ?_⟩ <;> trivial
    · cases h
  | x :: xs, nodes, steps, room, lv, a, b, h, h0 => by
    simp only [szJs] at h
    split at h
    · cases h
    · rename_i a1 b1 h3
      obtain ⟨q1, q2, q3, q4, q5⟩ := szJ_inv x (room - nodes) (lv - 1) a1 b1 h3
      subst q4 q5
      obtain ⟨r1, r2, r3, r4, r5, r6⟩ := szJs_inv xs (nodes + x.nodes) (steps + x.steps) room lv a b h (by omega)
      have dp := J.deep_pos x
      simp only [J.okL, J.nodesL, J.stepsL, J.deepL]
      refine ⟨⟨q1, r1⟩, by omega, .inl ?_, by omega, by omega, by omega⟩
      rcases r3 with r3 | r3
      · omega
      · subst r3
        simp only [J.deepL]
        omega
end
end Lw
/-! Jn: nets, lowest usages and mirrors of jobs. No Python here. -/
namespace Lw
open PySem L2 Rp
mutual
def J.net : J → Int
  | .st i => i
  | .ps _ xs => J.netL xs
  | .rn _ n x => n * x.net
def J.netL : List J → Int
  | [] => 0
  | x :: xs => x.net + J.netL xs
end
mutual
def J.low : J → Int
  | .st i => min 0 i
  | .ps false xs => J.lowS xs
  | .ps true xs => J.lowL xs
  | .rn true n x => n * x.low
  | .rn false n x => if n = 0 then 0 else x.low + (n - 1) * min 0 x.net
/-- in sequence -/
def J.lowS : List J → Int
  | [] => 0
  | x :: xs => min x.low (x.net + J.lowS xs)
/-- side by side -/
def J.lowL : List J → Int
  | [] => 0
  | x :: xs => x.low + J.lowL xs
end
theorem mul_min_nonneg {a b : Int} (h : 0 ≤ a) : a * min 0 b ≤ 0 ∧ a * min 0 b ≤ a * b := by
  constructor
  · have : 0 ≤ a * (- min 0 b) := Int.mul_nonneg h (by omega)
    rw [Int.mul_neg] at this
    omega
  · exact Int.mul_le_mul_of_nonneg_left (by omega) h
mutual
/-- the lowest usage is at most 0 and at most the net -/
theorem J.low_le : ∀ j : J, j.ok → j.low ≤ 0 ∧ j.low ≤ j.net
  | .st i, _ => by simp only [J.low, J.net]; omega
  | .ps false xs, h => by
    simp only [J.ok] at h
    simp only [J.low, J.net]
    exact J.lowS_le xs h.2.1
  | .ps true xs, h => by
    simp only [J.ok] at h
    simp only [J.low, J.net]
    exact J.lowL_le xs h.2.1
  | .rn true n x, h => by
    simp only [J.ok] at h
    have ih := J.low_le x h.2.1
    simp only [J.low, J.net]
    constructor
    · have : 0 ≤ n * (- x.low) := Int.mul_nonneg h.1.1 (by omega)
      rw [Int.mul_neg] at this
      omega
    · exact Int.mul_le_mul_of_nonneg_left ih.2 h.1.1
  | .rn false n x, h => by
    simp only [J.ok] at h
    have ih := J.low_le x h.2.1
    simp only [J.low, J.net]
    split
    · rename_i e
      subst e
      omega
    · have p := mul_min_nonneg (a := n - 1) (b := x.net) (by omega)
      have e : n * x.net = (n - 1) * x.net + x.net := by rw [Int.sub_mul, Int.one_mul]; omega
      omega
theorem J.lowS_le : ∀ xs : List J, J.okL xs → J.lowS xs ≤ 0 ∧ J.lowS xs ≤ J.netL xs
  | [], _ => by simp only [J.lowS, J.netL]; omega
  | x :: xs, h => by
    simp only [J.okL] at h
    have h1 := J.low_le x h.1
    have h2 := J.lowS_le xs h.2
    simp only [J.lowS, J.netL]
    omega
theorem J.lowL_le : ∀ xs : List J, J.okL xs → J.lowL xs ≤ 0 ∧ J.lowL xs ≤ J.netL xs
  | [], _ => by simp only [J.lowL, J.netL]; omega
  | x :: xs, h => by
    simp only [J.okL] at h
    have h1 := J.low_le x h.1
    have h2 := J.lowL_le xs h.2
    simp only [J.lowL, J.netL]
    omega
end
/-! sizes: at most the steps times a step's greatest -/
theorem mul_natAbs_le {n b c : Int} (h0 : 0 ≤ n) (h : b.natAbs ≤ c.natAbs) : (n * b).natAbs ≤ (n * c).natAbs := by
  rw [Int.natAbs_mul, Int.natAbs_mul]
  exact Nat.mul_le_mul_left _ h
mutual
theorem J.net_big : ∀ j : J, j.ok → -(j.steps * M30) ≤ j.net ∧ j.net ≤ j.steps * M30
  | .st i, h => by
    simp only [J.ok, M30] at h
    simp only [J.net, J.steps, M30]
    omega
  | .ps _ xs, h => by
    simp only [J.ok] at h
    simp only [J.net, J.steps]
    exact J.netL_big xs h.2.1
  | .rn _ n x, h => by
    simp only [J.ok] at h
    have ih := J.net_big x h.2.1
    simp only [J.net, J.steps]
    have e : x.steps * n * M30 = n * (x.steps * M30) := by rw [Int.mul_comm x.steps n, Int.mul_assoc]
    rw [e]
    constructor
    · rw [← Int.mul_neg]
      exact Int.mul_le_mul_of_nonneg_left ih.1 h.1.1
    · exact Int.mul_le_mul_of_nonneg_left ih.2 h.1.1
theorem J.netL_big : ∀ xs : List J, J.okL xs → -(J.stepsL xs * M30) ≤ J.netL xs ∧ J.netL xs ≤ J.stepsL xs * M30
  | [], _ => by simp only [J.netL, J.stepsL]; omega
  | x :: xs, h => by
    simp only [J.okL] at h
    have h1 := J.net_big x h.1
    have h2 := J.netL_big xs h.2
    simp only [J.netL, J.stepsL, M30] at *
    omega
end
mutual
theorem J.low_big : ∀ j : J, j.ok → -(j.steps * M30) ≤ j.low
  | .st i, h => by
    simp only [J.ok, M30] at h
    simp only [J.low, J.steps, M30]
    omega
  | .ps false xs, h => by
    simp only [J.ok] at h
    simp only [J.low, J.steps]
    exact J.lowS_big xs h.2.1
  | .ps true xs, h => by
    simp only [J.ok] at h
    simp only [J.low, J.steps]
    exact J.lowL_big xs h.2.1
  | .rn true n x, h => by
    simp only [J.ok] at h
    have ih := J.low_big x h.2.1
    simp only [J.low, J.steps]
    have e : x.steps * n * M30 = n * (x.steps * M30) := by rw [Int.mul_comm x.steps n, Int.mul_assoc]
    rw [e, ← Int.mul_neg]
    exact Int.mul_le_mul_of_nonneg_left ih h.1.1
  | .rn false n x, h => by
    simp only [J.ok] at h
    have ih := J.low_big x h.2.1
    have ih2 := J.net_big x h.2.1
    have nn := J.steps_nn x h.2.1
    simp only [J.low, J.steps]
    have e : x.steps * n * M30 = n * (x.steps * M30) := by rw [Int.mul_comm x.steps n, Int.mul_assoc]
    rw [e]
    split
    · rename_i z
      subst z
      omega
    · have hm : -(x.steps * M30) ≤ min 0 x.net := by
        have : 0 ≤ x.steps * M30 := Int.mul_nonneg nn (by decide)
        omega
      have p : (n - 1) * (-(x.steps * M30)) ≤ (n - 1) * min 0 x.net := Int.mul_le_mul_of_nonneg_left hm (by omega)
      have e2 : (n - 1) * (-(x.steps * M30)) = -(n * (x.steps * M30)) + x.steps * M30 := by rw [Int.mul_neg, Int.sub_mul, Int.one_mul]; omega
      omega
theorem J.lowS_big : ∀ xs : List J, J.okL xs → -(J.stepsL xs * M30) ≤ J.lowS xs
  | [], _ => by simp only [J.lowS, J.stepsL]; omega
  | x :: xs, h => by
    simp only [J.okL] at h
    have h1 := J.low_big x h.1
    have h2 := J.lowS_big xs h.2
    have h3 := J.net_big x h.1
    have n1 := J.steps_nn x h.1
    have n2 := J.stepsL_nn xs h.2
    simp only [J.lowS, J.stepsL, M30] at *
    omega
theorem J.lowL_big : ∀ xs : List J, J.okL xs → -(J.stepsL xs * M30) ≤ J.lowL xs
  | [], _ => by simp only [J.lowL, J.stepsL]; omega
  | x :: xs, h => by
    simp only [J.okL] at h
    have h1 := J.low_big x h.1
    have h2 := J.lowL_big xs h.2
    simp only [J.lowL, J.stepsL, M30] at *
    omega
end
abbrev M60 : Int := 1000000000000000000000000000000000000000000000000000000000000
theorem J.net_60 (j : J) (h : j.ok) : -M60 ≤ j.net ∧ j.net ≤ M60 := by
  have h1 := J.net_big j h
  have h2 := J.steps_le j h
  simp only [M30, M60] at *
  omega
theorem J.low_60 (j : J) (h : j.ok) : -M60 ≤ j.low ∧ j.low ≤ 0 := by
  have h1 := J.low_big j h
  have h2 := J.steps_le j h
  have h3 := (J.low_le j h).1
  simp only [M30, M60] at *
  omega
/-! the mirror -/
mutual
def J.mir : J → J
  | .st i => .st (-i)
  | .ps false xs => .ps false (J.mirL xs).reverse
  | .ps true xs => .ps true (J.mirL xs)
  | .rn k n x => .rn k n x.mir
def J.mirL : List J → List J
  | [] => []
  | x :: xs => x.mir :: J.mirL xs
end
theorem J.mirL_eq : ∀ xs : List J, J.mirL xs = xs.map J.mir
  | [] => rfl
  | x :: xs => by rw [J.mirL, J.mirL_eq xs]; rfl
theorem J.mirL_rev (xs : List J) : J.mirL xs.reverse = (J.mirL xs).reverse := by rw [J.mirL_eq, J.mirL_eq, List.map_reverse]
mutual
theorem J.mir_mir : ∀ j : J, j.mir.mir = j
  | .st i => by simp [J.mir]
  | .ps false xs => by simp only [J.mir, J.mirL_rev, List.reverse_reverse, J.mirL_mirL xs]
  | .ps true xs => by simp only [J.mir, J.mirL_mirL xs]
  | .rn k n x => by simp only [J.mir, J.mir_mir x]
theorem J.mirL_mirL : ∀ xs : List J, J.mirL (J.mirL xs) = xs
  | [] => rfl
  | x :: xs => by simp only [J.mirL, J.mir_mir x, J.mirL_mirL xs]
end
theorem J.nodesL_rev (xs : List J) : J.nodesL xs.reverse = J.nodesL xs := by
  induction xs with
  | nil => rfl
  | cons x xs ih =>
    have app : ∀ xs ys : List J, J.nodesL (xs ++ ys) = J.nodesL xs + J.nodesL ys := by
      intro xs ys
      induction xs with
      | nil => simp [J.nodesL]
      | cons a l ih => simp only [List.cons_append, J.nodesL, ih]; omega
    rw [List.reverse_cons, app, ih]
    simp only [J.nodesL]
    omega
theorem J.stepsL_app (xs ys : List J) : J.stepsL (xs ++ ys) = J.stepsL xs + J.stepsL ys := by
  induction xs with
  | nil => simp [J.stepsL]
  | cons a l ih => simp only [List.cons_append, J.stepsL, ih]; omega
theorem J.stepsL_rev (xs : List J) : J.stepsL xs.reverse = J.stepsL xs := by
  induction xs with
  | nil => rfl
  | cons x xs ih =>
    rw [List.reverse_cons, J.stepsL_app, ih]
    simp only [J.stepsL]
    omega
theorem J.netL_app (xs ys : List J) : J.netL (xs ++ ys) = J.netL xs + J.netL ys := by
  induction xs with
  | nil => simp [J.netL]
  | cons a l ih => simp only [List.cons_append, J.netL, ih]; omega
theorem J.netL_rev (xs : List J) : J.netL xs.reverse = J.netL xs := by
  induction xs with
  | nil => rfl
  | cons x xs ih =>
    rw [List.reverse_cons, J.netL_app, ih]
    simp only [J.netL]
    omega
theorem J.deepL_rev (xs : List J) : J.deepL xs.reverse = J.deepL xs := by
  induction xs with
  | nil => rfl
  | cons x xs ih =>
    have app : ∀ xs ys : List J, J.deepL (xs ++ ys) = max (J.deepL xs) (J.deepL ys) := by
      intro xs ys
      induction xs with
      | nil => simp [J.deepL]
      | cons a l ih => simp only [List.cons_append, J.deepL, ih]; omega
    rw [List.reverse_cons, app, ih]
    simp only [J.deepL]
    omega
theorem J.okL_iff : ∀ xs : List J, J.okL xs ↔ ∀ x ∈ xs, x.ok
  | [] => by simp [J.okL]
  | x :: xs => by simp only [J.okL, J.okL_iff xs, List.forall_mem_cons]
theorem J.okL_rev (xs : List J) : J.okL xs.reverse ↔ J.okL xs := by
  rw [J.okL_iff, J.okL_iff]
  simp
theorem J.mirL_len (xs : List J) : (J.mirL xs).length = xs.length := by rw [J.mirL_eq, List.length_map]
mutual
theorem J.mir_same : ∀ j : J, j.mir.nodes = j.nodes ∧ j.mir.steps = j.steps ∧ j.mir.deep = j.deep ∧ j.mir.net = -j.net ∧ (j.ok → j.mir.ok)
  | .st i => by
    simp only [J.mir, J.nodes, J.steps, J.deep, J.net, J.ok, true_and]
    omega
  | .ps false xs => by
    obtain ⟨h1, h2, h3, h4, h5⟩ := J.mirL_same xs
    simp only [J.mir, J.nodes, J.steps, J.deep, J.net, J.ok, J.nodesL_rev, J.stepsL_rev, J.deepL_rev, J.netL_rev, J.okL_rev, List.length_reverse, J.mirL_len, h1, h2, h3, h4, true_and]
    exact fun z => ⟨z.1, h5 z.2.1, z.2.2⟩
  | .ps true xs => by
    obtain ⟨h1, h2, h3, h4, h5⟩ := J.mirL_same xs
    simp only [J.mir, J.nodes, J.steps, J.deep, J.net, J.ok, J.mirL_len, h1, h2, h3, h4, true_and]
    exact fun z => ⟨z.1, h5 z.2.1, z.2.2⟩
  | .rn k n x => by
    obtain ⟨h1, h2, h3, h4, h5⟩ := J.mir_same x
    simp only [J.mir, J.nodes, J.steps, J.deep, J.net, J.ok, h1, h2, h3, h4, true_and, Int.mul_neg]
    exact fun z => ⟨z.1, h5 z.2.1, z.2.2⟩
theorem J.mirL_same : ∀ xs : List J, J.nodesL (J.mirL xs) = J.nodesL xs ∧ J.stepsL (J.mirL xs) = J.stepsL xs ∧ J.deepL (J.mirL xs) = J.deepL xs ∧ J.netL (J.mirL xs) = -J.netL xs ∧ (J.okL xs → J.okL (J.mirL xs))
  | [] => by simp [J.mirL, J.nodesL, J.stepsL, J.deepL, J.netL, J.okL]
  | x :: xs => by
    obtain ⟨h1, h2, h3, h4, h5⟩ := J.mir_same x
    obtain ⟨k1, k2, k3, k4, k5⟩ := J.mirL_same xs
    simp only [J.mirL, J.nodesL, J.stepsL, J.deepL, J.netL, J.okL, h1, h2, h3, h4, k1, k2, k3, k4, true_and]
    refine ⟨by omega, fun z => ⟨h5 z.1, k5 z.2⟩⟩
end
theorem J.lowS_app (xs : List J) (y : J) (hy : y.ok) (hx : J.okL xs) : J.lowS (xs ++ [y]) = min (J.lowS xs) (J.netL xs + y.low) := by
  induction xs with
  | nil =>
    have := J.low_le y hy
    simp only [List.nil_append, J.lowS, J.netL]
    omega
  | cons x xs ih =>
    simp only [J.okL] at hx
    simp only [List.cons_append, J.lowS, J.netL, ih hx.2]
    omega
mutual
theorem J.mir_low : ∀ j : J, j.ok → j.mir.low = j.low - j.net
  | .st i, _ => by simp only [J.mir, J.low, J.net]; omega
  | .ps false xs, h => by
    simp only [J.ok] at h
    simp only [J.mir, J.low, J.net]
    exact J.mirL_lowS xs h.2.1
  | .ps true xs, h => by
    simp only [J.ok] at h
    simp only [J.mir, J.low, J.net]
    exact J.mirL_lowL xs h.2.1
  | .rn true n x, h => by
    simp only [J.ok] at h
    simp only [J.mir, J.low, J.net, J.mir_low x h.2.1, Int.mul_sub]
  | .rn false n x, h => by
    simp only [J.ok] at h
    obtain ⟨_, _, _, hn, _⟩ := J.mir_same x
    simp only [J.mir, J.low, J.net, J.mir_low x h.2.1, hn]
    split
    · rename_i e
      subst e
      omega
    · have e : min 0 (-x.net) = min 0 x.net - x.net := by omega
      have e1 : (n - 1) * (min 0 x.net - x.net) = (n - 1) * min 0 x.net - (n - 1) * x.net := Int.mul_sub _ _ _
      have e2 : (n - 1) * x.net = n * x.net - x.net := by rw [Int.sub_mul, Int.one_mul]
      rw [e, e1]
      omega
theorem J.mirL_lowS : ∀ xs : List J, J.okL xs → J.lowS (J.mirL xs).reverse = J.lowS xs - J.netL xs
  | [], _ => by simp only [J.mirL, List.reverse_nil, J.lowS, J.netL]; omega
  | x :: xs, h => by
    simp only [J.okL] at h
    obtain ⟨_, _, _, _, ho⟩ := J.mir_same x
    obtain ⟨_, _, _, hn, hos⟩ := J.mirL_same xs
    simp only [J.mirL, List.reverse_cons]
    rw [J.lowS_app _ _ (ho h.1) ((J.okL_rev _).mpr (hos h.2)), J.mirL_lowS xs h.2, J.mir_low x h.1, J.netL_rev, hn]
    simp only [J.lowS, J.netL]
    omega
theorem J.mirL_lowL : ∀ xs : List J, J.okL xs → J.lowL (J.mirL xs) = J.lowL xs - J.netL xs
  | [], _ => by simp only [J.mirL, J.lowL, J.netL]; omega
  | x :: xs, h => by
    simp only [J.okL] at h
    simp only [J.mirL, J.lowL, J.netL, J.mirL_lowL xs h.2, J.mir_low x h.1]
    omega
end
/-! a job's data at hand -/
theorem ps_inv {K : PySem.W.Frag} {H : Hp} {v : V} {k : Bool} {xs : List J} (h : Dp K H v (J.ps k xs).toD) : ∃ a b vs, v = .ref a ∧ SqT K H a [.str (kwP k), .ref b] ∧ SqT K H b vs ∧ DpAll K H vs (J.toDs xs) := by
  rw [J.toD] at h
  obtain ⟨a, ys, rfl, hys, hall⟩ := dp_tup_inv h
  cases hall with
  | cons e1 hall =>
    obtain rfl := dp_str_inv e1
    cases hall with
    | cons e2 hall =>
      cases hall
      obtain ⟨b, vs, rfl, hvs, hall2⟩ := dp_tup_inv e2
      exact ⟨a, b, vs, rfl, hys, hvs, hall2⟩
theorem rn_inv {K : PySem.W.Frag} {H : Hp} {v : V} {k : Bool} {n : Int} {x : J} (h : Dp K H v (J.rn k n x).toD) : ∃ a w, v = .ref a ∧ SqT K H a [.str (kwR k), .int n, w] ∧ Dp K H w x.toD := by
  rw [J.toD] at h
  obtain ⟨a, ys, rfl, hys, hall⟩ := dp_tup_inv h
  cases hall with
  | cons e1 hall =>
    obtain rfl := dp_str_inv e1
    cases hall with
    | cons e2 hall =>
      obtain rfl := dp_int_inv e2
      cases hall with
      | cons e3 hall =>
        cases hall
        exact ⟨a, _, rfl, hys, e3⟩
theorem parts_at {K : PySem.W.Frag} {H : Hp} {xs : List J} {vs : List V} {i : Nat} {x : V} (hall : DpAll K H vs (J.toDs xs)) (hi : vs[i]? = some x) : ∃ j, xs[i]? = some j ∧ j ∈ xs ∧ Dp K H x j.toD := by
  obtain ⟨d, ed, hd⟩ := dpAll_get hall hi
  rw [J.toDs_eq, List.getElem?_map] at ed
  cases e : xs[i]? with
  | none =>
    rw [e] at ed
    cases ed
  | some j =>
    rw [e] at ed
    obtain rfl := (Option.some.inj ed).symm
    exact ⟨j, rfl, List.mem_of_getElem? e, hd⟩
theorem parts_len {K : PySem.W.Frag} {H : Hp} {xs : List J} {vs : List V} (hall : DpAll K H vs (J.toDs xs)) : vs.length = xs.length := by
  rw [dpAll_length hall, J.toDs_eq, List.length_map]
theorem deep_mem : ∀ {l : List J} {y : J}, y ∈ l → y.deep ≤ J.deepL l
  | z :: r, y, h => by
    simp only [J.deepL]
    rcases List.mem_cons.mp h with rfl | h
    · omega
    · have := deep_mem h
      omega
theorem ok_mem {l : List J} {y : J} (o : J.okL l) (h : y ∈ l) : y.ok := (J.okL_iff l).mp o y h
theorem take_step {α β : Type} {xs : List α} {i : Nat} {j : α} (f : α → β) (e : xs[i]? = some j) : (xs.take (i + 1)).map f = (xs.take i).map f ++ [f j] := by
  rw [List.take_add_one, e, List.map_append]
  rfl
/-! words -/
theorem w_in_parts (k : Bool) : inV (.str (kwP k)) [.str "seq", .str "par"] = true := by cases k <;> decide +kernel
theorem w_in_parts_no (k : Bool) : inV (.str (kwR k)) [.str "seq", .str "par"] = false := by cases k <;> decide +kernel
theorem w_in_rounds (k : Bool) : inV (.str (kwR k)) [.str "repeat", .str "copies"] = true := by cases k <;> decide +kernel
theorem w_in_rounds_no (k : Bool) : inV (.str (kwP k)) [.str "repeat", .str "copies"] = false := by cases k <;> decide +kernel
theorem w_seq (k : Bool) : decide (V.str (kwP k) = V.str "seq") = !k := by cases k <;> decide +kernel
theorem w_par (k : Bool) : decide (V.str (kwP k) = V.str "par") = k := by cases k <;> decide +kernel
theorem w_seq_no (k : Bool) : decide (V.str (kwR k) = V.str "seq") = false := by cases k <;> decide +kernel
theorem w_par_no (k : Bool) : decide (V.str (kwR k) = V.str "par") = false := by cases k <;> decide +kernel
theorem w_copies (k : Bool) : decide (V.str (kwR k) = V.str "copies") = k := by cases k <;> decide +kernel
theorem w_dec_int {a b : Int} : decide (V.int a = V.int b) = decide (a = b) := by
  by_cases h : a = b
  · subst h
    simp
  · rw [decide_eq_false h, decide_eq_false (fun z => h (V.int.inj z))]
/-! the data of a job: fine to be shown, comparable -/
theorem kwP_fine (k : Bool) : fine (.str (kwP k)) := by cases k <;> (simp only [fine]; decide +kernel)
theorem kwR_fine (k : Bool) : fine (.str (kwR k)) := by cases k <;> (simp only [fine]; decide +kernel)
theorem kwP_bulk (k : Bool) : (PyData.str (kwP k)).bulk ≤ 10 := by cases k <;> (simp only [PyData.bulk]; decide +kernel)
theorem kwR_bulk (k : Bool) : (PyData.str (kwR k)).bulk ≤ 10 := by cases k <;> (simp only [PyData.bulk]; decide +kernel)
theorem lt180 {i : Int} (h0 : -M60 ≤ i) (h : i ≤ M60) : i.natAbs < 10 ^ 180 := by
  simp only [M60] at h0 h
  exact Nat.lt_of_le_of_lt (show i.natAbs ≤ 1000000000000000000000000000000000000000000000000000000000000 by omega) (by decide +kernel)
mutual
theorem J.fine : ∀ j : J, j.ok → fine j.toD
  | .st i, h => by
    simp only [J.ok, M30] at h
    simp only [J.toD, Rp.fine]
    exact lt180 (by simp only [M60]; omega) (by simp only [M60]; omega)
  | .ps k xs, h => by
    simp only [J.ok] at h
    have h1 := J.fines xs h.2.1
    have h2 := kwP_fine k
    simp only [J.toD, Rp.fine, fines] at *
    exact ⟨h2, h1, trivial⟩
  | .rn k n x, h => by
    simp only [J.ok, M30] at h
    have h1 := J.fine x h.2.1
    have h2 := kwR_fine k
    simp only [J.toD, Rp.fine, fines] at *
    exact ⟨h2, lt180 (by simp only [M60]; omega) (by simp only [M60]; omega), h1, trivial⟩
theorem J.fines : ∀ xs : List J, J.okL xs → fines (J.toDs xs)
  | [], _ => by simp [J.toDs, Rp.fines]
  | x :: xs, h => by
    simp only [J.okL] at h
    simp only [J.toDs, Rp.fines]
    exact ⟨J.fine x h.1, J.fines xs h.2⟩
end
mutual
theorem J.bulk : ∀ j : J, (j.toD.bulk : Int) ≤ 20 * j.nodes - 5
  | .st i => by simp only [J.toD, PyData.bulk, J.nodes]; omega
  | .ps k xs => by
    have h1 := J.bulks xs
    have h2 := kwP_bulk k
    simp only [J.toD, PyData.bulk, PyData.bulkAll, J.nodes] at *
    omega
  | .rn k n x => by
    have h1 := J.bulk x
    have h2 := kwR_bulk k
    simp only [J.toD, PyData.bulk, PyData.bulkAll, J.nodes] at *
    omega
theorem J.bulks : ∀ xs : List J, (PyData.bulkAll (J.toDs xs) : Int) ≤ 20 * J.nodesL xs
  | [] => by simp [J.toDs, PyData.bulkAll, J.nodesL]
  | x :: xs => by
    have h1 := J.bulk x
    have h2 := J.bulks xs
    simp only [J.toDs, PyData.bulkAll, J.nodesL, List.length_cons] at *
    omega
end
mutual
theorem J.depth : ∀ j : J, j.toD.depth ≤ 2 * j.deep
  | .st i => by simp [J.toD, PyData.depth]
  | .ps k xs => by
    have h1 := J.depths xs
    simp only [J.toD, PyData.depth, PyData.depthAll, J.deep]
    omega
  | .rn k n x => by
    have h1 := J.depth x
    simp only [J.toD, PyData.depth, PyData.depthAll, J.deep]
    omega
theorem J.depths : ∀ xs : List J, PyData.depthAll (J.toDs xs) ≤ 2 * J.deepL xs
  | [] => by simp [J.toDs, PyData.depthAll, J.deepL]
  | x :: xs => by
    have h1 := J.depth x
    have h2 := J.depths xs
    simp only [J.toDs, PyData.depthAll, J.deepL]
    omega
end
theorem kwP_strOk (k : Bool) : PyData.canLay0 (.str (kwP k)) = true := by cases k <;> (simp only [PyData.canLay0]; decide +kernel)
theorem kwR_strOk (k : Bool) : PyData.canLay0 (.str (kwR k)) = true := by cases k <;> (simp only [PyData.canLay0]; decide +kernel)
mutual
theorem J.canLay : ∀ j : J, j.toD.canLay0 = true
  | .st i => by simp [J.toD, PyData.canLay0]
  | .ps k xs => by
    have h1 := J.canLays xs
    have h2 := kwP_strOk k
    simp only [J.toD, PyData.canLay0, PyData.canLayAll0, h1, Bool.and_true, Bool.true_and] at *
    exact h2
  | .rn k n x => by
    have h1 := J.canLay x
    have h2 := kwR_strOk k
    simp only [J.toD, PyData.canLay0, PyData.canLayAll0, h1, Bool.and_true, Bool.true_and] at *
    exact h2
theorem J.canLays : ∀ xs : List J, PyData.canLayAll0 (J.toDs xs) = true
  | [] => rfl
  | x :: xs => by
    have h1 := J.canLay x
    have h2 := J.canLays xs
    simp only [J.toDs, PyData.canLayAll0, h1, h2, Bool.and_self]
end
theorem J.shaped (j : J) (h : j.deep ≤ 30) : SeqAt.shaped j.toD = true := by
  have h1 := J.canLay j
  have h2 := J.depth j
  unfold SeqAt.shaped
  rw [h1, decide_eq_true (by omega)]
  rfl
theorem J.eqv (j : J) : PyData.eqv j.toD j.toD = true := SeqAt.eqv_refl _ (J.canLay j)
end Lw
/-! Rq: data of any kind (lists that nobody changes, dicts), beside a pot at p: isinstance, in, repr. -/
namespace Rp
open PySem L2 PyProof.Rows

theorem str_eq_dict (b : Str) (u : Tok) (a : Addr) : Meets (Builtin.«str.__eq__» { pos := [Value.str b u, Value.ref a] }) fun _ R s => (∃ o es n, s.heap.get? a = some o ∧ o.data = Data.dict es n) ∧ R (.ok (.ret Value.notImplemented)) s := by
  rintro prog w A R s ⟨⟨o, es, n, h, hd⟩, q⟩
  have e : Builtin.«str.__eq__» { pos := [Value.str b u, Value.ref a] } = (do
      let o ← asStr? (Value.ref a)
      match o with
      | some o => ret (Value.bool (b.cps.toList == o.cps.toList))
      | none => do
          rule (toString "str." ++ toString "__eq__" ++ toString ".not-a-str")
          ret Value.notImplemented) := rfl
  rw [e]
  refine wpAny_bind ?_
  unfold asStr?
  refine wpAny_bind (wpAny_load h ?_)
  rw [hd]
  refine wpAny_pure ?_
  refine wpAny_bind (wpAny_rule ?_)
  exact wpAny_pure q
theorem dict_eq_str (b : Str) (u : Tok) (a : Addr) : Meets (Builtin.«dict.__eq__» { pos := [Value.ref a, Value.str b u] }) fun _ R s => R (.ok (.ret Value.notImplemented)) s := by
  rintro prog w A R s q
  have e : Builtin.«dict.__eq__» { pos := [Value.ref a, Value.str b u] } = (do
      let x ← isInstance (Value.str b u) (Value.type "dict")
      if (!x) = true then do
          rule (toString "dict." ++ toString "__eq__" ++ toString ".not-a-dict")
          ret Value.notImplemented
        else do
          let p ← Builtin.Dict.addrOf (Value.ref a)
          let q ← Builtin.Dict.addrOf (Value.str b u)
          let z ← Builtin.Dict.samePairs (toString "dict." ++ toString "__eq__") p q
          ret (Value.bool (z == true))) := rfl
  rw [e]
  refine wpAny_bind (wpAny_isInstance_val (b := false) (T := "str") rfl (by rfl) ?_)
  refine wpAny_bind (wpAny_rule ?_)
  exact wpAny_pure q
theorem rc_str_dict {A : Around} {s : Shared} {a : Addr} {o : Obj} {es : Array DictEntry} {n : Nat} (b : Str) (u : Tok) (h : s.heap.get? a = some o) (hc : o.cls = .type "dict") (hd : o.data = .dict es n) (room : A.units < cLine) : SeqAt.RcAt A s (.str b u) (.ref a) false := by
  intro prog w E Q q
  have ta : s.TypeIs (.str b u) "str" := by rfl
  have tb : s.TypeIs (.ref a) "dict" := ⟨o, h, hc⟩
  have e1 : ∀ Q' : Value → Shared → Prop, Q' Value.notImplemented s → wpAny (model prog w) A (call (Value.builtin "str.__eq__") [.str b u, .ref a]) Q' E s := fun Q' z =>
    call_meets PyProof.Rows.slot_str_eq ta F.entry_str_eq (F.args_str_eq_2 _ _) (str_eq_dict b u a) ⟨⟨o, es, n, h, hd⟩, z⟩
  have e2 : ∀ Q' : Value → Shared → Prop, Q' Value.notImplemented s → wpAny (model prog w) A (call (Value.builtin "dict.__eq__") [.ref a, .str b u]) Q' E s := fun Q' z =>
    call_meets F.slot_dict_eq tb F.entry_dict_eq (F.args_dict_eq_2 _ _) (dict_eq_str b u a) z
  exact SeqAt.rc_eq_decline_or (Ta := "str") (Tb := "dict") (k := false) ta tb (by decide) (by rfl) PyProof.Rows.slot_str_eq F.slot_dict_eq_refl e1 e2 (fun Q' z => wpAny_pure z) (.inr room) q
theorem eq_str_dict {A : Around} {s : Shared} {a : Addr} {o : Obj} {es : Array DictEntry} {n : Nat} (b : Str) (u : Tok) (h : s.heap.get? a = some o) (hc : o.cls = .type "dict") (hd : o.data = .dict es n) (room : A.units < cLine) : SeqAt.EqAt A s (.str b u) (.ref a) false := by
  intro prog w E Q q
  unfold eqBool
  refine wpAny_holding ?_
  have e : (Value.str b u == Value.ref a) = false := rfl
  simp only [e, Bool.false_eq_true, if_false]
  refine wpAny_bind (rc_str_dict b u h hc hd room prog w E _ ?_)
  exact wpAny_truthy_bool q

mutual
inductive Dq (K : PySem.W.Frag) (p : Addr) (H : Hp) : V → PyData → Prop
  | non : Dq K p H .non .none
  | bl (b : Bool) : Dq K p H (.bl b) (.bool b)
  | int (i : Int) : Dq K p H (.int i) (.int i)
  | str (x : Str) : Dq K p H (.str x) (.str x)
  | lst {a : Addr} {xs : List V} {ds : List PyData} : a ≠ p → H a = some (.lst xs) → DqAll K p H xs ds → Dq K p H (.ref a) (.list ds)
  | tup {a : Addr} {xs : List V} {ds : List PyData} : SqT K H a xs → DqAll K p H xs ds → Dq K p H (.ref a) (.tuple ds)
  | dct {a : Addr} {kvs : List (Key × V)} {ds : List (PyData × PyData)} : a ≠ p → H a = some (.dK kvs) → (ds = [] → kvs = []) → Dq K p H (.ref a) (.dict ds)
inductive DqAll (K : PySem.W.Frag) (p : Addr) (H : Hp) : List V → List PyData → Prop
  | nil : DqAll K p H [] []
  | cons {v : V} {d : PyData} {vs : List V} {ds : List PyData} : Dq K p H v d → DqAll K p H vs ds → DqAll K p H (v :: vs) (d :: ds)
end
mutual
theorem dq_of {K : PySem.W.Frag} {p : Addr} {H : Hp} : ∀ {d : PyData} {v : V}, noL d = true → Dp K H v d → Dq K p H v d
  | .none, _, _, h => by cases h; exact .non
  | .bool _, _, _, h => by cases h; exact .bl _
  | .int _, _, _, h => by cases h; exact .int _
  | .str _, _, _, h => by cases h; exact .str _
  | .list _, _, n, _ => by simp [noL] at n
  | .tuple ds, _, n, h => by
    cases h with
    | tup hs ha => exact .tup hs (dqAll_of (by simpa [noL] using n) ha)
  | .dict _, _, _, h => by cases h
theorem dqAll_of {K : PySem.W.Frag} {p : Addr} {H : Hp} : ∀ {ds : List PyData} {vs : List V}, noLs ds = true → DpAll K H vs ds → DqAll K p H vs ds
  | [], _, _, h => by cases h; exact .nil
  | d :: ds, _, n, h => by
    cases h with
    | cons h1 h2 =>
      have n' : noL d = true ∧ noLs ds = true := by simpa [noLs] using n
      exact .cons (dq_of n'.1 h1) (dqAll_of n'.2 h2)
end
/-- what keeps such data: tuples, and all but p -/
structure Kp (K : PySem.W.Frag) (p : Addr) (H H' : Hp) : Prop where
  sx : Sx p H H'
  tp : ∀ a xs, SqT K H a xs → SqT K H' a xs
theorem Kp.refl {K : PySem.W.Frag} {p : Addr} {H : Hp} : Kp K p H H := ⟨Sx.refl, fun _ _ h => h⟩
theorem Kp.trans {K : PySem.W.Frag} {p : Addr} {H H1 H2 : Hp} (a : Kp K p H H1) (b : Kp K p H1 H2) : Kp K p H H2 := ⟨a.sx.trans b.sx, fun x xs h => b.tp x xs (a.tp x xs h)⟩
theorem Same.kp {K : PySem.W.Frag} {p : Addr} {H H' : Hp} (s : Same H H') : Kp K p H H' := ⟨Same.sx s, fun _ _ h => same_sqT s h⟩
theorem Sx.kp {K : PySem.W.Frag} {p : Addr} {H H' : Hp} {l : List V} (s : Sx p H H') (hp : H p = some (.lst l)) : Kp K p H H' := ⟨s, fun _ _ h => s.sqT hp h⟩
mutual
theorem Dq.keep {K : PySem.W.Frag} {p : Addr} {H H' : Hp} (s : Kp K p H H') : ∀ {d : PyData} {v : V}, Dq K p H v d → Dq K p H' v d
  | .none, _, h => by cases h; exact .non
  | .bool _, _, h => by cases h; exact .bl _
  | .int _, _, h => by cases h; exact .int _
  | .str _, _, h => by cases h; exact .str _
  | .list ds, _, h => by
    cases h with
    | lst n e ha => exact .lst n (s.sx _ _ n e) (DqAll.keep s ha)
  | .tuple ds, _, h => by
    cases h with
    | tup hs ha => exact .tup (s.tp _ _ hs) (DqAll.keep s ha)
  | .dict _, _, h => by
    cases h with
    | dct n e z => exact .dct n (s.sx _ _ n e) z
theorem DqAll.keep {K : PySem.W.Frag} {p : Addr} {H H' : Hp} (s : Kp K p H H') : ∀ {ds : List PyData} {vs : List V}, DqAll K p H vs ds → DqAll K p H' vs ds
  | [], _, h => by cases h; exact .nil
  | d :: ds, _, h => by
    cases h with
    | cons h1 h2 => exact .cons (Dq.keep s h1) (DqAll.keep s h2)
end
theorem dqAll_length {K : PySem.W.Frag} {p : Addr} {H : Hp} : ∀ {vs : List V} {ds : List PyData}, DqAll K p H vs ds → vs.length = ds.length
  | _, _, .nil => rfl
  | _, _, .cons _ h => congrArg (· + 1) (dqAll_length h)
theorem dqAll_get {K : PySem.W.Frag} {p : Addr} {H : Hp} : ∀ {vs : List V} {ds : List PyData} {i : Nat} {v : V}, DqAll K p H vs ds → vs[i]? = some v → ∃ d, ds[i]? = some d ∧ Dq K p H v d
  | _, _, _, _, .nil, e => by simp at e
  | _, _, 0, _, .cons h _, e => by
    simp at e
    subst e
    exact ⟨_, rfl, h⟩
  | _, _, i + 1, _, .cons _ t, e => by
    obtain ⟨d, e1, e2⟩ := dqAll_get (i := i) t (by simpa using e)
    exact ⟨d, by simpa using e1, e2⟩
theorem dqAll_append {K : PySem.W.Frag} {p : Addr} {H : Hp} : ∀ {vs ws : List V} {ds es : List PyData}, DqAll K p H vs ds → DqAll K p H ws es → DqAll K p H (vs ++ ws) (ds ++ es)
  | _, _, _, _, .nil, h => h
  | _, _, _, _, .cons h t, h' => .cons h (dqAll_append t h')
theorem dqAll_take {K : PySem.W.Frag} {p : Addr} {H : Hp} : ∀ (n : Nat) {vs : List V} {ds : List PyData}, DqAll K p H vs ds → DqAll K p H (vs.take n) (ds.take n)
  | 0, _, _, _ => by simpa using .nil
  | n + 1, _, _, .nil => by simpa using .nil
  | n + 1, _, _, .cons h t => by simpa using .cons h (dqAll_take n t)
theorem dqAll_drop {K : PySem.W.Frag} {p : Addr} {H : Hp} : ∀ (n : Nat) {vs : List V} {ds : List PyData}, DqAll K p H vs ds → DqAll K p H (vs.drop n) (ds.drop n)
  | 0, _, _, h => by simpa using h
  | n + 1, _, _, .nil => by simpa using .nil
  | n + 1, _, _, .cons h t => by simpa using dqAll_drop n t
theorem dq_int_inv {K : PySem.W.Frag} {p : Addr} {H : Hp} {v : V} {i : Int} (h : Dq K p H v (.int i)) : v = .int i := by cases h; rfl
theorem dq_str_inv {K : PySem.W.Frag} {p : Addr} {H : Hp} {v : V} {x : Str} (h : Dq K p H v (.str x)) : v = .str x := by cases h; rfl
theorem dq_bool_inv {K : PySem.W.Frag} {p : Addr} {H : Hp} {v : V} {b : Bool} (h : Dq K p H v (.bool b)) : v = .bl b := by cases h; rfl
theorem dq_tup_inv {K : PySem.W.Frag} {p : Addr} {H : Hp} {v : V} {ds : List PyData} (h : Dq K p H v (.tuple ds)) : ∃ a xs, v = .ref a ∧ SqT K H a xs ∧ DqAll K p H xs ds := by
  cases h with
  | tup h1 h2 => exact ⟨_, _, rfl, h1, h2⟩
theorem tupq {K : PySem.W.Frag} {p q : Addr} {H : Hp} {xs : List V} {ds : List PyData} (hq : H q = none) (h : DqAll K p H xs ds) : Same H (upd H q (.tup xs)) ∧ Dq K p (upd H q (.tup xs)) (.ref q) (.tuple ds) :=
  ⟨same_new hq, .tup (.inl (.inl upd_same)) (h.keep (Same.kp (same_new hq)))⟩
theorem lstq {K : PySem.W.Frag} {p q : Addr} {H : Hp} {xs : List V} {ds : List PyData} (n : q ≠ p) (hq : H q = none) (h : DqAll K p H xs ds) : Same H (upd H q (.lst xs)) ∧ Dq K p (upd H q (.lst xs)) (.ref q) (.list ds) :=
  ⟨same_new hq, .lst n upd_same (h.keep (Same.kp (same_new hq)))⟩

mutual
def noD : PyData → Bool
  | .list ds => noDs ds
  | .tuple ds => noDs ds
  | .dict _ => false
  | _ => true
def noDs : List PyData → Bool
  | [] => true
  | d :: ds => noD d && noDs ds
end
mutual
theorem Dq.dp {K : PySem.W.Frag} {p : Addr} {H : Hp} : ∀ {d : PyData} {v : V}, noD d = true → Dq K p H v d → Dp K H v d
  | .none, _, _, h => by cases h; exact .non
  | .bool _, _, _, h => by cases h; exact .bl _
  | .int _, _, _, h => by cases h; exact .int _
  | .str _, _, _, h => by cases h; exact .str _
  | .list ds, _, n, h => by
    cases h with
    | lst _ e ha => exact .lst (SqL.of e) (DqAll.dp (by simpa [noD] using n) ha)
  | .tuple ds, _, n, h => by
    cases h with
    | tup hs ha => exact .tup hs (DqAll.dp (by simpa [noD] using n) ha)
  | .dict _, _, n, _ => by simp [noD] at n
theorem DqAll.dp {K : PySem.W.Frag} {p : Addr} {H : Hp} : ∀ {ds : List PyData} {vs : List V}, noDs ds = true → DqAll K p H vs ds → DpAll K H vs ds
  | [], _, _, h => by cases h; exact .nil
  | d :: ds, _, n, h => by
    cases h with
    | cons h1 h2 =>
      have n' : noD d = true ∧ noDs ds = true := by simpa [noDs] using n
      exact .cons (Dq.dp n'.1 h1) (DqAll.dp n'.2 h2)
end
theorem dq_ty {K : PySem.W.Frag} {p : Addr} {H : Hp} {v : V} {d : PyData} (h : Dq K p H v d) : TyX K H v (.type (tyN d)) := by
  cases h with
  | non => exact .base .non
  | bl b => exact .base (.bl b)
  | int i => exact .base (.int i)
  | str x => exact .base (.str x)
  | lst n hs ha => exact .base (.lst hs)
  | tup hs ha =>
    rcases hs with (e | ⟨o, e⟩) | ⟨o, its, n, hk, hc, _⟩
    · exact .base (.tup e)
    · exact .fTuple e
    · exact .kTuple hk hc
  | dct n e z => exact .base (.dK e)
section
variable {X : Cx}
def rIsQ (K : PySem.W.Frag) : List V → Hp → VK → Prop := fun xs H Q => ∃ (v : V) (n : String) (p : Addr) (d : PyData) (b : Bool), xs = [v, .ty n] ∧ Dq K p H v d ∧ kitB (tyN d) n = some b ∧ Q (.bl b) H
theorem call_isQ : CallR X (.builtin "isinstance") (rIsQ X.K) := by
  intro pins s σ H xs us Q I r h
  obtain ⟨v, n, p, d, b, e, hd, hk, q⟩ := h
  exact call_isi pins s σ H xs us Q I r ⟨v, .ty n, _, _, _, e, .ty n, dq_ty hd, kit_ty hk, q⟩
/-- is the data one of these texts -/
def inS (d : PyData) (ss : List Str) : Bool := match d with
  | .str x => ss.any (· == x)
  | _ => false
theorem isTuple_of {pins : List (Addr × Obj)} {σ : L2.St} {H : Hp} {s : Shared} {a : Addr} {xs : List V} (I : Inv X pins σ H s) (h : SqT X.K H a xs) : ∃ its : Array Value, Vals xs its.toList ∧ s.heap.IsTuple a its := by
  rcases h with h | ⟨o, its, n, hk, hc, hd, hz, hv⟩
  · obtain ⟨_, its, hv, ht⟩ := h.ok I.hok
    exact ⟨its.toArray, by simpa using hv, ht⟩
  · exact ⟨its, hv, o, I.kIn _ _ hk, hc, n, hd⟩
theorem vals_strs : ∀ {ss : List Str} {us : List Value}, Vals (ss.map V.str) us → ∃ ts : List (Str × Tok), us = ts.map (fun z => .str z.1 z.2) ∧ ts.map (·.1) = ss
  | [], us, h => by
    generalize e : ([] : List Str).map V.str = vs at h
    cases h with
    | nil => exact ⟨[], rfl, rfl⟩
    | cons r h => cases e
  | x :: ss, us, h => by
    generalize e : (x :: ss).map V.str = vs at h
    cases h with
    | nil => cases e
    | cons r h =>
      obtain ⟨rfl, rfl⟩ := List.cons.inj e
      obtain ⟨ts, rfl, rfl⟩ := vals_strs h
      obtain ⟨t, rfl⟩ := r
      exact ⟨(x, t) :: ts, rfl, rfl⟩
def rInQ (K : PySem.W.Frag) : R2 := fun x y H Q => ∃ (p a : Addr) (ss : List Str) (d : PyData), y = .ref a ∧ SqT K H a (ss.map V.str) ∧ Dq K p H x d ∧ Q (.bl (inS d ss)) H
theorem op_inQ (hu : X.A.units + 66 < cLine) : OpR X (compareOp .In) (rInQ X.K) := by
  rintro pins s σ H x y v u Q I rv ru ⟨p, a, ss, d, rfl, ht, hd, q⟩
  obtain rfl : u = .ref a := ru
  obtain ⟨its, hv, hit⟩ := isTuple_of I ht
  obtain ⟨ts, e1, e2⟩ := vals_strs hv
  have room : X.A.in1.units < cLine := by
    show X.A.units + 1 < cLine
    omega
  refine SeqAt.in_tupleAt (fun y => match y with | .str w _ => inS d [w] | _ => false) hit (fun y hy => ?_) ?_
  · have hy' : y ∈ its.toList := by simpa using hy
    rw [e1] at hy'
    obtain ⟨⟨w, t⟩, _, rfl⟩ := List.mem_map.mp hy'
    show SeqAt.EqAt X.A.in1 s (.str w t) v (inS d [w])
    cases hd with
    | non =>
      obtain rfl : v = .none := rv
      exact SeqAt.EqAt.str_none _ _
    | bl b =>
      obtain rfl : v = .bool b := rv
      exact SeqAt.EqAt.str_bool _ _ _
    | int i =>
      obtain ⟨t', rfl⟩ := rv
      exact SeqAt.EqAt.str_int _ _ _ _
    | str x =>
      obtain ⟨t', rfl⟩ := rv
      have e : inS (.str x) [w] = (w == x) := by simp [inS]
      rw [e]
      exact SeqAt.EqAt.str_str _ _ _ _
    | lst n e ha =>
      rename_i l xs ds
      obtain rfl : v = .ref l := rv
      obtain ⟨_, its', n', hv', ho⟩ := I.hok _ _ e
      exact SeqAt.EqAt.str_list (items := its'.toArray) _ _ ⟨_, ho, rfl, n', rfl⟩ room
    | tup hs ha =>
      rename_i l xs ds
      obtain rfl : v = .ref l := rv
      obtain ⟨its', hv', ho⟩ := isTuple_of I hs
      exact SeqAt.EqAt.str_tuple (items := its') _ _ ho room
    | dct n e z =>
      rename_i l kvs ds
      obtain rfl : v = .ref l := rv
      obtain ⟨_, _, vs, _, o, es, ep, h1, h2, h3, _⟩ := I.hok _ _ e
      exact eq_str_dict _ _ h1 h2.1 h3 room
  · refine ⟨.bl (inS d ss), H, I, ?_, q⟩
    show Value.bool _ = Value.bool _
    congr 1
    rw [← Array.any_toList, e1, ← e2, List.any_map]
    cases d <;> simp [inS, Function.comp_def]

mutual
/-- data whose text is made without trouble: only empty dicts -/
def fineQ : PyData → Prop
  | .int i => i.natAbs < 10 ^ 180
  | .str x => (x.cps.toList.all fun c => decide (c < 16 ^ 8)) = true
  | .list xs => finesQ xs
  | .tuple xs => finesQ xs
  | .dict ds => ds = []
  | _ => True
def finesQ : List PyData → Prop
  | [] => True
  | x :: xs => fineQ x ∧ finesQ xs
end
mutual
theorem fineQ_ok : ∀ d : PyData, fineQ d → d.showable = true ∧ d.leavesShort 200 = true
  | .none, _ => by simp [PyData.showable, PyData.leavesShort]
  | .bool _, _ => by simp [PyData.showable, PyData.leavesShort]
  | .int i, h => by
    simp only [fineQ] at h
    simp only [PyData.showable, PyData.leavesShort, decide_eq_true_eq]
    exact ⟨int_log h, shown_int h⟩
  | .str x, h => by
    simp only [fineQ] at h
    simp only [PyData.showable, PyData.leavesShort, true_and]
    exact h
  | .list xs, h => by
    simp only [fineQ] at h
    simp only [PyData.showable, PyData.leavesShort]
    exact finesQ_ok xs h
  | .tuple xs, h => by
    simp only [fineQ] at h
    simp only [PyData.showable, PyData.leavesShort]
    exact finesQ_ok xs h
  | .dict ds, h => by
    simp only [fineQ] at h
    subst h
    simp [PyData.showable, PyData.showableKv, PyData.leavesShort, PyData.leavesShortKv]
theorem finesQ_ok : ∀ xs : List PyData, finesQ xs → PyData.showableAll xs = true ∧ PyData.leavesShortAll 200 xs = true
  | [], _ => by simp [PyData.showableAll, PyData.leavesShortAll]
  | x :: xs, h => by
    simp only [finesQ] at h
    obtain ⟨a1, a2⟩ := fineQ_ok x h.1
    obtain ⟨b1, b2⟩ := finesQ_ok xs h.2
    simp only [PyData.showableAll, PyData.leavesShortAll, a1, a2, b1, b2, Bool.and_self, and_self]
end
mutual
theorem Dq.reads {p : Addr} {pins : List (Addr × Obj)} {σ : L2.St} {H : Hp} {s : Shared} (I : Inv X pins σ H s) (hs : H sysModules = none) : ∀ (d : PyData) (v : V) (u : Value), fineQ d → Dq X.K p H v d → RelV v u → ∃ as, Reads s.heap u d as ∧ sysModules ∉ as
  | .none, _, u, _, h, r => by
    cases h
    obtain rfl : u = .none := r
    exact ⟨_, .none, by simp⟩
  | .bool b, _, u, _, h, r => by
    cases h
    obtain rfl : u = .bool b := r
    exact ⟨_, .bool b, by simp⟩
  | .int i, _, u, _, h, r => by
    cases h
    obtain ⟨t, rfl⟩ := r
    exact ⟨_, .int i t, by simp⟩
  | .str x, _, u, _, h, r => by
    cases h
    obtain ⟨t, rfl⟩ := r
    exact ⟨_, .str x t, by simp⟩
  | .list ds, _, u, f, h, r => by
    cases h with
    | lst n e ha =>
      rename_i l xs
      obtain rfl : u = .ref l := r
      obtain ⟨_, its', n', hv', ho⟩ := I.hok _ _ e
      obtain ⟨as, ra, na⟩ := DqAll.reads I hs ds xs its' (by simpa only [fineQ] using f) ha hv'
      refine ⟨_, .list ho rfl rfl (by simpa using ra), ?_⟩
      intro z
      rcases List.mem_cons.mp z with z | z
      · rw [z, e] at hs
        cases hs
      · exact na z
  | .tuple ds, _, u, f, h, r => by
    cases h with
    | tup ht ha =>
      rename_i l xs
      obtain rfl : u = .ref l := r
      obtain ⟨its', hv', o, h1, h2, n, h3⟩ := isTuple_of I ht
      obtain ⟨as, ra, na⟩ := DqAll.reads I hs ds xs its'.toList (by simpa only [fineQ] using f) ha hv'
      exact ⟨_, .tuple h1 h2 h3 ra, na⟩
  | .dict ds, _, u, f, h, r => by
    cases h with
    | dct n e z =>
      rename_i l kvs
      obtain rfl : u = .ref l := r
      simp only [fineQ] at f
      subst f
      obtain rfl := z rfl
      obtain ⟨_, _, vs, kv, o, es, ep, h1, h2, h3, _, h4, _⟩ := I.hok _ _ e
      generalize ek : ([] : List (Key × V)) = kk at kv
      cases kv with
      | cons _ _ => cases ek
      | nil =>
        generalize ee : es.toList = el at h4
        cases h4
        have e0 : es = #[] := by
          apply Array.ext'
          simpa using ee
        subst e0
        refine ⟨_, .dict (as := []) (bs := []) h1 h2.1 h3 (by simpa using .nil) (by simpa using .nil), ?_⟩
        intro y
        have y' : sysModules = l := by simpa using y
        rw [y', e] at hs
        cases hs
theorem DqAll.reads {p : Addr} {pins : List (Addr × Obj)} {σ : L2.St} {H : Hp} {s : Shared} (I : Inv X pins σ H s) (hs : H sysModules = none) : ∀ (ds : List PyData) (vs : List V) (us : List Value), finesQ ds → DqAll X.K p H vs ds → Vals vs us → ∃ as, ReadsAll s.heap us ds as ∧ sysModules ∉ as
  | [], _, us, _, h, r => by
    cases h
    generalize e : ([] : List V) = l at r
    cases r with
    | nil => exact ⟨_, .nil, by simp⟩
    | cons _ _ => cases e
  | d :: ds, _, us, f, h, r => by
    cases h with
    | cons h1 h2 =>
      rename_i v vs
      generalize e : v :: vs = l at r
      cases r with
      | nil => cases e
      | cons r1 r2 =>
        obtain ⟨rfl, rfl⟩ := List.cons.inj e
        simp only [finesQ] at f
        obtain ⟨as, ra, na⟩ := Dq.reads I hs d _ _ f.1 h1 r1
        obtain ⟨bs, rb, nb⟩ := DqAll.reads I hs ds _ _ f.2 h2 r2
        exact ⟨_, .cons ra rb, by simp [na, nb]⟩
end
/-- the written part holds the table of modules -/
def Sys (base : Heap) : Prop := ∃ o, base.get? sysModules = some o
theorem Inv.nosys {pins : List (Addr × Obj)} {σ : L2.St} {H : Hp} {s : Shared} (I : Inv X pins σ H s) (hb : Sys X.base) : H sysModules = none := by
  obtain ⟨o, hb⟩ := hb
  obtain ⟨h1, h2⟩ := I.ok.bs _ _ hb
  exact I.base.free _ _ h1 h2 (I.ok.noex _ _ hb)
def rReprQ (K : PySem.W.Frag) : List V → Hp → VK → Prop := fun xs H Q => ∃ (p : Addr) (v : V) (d : PyData), xs = [v] ∧ Dq K p H v d ∧ fineQ d ∧ d.depth ≤ 64 ∧ d.bulk ≤ 80000 ∧ Q (.str d.shown) H
theorem call_reprQ (hb : Sys X.base) (hg : X.A.guards = some []) (hu : X.A.units + 66 < cLine) : CallR X (.builtin "repr") (rReprQ X.K) := by
  intro pins s σ H xs us Q I r h
  obtain ⟨p, v, d, rfl, hd, hf, hdep, hw, q⟩ := h
  obtain ⟨hs, hl⟩ := fineQ_ok d hf
  have hz : d.shown.length ≤ sizeLine := by
    have := PyData.shown_le_bulk 200 (by decide) d hl
    rw [sizeLine_eq]
    omega
  obtain ⟨u, rfl, ru⟩ := vals1 r
  obtain ⟨as, hr, hsm⟩ := Dq.reads I (Inv.nosys I hb) d v u hf hd ru
  cases hr with
  | none => exact P.repr_of_none ⟨.str _, H, I.tok _, ⟨_, rfl⟩, q⟩
  | bool b => exact P.repr_of_bool ⟨.str _, H, I.tok _, ⟨_, rfl⟩, q⟩
  | int i t => exact P.repr_of_int (by simpa [PyData.showable] using hs) ⟨.str _, H, I.tok _, ⟨_, rfl⟩, q⟩
  | str x t => exact P.repr_of_str ⟨.str _, H, I.tok _, ⟨_, rfl⟩, q⟩ (by simpa only [PyData.shown] using hz)
  | list h1 h2 h3 h4 =>
    refine repr_of_reads' (h₀ := s.heap) (.list h1 h2 h3 h4) hs (fun _ => hsm) hg (by omega) (fun _ _ e => e) (fun h' u' tk hk => ?_) hz
    exact ⟨.str _, H, I.kept hk, ⟨_, rfl⟩, q⟩
  | tuple h1 h2 h3 h4 =>
    refine repr_of_reads' (h₀ := s.heap) (.tuple h1 h2 h3 h4) hs (fun _ => hsm) hg (by omega) (fun _ _ e => e) (fun h' u' tk hk => ?_) hz
    exact ⟨.str _, H, I.kept hk, ⟨_, rfl⟩, q⟩
  | dict h1 h2 h3 h4 h5 =>
    refine repr_of_reads' (h₀ := s.heap) (.dict h1 h2 h3 h4 h5) hs (fun _ => hsm) hg (by omega) (fun _ _ e => e) (fun h' u' tk hk => ?_) hz
    exact ⟨.str _, H, I.kept hk, ⟨_, rfl⟩, q⟩

def rInLD (K : PySem.W.Frag) : R2 := fun x y H Q => ∃ (ds : List PyData) (d : PyData), Dp K H y (.list ds) ∧ Dp K H x d ∧ PyData.canLayAll0 ds = true ∧ d.canLay0 = true ∧ d.depth ≤ 60 ∧ Q (.bl (ds.any fun e => e.eqv d)) H
theorem op_inLD (hu : X.A.units + 66 < cLine) : OpR X (compareOp .In) (rInLD X.K) := by
  rintro pins s σ H x y v u Q I rv ru ⟨ds, d, hy, hx, c1, c2, c3, q⟩
  obtain ⟨as, r1⟩ := Dp.reads I _ _ _ hy ru
  obtain ⟨bs, r2⟩ := Dp.reads I _ _ _ hx rv
  refine SeqAt.in_list_reads r1 r2 c1 c2 ?_ ⟨.bl _, H, I, rfl, q⟩
  have : min (PyData.depthAll ds) d.depth ≤ 60 := Nat.le_trans (Nat.min_le_right _ _) c3
  omega

end
end Rp

namespace Rp
open PySem L2 PyProof.Rows
theorem law_endS {l : PySem.W.OpenLaw} {n k : Nat} {q : Program} {loose : List Str} {XP : (Str → Option Value) → Heap → Prop} {YP : World → Heap → Prop} {d : DefRec} {K : Params → PySem.W.Frag} {sp : PySem.W.Frag → Sp} {x : Str}
    (hn : l.most = some n) (hn2 : n ≤ sizeLine) (hdf : d.params.defaults = []) (hr : Room k callerA) (himp : importsNone q = true)
    (hY : ∀ (w : World) (h : Heap), YP w h → (K w.params).In h)
    (F : ∀ (w : World) (mg : Str → Option Value) (fa : Addr) (h : Heap), (K w.params).In h → h.Ns mainGlobals mg → mg d.name = some (.ref fa) →
      ∃ fd : FuncData, (∀ (s : Shared) (u : Value), BindsTo s fd ⟨[u], []⟩ [(x, u)]) ∧
        ∀ base : Heap, (K w.params).In base → base.Ns mainGlobals mg → Sys base → FnG l.prog w (K w.params) mg base CX0 k fa fd [x] (sp (K w.params)))
    (hsp : ∀ (K : PySem.W.Frag) (H : Hp) (a : Addr) (ns : List Int), ns.length ≤ n → Only H → SqL K H a (ns.map V.int) → sp K [.ref a] H (fun v _ => v = .bl true) fun _ _ _ => False) :
    PySem.W.WalkO q loose XP YP l.row.toRowW d [] (fun f vs => PySem.call f vs) := by
  refine Att.attach_call hn hdf fun w s₀ s₁ mg mb fa o pm cd doc a vs ns G Y ho hd hcd hmg hobj hints hlen hgens => ?_
  have kin := hY w _ Y
  obtain ⟨fd, bd, FF⟩ := F w mg fa _ kin G.T.g hmg
  obtain ⟨H, hO, hS, hok, only, notK⟩ := script_heap (P := l.prog) (w := w) kin hobj hints (Nat.le_trans hlen hn2)
  have free : ∀ {b : Addr} {ob : Obj} {es : Array DictEntry} {ep : Nat}, s₁.heap.get? b = some ob → ob.data = .dict es ep → H b = none := by
    intro b ob es ep h1 h2
    cases c : H b with
    | none => rfl
    | some u =>
      have e : b = a := only b (by rw [c]; exact fun z => nomatch z)
      rw [e, hobj] at h1
      have h3 := congrArg Obj.data (Option.some.inj h1)
      rw [h2] at h3
      exact nomatch h3
  have ns' : ∀ {b : Addr} {m : Str → Option Value}, s₁.heap.Ns b m → (hidT s₁.heap H).Ns b m := by
    rintro b m ⟨ob, es, ep, h1, h2, h3⟩
    exact ⟨ob, es, ep, hidT_get h1 (free h1 h2), h2, h3⟩
  have kinB : (K w.params).In (hidT s₁.heap H) := fun b ob e => hidT_get (kin b ob e) (notK b ob e)
  have lim : (hidT s₁.heap H).NoLimit := by
    obtain ⟨mc, h1, h2⟩ := G.T.nolimit
    exact ⟨mc, ns' h1, h2⟩
  have sys : Sys (hidT s₁.heap H) := by
    obtain ⟨mm, hm, _⟩ := (G.T.seer himp).mods
    obtain ⟨ob, es, ep, h1, _⟩ := ns' hm
    exact ⟨ob, h1⟩
  have en : Env0 l.prog w (K w.params) mg (hidT s₁.heap H) callerA [] s₁ H :=
    ⟨rfl, ⟨kinB, ns' G.T.g, ⟨mb, ns' G.T.b, G.T.builtins⟩, lim⟩, fun b ob e => of_hidT e, Nat.le_of_eq (hidT_size _ _), trivial, (fun b z => nomatch z), hok, .of_eq hgens⟩
  refine codeAny_mono ((FF _ kinB (ns' G.T.g) sys).run callerA [] s₁ H ⟨[.ref a], []⟩ [.ref a] [.ref a] _ _ hr rfl en (bd s₁ (.ref a)) (.cons rfl .nil) (hsp _ H a ns hlen hO hS)) fun r s' z => ?_
  cases r with
  | error e => exact False.elim z
  | ok fl =>
    cases fl with
    | next => exact False.elim z
    | brk => exact False.elim z
    | cont => exact False.elim z
    | ret u =>
      obtain ⟨v, H', os, bare, un, hok', rr, e⟩ := z
      have e' : v = .bl true := e
      subst e'
      obtain rfl : u = Value.bool true := rr
      refine ⟨rfl, OldK.of_keep fun b ob hb => ?_, os, bare⟩
      cases c : H b with
      | none => exact un.keep b ob hb c (fun z => nomatch z) (fun z => nomatch z)
      | some u =>
        rcases hO b with z | ⟨ox, xs, z⟩
        · rw [c] at z
          cases z
        · obtain ⟨e1, _⟩ := hok b _ z
          obtain ⟨e2, _⟩ := hok' b _ (un.frzs b ox _ z)
          rw [hb] at e1
          cases e1
          exact e2
end Rp
/-! Ex: errors: what a clause names, calls that raise nothing after all. -/
namespace Rp
open PySem L2 PyProof.Rows
/-- an error of the class S is what «except T» names, when S stands below T -/
theorem exm_sub {K : PySem.W.Frag} {S T : Addr} {b : Bool} (h1 : PySem.W.subIn K (.ref T) (.type "BaseException") = some true) (h2 : PySem.W.isClsIn K T = true) (h3 : PySem.W.typeIn K (.ref T) = some (.type "type")) (h4 : PySem.W.subIn K (.ref S) (.ref T) = some b) :
    PySem.W.exmOne K (.ref S) (.ref T) = some b := by
  have e1 : (PySem.W.subIn K (.ref T) (.type "BaseException") == some true) = true := by rw [h1] <;> rfl
  have e2 : ((PySem.W.clsIn K T).isSome && PySem.W.typeIn K (.ref T) == some (.type "type")) = true := by
    have h2' : (PySem.W.clsIn K T).isSome = true := h2
    rw [h2', h3] <;> rfl
  show (if (PySem.W.subIn K (.ref T) (.type "BaseException") == some true) = true then (if ((PySem.W.clsIn K T).isSome && PySem.W.typeIn K (.ref T) == some (.type "type")) = true then PySem.W.subIn K (.ref S) (.ref T) else none) else none) = some b
  rw [if_pos e1, if_pos e2]
  exact h4
/-- a def that may raise, called where it does not -/
theorem passN {X : Cx} : Passes (L2.CX X.prog X.w) X E0 := by
  rintro pins σ H s e s' _ ⟨_, _, _, _, _, _, _, _, _, _, _, _, h⟩
  exact h.elim
/-- the heap without what stands at L -/
def mask (H : Hp) (L : Addr) : Hp := fun b => if b = L then none else H b
theorem same_mask (H : Hp) (L : Addr) : Same (mask H L) H := fun b o h => by
  unfold mask at h
  split at h
  · cases h
  · exact h
theorem mask_new {H : Hp} {L : Addr} {o : HO} (h : H L = none) : Same H (mask (upd H L o) L) := fun b u e => by
  have n : b ≠ L := fun z => by rw [z, h] at e; cases e
  show (if b = L then none else upd H L o b) = some u
  rw [if_neg n, upd_ne n]
  exact e
theorem mask_upd {H : Hp} {L : Addr} {o : HO} : mask (upd H L o) L = mask H L := by
  funext b
  unfold mask
  split
  · rfl
  · rename_i n
    exact upd_ne n
theorem mask_mono {H H' : Hp} {L : Addr} (s : Same H H') : Same (mask H L) (mask H' L) := fun b o h => by
  unfold mask at h ⊢
  split at h
  · cases h
  · rename_i n
    rw [if_neg n]
    exact s b o h
theorem mask_at {H : Hp} {L b : Addr} {o : HO} (n : b ≠ L) (h : H b = some o) : mask H L b = some o := by
  unfold mask
  rw [if_neg n]
  exact h
theorem mask_none {H : Hp} {L : Addr} : mask H L L = none := by
  unfold mask
  rw [if_pos rfl]
theorem sx_mask {H : Hp} {L : Addr} : Sx L H (mask H L) := fun b o n h => mask_at n h
end Rp
/-! En: enumerate over a tuple. -/
namespace Rp
open PySem L2 PyProof.Rows
theorem both {M : Model} {A : Around} {α : Type} {Q : α → Shared → Prop} {E : Value → Shared → Prop} {s : Shared} {f : Bool → Sem α} {b : Bool} (h : ∀ b, wpAny M A (f b) Q E s) : wpAny M A (f b) Q E s := h b
theorem meets_enumerate_newT (l : Addr) (items : Array Value) : Meets (Builtin.«enumerate.__new__» { pos := [Value.type "enumerate", Value.ref l] }) fun _ R s => s.heap.IsTuple l items ∧
    R (.ok (.ret (.ref (s.heap.push { cls := .type "tuple_iterator", data := .fields #[.ref l, .int 0 0] }).objs.size)))
      { s with heap := (s.heap.push { cls := .type "tuple_iterator", data := .fields #[.ref l, .int 0 0] }).push { cls := .type "enumerate", data := .fields #[.none, .bool false, .ref s.heap.objs.size, rawInt 0, .none, .none] } } := by
  refine Meets.of_wp fun prog w A R s hh => ?_
  obtain ⟨hl, h⟩ := hh
  have hsub := sub_enumerate
  obtain ⟨hp, g, d, tk, os⟩ := s
  refine wpAny_bind ?_
  refine wpAny_bind (wpAny_pure ?_)
  refine wpAny_ite_false rfl ?_
  refine wpAny_bind (wpAny_of_eq hsub ?_)
  refine wpAny_ite_false rfl ?_
  refine wpAny_pure ?_
  refine wpAny_ite_true rfl ?_
  refine wpAny_bind ?_
  refine wpAny_bind (wpAny_stack_any fun st => ?_)
  refine wpAny_pure ?_
  have fin : wpAny (model prog w) A.in1 (do
              let __do_lift ← pyIter (Value.ref l)
              let __do_lift ←
                Builtin.SmallTypes.newRecord (Value.type "enumerate")
                    (Builtin.SmallTypes.ownedTupleFields ++ [__do_lift, rawInt 0, Value.none, Value.none])
              ret __do_lift) (fun fin s' => ∃ v, fin = Fin.done (Flow.ret v) ∧ R (Except.ok (Flow.ret v)) s') (fun e s' => R (Except.error e) s')
    { heap := hp, gens := g, drawn := d, toks := tk, os := os } := by
    refine wpAny_bind (wpAny_pyIter_tuple hl ?_)
    refine wpAny_bind ?_
    unfold Builtin.SmallTypes.newRecord
    refine wpAny_newObj_type ?_ (by show (6 : Nat) ≤ sizeLine + 2; decide)
    exact wpAny_pure ⟨_, rfl, h⟩
  split
  · generalize (_ == Value.type "enumerate") = short
    cases short with
    | true =>
      refine wpAny_ite_true rfl ?_
      refine wpAny_bind (wpAny_pure ?_)
      exact fin
    | false =>
      refine wpAny_ite_false rfl ?_
      refine wpAny_bind (wpAny_pure ?_)
      exact fin
  · refine wpAny_ite_false rfl ?_
    refine wpAny_bind (wpAny_pure ?_)
    exact fin
theorem call_enumerate_tup {prog : Program} {w : World} {A : Around} {E : Value → Shared → Prop} {s : Shared} {l : Addr} {items : Array Value} {Q : Value → Shared → Prop} (hl : s.heap.IsTuple l items)
    (h : ∀ h' : Heap, IsEnum h' (s.heap.objs.size + 1) s.heap.objs.size 0 .none → h'.IsTupleIter s.heap.objs.size l 0 → h'.objs.size = s.heap.objs.size + 2 → (∀ (b : Addr) (o : Obj), s.heap.get? b = some o → h'.get? b = some o) →
      Q (.ref (s.heap.objs.size + 1)) { s with heap := h' }) : wpAny (model prog w) A (call (.type "enumerate") [.ref l]) Q E s := by
  refine callType_new F.called_enumerate (by decide) (F.typeCall_enumerate_1 _) (F.newCall_enumerate_1 _) (fun _ => F.args_object_init_2 _ _) F.entry_enumerate_new (meets_enumerate_newT l items) ?_
  refine ⟨hl, ?_⟩
  have e1 : (s.heap.push { cls := .type "tuple_iterator", data := .fields #[.ref l, .int 0 0] }).objs.size = s.heap.objs.size + 1 := Heap.size_push ..
  have g1 := Heap.get?_push_size s.heap (o := { cls := .type "tuple_iterator", data := .fields #[.ref l, .int 0 0] }) rfl
  have g2 := Heap.get?_push_size (s.heap.push { cls := .type "tuple_iterator", data := .fields #[.ref l, .int 0 0] }) (o := { cls := .type "enumerate", data := .fields #[.none, .bool false, .ref s.heap.objs.size, rawInt 0, .none, .none] }) rfl
  rw [e1] at g2
  rw [e1]
  refine ⟨⟨_, g2, rfl⟩, h _ g2 ⟨_, Heap.get?_push_of_some _ g1, rfl, rfl⟩ ?_ fun b o e => Heap.get?_push_of_some _ (Heap.get?_push_of_some _ e)⟩
  rw [Heap.size_push, Heap.size_push]
theorem draws_tup {prog : Program} {w : World} {A : Around} (hh : A.handled = none) (it t : Addr) (hne : t ≠ it) (items : Array Value) :
    Draws prog w A it [it, t] items.size (fun i v => items[i]? = some v) (fun i h => h.IsTupleIter it t i ∧ h.IsTuple t items) where
  live := fun i h ⟨⟨o, ho, _⟩, _⟩ => ⟨o, ho⟩
  frame := fun i h h' ⟨⟨o, ho, h1⟩, ⟨o2, ho2, h2⟩⟩ k => ⟨⟨o, k it (by simp) o ho, h1⟩, ⟨o2, k t (by simp) o2 ho2, h2⟩⟩
  item := fun i s Q E hi ⟨h1, h2⟩ q => by
    obtain ⟨o2, ho2, h3⟩ := id h2
    refine RZ.nextOf_tuple_item h1 h2 (Array.getElem?_eq_getElem hi) fun h' h4 sb => ?_
    exact q _ h' s.toks (Array.getElem?_eq_getElem hi) ⟨h4, o2, (sb.2 t hne).trans ho2, h3⟩ sb
  done := fun s Q E ⟨h1, h2⟩ q => RZ.nextOf_tuple_end hh h1 h2 (Array.getElem?_eq_none (Nat.le_refl _)) fun h' e x k => q h' e x k
theorem draws_end {prog : Program} {w : World} {A : Around} (hh : A.handled = none) (it t : Addr) (items : Array Value) {i : Nat} (hi : items.size ≤ i) :
    Draws prog w A it [it, t] i (fun _ _ => False) (fun j h => j = i ∧ h.IsTupleIter it t i ∧ h.IsTuple t items) where
  live := fun _ h ⟨_, ⟨o, ho, _⟩, _⟩ => ⟨o, ho⟩
  frame := fun _ h h' ⟨e, ⟨o, ho, h1⟩, ⟨o2, ho2, h2⟩⟩ k => ⟨e, ⟨o, k it (by simp) o ho, h1⟩, ⟨o2, k t (by simp) o2 ho2, h2⟩⟩
  item := fun j s Q E hj ⟨e, _⟩ _ => absurd hj (by omega)
  done := fun s Q E ⟨_, h1, h2⟩ q => RZ.nextOf_tuple_end hh h1 h2 (Array.getElem?_eq_none hi) fun h' e x k => q h' e x k
def IteT (K : PySem.W.Frag) (a : Addr) : It where
  go := fun i H => ∃ xs x, SqT K H a xs ∧ xs[i]? = some x
  yld := fun i H v H' => ∃ T x, v = V.ref T ∧ H T = none ∧ H' = upd H T (.tup [.int (i : Nat), x]) ∧ ∀ xs : List V, SqT K H a xs → xs[i]? = some x
  stop := fun i H => ∃ xs, SqT K H a xs ∧ xs.length ≤ i
theorem turn_enumT {P : Program} {w : World} {K : PySem.W.Frag} {elts : List Expr} {kk : Nat} {tpos : Pos} (a e it : Addr) :
    Turn P w K (.Tuple elts kk tpos) (IteT K a) [e, it] e fun i h => (∃ old, IsEnum h e it (i : Nat) old) ∧ h.IsTupleIter it a i ∧ e ≠ it ∧ a ≠ it ∧ a ≠ e := by
  refine ⟨by simp, ?_, ?_, ?_, ?_, ?_⟩
  · rintro i h ⟨⟨old, he⟩, ⟨o, ho, h1, h2⟩, hne⟩ b hb
    simp only [List.mem_cons, List.not_mem_nil, or_false] at hb
    rcases hb with rfl | rfl
    · exact ⟨_, he, fun v z => by cases z⟩
    · exact ⟨o, ho, fun v z => by rw [h2] at z; cases z⟩
  · rintro i h h' ⟨⟨old, he⟩, ⟨o, ho, h1, h2⟩, hne⟩ k
    exact ⟨⟨old, k e (by simp) _ he⟩, ⟨o, k it (by simp) _ ho, h1, h2⟩, hne⟩
  · rintro X rfl rfl rfl hcalm i pins s σ H E I fp ⟨⟨old, he⟩, hit, hne, ha1, ha2⟩ ⟨xs, x, hx, hxi⟩
    obtain ⟨its, hvals, ht, hz⟩ := I.tuple hx
    have hh : X.A.handled = none := I.ok.hd hcalm
    have W := WalksT.enumerateD (prog := X.prog) (w := X.w) (A := X.A) (draws_tup (A := X.A.in1) hh it a ha1 its.toArray) e hne (by simp [hne, Ne.symm ha2]) (by simp)
    obtain ⟨u, hu, hru⟩ := hvals.get hxi
    have hlt : i < its.length := (List.getElem?_eq_some_iff.mp hu).1
    refine W.item i s _ E (by simpa using hlt) ⟨⟨old, he⟩, hit, ht⟩ (fun T vals h' tk hv hT hTup hMid fr => ⟨_, rfl, ?_⟩)
    refine W.go elts kk tpos i T _ _ E hMid (fun h'' hSt fr2 => ?_)
    obtain ⟨tt, y, hy, rfl⟩ := hv
    have hy' : its[i]? = some y := by simpa using hy
    rw [hu] at hy'
    obtain rfl := Option.some.inj hy'
    have hTn : ¬ T ∈ [e, it] := W.apart i T h' hMid
    obtain ⟨oT, g1, g2, n, g3⟩ := hTup
    have fT : H T = none := I.hok.fresh hT
    refine ⟨.ref T, upd H T (.tup [.int (i : Nat), x]), I.turnedNew (ch := [e, it]) (h' := h'') (fun b o hb ho => fr2 b o hb (fr b o hb ho)) fp hT ?_, rfl, ⟨T, x, rfl, fT, rfl, fun ys hys => by rw [I.tuple_inj hys hx]; exact hxi⟩, ⟨hSt.1, hSt.2.1, hne, ha1, ha2⟩, fun b hb => ?_⟩
    · exact ⟨(by show 2 ≤ sizeLine; decide), [_, _], .cons ⟨_, rfl⟩ (.cons hru .nil), oT, fr2 T oT hTn g1, g2, n, g3⟩
    · have nb : b ≠ T := fun z => hTn (z ▸ hb)
      rw [upd_ne nb]
      exact (fp b hb).1
  · rintro X rfl rfl rfl hcalm i pins s σ H E I fp ⟨⟨old, he⟩, hit, hne, ha1, ha2⟩ ⟨xs, hx, hxi⟩
    obtain ⟨its, hvals, ht, hz⟩ := I.tuple hx
    have hh : X.A.handled = none := I.ok.hd hcalm
    have hl : its.toArray.size ≤ i := by
      rw [List.size_toArray, ← hvals.length]
      exact hxi
    have W := WalksT.enumerateD (prog := X.prog) (w := X.w) (A := X.A) (draws_end (A := X.A.in1) hh it a its.toArray hl) e hne (by simp [hne, Ne.symm ha2]) (by simp)
    exact W.done s _ E ⟨⟨old, he⟩, rfl, hit, ht⟩ (fun h' tk fr => ⟨rfl, I.turnedL (ch := [e, it]) fr fp⟩)
  · rintro A i s Q E ⟨⟨old, he⟩, hit, hne⟩ q
    exact wpAny_pyIter_enum he q
section
variable {X : Cx}
def iEnumT (K : PySem.W.Frag) (ta : TA) : TI := fun σ H R => ta σ H fun vs H1 => ∃ a xs, vs = [V.ref a] ∧ SqT K H1 a xs ∧ R (IteT K a) H1
theorem pi_enumT {e : Expr} {ta : TA} {p pos tpos : Pos} {elts : List Expr} {kk : Nat} (hg : Gl X "enumerate") (hm : X.mg "enumerate" = none) (he : PA X [e] ta)
    (hs : starEach [e] X.env = [(false, eval e X.env)] := by rfl) : PI X (.Tuple elts kk tpos) (.Call (.Name "enumerate" p) [e] [] pos) (iEnumT X.K ta) := by
  refine ⟨fun pins s σ H R I h => ?_⟩
  refine Call_ (ld_blt I hg hm boot_enumerate (callWith_type1 (he := hs) (thn (he.run pos pins s σ H _ I h) fun us s1 x => ?_)))
  obtain ⟨vs, H1, I1, r1, a, xs, rfl, hq, q⟩ := x
  cases r1 with
  | cons r rr =>
  cases rr
  cases r
  obtain ⟨its, rv, p', hz⟩ := I1.tuple hq
  have hlt : a < s1.heap.objs.size := by
    obtain ⟨o, ho, _⟩ := p'
    exact Heap.lt_size ho
  refine call_enumerate_tup p' fun h' he hit hsz hk => wpAny_pyIter_enum he ?_
  have I2 := I1.kept (t' := s1.toks) hk
  refine ⟨s1.heap.objs.size + 1, [s1.heap.objs.size + 1, s1.heap.objs.size], _, IteT X.K a, H1, rfl, I2, turn_enumT a _ _, ⟨⟨_, he⟩, hit, Nat.succ_ne_self _, Nat.ne_of_lt hlt, Nat.ne_of_lt (Nat.lt_succ_of_lt hlt)⟩, fun b hb => ?_, q⟩
  have hb2 : s1.heap.objs.size ≤ b := by
    simp only [List.mem_cons, List.not_mem_nil, or_false] at hb
    rcases hb with rfl | rfl
    · exact Nat.le_succ _
    · exact Nat.le_refl _
  exact I1.fpOk hb2 (I1.hok.fresh hb2)
end
/-- a comprehension, a loop over it -/
theorem walk_enumT {K : PySem.W.Frag} {a : Addr} {xs : List V} : Walk (IteT K a) xs.length (fun H => SqT K H a xs) (YPair (fun i => some (.int (i : Nat))) (fun i => xs[i]?)) := by
  refine ⟨fun i H hi h => ⟨xs, _, h, List.getElem?_eq_getElem hi⟩, fun H h => ⟨xs, h, Nat.le_refl _⟩, fun i H x H' hi h y => ?_⟩
  obtain ⟨T, z, rfl, hT, rfl, f⟩ := y
  exact ⟨T, _, z, rfl, hT, rfl, rfl, f xs h⟩
end Rp
/-! Rv: a tuple read from its end, t[::-1]. -/
namespace Rp
open PySem L2 PyProof.Rows
theorem adjust_back (n : Nat) : Builtin.Slice.sliceAdjust none none (-1) (n : Int) = ((n : Int) - 1, -1) := by
  unfold Builtin.Slice.sliceAdjust
  simp
theorem places_back (n : Nat) : Builtin.Slice.slicePlaces ((n : Int) - 1) (-1) (-1) = n := by
  unfold Builtin.Slice.slicePlaces
  rw [if_neg (by decide)]
  by_cases h : (n : Int) - 1 > -1
  · rw [if_pos h]
    have : (- -1 : Int) = 1 := by decide
    rw [this, Int.ediv_one]
    omega
  · rw [if_neg h]
    omega
theorem sliceApplied_back {prog : Program} {w : World} {A : Around} {E : Value → Shared → Prop} {s : Shared} {sl : Addr} {vs : Value} {n : Nat} {Q : Int × Int × Nat → Shared → Prop}
    (hs : s.heap.IsSliceOf sl .none .none vs) (hv : IsPart vs (some (-1))) (h : Q ((n : Int) - 1, -1, n) s) : wpAny (model prog w) A (Builtin.Slice.sliceApplied (.ref sl) (pure (n : Int))) Q E s := by
  obtain ⟨os, hos, hcs, hds⟩ := hs
  unfold Builtin.Slice.sliceApplied Builtin.Slice.sliceFields
  refine wpAny_bind (wpAny_bind (wpAny_field hos hds rfl (wpAny_bind (wpAny_field hos hds rfl (wpAny_bind (wpAny_field hos hds rfl (wpAny_pure ?_)))))))
  refine wpAny_bind (HT.slicePart_ (o := some (-1)) hv ?_)
  refine wpAny_bind (HT.slicePart_ (o := none) .none ?_)
  refine wpAny_bind (HT.slicePart_ (o := none) .none ?_)
  refine wpAny_bind (wpAny_pure ?_)
  show wpAny _ _ (match Builtin.Slice.sliceAdjust none none (-1) (n : Int) with | (lo, hi) => pure (lo, -1, Builtin.Slice.slicePlaces lo hi (-1))) Q E s
  rw [adjust_back]
  show wpAny _ _ (pure ((n : Int) - 1, -1, Builtin.Slice.slicePlaces ((n : Int) - 1) (-1) (-1))) Q E s
  rw [places_back]
  exact wpAny_pure h
theorem filterMap_at {α : Type} (l : List α) : ∀ k : Nat, (List.range k).filterMap (fun m => l[m]?) = l.take k
  | 0 => by simp
  | k + 1 => by
    rw [List.range_succ, List.filterMap_append, filterMap_at l k, List.take_add_one]
    cases h : l[k]? <;> simp [h]
theorem filterMap_same {α β : Type} {f g : α → Option β} : ∀ {l : List α}, (∀ x ∈ l, f x = g x) → l.filterMap f = l.filterMap g
  | [], _ => rfl
  | x :: l, h => by
    rw [List.filterMap_cons, List.filterMap_cons, h x (List.mem_cons_self ..), filterMap_same fun y hy => h y (List.mem_cons_of_mem _ hy)]
theorem pick_back (xs : Array Value) : (List.filterMap (fun m : Nat => xs[(((xs.size : Int) - 1) + (m : Int) * (-1)).toNat]?) (List.range xs.size)).toArray = xs.toList.reverse.toArray := by
  congr 1
  have e : ∀ m ∈ List.range xs.size, xs[(((xs.size : Int) - 1) + (m : Int) * (-1)).toNat]? = xs.toList.reverse[m]? := by
    intro m hm
    have hm' := List.mem_range.mp hm
    have e1 : (((xs.size : Int) - 1) + (m : Int) * (-1)).toNat = xs.toList.length - 1 - m := by
      rw [Array.length_toList]
      omega
    rw [List.getElem?_reverse (by rw [Array.length_toList]; exact hm'), e1, Array.getElem?_toList]
  rw [filterMap_same e, filterMap_at, List.take_of_length_le]
  rw [List.length_reverse, Array.length_toList]
  exact Nat.le_refl _
theorem getItem_tuple_back {prog : Program} {w : World} {A : Around} {E : Value → Shared → Prop} {s : Shared} {t sl : Addr} {items : Array Value} {vs : Value} {Q : Value → Shared → Prop} (ht : IsTup s.heap t items) (hs : s.heap.IsSliceOf sl .none .none vs) (hv : IsPart vs (some (-1)))
    (h : Q (.ref s.heap.objs.size) { s with heap := s.heap.push { cls := .type "tuple", data := .seq items.toList.reverse.toArray } }) (hz : items.size ≤ sizeLine) : wpAny (model prog w) A (getItem (.ref t) (.ref sl)) Q E s := by
  obtain ⟨os, hos, hcs, hds⟩ := id hs
  have hTs : s.TypeIs (.ref sl) "slice" := ⟨os, hos, hcs⟩
  unfold getItem
  refine wpAny_holding ?_
  refine wpAny_bind (wpAny_sequenceKey ht.typeIs (by decide) ?_)
  refine wpAny_bind (wpAny_callSpecial?_slot ht.typeIs slot_tuple_getitem ?_)
  refine wpAny_call_entry slot_tuple_getitem ht.typeIs entry_tuple_getitem ?_ (args_tuple_getitem _ _)
  show wpAny _ _ (do
      let xs ← Builtin.Tuple.tupleItemsOf (.ref t)
      let __do_lift ← typeOf (.ref sl)
      if (__do_lift == Value.type "slice") = true then do
          let __x ← Builtin.Slice.sliceApplied (.ref sl) (pure ↑xs.size)
          match __x with
            | (lo, step, n) =>
              have __do_jp := fun __r => do
                let __do_lift ←
                  Builtin.Tuple.tupleExact
                      (List.filterMap (fun k => xs[(lo + ↑k * step).toNat]?) (List.range n)).toArray
                ret __do_lift;
              if (lo == 0 && step == 1 && n == xs.size) = true then do
                let __do_lift ← Builtin.Tuple.tupleIsExact (.ref t)
                if __do_lift = true then do
                    rule "tuple.getitem.whole"
                    ret (.ref t)
                  else __do_jp ()
              else __do_jp ()
        else _) _ _ _
  refine wpAny_bind (tupleItemsOf_ ht ?_)
  refine wpAny_bind (wpAny_typeOf hTs ?_)
  rw [if_pos (by decide)]
  refine wpAny_bind (sliceApplied_back hs hv ?_)
  have hno : ¬ ((((items.size : Int) - 1 == 0) && ((-1 : Int) == 1) && (items.size == items.size)) = true) := by
    rw [show ((-1 : Int) == 1) = false by decide, Bool.and_false, Bool.false_and]
    decide
  show wpAny _ _ (if (((items.size : Int) - 1 == 0) && ((-1 : Int) == 1) && (items.size == items.size)) = true then _ else _) _ _ _
  rw [if_neg hno]
  refine wpAny_bind ?_
  unfold Builtin.Tuple.tupleExact
  rw [pick_back]
  refine wpAny_newObj_type ?_ ?_
  · exact wpAny_pure ⟨_, rfl, wpAny_pure h⟩
  · show _ ≤ sizeLine
    rw [List.size_toArray, List.length_reverse, Array.length_toList]
    exact hz
section
variable {X : Cx}
def tRevT (K : PySem.W.Frag) (te : TE) : TE := fun σ H Q => te σ H fun x H1 => ∃ a xs, x = V.ref a ∧ SqT K H1 a xs ∧ ∀ p, H1 p = none → Q (.ref p) (upd H1 p (.tup xs.reverse))
theorem pe_revT {e : Expr} {te : TE} {k : Nat} {p1 p2 p3 pos : Pos} (he : PE X e te) : PE X (.Subscript e (.Slice none none (some (.UnaryOp .USub (.Constant (.int 1) k p1) p2)) p3) pos) (tRevT X.K te) := by
  refine ⟨fun pins s σ H Q I h => ?_⟩
  refine Subscript_ (thn (he.run pins s σ H _ I h) fun v s1 x => ?_)
  obtain ⟨x1, H1, I1, r1, a, xs, rfl, hx, q⟩ := x
  cases r1
  have hst : PO X (some (.UnaryOp .USub (.Constant (.int 1) k p1) p2)) _ := po_some (pe_un un_neg pe_int)
  refine wpAny_Slice (thn ((po_none (X := X)).run pins s1 σ H1 (fun o H2 => o = none ∧ H2 = H1) I1 ⟨rfl, rfl⟩) fun vl s2 x => ?_)
  obtain ⟨l, H2, I2, pl, rfl, rfl⟩ := x
  refine thn ((po_none (X := X)).run pins s2 σ H2 (fun o H3 => o = none ∧ H3 = H2) I2 ⟨rfl, rfl⟩) fun vu s3 x => ?_
  obtain ⟨u, H3, I3, pu, rfl, rfl⟩ := x
  refine thn (hst.run pins s3 σ H3 (fun o H4 => o = some (-1) ∧ H4 = H3) I3 ?_) fun vs s4 x => ?_
  · exact ⟨1, rfl, -1, rfl, rfl, rfl⟩
  obtain ⟨st, H4, I4, pst, rfl, rfl⟩ := x
  cases pl
  cases pu
  have I5 := I4.kept (h' := s4.heap.push { cls := Value.type "slice", data := Data.fields #[Value.none, Value.none, vs] }) (t' := s4.toks) (fun b u h => Heap.get?_push_of_some _ h)
  obtain ⟨its, hvals, ht, hz⟩ := I5.tuple hx
  have hlen : xs.length = its.length := hvals.length
  refine tail_any ht.typeIs slot_tuple_getitem.lookup (getItem_tuple_back ht (Heap.IsSliceOf.new ..) pst ?_ (by rw [List.size_toArray, ← hlen]; exact hz)) rfl
  refine ⟨.ref _, upd H4 _ (.tup xs.reverse), I5.laid (fun b u h => Heap.get?_push_of_some _ h) (Nat.le_refl _) ?_, rfl, q _ (I5.hok.fresh (Nat.le_refl _))⟩
  unfold ObjOk
  exact ⟨by rw [List.length_reverse]; exact hz, its.reverse, hvals.reverse, _, Heap.get?_push_size _ (o := { cls := Value.type "tuple", data := Data.seq its.toArray.toList.reverse.toArray }) rfl, rfl, _, rfl⟩
end
end Rp
/-! St: sorted of lists of tuples of ints, of any lengths above 0. -/
namespace Rp
open PySem L2 PyProof.Rows
/-- a tuple of these ints -/
def IsTI (h : Heap) (v : Value) (ns : List Int) : Prop := ∃ (a : Addr) (o : Obj) (its : List Value) (n : Nat), v = .ref a ∧ h.get? a = some o ∧ o.cls = .type "tuple" ∧ o.data = .seq its.toArray n ∧ Vals (ns.map V.int) its
theorem lex_go {prog : Program} {w : World} {A : Around} {s : Shared} {fin : Bool} {Q : Bool → Shared → Prop} : ∀ (xs ys : List Int) (us vs : List Value) (i : Nat), Vals (xs.map V.int) us → Vals (ys.map V.int) vs → fin = decide (xs.length < ys.length) → Q (HT.lexLt xs ys) s →
    W.KatLex prog w A true fin Q (us.zip vs) i s
  | [], [], us, vs, i, hu, hv, hf, q => by
    cases hu
    refine W.kat_nil ?_
    rw [hf]
    exact q
  | [], y :: ys, us, vs, i, hu, hv, hf, q => by
    cases hu
    refine W.kat_nil ?_
    rw [hf]
    exact q
  | x :: xs, [], us, vs, i, hu, hv, hf, q => by
    cases hv
    have e : us.zip ([] : List Value) = [] := by simp
    rw [e]
    refine W.kat_nil ?_
    rw [hf]
    exact q
  | x :: xs, y :: ys, us, vs, i, hu, hv, hf, q => by
    cases hu with
    | cons ru hu =>
    cases hv with
    | cons rv hv =>
    obtain ⟨t, rfl⟩ := ru
    obtain ⟨t', rfl⟩ := rv
    rw [List.zip_cons_cons]
    refine W.kat_cons ?_
    refine SeqAt.EqAt.int_int x t y t' prog w _ _ ?_
    refine W.kat_go (fun e => ?_) (fun e => ?_)
    · have exy : x = y := by simpa using e
      refine W.kat_yes (lex_go xs ys _ _ (i + 1) hu hv ?_ ?_)
      · rw [hf]
        simp
      · rw [HT.lexLt_cons, if_pos exy] at q
        exact q
    · have exy : ¬ x = y := by simpa using e
      rw [HT.lexLt_cons, if_neg exy] at q
      refine W.kat_no ?_
      cases i with
      | zero => exact oneLt_int q
      | succ i => exact W.kat_one _ _ (lt_int q)
theorem ti_cmp {prog : Program} {w : World} {A : Around} {s : Shared} {vs : List Value} {k : Value → List Int} (h : ∀ v ∈ vs, IsTI s.heap v (k v)) :
    SrtO.Cmp prog w A s (tuples' true) (fun p => p.fst ∈ vs) (SrtO.lt2 fun v u => HT.lexLt (k v) (k u)) := by
  intro p q hp hq
  obtain ⟨a, o, its, n, e, ho, hc, hd, hv⟩ := h p.fst hp
  obtain ⟨a', o', its', n', e', ho', hc', hd', hv'⟩ := h q.fst hq
  rw [e, e']
  refine W.kat_lt ho hd ho' hd' ?_
  refine lex_go (k p.fst) (k q.fst) _ _ 0 hv hv' ?_ ?_
  · have l1 := hv.length
    have l2 := hv'.length
    rw [List.length_map] at l1 l2
    rw [List.size_toArray, List.size_toArray, ← l1, ← l2]
  · refine ⟨rfl, ?_⟩
    show HT.lexLt (k p.fst) (k q.fst) = HT.lexLt (k p.fst) (k q.fst)
    rfl
theorem ti_tups {h : Heap} : ∀ {vs : List Value} {k : Value → List Int}, (∀ v ∈ vs, IsTI h v (k v) ∧ k v ≠ []) → ∃ fs, W.KatTups h vs fs ∧ fs.length = vs.length ∧ ∀ f ∈ fs, ∃ x t, f = Value.int x t
  | [], _, _ => ⟨[], trivial, rfl, fun f hf => by cases hf⟩
  | v :: vs, k, hh => by
    obtain ⟨fs, h1, h2, h3⟩ := ti_tups (vs := vs) (k := k) fun u hu => hh u (List.mem_cons_of_mem _ hu)
    obtain ⟨⟨a, o, its, n, rfl, ho, hc, hd, hv⟩, hne⟩ := hh v (List.mem_cons_self ..)
    cases ek : k (.ref a) with
    | nil => exact absurd ek hne
    | cons x xs =>
      rw [ek] at hv
      cases hv with
      | cons rx hv =>
      obtain ⟨t, rfl⟩ := rx
      refine ⟨.int x t :: fs, ?_, by rw [List.length_cons, h2, List.length_cons], fun f hf => ?_⟩
      · unfold W.KatTups
        exact ⟨⟨a, o, _, n, rfl, ho, hc, hd, rfl⟩, h1⟩
      · rcases List.mem_cons.mp hf with rfl | hf
        · exact ⟨x, t, rfl⟩
        · exact h3 f hf
theorem ti_keeps {h h' : Heap} {v : Value} {ns : List Int} (x : IsTI h v ns) (k : ∀ (b : Addr) (o : Obj), h.get? b = some o → o.cls = .type "tuple" → h'.get? b = some o) : IsTI h' v ns := by
  obtain ⟨a, o, its, n, rfl, ho, hc, hd, hv⟩ := x
  exact ⟨a, o, its, n, rfl, k a o ho hc, hc, hd, hv⟩
theorem ti_sortable {prog : Program} {w : World} {A : Around} {s : Shared} {a : Addr} {vs : List Value} {k : Value → List Int} (h0 : 0 < vs.length) (hp : ∀ v ∈ vs, IsTI s.heap v (k v) ∧ k v ≠ []) (ha : ∀ o, s.heap.get? a = some o → o.cls ≠ .type "tuple") :
    SrtO.SortableO prog w A s a vs fun v u => HT.lexLt (k v) (k u) := by
  intro h' keep
  have hp' : ∀ v ∈ vs, IsTI h' v (k v) ∧ k v ≠ [] := fun v hv => ⟨ti_keeps (hp v hv).1 fun b o e c => keep b o (fun z => ha o (z ▸ e) c) e, (hp v hv).2⟩
  obtain ⟨fs, h1, h2, h3⟩ := ti_tups hp'
  refine ⟨tuples' true, fun Q E hq => ?_, ti_cmp fun v hv => (hp' v hv).1⟩
  refine W.kat_kind (T := .type "int") h1 (by omega) (fun f hf => ?_) (by decide) ?_
  · obtain ⟨x, t, rfl⟩ := h3 f hf
    exact W.Looks.now
  · have e : (Value.type "int" != Value.type "tuple") = true := by decide
    rw [e]
    exact hq
section
variable {X : Cx}
def rSortTI (K : PySem.W.Frag) : List V → Hp → VK → Prop := fun vs H Q => ∃ (a : Addr) (xs : List V) (k : V → List Int), vs = [V.ref a] ∧ SqL K H a xs ∧ (∀ x ∈ xs, ∃ t, x = V.ref t ∧ SqT K H t ((k x).map V.int) ∧ k x ≠ []) ∧
  ∀ (ys : List V) (p : Addr), SrtO.Srtd (fun x y => HT.lexLt (k x) (k y)) ys → SrtO.Stb (fun x y => HT.lexLt (k x) (k y)) ys xs → H p = none → Q (.ref p) (upd H p (.lst ys))
theorem cr_sortTI : CallR X (.builtin "sorted") (rSortTI X.K) := by
  intro pins s σ H vs us Q I r h
  obtain ⟨a, xs, k, rfl, hs, hx, q⟩ := h
  obtain ⟨its, rv, hl, hz⟩ := I.list hs
  obtain ⟨u, rfl, ru⟩ := vals1 r
  cases ru
  obtain ⟨e1, e2⟩ := refs_back rv fun x m => let ⟨t, e, _⟩ := hx x m; ⟨t, e⟩
  have hlen : xs.length = its.length := rv.length
  have hti : ∀ v ∈ its, IsTI s.heap v (k (backV v)) ∧ k (backV v) ≠ [] := by
    intro v hv
    obtain ⟨t, rfl⟩ := e2 v hv
    have hm : V.ref t ∈ xs := by rw [e1]; exact List.mem_map.mpr ⟨_, hv, rfl⟩
    obtain ⟨t', e, ht, hne⟩ := hx _ hm
    cases e
    obtain ⟨is, rvs, ⟨o, ho, hc, n, hd⟩, _⟩ := I.tuple ht
    exact ⟨⟨t, o, is, n, rfl, ho, hc, hd, rvs⟩, hne⟩
  refine SrtO.sorted_ord (ltv := fun v u => HT.lexLt (k (backV v)) (k (backV u))) (NtL.swo_lexL _) hl.isList (by rw [← hlen]; exact hz) (fun h2 h₁ b hb hk => ?_) (fun out h1 h2 => ?_)
  · refine ti_sortable (by omega) (fun v hv => ⟨ti_keeps (hti v hv).1 fun c o e _ => (hk c o e).2, (hti v hv).2⟩) (fun o ho => ?_)
    rw [hb] at ho
    cases ho
    show (Value.type "list") ≠ Value.type "tuple"
    decide
  · have h3 : ∀ u ∈ out, ∃ t, u = Value.ref t := fun u hu => e2 u (h2.perm.mem_iff.mp hu)
    have hb : SrtO.Stb (fun x y => HT.lexLt (k x) (k y)) (out.map backV) xs := by
      rw [e1]
      exact SrtO.Stb.map (NtL.swo_lexL k) backV h2
    have hd : s.heap.objs.size ≤ s.heap.objs.size + 1 := Nat.le_succ _
    obtain ⟨e, he⟩ := sortedAll_at s.heap its out.toArray
    refine ⟨.ref _, upd H _ (.lst (out.map backV)), I.laid (fun b o hbo => sortedAll_old hbo) hd ?_, rfl, q _ _ (SrtO.srtd_map h1) hb (I.hok.fresh hd)⟩
    exact ⟨by rw [hb.len]; exact hz, out, e, vals_back h3, he⟩
end
end Rp
/-! Su: sorted of a list of non-empty tuples of ints that stand in order already. -/
namespace Rp
open PySem L2 PyProof.Rows
theorem ti_one : ∀ {ns ms : List Int} {its : List Value}, Vals (ns.map V.int) its → Vals (ms.map V.int) its → ns = ms
  | [], [], _, _, _ => rfl
  | [], m :: ms, _, h1, h2 => by
    cases h1
    cases h2
  | n :: ns, [], _, h1, h2 => by
    cases h2
    cases h1
  | n :: ns, m :: ms, _, h1, h2 => by
    cases h1 with
    | cons r1 h1 =>
    cases h2 with
    | cons r2 h2 =>
    obtain ⟨t, rfl⟩ := r1
    obtain ⟨t', e⟩ := r2
    cases e
    rw [ti_one h1 h2]
theorem isTI_one {h : Heap} {v : Value} {ns ms : List Int} (h1 : IsTI h v ns) (h2 : IsTI h v ms) : ns = ms := by
  obtain ⟨a, o, its, n, rfl, ho, _, hd, hv⟩ := h1
  obtain ⟨a', o', its', n', e, ho', _, hd', hv'⟩ := h2
  cases e
  rw [ho] at ho'
  cases ho'
  rw [hd] at hd'
  cases hd'
  exact ti_one hv hv'
open Classical in
/-- the ints of a tuple -/
noncomputable def keyTI (h : Heap) (v : Value) : List Int := if e : ∃ ns, IsTI h v ns then e.choose else []
theorem keyTI_of {h : Heap} {v : Value} {ns : List Int} (e : IsTI h v ns) : keyTI h v = ns := by
  have e' : ∃ ns, IsTI h v ns := ⟨ns, e⟩
  unfold keyTI
  rw [dif_pos e']
  exact isTI_one e'.choose_spec e
inductive KeysT (K : PySem.W.Frag) (H : Hp) : List V → List (List Int) → Prop
  | nil : KeysT K H [] []
  | cons {t : Addr} {ns : List Int} {xs : List V} {ks : List (List Int)} (h : SqT K H t (ns.map V.int)) (ne : ns ≠ []) (r : KeysT K H xs ks) : KeysT K H (.ref t :: xs) (ns :: ks)
section
variable {X : Cx}
def rSortTS (K : PySem.W.Frag) : List V → Hp → VK → Prop := fun vs H Q => ∃ (a : Addr) (xs : List V) (ks : List (List Int)), vs = [V.ref a] ∧ SqL K H a xs ∧ KeysT K H xs ks ∧ ks.Pairwise (fun x y => HT.lexLt y x = false) ∧
  ∀ (p : Addr), H p = none → Q (.ref p) (upd H p (.lst xs))
theorem keysT_vals {pins : List (Addr × Obj)} {σ : L2.St} {H : Hp} {s : Shared} (I : L2.Inv X pins σ H s) : ∀ {xs : List V} {ks : List (List Int)} {its : List Value}, KeysT X.K H xs ks → Vals xs its →
    its.map (keyTI s.heap) = ks ∧ (∀ v ∈ its, IsTI s.heap v (keyTI s.heap v) ∧ keyTI s.heap v ≠ []) ∧ its.map backV = xs ∧ ∀ v ∈ its, ∃ t, v = Value.ref t
  | [], _, _, .nil, .nil => by simp
  | _ :: xs, _ :: ks, _, .cons h ne r, .cons rv rs => by
    cases rv
    obtain ⟨e1, e2, e3, e4⟩ := keysT_vals I r rs
    obtain ⟨is, rvs, ⟨o, ho, hc, n, hd⟩, _⟩ := I.tuple h
    have ti : IsTI s.heap (.ref _) _ := ⟨_, o, is, n, rfl, ho, hc, hd, rvs⟩
    have ek := keyTI_of ti
    refine ⟨by rw [List.map_cons, e1, ek], fun v hv => ?_, by rw [List.map_cons, e3]; rfl, fun v hv => ?_⟩
    · rcases List.mem_cons.mp hv with rfl | hv
      · rw [ek]
        exact ⟨ti, ne⟩
      · exact e2 v hv
    · rcases List.mem_cons.mp hv with rfl | hv
      · exact ⟨_, rfl⟩
      · exact e4 v hv
theorem cr_sortTS : CallR X (.builtin "sorted") (rSortTS X.K) := by
  intro pins s σ H vs us Q I r h
  obtain ⟨a, xs, ks, rfl, hs, hx, hord, q⟩ := h
  obtain ⟨its, rv, hl, hz⟩ := I.list hs
  obtain ⟨u, rfl, ru⟩ := vals1 r
  cases ru
  obtain ⟨ek, hti, e1, e2⟩ := keysT_vals I hx rv
  have hlen : xs.length = its.length := rv.length
  refine SrtO.sorted_ord (ltv := fun v u => HT.lexLt (keyTI s.heap v) (keyTI s.heap u)) (NtL.swo_lexL _) hl.isList (by rw [← hlen]; exact hz) (fun h2 h₁ b hb hk => ?_) (fun out h1 h2 => ?_)
  · refine ti_sortable (by omega) (fun v hv => ⟨ti_keeps (hti v hv).1 fun c o e _ => (hk c o e).2, (hti v hv).2⟩) (fun o ho => ?_)
    rw [hb] at ho
    cases ho
    show (Value.type "list") ≠ Value.type "tuple"
    decide
  · have hso : SrtO.Srtd (fun v u => HT.lexLt (keyTI s.heap v) (keyTI s.heap u)) its := by
      rw [← ek] at hord
      exact List.pairwise_map.mp hord
    have eo : out = its := SrtO.stb_uniq (NtL.swo_lexL (keyTI s.heap)) h1 hso h2
    subst eo
    have hd : s.heap.objs.size ≤ s.heap.objs.size + 1 := Nat.le_succ _
    obtain ⟨e, he⟩ := sortedAll_at s.heap out out.toArray
    refine ⟨.ref _, upd H _ (.lst xs), I.laid (fun b o hbo => sortedAll_old hbo) hd ?_, rfl, q _ (I.hok.fresh hd)⟩
    exact ⟨hz, out, e, rv, he⟩
/-- sorted of a list of non-empty tuples of ints, known by position -/
def rSortTP (K : PySem.W.Frag) : List V → Hp → VK → Prop := fun vs H Q => ∃ (a : Addr) (xs : List V) (ks : List (List Int)), vs = [V.ref a] ∧ SqL K H a xs ∧ KeysT K H xs ks ∧
  ∀ (ys : List V) (ls : List (List Int)) (p : Addr), KeysT K H ys ls → ls.Pairwise (fun x y => HT.lexLt y x = false) → ls.Perm ks → H p = none → Q (.ref p) (upd H p (.lst ys))
theorem cr_sortTP : CallR X (.builtin "sorted") (rSortTP X.K) := by
  intro pins s σ H vs us Q I r h
  obtain ⟨a, xs, ks, rfl, hs, hx, q⟩ := h
  obtain ⟨its, rv, hl, hz⟩ := I.list hs
  obtain ⟨u, rfl, ru⟩ := vals1 r
  cases ru
  obtain ⟨ek, hti, e1, e2⟩ := keysT_vals I hx rv
  have hlen : xs.length = its.length := rv.length
  refine SrtO.sorted_ord (ltv := fun v u => HT.lexLt (keyTI s.heap v) (keyTI s.heap u)) (NtL.swo_lexL _) hl.isList (by rw [← hlen]; exact hz) (fun h2 h₁ b hb hk => ?_) (fun out h1 h2 => ?_)
  · refine ti_sortable (by omega) (fun v hv => ⟨ti_keeps (hti v hv).1 fun c o e _ => (hk c o e).2, (hti v hv).2⟩) (fun o ho => ?_)
    rw [hb] at ho
    cases ho
    show (Value.type "list") ≠ Value.type "tuple"
    decide
  · have h3 : ∀ u ∈ out, ∃ t, u = Value.ref t := fun u hu => e2 u (h2.perm.mem_iff.mp hu)
    have hd : s.heap.objs.size ≤ s.heap.objs.size + 1 := Nat.le_succ _
    obtain ⟨e, he⟩ := sortedAll_at s.heap its out.toArray
    have kk : KeysT X.K H (out.map backV) (out.map (keyTI s.heap)) := by
      have g : ∀ (l m : List Value), (∀ v ∈ l, v ∈ m) → (∀ v ∈ m, ∃ t, v = Value.ref t) → KeysT X.K H (m.map backV) (m.map (keyTI s.heap)) → KeysT X.K H (l.map backV) (l.map (keyTI s.heap)) := by
        intro l m hl hr hk
        have one : ∀ (m : List Value), (∀ v ∈ m, ∃ t, v = Value.ref t) → KeysT X.K H (m.map backV) (m.map (keyTI s.heap)) → ∀ v ∈ m, ∃ t, v = Value.ref t ∧ SqT X.K H t ((keyTI s.heap v).map V.int) ∧ keyTI s.heap v ≠ [] := by
          intro m
          induction m with
          | nil => intro _ _ v hv; cases hv
          | cons u m ih =>
            intro hr hk v hv
            obtain ⟨t, rfl⟩ := hr u (List.mem_cons_self ..)
            rw [List.map_cons, List.map_cons] at hk
            have hk' : KeysT X.K H (V.ref t :: m.map backV) (keyTI s.heap (.ref t) :: m.map (keyTI s.heap)) := hk
            cases hk' with
            | cons hh ne rr =>
              rcases List.mem_cons.mp hv with rfl | hv
              · exact ⟨t, rfl, hh, ne⟩
              · exact ih (fun v hv => hr v (List.mem_cons_of_mem _ hv)) rr v hv
        induction l with
        | nil => exact .nil
        | cons u l ih =>
          obtain ⟨t, rfl, hh, ne⟩ := one m hr hk u (hl u (List.mem_cons_self ..))
          exact .cons hh ne (ih fun v hv => hl v (List.mem_cons_of_mem _ hv))
      refine g out its (fun v hv => h2.perm.mem_iff.mp hv) e2 ?_
      rw [e1, ek]
      exact hx
    refine ⟨.ref _, upd H _ (.lst (out.map backV)), I.laid (fun b o hbo => sortedAll_old hbo) hd ?_, rfl, q _ _ _ kk (List.pairwise_map.mpr h1) ?_ (I.hok.fresh hd)⟩
    · exact ⟨by rw [List.length_map, h2.perm.length_eq, ← hlen]; exact hz, out, e, vals_back h3, he⟩
    · rw [← ek]
      exact h2.perm.map _
end
end Rp
/-! Hq: the mathematics of a queue kept as a heap (heapq): an item goes up to its place; the hole goes down to a leaf, then the item goes up. Over any total order. Imports nothing. -/
namespace Rp
section
variable {α : Type} {le : α → α → Prop}
/-- two places change -/
def swp (f : Nat → α) (i j : Nat) : Nat → α := fun k => if k = i then f j else if k = j then f i else f k
theorem swp_l {f : Nat → α} {i j : Nat} : swp f i j i = f j := by simp [swp]
theorem swp_r {f : Nat → α} {i j : Nat} : swp f i j j = f i := by
  unfold swp
  split
  · rename_i h
    rw [h]
  · simp
theorem swp_o {f : Nat → α} {i j k : Nat} (h1 : k ≠ i) (h2 : k ≠ j) : swp f i j k = f k := by simp [swp, h1, h2]
/-- each is at least what is above it -/
def Hpd (le : α → α → Prop) (f : Nat → α) (n : Nat) : Prop := ∀ i, 0 < i → i < n → le (f ((i - 1) / 2)) (f i)
/-- a heap but for what stands at pos, which may be too small for its place -/
structure UpOk (le : α → α → Prop) (f : Nat → α) (n pos : Nat) : Prop where
  ok : ∀ i, 0 < i → i < n → i ≠ pos → le (f ((i - 1) / 2)) (f i)
  kid : 0 < pos → ∀ i, 0 < i → i < n → (i - 1) / 2 = pos → le (f ((pos - 1) / 2)) (f i)
/-- a heap but for what stands at pos, which may be anything -/
structure DnOk (le : α → α → Prop) (f : Nat → α) (n pos : Nat) : Prop where
  ok : ∀ i, 0 < i → i < n → i ≠ pos → (i - 1) / 2 ≠ pos → le (f ((i - 1) / 2)) (f i)
  kid : 0 < pos → ∀ i, 0 < i → i < n → (i - 1) / 2 = pos → le (f ((pos - 1) / 2)) (f i)
theorem UpOk.done {f : Nat → α} {n pos : Nat} (h : UpOk le f n pos) (e : pos = 0 ∨ le (f ((pos - 1) / 2)) (f pos)) : Hpd le f n := fun i h0 hn => by
  by_cases z : i = pos
  · subst z
    exact e.resolve_left (by omega)
  · exact h.ok i h0 hn z
theorem UpOk.step (tr : ∀ a b c, le a b → le b c → le a c) {f : Nat → α} {n pos : Nat} (h : UpOk le f n pos) (h0 : 0 < pos) (hn : pos < n) (e : le (f pos) (f ((pos - 1) / 2))) : UpOk le (swp f ((pos - 1) / 2) pos) n ((pos - 1) / 2) := by
  have q1 : (pos - 1) / 2 < pos := by omega
  refine ⟨fun i i0 iN ne => ?_, fun q0 i i0 iN ei => ?_⟩
  · by_cases a : i = pos
    · subst a
      rw [swp_l, swp_r]
      exact e
    · rw [swp_o (k := i) ne a]
      by_cases b : (i - 1) / 2 = pos
      · rw [b, swp_r]
        exact h.kid h0 i i0 iN b
      · by_cases c : (i - 1) / 2 = (pos - 1) / 2
        · rw [c, swp_l]
          have := h.ok i i0 iN a
          rw [c] at this
          exact tr _ _ _ e this
        · rw [swp_o c b]
          exact h.ok i i0 iN a
  · have p1 : ((pos - 1) / 2 - 1) / 2 ≠ (pos - 1) / 2 := by omega
    have p2 : ((pos - 1) / 2 - 1) / 2 ≠ pos := by omega
    have o := h.ok ((pos - 1) / 2) q0 (by omega) (by omega)
    rw [swp_o p1 p2]
    by_cases a : i = pos
    · subst a
      rw [swp_r]
      exact o
    · have b : i ≠ (pos - 1) / 2 := by omega
      rw [swp_o b a]
      have := h.ok i i0 iN a
      rw [ei] at this
      exact tr _ _ _ o this
theorem DnOk.step {f : Nat → α} {n pos c : Nat} (h : DnOk le f n pos) (cn : c < n) (hc : c = 2 * pos + 1 ∨ c = 2 * pos + 2) (low : ∀ i, i < n → i = 2 * pos + 1 ∨ i = 2 * pos + 2 → le (f c) (f i)) : DnOk le (swp f c pos) n c := by
  refine ⟨fun i i0 iN ne np => ?_, fun _ i i0 iN ei => ?_⟩
  · by_cases a : i = pos
    · subst a
      rw [swp_r, swp_o (by omega) (by omega)]
      exact h.kid i0 c (by omega) cn (by omega)
    · rw [swp_o (k := i) ne a]
      by_cases b : (i - 1) / 2 = pos
      · rw [b, swp_r]
        exact low i iN (by omega)
      · rw [swp_o np b]
        exact h.ok i i0 iN a b
  · have e1 : (c - 1) / 2 = pos := by omega
    rw [e1, swp_r, swp_o (by omega) (by omega)]
    have := h.ok i i0 iN (by omega) (by omega)
    rw [ei] at this
    exact this
theorem DnOk.done {f : Nat → α} {n pos : Nat} (h : DnOk le f n pos) (e : n ≤ 2 * pos + 1) : UpOk le f n pos :=
  ⟨fun i i0 iN ne => h.ok i i0 iN ne (by omega), fun p0 i i0 iN ei => by omega⟩
/-- a heap with something else put at its top -/
theorem DnOk.start {f g : Nat → α} {n : Nat} (h : Hpd le f n) (e : ∀ i, 0 < i → i < n → g i = f i) : DnOk le g n 0 :=
  ⟨fun i i0 iN _ np => by
    rw [e i i0 iN, e ((i - 1) / 2) (by omega) (by omega)]
    exact h i i0 iN, fun z => absurd z (Nat.lt_irrefl 0)⟩
/-- a heap with something put behind it -/
theorem UpOk.start {f g : Nat → α} {n : Nat} (h : Hpd le f n) (e : ∀ i, i < n → g i = f i) : UpOk le g (n + 1) n :=
  ⟨fun i i0 iN ne => by
    rw [e i (by omega), e ((i - 1) / 2) (by omega)]
    exact h i i0 (by omega), fun _ i _ iN ei => by omega⟩
/-- the top is the least -/
theorem Hpd.least (rf : ∀ a, le a a) (tr : ∀ a b c, le a b → le b c → le a c) {f : Nat → α} {n : Nat} (h : Hpd le f n) : ∀ i, i < n → le (f 0) (f i)
  | 0, _ => rf _
  | i + 1, hi => tr _ _ _ (Hpd.least rf tr h (i / 2) (by omega)) (by
    have := h (i + 1) (by omega) hi
    rw [show (i + 1 - 1) / 2 = i / 2 from by omega] at this
    exact this)
end
end Rp
/-! Hw: heapq in the model (begun). -/
namespace Rp
open PySem PySem.Spec L2 PyProof.Rows
theorem entry_sift : entryFor table "_heapq.heapify.sift" = some Builtin.«_heapq.heapify.sift» := entryFor_of_tree (by kernel_rfl)
theorem entry_push : entryFor table "_heapq.heappush" = some Builtin.«_heapq.heappush» := entryFor_of_tree (by kernel_rfl)
theorem entry_pop : entryFor table "_heapq.heappop" = some Builtin.«_heapq.heappop» := entryFor_of_tree (by kernel_rfl)
theorem plain_sift : plainId "_heapq.heapify.sift" = true := by decide +kernel
theorem plain_push : plainId "_heapq.heappush" = true := by decide +kernel
theorem plain_pop : plainId "_heapq.heappop" = true := by decide +kernel
section
variable {P : Program} {w : World} {A : Around} {s : Shared} {R : Result → Shared → Prop} {a : Addr} {its : Array Value}
theorem isList_seq {h : Heap} {b : Addr} {ys : Array Value} (hl : h.IsList b ys) : ∃ o n, h.get? b = some o ∧ o.data = .seq ys n := by
  obtain ⟨o, ho, _, n, hd⟩ := hl
  exact ⟨o, n, ho, hd⟩
theorem sift_stop {res : Value} (hl : s.heap.IsList a its) (h : R (.ok (.ret res)) s) : codeAny (model P w) A (.builtin "_heapq.heapify.sift" ⟨[.ref a, .bool false, .bool false, rawInt 0, rawInt 0, res, rawInt (-1)], []⟩) R s := by
  obtain ⟨o, n, ho, hd⟩ := isList_seq hl
  refine codeAny_builtin entry_sift ?_
  rw [Around.under_plainId plain_sift _]
  unfold Builtin.«_heapq.heapify.sift»
  dsimp only [rawInt]
  refine wpAny_bind ?_
  refine wpAny_bind (m := seqItems? (.ref a)) (wpAny_seqItems ho hd ?_)
  dsimp only
  refine wpAny_pure ?_
  refine wpAny_pure ?_
  exact h
/-- one row up: what stands at pos is smaller than what is above it, or not -/
theorem sift_up1 {res : Value} {o : Obj} {n pos : Nat} {k : Value → List Int} (free : A.units + 1 < cLine) (ho : s.heap.get? a = some o) (hd : o.data = .seq its n) (small : its.size ≤ 1000) (h0 : 0 < pos) (hp : pos < its.size)
    (tx : IsTI s.heap its[pos] (k its[pos])) (tp : IsTI s.heap (its[(pos - 1) / 2]'(by omega)) (k (its[(pos - 1) / 2]'(by omega))))
    (up : HT.lexLt (k its[pos]) (k (its[(pos - 1) / 2]'(by omega))) = true → codeAny (model P w) A (.builtin "_heapq.heapify.sift" ⟨[.ref a, .bool false, .bool false, rawInt ((pos - 1) / 2 : Nat), rawInt 0, res, rawInt (-1)], []⟩) R
      { s with heap := s.heap.update a (Obj.mapSeq fun xs => (xs.setIfInBounds ((pos - 1) / 2) its[pos]).setIfInBounds pos (its[(pos - 1) / 2]'(by omega))) })
    (stay : HT.lexLt (k its[pos]) (k (its[(pos - 1) / 2]'(by omega))) = false → R (.ok (.ret res)) s) :
    codeAny (model P w) A (.builtin "_heapq.heapify.sift" ⟨[.ref a, .bool false, .bool false, rawInt (pos : Nat), rawInt 0, res, rawInt (-1)], []⟩) R s := by
  refine codeAny_builtin entry_sift ?_
  rw [Around.under_plainId plain_sift _]
  unfold Builtin.«_heapq.heapify.sift»
  dsimp only [rawInt]
  refine wpAny_bind ?_
  refine wpAny_bind (m := seqItems? (.ref a)) (wpAny_seqItems ho hd ?_)
  dsimp only
  refine wpAny_pure ?_
  have e0 : ((pos : Nat) : Int).toNat = pos := by omega
  have z0 : (0 : Int).toNat = 0 := rfl
  simp only [e0, z0]
  rw [if_neg (by decide), if_pos (show pos > 0 from h0)]
  have hq : (pos - 1) / 2 < its.size := by omega
  have g1 : its[pos]? = some its[pos] := Array.getElem?_eq_getElem hp
  have g2 : its[(pos - 1) / 2]? = some its[(pos - 1) / 2] := Array.getElem?_eq_getElem hq
  refine wpAny_bind ?_
  show wpAny _ _ (match its[pos]? with | some v => pure v | none => unsupported "internal:_heapq.index") _ _ _
  rw [g1]
  refine wpAny_pure ?_
  refine wpAny_bind ?_
  show wpAny _ _ (match its[(pos - 1) / 2]? with | some v => pure v | none => unsupported "internal:_heapq.index") _ _ _
  rw [g2]
  refine wpAny_pure ?_
  rw [if_neg (by decide)]
  generalize its[pos] = x at tx up stay g1 ⊢
  generalize its[(pos - 1) / 2] = y at tp up stay g2 ⊢
  obtain ⟨l, ol, ns, nl, rfl, hol, hcl, hdl, hvl⟩ := tx
  obtain ⟨b, ob, ms, nb, rfl, hob, hcb, hdb, hvb⟩ := tp
  refine wpAny_bind ?_
  refine wpAny_bind ?_
  refine wpAny_holding ?_
  refine wpAny_bind ?_
  refine HT.lt_tupInts (l := l) (b := b) ⟨ol, hol, hcl, nl, hdl⟩ ⟨ob, hob, hcb, nb, hdb⟩ (ns := k (.ref l)) (ms := k (.ref b)) (intsAre_of hvl) (intsAre_of hvb) (by simpa using free) ?_
  show wpAny _ _ (truthy (.bool (HT.lexLt (k (.ref l)) (k (.ref b))))) _ _ _
  refine wpAny_truthy_bool ?_
  refine wpAny_bind ?_
  refine wpAny_bind (m := seqItems? (.ref a)) (wpAny_seqItems ho hd ?_)
  dsimp only
  refine wpAny_pure ?_
  rw [if_neg (by simp)]
  refine wpAny_pure ?_
  cases c : HT.lexLt (k (.ref l)) (k (.ref b)) with
  | false =>
    rw [if_neg (by decide), if_pos (by decide)]
    exact wpAny_pure (stay c)
  | true =>
    rw [if_pos rfl]
    refine wpAny_bind ?_
    refine wpAny_bind ?_
    refine wpAny_bind (m := seqItems? (.ref a)) (wpAny_seqItems ho hd ?_)
    dsimp only
    refine wpAny_pure ?_
    refine wpAny_bind ?_
    show wpAny _ _ (match its[(pos - 1) / 2]? with | some v => pure v | none => unsupported "internal:_heapq.index") _ _ _
    rw [g2]
    refine wpAny_pure ?_
    refine wpAny_bind ?_
    show wpAny _ _ (match its[pos]? with | some v => pure v | none => unsupported "internal:_heapq.index") _ _ _
    rw [g1]
    refine wpAny_pure ?_
    refine wpAny_updateSeq ho hd ?_ (by rw [sizeLine_eq]; omega) (by simp only [Array.size_setIfInBounds]; rw [sizeLine_eq]; omega)
    exact wpAny_pure ⟨PySem.plainId_quiet plain_sift _, up c⟩
/-- no child: now it goes up -/
theorem sift_leaf {res : Value} {o : Obj} {n pos : Nat} (ho : s.heap.get? a = some o) (hd : o.data = .seq its n) (leaf : its.size / 2 ≤ pos) (next : codeAny (model P w) A (.builtin "_heapq.heapify.sift" ⟨[.ref a, .bool false, .bool false, rawInt (pos : Nat), rawInt 0, res, rawInt (-1)], []⟩) R s) : codeAny (model P w) A (.builtin "_heapq.heapify.sift" ⟨[.ref a, .bool false, .bool true, rawInt (pos : Nat), rawInt 0, res, rawInt (-1)], []⟩) R s := by
  refine codeAny_builtin entry_sift ?_
  rw [Around.under_plainId plain_sift _]
  unfold Builtin.«_heapq.heapify.sift»
  dsimp only [rawInt]
  refine wpAny_bind ?_
  refine wpAny_bind (m := seqItems? (.ref a)) (wpAny_seqItems ho hd ?_)
  dsimp only
  refine wpAny_pure ?_
  have e0 : ((pos : Nat) : Int).toNat = pos := by omega
  have z0 : (0 : Int).toNat = 0 := rfl
  simp only [e0, z0]
  rw [if_pos trivial]
  rw [if_neg (by omega)]
  exact wpAny_pure ⟨PySem.plainId_quiet plain_sift _, next⟩
/-- one child alone goes up -/
theorem sift_dn1 {res x y : Value} {o : Obj} {n pos : Nat} (ho : s.heap.get? a = some o) (hd : o.data = .seq its n) (small : its.size ≤ 1000) (one : 2 * pos + 2 = its.size) (g0 : its[pos]? = some y) (g1 : its[2 * pos + 1]? = some x)
    (next : codeAny (model P w) A (.builtin "_heapq.heapify.sift" ⟨[.ref a, .bool false, .bool true, rawInt (2 * pos + 1 : Nat), rawInt 0, res, rawInt (-1)], []⟩) R
      { s with heap := s.heap.update a (Obj.mapSeq fun xs => (xs.setIfInBounds (2 * pos + 1) y).setIfInBounds pos x) }) : codeAny (model P w) A (.builtin "_heapq.heapify.sift" ⟨[.ref a, .bool false, .bool true, rawInt (pos : Nat), rawInt 0, res, rawInt (-1)], []⟩) R s := by
  refine codeAny_builtin entry_sift ?_
  rw [Around.under_plainId plain_sift _]
  unfold Builtin.«_heapq.heapify.sift»
  dsimp only [rawInt]
  refine wpAny_bind ?_
  refine wpAny_bind (m := seqItems? (.ref a)) (wpAny_seqItems ho hd ?_)
  dsimp only
  refine wpAny_pure ?_
  have e0 : ((pos : Nat) : Int).toNat = pos := by omega
  have z0 : (0 : Int).toNat = 0 := rfl
  simp only [e0, z0]
  rw [if_pos trivial]
  rw [if_pos (by omega), if_neg (by omega)]
  · skip
    refine wpAny_bind ?_
    refine wpAny_bind ?_
    refine wpAny_bind (m := seqItems? (.ref a)) (wpAny_seqItems ho hd ?_)
    dsimp only
    refine wpAny_pure ?_
    refine wpAny_bind ?_
    show wpAny _ _ (match its[2 * pos + 1]? with | some v => pure v | none => unsupported "internal:_heapq.index") _ _ _
    rw [g1]
    refine wpAny_pure ?_
    refine wpAny_bind ?_
    show wpAny _ _ (match its[pos]? with | some v => pure v | none => unsupported "internal:_heapq.index") _ _ _
    rw [g0]
    refine wpAny_pure ?_
    refine wpAny_updateSeq ho hd ?_ (by rw [sizeLine_eq]; omega) (by simp only [Array.size_setIfInBounds]; rw [sizeLine_eq]; omega)
    exact wpAny_pure ⟨PySem.plainId_quiet plain_sift _, next⟩
/-- of two children the smaller goes up (the right one, if they are alike) -/
theorem sift_dn2 {res x y z : Value} {o : Obj} {n pos : Nat} {k : Value → List Int} (free : A.units + 1 < cLine) (ho : s.heap.get? a = some o) (hd : o.data = .seq its n) (small : its.size ≤ 1000) (two : 2 * pos + 1 + 1 < its.size) (g0 : its[pos]? = some y) (g1 : its[2 * pos + 1]? = some x) (g2 : its[2 * pos + 1 + 1]? = some z)
    (tx : IsTI s.heap x (k x)) (tz : IsTI s.heap z (k z))
    (left : HT.lexLt (k x) (k z) = true → codeAny (model P w) A (.builtin "_heapq.heapify.sift" ⟨[.ref a, .bool false, .bool true, rawInt (2 * pos + 1 : Nat), rawInt 0, res, rawInt (-1)], []⟩) R
      { s with heap := s.heap.update a (Obj.mapSeq fun xs => (xs.setIfInBounds (2 * pos + 1) y).setIfInBounds pos x) })
    (right : HT.lexLt (k x) (k z) = false → codeAny (model P w) A (.builtin "_heapq.heapify.sift" ⟨[.ref a, .bool false, .bool true, rawInt (2 * pos + 1 + 1 : Nat), rawInt 0, res, rawInt (-1)], []⟩) R
      { s with heap := s.heap.update a (Obj.mapSeq fun xs => (xs.setIfInBounds (2 * pos + 1 + 1) y).setIfInBounds pos z) }) : codeAny (model P w) A (.builtin "_heapq.heapify.sift" ⟨[.ref a, .bool false, .bool true, rawInt (pos : Nat), rawInt 0, res, rawInt (-1)], []⟩) R s := by
  refine codeAny_builtin entry_sift ?_
  rw [Around.under_plainId plain_sift _]
  unfold Builtin.«_heapq.heapify.sift»
  dsimp only [rawInt]
  refine wpAny_bind ?_
  refine wpAny_bind (m := seqItems? (.ref a)) (wpAny_seqItems ho hd ?_)
  dsimp only
  refine wpAny_pure ?_
  have e0 : ((pos : Nat) : Int).toNat = pos := by omega
  have z0 : (0 : Int).toNat = 0 := rfl
  simp only [e0, z0]
  rw [if_pos trivial]
  rw [if_pos (by omega), if_pos two]
  refine wpAny_bind ?_
  show wpAny _ _ (match its[2 * pos + 1]? with | some v => pure v | none => unsupported "internal:_heapq.index") _ _ _
  rw [g1]
  refine wpAny_pure ?_
  refine wpAny_bind ?_
  show wpAny _ _ (match its[2 * pos + 1 + 1]? with | some v => pure v | none => unsupported "internal:_heapq.index") _ _ _
  rw [g2]
  refine wpAny_pure ?_
  rw [if_neg (by decide)]
  obtain ⟨l, ol, ns, nl, rfl, hol, hcl, hdl, hvl⟩ := tx
  obtain ⟨b, ob, ms, nb, rfl, hob, hcb, hdb, hvb⟩ := tz
  refine wpAny_bind ?_
  refine wpAny_bind ?_
  refine wpAny_holding ?_
  refine wpAny_bind ?_
  refine HT.lt_tupInts (l := l) (b := b) ⟨ol, hol, hcl, nl, hdl⟩ ⟨ob, hob, hcb, nb, hdb⟩ (ns := k (.ref l)) (ms := k (.ref b)) (intsAre_of hvl) (intsAre_of hvb) (by simpa using free) ?_
  show wpAny _ _ (truthy (.bool (HT.lexLt (k (.ref l)) (k (.ref b))))) _ _ _
  refine wpAny_truthy_bool ?_
  refine wpAny_bind ?_
  refine wpAny_bind (m := seqItems? (.ref a)) (wpAny_seqItems ho hd ?_)
  dsimp only
  refine wpAny_pure ?_
  rw [if_neg (by simp)]
  refine wpAny_pure ?_
  cases c : HT.lexLt (k (.ref l)) (k (.ref b)) with
  | true =>
    rw [if_neg (by decide)]
    refine wpAny_bind ?_
    refine wpAny_bind ?_
    refine wpAny_bind (m := seqItems? (.ref a)) (wpAny_seqItems ho hd ?_)
    dsimp only
    refine wpAny_pure ?_
    refine wpAny_bind ?_
    show wpAny _ _ (match its[2 * pos + 1]? with | some v => pure v | none => unsupported "internal:_heapq.index") _ _ _
    rw [g1]
    refine wpAny_pure ?_
    refine wpAny_bind ?_
    show wpAny _ _ (match its[pos]? with | some v => pure v | none => unsupported "internal:_heapq.index") _ _ _
    rw [g0]
    refine wpAny_pure ?_
    refine wpAny_updateSeq ho hd ?_ (by rw [sizeLine_eq]; omega) (by simp only [Array.size_setIfInBounds]; rw [sizeLine_eq]; omega)
    exact wpAny_pure ⟨PySem.plainId_quiet plain_sift _, left c⟩
  | false =>
    rw [if_pos (by decide)]
    refine wpAny_bind ?_
    refine wpAny_bind ?_
    refine wpAny_bind (m := seqItems? (.ref a)) (wpAny_seqItems ho hd ?_)
    dsimp only
    refine wpAny_pure ?_
    refine wpAny_bind ?_
    show wpAny _ _ (match its[2 * pos + 1 + 1]? with | some v => pure v | none => unsupported "internal:_heapq.index") _ _ _
    rw [g2]
    refine wpAny_pure ?_
    refine wpAny_bind ?_
    show wpAny _ _ (match its[pos]? with | some v => pure v | none => unsupported "internal:_heapq.index") _ _ _
    rw [g0]
    refine wpAny_pure ?_
    refine wpAny_updateSeq ho hd ?_ (by rw [sizeLine_eq]; omega) (by simp only [Array.size_setIfInBounds]; rw [sizeLine_eq]; omega)
    exact wpAny_pure ⟨PySem.plainId_quiet plain_sift _, right c⟩
end
end Rp
/-! Hx: heappush and heappop over a list of non-empty tuples of ints, as calls. -/
namespace Rp
open PySem PySem.Spec L2 PyProof.Rows
theorem kind_push : builtinKind "_heapq.heappush" = none := by kernel_rfl
theorem kind_pop : builtinKind "_heapq.heappop" = none := by kernel_rfl
theorem args_push (a b : Value) : argsOk "_heapq.heappush" ⟨[a, b], []⟩ := by unfold argsOk; kernel_rfl
theorem args_pop (a : Value) : argsOk "_heapq.heappop" ⟨[a], []⟩ := by unfold argsOk; kernel_rfl
/-- at most as great, as tuples -/
def leK (x y : List Int) : Prop := HT.lexLt y x = false
theorem leK_tr : ∀ a b c, leK a b → leK b c → leK a c := fun a b c h1 h2 => NtL.lex_tr _ _ _ h1 h2
theorem lexLt_irr : ∀ a : List Int, HT.lexLt a a = false
  | [] => rfl
  | x :: xs => by
    rw [HT.lexLt_cons, if_pos rfl]
    exact lexLt_irr xs
theorem leK_rf (a : List Int) : leK a a := lexLt_irr a
def atK (ks : List (List Int)) (i : Nat) : List Int := ks.getD i []
theorem atK_of {ks : List (List Int)} {i : Nat} {k : List Int} (h : ks[i]? = some k) : atK ks i = k := by
  unfold atK
  rw [List.getD_eq_getElem?_getD, h]
  rfl
theorem atK_swp {ks : List (List Int)} {i j : Nat} {x y : List Int} (hi : ks[i]? = some x) (hj : ks[j]? = some y) : atK ((ks.set i y).set j x) = swp (atK ks) i j := by
  funext k
  have li := (List.getElem?_eq_some_iff.mp hi).1
  have lj := (List.getElem?_eq_some_iff.mp hj).1
  unfold swp
  by_cases a : k = i
  · rw [if_pos a]
    subst a
    rw [atK_of hj]
    by_cases b : j = k
    · subst b
      rw [hi] at hj
      cases hj
      exact atK_of (by rw [List.getElem?_set_self (by rw [List.length_set]; exact li)])
    · exact atK_of (by rw [List.getElem?_set_ne b, List.getElem?_set_self li])
  · rw [if_neg a]
    by_cases b : k = j
    · subst b
      rw [if_pos rfl, atK_of hi]
      exact atK_of (by rw [List.getElem?_set_self (by rw [List.length_set]; exact lj)])
    · rw [if_neg b]
      unfold atK
      rw [List.getD_eq_getElem?_getD, List.getD_eq_getElem?_getD, List.getElem?_set_ne (Ne.symm b), List.getElem?_set_ne (Ne.symm a)]
theorem swp_perm {α : Type} {l : List α} {i j : Nat} {x y : α} (hi : l[i]? = some x) (hj : l[j]? = some y) : ((l.set i y).set j x).Perm l := by
  obtain ⟨li, ei⟩ := List.getElem?_eq_some_iff.mp hi
  obtain ⟨lj, ej⟩ := List.getElem?_eq_some_iff.mp hj
  subst ei
  subst ej
  exact List.set_set_perm li lj
namespace KeysT
variable {K : PySem.W.Frag} {H : Hp}
theorem len : ∀ {xs : List V} {ks : List (List Int)}, KeysT K H xs ks → xs.length = ks.length
  | _, _, .nil => rfl
  | _, _, .cons _ _ r => congrArg (· + 1) r.len
theorem getX : ∀ {xs : List V} {ks : List (List Int)} {i : Nat} {x : V}, KeysT K H xs ks → xs[i]? = some x → ∃ t k, x = .ref t ∧ ks[i]? = some k ∧ SqT K H t (k.map V.int) ∧ k ≠ []
  | _, _, _, _, .nil, e => by simp at e
  | _, _, 0, _, .cons h ne _, e => by
    cases e
    exact ⟨_, _, rfl, rfl, h, ne⟩
  | _, _, i + 1, _, .cons _ _ r, e => r.getX (i := i) e
theorem setX : ∀ {xs : List V} {ks : List (List Int)} {t : Addr} {k : List Int} (i : Nat), KeysT K H xs ks → SqT K H t (k.map V.int) → k ≠ [] → KeysT K H (xs.set i (.ref t)) (ks.set i k)
  | _, _, _, _, _, .nil, _, _ => .nil
  | _, _, _, _, 0, .cons _ _ r, h, ne => .cons h ne r
  | _, _, _, _, i + 1, .cons h0 ne0 r, h, ne => .cons h0 ne0 (setX i r h ne)
theorem app : ∀ {xs ys : List V} {ks ls : List (List Int)}, KeysT K H xs ks → KeysT K H ys ls → KeysT K H (xs ++ ys) (ks ++ ls)
  | _, _, _, _, .nil, h => h
  | _, _, _, _, .cons h ne r, h2 => .cons h ne (app r h2)
theorem cons_inv {xs : List V} {k : List Int} {ks : List (List Int)} (h : KeysT K H xs (k :: ks)) : ∃ t ys, xs = .ref t :: ys ∧ SqT K H t (k.map V.int) ∧ k ≠ [] ∧ KeysT K H ys ks := by
  cases h with
  | cons h ne r => exact ⟨_, _, rfl, h, ne, r⟩
theorem dropLast (xs : List V) (ks : List (List Int)) (h : KeysT K H xs ks) : KeysT K H xs.dropLast ks.dropLast := by
  induction h with
  | nil => exact .nil
  | @cons t ns xs ks h ne r ih =>
    cases r with
    | nil => exact .nil
    | cons h1 ne1 r1 => exact .cons h ne ih
theorem onto {a : Addr} {zs : List V} {ys : List V} (e : H a = some (.lst zs)) : ∀ {xs : List V} {ks : List (List Int)}, KeysT K H xs ks → KeysT K (upd H a (.lst ys)) xs ks
  | _, _, .nil => .nil
  | _, _, .cons h ne r => .cons ((sx_upd (p := a)).sqT e h) ne (onto e r)
end KeysT
section
variable {X : Cx} {pins : List (Addr × Obj)} {σ : L2.St}
/-- two places of a tracked list change -/
theorem swap_inv {a : Addr} {H : Hp} {s : Shared} {xs : List V} {its : List Value} {n i j : Nat} {x y : V} {u v : Value} (I : L2.Inv X pins σ H s) (hH : H a = some (.lst xs)) (rv : Vals xs its) (hz : xs.length ≤ sizeLine) (e : s.heap.get? a = some { cls := .type "list", data := .seq its.toArray n })
    (ru : RelV x u) (rw' : RelV y v) : L2.Inv X pins σ (upd H a (.lst ((xs.set i y).set j x))) { s with heap := s.heap.update a (Obj.mapSeq fun zs => (zs.setIfInBounds i v).setIfInBounds j u) } := by
  refine I.lset (its' := (its.set i v).set j u) (t' := s.toks) hH e (by simp) ((rv.set rw' i).set ru j) ?_
  rw [List.length_set, List.length_set]
  exact hz
theorem get_val {xs : List V} {its : List Value} {i : Nat} {t : Addr} (rv : Vals xs its) (h : xs[i]? = some (.ref t)) : its[i]? = some (.ref t) := by
  obtain ⟨u, h1, h2⟩ := rv.get h
  cases h2
  exact h1
theorem key_at {H : Hp} {s : Shared} (I : L2.Inv X pins σ H s) {t : Addr} {k : List Int} (h : SqT X.K H t (k.map V.int)) : IsTI s.heap (.ref t) k := by
  obtain ⟨is, rvs, ⟨o, ho, hc, n, hd⟩, _⟩ := I.tuple h
  exact ⟨_, o, is, n, rfl, ho, hc, hd, rvs⟩
theorem up_loop (free : X.A.units + 1 < cLine) {a : Addr} {res : Value} {R : Result → Shared → Prop} : ∀ (m pos : Nat), pos ≤ m → ∀ {H : Hp} {s : Shared} {xs : List V} {ks : List (List Int)}, L2.Inv X pins σ H s → H a = some (.lst xs) → KeysT X.K H xs ks → xs.length ≤ 1000 → pos < xs.length → UpOk leK (atK ks) ks.length pos →
    (∀ s' ys ls, L2.Inv X pins σ (upd H a (.lst ys)) s' → KeysT X.K (upd H a (.lst ys)) ys ls → ls.Perm ks → Hpd leK (atK ls) ls.length → R (.ok (.ret res)) s') →
    codeAny (model X.prog X.w) X.A (.builtin "_heapq.heapify.sift" ⟨[.ref a, .bool false, .bool false, rawInt (pos : Nat), rawInt 0, res, rawInt (-1)], []⟩) R s := by
  intro m
  induction m with
  | zero =>
    intro pos hm H s xs ks I hH hk hz hp up q
    obtain rfl : pos = 0 := by omega
    obtain ⟨z, its, n, rv, hl, e⟩ := I.lstM hH
    refine sift_stop (its := its.toArray) ⟨_, e, rfl, n, rfl⟩ ?_
    refine q s xs ks ?_ (hk.onto hH) (.refl _) (up.done (.inl rfl))
    have : upd H a (.lst xs) = H := by
      funext b
      unfold upd
      split
      · rename_i h; rw [h, hH]
      · rfl
    rw [this]
    exact I
  | succ m ih =>
    intro pos hm H s xs ks I hH hk hz hp up q
    by_cases h0 : pos = 0
    · subst h0
      obtain ⟨z, its, n, rv, hl, e⟩ := I.lstM hH
      refine sift_stop (its := its.toArray) ⟨_, e, rfl, n, rfl⟩ ?_
      refine q s xs ks ?_ (hk.onto hH) (.refl _) (up.done (.inl rfl))
      have : upd H a (.lst xs) = H := by
        funext b
        unfold upd
        split
        · rename_i h; rw [h, hH]
        · rfl
      rw [this]
      exact I
    · have h0 : 0 < pos := by omega
      have hq : (pos - 1) / 2 < xs.length := by omega
      obtain ⟨z, its, n, rv, hl, e⟩ := I.lstM hH
      have gx : xs[pos]? = some xs[pos] := List.getElem?_eq_getElem hp
      have gp : xs[(pos - 1) / 2]? = some xs[(pos - 1) / 2] := List.getElem?_eq_getElem hq
      obtain ⟨t, k, ex, ek, ht, ne⟩ := hk.getX gx
      obtain ⟨t', k', ex', ek', ht', ne'⟩ := hk.getX gp
      rw [ex] at gx
      rw [ex'] at gp
      have ux := get_val rv gx
      have up' := get_val rv gp
      have e1 : its.toArray[pos]'(by rw [List.size_toArray]; omega) = Value.ref t := by
        have := (List.getElem?_eq_some_iff.mp ux).2
        simpa using this
      have e2 : its.toArray[(pos - 1) / 2]'(by rw [List.size_toArray]; omega) = Value.ref t' := by
        have := (List.getElem?_eq_some_iff.mp up').2
        simpa using this
      have k1 : keyTI s.heap (Value.ref t) = k := keyTI_of (key_at I ht)
      have k2 : keyTI s.heap (Value.ref t') = k' := keyTI_of (key_at I ht')
      refine sift_up1 (its := its.toArray) (n := n) (k := keyTI s.heap) free e rfl (by rw [List.size_toArray]; omega) h0 (by rw [List.size_toArray]; omega) ?_ ?_ ?_ ?_
      · rw [e1, k1]; exact key_at I ht
      · rw [e2, k2]; exact key_at I ht'
      · rw [e1, e2, k1, k2]
        intro lt
        have I' := swap_inv (i := (pos - 1) / 2) (j := pos) (x := .ref t') (y := .ref t) (u := .ref t') (v := .ref t) I hH rv z e rfl rfl
        refine ih ((pos - 1) / 2) (by omega) (xs := (xs.set ((pos - 1) / 2) (.ref t)).set pos (.ref t')) (ks := (ks.set ((pos - 1) / 2) k).set pos k') I' upd_same ?_ ?_ ?_ ?_ ?_
        · exact (((hk.setX ((pos - 1) / 2) ht ne).setX pos ht' ne')).onto hH
        · rw [List.length_set, List.length_set]; exact hz
        · rw [List.length_set, List.length_set]; exact hq
        · rw [atK_swp ek' ek, List.length_set, List.length_set]
          refine up.step leK_tr h0 (by rw [← hk.len]; exact hp) ?_
          rw [atK_of ek, atK_of ek']
          exact NtL.lex_asym _ _ lt
        · intro s' ys ls I2 hk2 pm hp2
          rw [upd_upd] at I2 hk2
          exact q s' ys ls I2 hk2 (pm.trans (swp_perm ek' ek)) hp2
      · rw [e1, e2, k1, k2]
        intro lt
        refine q s xs ks ?_ (hk.onto hH) (.refl _) (up.done (.inr ?_))
        · have : upd H a (.lst xs) = H := by
            funext b
            unfold upd
            split
            · rename_i h; rw [h, hH]
            · rfl
          rw [this]
          exact I
        · rw [atK_of ek, atK_of ek']
          exact lt
theorem dn_loop (free : X.A.units + 1 < cLine) {a : Addr} {res : Value} {R : Result → Shared → Prop} : ∀ (m pos : Nat) {H : Hp} {s : Shared} {xs : List V} {ks : List (List Int)}, xs.length ≤ m + pos → L2.Inv X pins σ H s → H a = some (.lst xs) → KeysT X.K H xs ks → xs.length ≤ 1000 → pos < xs.length → DnOk leK (atK ks) ks.length pos →
    (∀ s' ys ls, L2.Inv X pins σ (upd H a (.lst ys)) s' → KeysT X.K (upd H a (.lst ys)) ys ls → ls.Perm ks → Hpd leK (atK ls) ls.length → R (.ok (.ret res)) s') →
    codeAny (model X.prog X.w) X.A (.builtin "_heapq.heapify.sift" ⟨[.ref a, .bool false, .bool true, rawInt (pos : Nat), rawInt 0, res, rawInt (-1)], []⟩) R s := by
  intro m
  induction m with
  | zero =>
    intro pos H s xs ks hm I hH hk hz hp dn q
    omega
  | succ m ih =>
    intro pos H s xs ks hm I hH hk hz hp dn q
    obtain ⟨z, its, n, rv, hl, e⟩ := I.lstM hH
    have sz : its.toArray.size = xs.length := by rw [List.size_toArray, hl]
    by_cases lf : xs.length / 2 ≤ pos
    · refine sift_leaf (its := its.toArray) e rfl (by rw [sz]; exact lf) ?_
      exact up_loop free pos pos (Nat.le_refl _) I hH hk hz hp (dn.done (by rw [← hk.len]; omega)) q
    · have gp : xs[pos]? = some xs[pos] := List.getElem?_eq_getElem hp
      obtain ⟨t, k, ex, ek, ht, ne⟩ := hk.getX gp
      rw [ex] at gp
      have up0 := get_val rv gp
      have go : ∀ (c : Nat) (tc : Addr) (kc : List Int) (hc : c = 2 * pos + 1 ∨ c = 2 * pos + 2), xs[c]? = some (.ref tc) → ks[c]? = some kc → SqT X.K H tc (kc.map V.int) → kc ≠ [] → (∀ i, i < ks.length → i = 2 * pos + 1 ∨ i = 2 * pos + 2 → leK (atK ks c) (atK ks i)) →
          codeAny (model X.prog X.w) X.A (.builtin "_heapq.heapify.sift" ⟨[.ref a, .bool false, .bool true, rawInt (c : Nat), rawInt 0, res, rawInt (-1)], []⟩) R { s with heap := s.heap.update a (Obj.mapSeq fun zs => (zs.setIfInBounds c (.ref t)).setIfInBounds pos (.ref tc)) } := by
        intro c tc kc hc gc ekc htc nec low
        have cl := (List.getElem?_eq_some_iff.mp gc).1
        have I' := swap_inv (i := c) (j := pos) (x := .ref tc) (y := .ref t) (u := .ref tc) (v := .ref t) I hH rv z e rfl rfl
        refine ih c (xs := (xs.set c (.ref t)).set pos (.ref tc)) (ks := (ks.set c k).set pos kc) ?_ I' upd_same ?_ ?_ ?_ ?_ ?_
        · rw [List.length_set, List.length_set]; omega
        · exact (((hk.setX c ht ne).setX pos htc nec)).onto hH
        · rw [List.length_set, List.length_set]; exact hz
        · rw [List.length_set, List.length_set]; exact cl
        · rw [atK_swp ekc ek, List.length_set, List.length_set]
          exact dn.step (by rw [← hk.len]; exact cl) hc low
        · intro s' ys ls I2 hk2 pm hp2
          rw [upd_upd] at I2 hk2
          exact q s' ys ls I2 hk2 (pm.trans (swp_perm ekc ek)) hp2
      have h1 : 2 * pos + 1 < xs.length := by omega
      have g1 : xs[2 * pos + 1]? = some xs[2 * pos + 1] := List.getElem?_eq_getElem h1
      obtain ⟨t1, k1, ex1, ek1, ht1, ne1⟩ := hk.getX g1
      rw [ex1] at g1
      have u1 := get_val rv g1
      by_cases two : 2 * pos + 1 + 1 < xs.length
      · have g2 : xs[2 * pos + 1 + 1]? = some xs[2 * pos + 1 + 1] := List.getElem?_eq_getElem two
        obtain ⟨t2, k2, ex2, ek2, ht2, ne2⟩ := hk.getX g2
        rw [ex2] at g2
        have u2 := get_val rv g2
        have q1 : keyTI s.heap (Value.ref t1) = k1 := keyTI_of (key_at I ht1)
        have q2 : keyTI s.heap (Value.ref t2) = k2 := keyTI_of (key_at I ht2)
        refine sift_dn2 (its := its.toArray) (n := n) (k := keyTI s.heap) (y := .ref t) (x := .ref t1) (z := .ref t2) free e rfl (by rw [sz]; exact hz) (by rw [sz]; exact two) (by simpa using up0) (by simpa using u1) (by simpa using u2) (by rw [q1]; exact key_at I ht1) (by rw [q2]; exact key_at I ht2) ?_ ?_
        · rw [q1, q2]
          intro lt
          refine go _ t1 k1 (.inl rfl) g1 ek1 ht1 ne1 fun i hi hc => ?_
          rcases hc with rfl | rfl
          · exact leK_rf _
          · rw [atK_of ek1, atK_of ek2]
            exact NtL.lex_asym _ _ lt
        · rw [q1, q2]
          intro lt
          refine go _ t2 k2 (.inr rfl) g2 ek2 ht2 ne2 fun i hi hc => ?_
          rcases hc with rfl | rfl
          · rw [atK_of ek1, atK_of ek2]
            exact lt
          · exact leK_rf _
      · refine sift_dn1 (its := its.toArray) (n := n) (y := .ref t) (x := .ref t1) e rfl (by rw [sz]; exact hz) (by rw [sz]; omega) (by simpa using up0) (by simpa using u1) ?_
        refine go _ t1 k1 (.inl rfl) g1 ek1 ht1 ne1 fun i hi hc => ?_
        rcases hc with rfl | rfl
        · exact leK_rf _
        · rw [← hk.len] at hi
          omega
/-- heappush(h, (.., ..)) -/
def rHPush (K : PySem.W.Frag) : List V → Hp → VK → Prop := fun vs H Q => ∃ (a t : Addr) (xs : List V) (ks : List (List Int)) (k : List Int), vs = [.ref a, .ref t] ∧ H a = some (.lst xs) ∧ KeysT K H xs ks ∧ SqT K H t (k.map V.int) ∧ k ≠ [] ∧ xs.length < 1000 ∧ Hpd leK (atK ks) ks.length ∧
  ∀ (ys : List V) (ls : List (List Int)), KeysT K (upd H a (.lst ys)) ys ls → ls.Perm (ks ++ [k]) → Hpd leK (atK ls) ls.length → Q .non (upd H a (.lst ys))
theorem wp_isList {M : Model} {A : Around} {E : Value → Shared → Prop} {s : Shared} {a : Addr} {o : Obj} {Q : Bool → Shared → Prop} (ho : s.heap.get? a = some o) (hc : o.cls = .type "list") (q : Q true s) : wpAny M A (isInstance (.ref a) (.type "list")) Q E s :=
  wpAny_isInstance (T := "list") (b := true) ⟨o, ho, hc⟩ (by first | rfl | kernel_rfl) q
theorem cr_hpush (free : X.A.units + 1 < cLine) : CallR X (.builtin "_heapq.heappush") (rHPush X.K) := by
  intro pins s σ H vs us Q I r h
  obtain ⟨a, t, xs, ks, k, rfl, hH, hk, ht, ne, hz, hp, q⟩ := h
  cases r with
  | cons r1 rr =>
  cases rr with
  | cons r2 rr =>
  cases rr
  cases r1
  cases r2
  obtain ⟨z, its, n, rv, hl, e⟩ := I.lstM hH
  refine PyProof.Rows.kmb_tree kind_push plain_push entry_push (args_push _ _) ?_
  unfold Builtin.«_heapq.heappush»
  refine wpAny_bind ?_
  refine wpAny_bind (m := noKeywords _ _) (wpAny_pure ?_)
  refine wpAny_bind (m := checkCount _ _ _ _) (wpAny_pure ?_)
  dsimp only
  refine wpAny_bind ?_
  refine wpAny_bind (wp_isList e rfl ?_)
  dsimp only
  rw [if_pos rfl]
  refine wpAny_pure ?_
  refine wpAny_pure ?_
  dsimp only
  refine wpAny_bind ?_
  have lb := sizeLine_eq
  refine wpAny_updateSeq e rfl ?_ (by rw [List.size_toArray]; omega) (by rw [Array.size_push, List.size_toArray]; omega)
  have I1 : L2.Inv X pins σ (upd H a (.lst (xs ++ [.ref t]))) { s with heap := s.heap.update a (Obj.mapSeq fun zs => zs.push (Value.ref t)) } := by
    refine I.lset (its' := its ++ [Value.ref t]) (t' := s.toks) hH e (by simp) (rv.append (.cons rfl .nil)) ?_
    rw [List.length_append, List.length_singleton, sizeLine_eq]
    omega
  have e1 := PySem.IsL.update e fun zs : Array Value => zs.push (Value.ref t)
  rw [show (its.toArray.push (Value.ref t)) = (its ++ [Value.ref t]).toArray from by simp] at e1
  refine wpAny_bind ?_
  refine wpAny_bind (m := seqItems? (.ref a)) (wpAny_seqItems e1 rfl ?_)
  dsimp only
  refine wpAny_pure ?_
  refine wpAny_pure ⟨PySem.plainId_quiet plain_sift _, ?_⟩
  have pz : (its ++ [Value.ref t]).toArray.size - 1 = xs.length := by rw [List.size_toArray, List.length_append, List.length_singleton, hl]; omega
  rw [pz]
  have kl := hk.len
  refine up_loop (pins := pins) (σ := σ) free xs.length xs.length (Nat.le_refl _) (xs := xs ++ [.ref t]) (ks := ks ++ [k]) I1 upd_same ?_ ?_ ?_ ?_ ?_
  · exact (hk.app (.cons ht ne .nil)).onto hH
  · rw [List.length_append, List.length_singleton]; omega
  · rw [List.length_append, List.length_singleton]; omega
  · rw [List.length_append, List.length_singleton, kl]
    refine UpOk.start hp fun i hi => ?_
    unfold atK
    rw [List.getD_eq_getElem?_getD, List.getD_eq_getElem?_getD, List.getElem?_append_left hi]
  · intro s' ys ls I2 hk2 pm hp2
    rw [upd_upd] at I2 hk2
    exact ⟨.non, _, I2, rfl, q ys ls hk2 pm hp2⟩
/-- heappop(h) -/
def rHPop (K : PySem.W.Frag) : List V → Hp → VK → Prop := fun vs H Q => ∃ (a : Addr) (xs : List V) (ks : List (List Int)), vs = [.ref a] ∧ H a = some (.lst xs) ∧ KeysT K H xs ks ∧ xs ≠ [] ∧ xs.length ≤ 1000 ∧ Hpd leK (atK ks) ks.length ∧
  ∀ (t : Addr) (k : List Int) (ys : List V) (ls : List (List Int)), SqT K (upd H a (.lst ys)) t (k.map V.int) → KeysT K (upd H a (.lst ys)) ys ls → (k :: ls).Perm ks → (∀ x ∈ ks, leK k x) → Hpd leK (atK ls) ls.length → Q (.ref t) (upd H a (.lst ys))
theorem list_snoc {α : Type} {l : List α} (h : l ≠ []) : ∃ i x, l = i ++ [x] := ⟨l.dropLast, l.getLast h, (List.dropLast_concat_getLast h).symm⟩
theorem KeysT.split {K : PySem.W.Frag} {H : Hp} : ∀ {xs ys : List V} {ks : List (List Int)}, KeysT K H (xs ++ ys) ks → ∃ k1 k2, ks = k1 ++ k2 ∧ KeysT K H xs k1 ∧ KeysT K H ys k2
  | [], ys, ks, h => ⟨[], ks, rfl, .nil, h⟩
  | _ :: xs, ys, _, .cons h ne r => by
    obtain ⟨k1, k2, rfl, a, b⟩ := KeysT.split r
    exact ⟨_ :: k1, k2, rfl, .cons h ne a, b⟩
theorem heap_least {ks : List (List Int)} {k : List Int} (h : Hpd leK (atK ks) ks.length) (e : ks[0]? = some k) : ∀ x ∈ ks, leK k x := by
  intro x hx
  obtain ⟨i, hi, rfl⟩ := List.getElem_of_mem hx
  have := h.least leK_rf leK_tr i hi
  rw [atK_of e, atK_of (List.getElem?_eq_getElem hi)] at this
  exact this
theorem Hpd.take {ks : List (List Int)} {n : Nat} (h : Hpd leK (atK ks) ks.length) : Hpd leK (atK (ks.take n)) (ks.take n).length := by
  intro i h0 hi
  rw [List.length_take] at hi
  have := h i h0 (by omega)
  unfold atK at this ⊢
  rw [List.getD_eq_getElem?_getD, List.getD_eq_getElem?_getD] at this ⊢
  rw [List.getElem?_take_of_lt (by omega), List.getElem?_take_of_lt (by omega)]
  exact this
theorem cr_hpop (free : X.A.units + 1 < cLine) : CallR X (.builtin "_heapq.heappop") (rHPop X.K) := by
  intro pins s σ H vs us Q I r h
  obtain ⟨a, xs, ks, rfl, hH, hk, nn, hz, hp, q⟩ := h
  cases r with
  | cons r1 rr =>
  cases rr
  cases r1
  obtain ⟨z, its, n, rv, hl, e⟩ := I.lstM hH
  refine PyProof.Rows.kmb_tree kind_pop plain_pop entry_pop (args_pop _) ?_
  unfold Builtin.«_heapq.heappop»
  refine wpAny_bind ?_
  refine wpAny_bind ?_
  refine wpAny_bind (m := noKeywords _ _) (wpAny_pure ?_)
  refine wpAny_pure ?_
  refine wpAny_bind ?_
  refine wpAny_bind (wp_isList e rfl ?_)
  dsimp only
  rw [if_pos rfl]
  refine wpAny_pure ?_
  refine wpAny_pure ?_
  dsimp only
  refine wpAny_bind ?_
  refine wpAny_bind (m := seqItems? (.ref a)) (wpAny_seqItems e rfl ?_)
  dsimp only
  refine wpAny_pure ?_
  obtain ⟨xi, xl, rfl⟩ := list_snoc nn
  obtain ⟨iti, ul, rfl⟩ : ∃ i x, its = i ++ [x] := list_snoc (fun z => by rw [z] at hl; simp at hl)
  have rvi : Vals xi iti := by
    have := rv.dropLast
    rwa [List.dropLast_concat, List.dropLast_concat] at this
  obtain ⟨k1, k2, rfl, hk1, hk2⟩ := KeysT.split hk
  cases hk2 with
  | @cons tl kl xs0 ks0 htl nel r0 =>
  cases r0
  have hul : ul = Value.ref tl := by
    obtain ⟨u, h1, h2⟩ := rv.get (i := xi.length) (x := .ref tl) (by simp)
    rw [rvi.length] at h1
    simp at h1
    rw [h1]
    exact h2
  subst hul
  have eb : (iti ++ [Value.ref tl]).toArray.back? = some (Value.ref tl) := by simp
  rw [eb]
  dsimp only
  have lb := sizeLine_eq
  have lx := rvi.length
  have hz1 : xi.length + 1 ≤ 1000 := by rw [List.length_append, List.length_singleton] at hz; exact hz
  refine wpAny_bind ?_
  refine wpAny_updateSeq e rfl ?_ (by rw [List.size_toArray, List.length_append, List.length_singleton]; omega) (by rw [Array.size_pop, List.size_toArray, List.length_append, List.length_singleton]; omega)
  have I1 : L2.Inv X pins σ (upd H a (.lst xi)) { s with heap := s.heap.update a (Obj.mapSeq fun zs => zs.pop) } := by
    refine I.lset (its' := iti) (t' := s.toks) hH e (by simp) rvi ?_
    rw [sizeLine_eq]
    omega
  have e1 := PySem.IsL.update e fun zs : Array Value => zs.pop
  rw [show (iti ++ [Value.ref tl]).toArray.pop = iti.toArray from by simp] at e1
  cases xi with
  | nil =>
    cases iti with
    | cons _ _ => cases rvi
    | nil =>
    cases hk1
    rw [if_pos (by rfl)]
    refine wpAny_pure ?_
    refine ⟨.ref tl, _, I1, rfl, q tl kl [] [] ((sx_upd (p := a)).sqT hH htl) .nil (.refl _) (fun x hx => ?_) (fun i _ hi => absurd hi (Nat.not_lt_zero _))⟩
    rw [List.mem_singleton.mp hx]
    exact leK_rf _
  | cons x0 xr =>
    cases hk1 with
    | @cons t0 k0 xs1 kr ht0 ne0 hkr =>
    cases iti with
    | nil => cases rvi
    | cons u0 ir =>
    obtain rfl : u0 = Value.ref t0 := by
      cases rvi with
      | cons h _ => exact h
    rw [if_neg (by simp)]
    refine wpAny_bind ?_
    refine wpAny_pure ?_
    refine wpAny_bind ?_
    refine wpAny_updateSeq e1 rfl ?_ (by rw [List.size_toArray]; omega) (by rw [Array.size_setIfInBounds, List.size_toArray]; omega)
    have I2 : L2.Inv X pins σ (upd H a (.lst (.ref tl :: xr))) { s with heap := (s.heap.update a (Obj.mapSeq fun zs => zs.pop)).update a (Obj.mapSeq fun zs => zs.setIfInBounds 0 (Value.ref tl)) } := by
      have := I1.lset (ys := .ref tl :: xr) (its' := Value.ref tl :: ir) (f := fun zs : Array Value => zs.setIfInBounds 0 (Value.ref tl)) (t' := s.toks) upd_same e1 (by simp) (by cases rvi with | cons _ r => exact .cons rfl r) (by rw [sizeLine_eq]; rw [List.length_cons] at hz1 ⊢; omega)
      rw [upd_upd] at this
      exact this
    refine wpAny_pure ⟨PySem.plainId_quiet plain_sift _, ?_⟩
    have kl1 := hkr.len
    refine dn_loop (pins := pins) (σ := σ) free (xr.length + 1) 0 (xs := .ref tl :: xr) (ks := kl :: kr) (by simp) I2 upd_same ?_ ?_ ?_ ?_ ?_
    · exact KeysT.onto hH (.cons htl nel hkr)
    · rw [List.length_cons] at hz1 ⊢; omega
    · rw [List.length_cons]; omega
    · refine DnOk.start (f := atK (k0 :: kr)) ?_ fun i h0 hi => ?_
      · have := Hpd.take (n := kr.length + 1) hp
        rwa [show (k0 :: kr ++ [kl]).take (kr.length + 1) = k0 :: kr from by simp] at this
      · obtain ⟨j, rfl⟩ : ∃ j, i = j + 1 := ⟨i - 1, by omega⟩
        rfl
    · intro s' ys ls I3 hk3 pm hp3
      rw [upd_upd] at I3 hk3
      have pk : (k0 :: ls).Perm (k0 :: kr ++ [kl]) := .cons _ (pm.trans (by simpa using (List.perm_append_comm (l₁ := [kl]) (l₂ := kr))))
      refine ⟨.ref t0, _, I3, rfl, q t0 k0 ys ls ((sx_upd (p := a)).sqT hH ht0) hk3 pk (heap_least hp rfl) hp3⟩
end
end Rp
/-! Ts: set of a tuple of tuples of ints, and such a set sorted whatever the lengths. -/
namespace Rp
open PySem PySem.Spec L2 PyProof.Rows
section
variable {P : Program} {w : World} {A : Around} {E : Value → Shared → Prop} {s : Shared}
/-- the object of an empty new set -/
abbrev setOb (w : World) : Obj := { cls := .type "set", dict := none, data := .set #[] 0 (.fresh 0 0 (!w.params.followText "set-order")) }
abbrev setHp (w : World) (s : Shared) : Heap := s.heap.push (setOb w)
theorem past_none {h : Heap} {b : Addr} (hb : h.objs.size ≤ b) : h.get? b = none := by
  cases q : h.get? b with
  | none => rfl
  | some o => exact absurd (Heap.lt_size q) (Nat.not_lt.mpr hb)
theorem set_tupT {l : Addr} {items : Array Value} (ks : List (Addr × List Int)) {Q : Value → Shared → Prop} (free : A.handled = none) (tupl : s.heap.IsTuple l items) (eit : items.toList = ks.map fun p => Value.ref p.1)
    (ek : ∀ p ∈ ks, IsT P w s.heap p.2 p.1) (few : ks.length < 64) (un : A.units + 3 < cLine)
    (out : ∀ (g : Heap) (tk : Nat) L es ep t, SetTR P w g s.heap.objs.size L es ep t → Got ks ks.length L → (∀ b o, s.heap.get? b = some o → g.get? b = some o) → Q (.ref s.heap.objs.size) { s with heap := g, toks := tk }) :
    wpAny (model P w) A (call (.type "set") [.ref l]) Q E s := by
  have esz : items.size = ks.length := by rw [← Array.length_toList, eit, List.length_map]
  obtain ⟨c, tl, mro1⟩ := F.called_set.mro
  have made1 := F.called_set.made
  have subm := F.called_set.sub
  refine wpAny_call (codeAny_of_tree (show wpAny _ _ (callAny (.type "set") _) _ _ _ from wpAny_pure ⟨Code.quiet_builtin _ (by decide +kernel), codeAny_builtin F.entry_type_call ?_⟩))
  rw [Around.under_plain (weight_type_call_type "set" [.ref l] []) rfl]
  have nty := F.called_set.notType
  have cancr := F.called_set.canCreate
  have tcall := F.typeCall_set_1 (.ref l)
  repeat (any_goals (first | assumption | wp_step))
  refine codeAny_mono (code_set_led1 (.ref l) (E := E) (Q₁ := fun x s1 => x = .ref s.heap.objs.size ∧ s1 = { s with heap := setHp w s }) ⟨rfl, rfl⟩) fun r s1 hr => ?_
  rcases r with e | fl
  · exact hr
  cases fl <;> first | exact hr.elim | skip
  rename_i made
  obtain ⟨rfl, rfl⟩ := hr
  have atS : (setHp w s).get? s.heap.objs.size = some (setOb w) := Heap.get?_push_size _ rfl
  have tyS : Shared.TypeIs { s with heap := setHp w s } (.ref s.heap.objs.size) "set" := ⟨_, atS, rfl⟩
  have lki := F.called_set.init.lookup
  have bdi := F.called_set.init.bind (.ref s.heap.objs.size)
  repeat (any_goals (first | assumption | wp_step))
  refine codeAny_mono (codeAny_call_builtin (R := wants (fun r s2 => r = .none ∧ ∃ g tk L es ep t, s2 = { s with heap := g, toks := tk } ∧ SetTR P w g s.heap.objs.size L es ep t ∧ Got ks ks.length L ∧
      (∀ b o, s.heap.get? b = some o → g.get? b = some o)) E) F.called_set.init.plain F.entry_set_init (check_set_init_1 tyS ?_)) fun r2 s2 hr2 => ?_
  · obtain ⟨ob, atl, cl, nl, dt⟩ := tupl
    rcases ob with ⟨c0, d0, dat0, sl0⟩
    dsimp only at cl dt
    subst cl dt
    have atl' : (setHp w s).get? l = some { cls := .type "tuple", dict := d0, data := .seq items nl, slots := sl0 } := Heap.get?_push_of_some _ atl
    have sb1 := F.sub_tuple_set
    have sb2 := F.sub_tuple_frozenset
    have nd : (Value.type "tuple" == Value.type "dict") = false := by decide
    have isT1 : (setHp w s).IsTuple l items := ⟨_, atl', rfl, nl, rfl⟩
    unfold Builtin.«set.__init__» noKeywords Builtin.Frozenset.updateFrom
    generalize hit : pyIter = IT
    wp_walk
    subst hit
    refine wpAny_pyIter_tuple isT1 (wpAny_bind (wpAny_runValue ?_))
    have ltl : l < s.heap.objs.size := Heap.lt_size atl
    have sz : (setHp w s).objs.size = s.heap.objs.size + 1 := Heap.size_push ..
    have farl : l ≠ (setHp w s).objs.size := by
      rw [sz]
      exact Nat.ne_of_lt (Nat.lt_succ_of_lt ltl)
    have farS : s.heap.objs.size ∉ [(setHp w s).objs.size, l] := by
      intro hm
      rcases List.mem_cons.mp hm with e | e
      · rw [sz] at e
        exact absurd e (Nat.ne_of_lt (Nat.lt_succ_self _))
      · exact absurd (List.mem_singleton.mp e) (Nat.ne_of_gt ltl)
    have each : ∀ (i : Nat) (v : Value), items[i]? = some v → ∃ p, ks[i]? = some p ∧ v = .ref p.1 := fun i v hv => by
      rw [← Array.getElem?_toList, eit, List.getElem?_map] at hv
      obtain ⟨p, e1, e2⟩ := Option.map_eq_some_iff.mp hv
      exact ⟨p, e1, e2.symm⟩
    refine set_update_tups ((Walks.tuple (A := A.in1.in1.in1) (by simp [free]) _ l farl items).toS) s.heap.objs.size farS ks esz few each s.heap ek (past_none (Nat.le_refl _)) (fun b hb => past_none (by
        rw [List.mem_singleton.mp hb]
        omega)) un (items.size - 0) 0 _ (by omega) (Nat.zero_le _) ⟨⟨_, Heap.get?_push_size _ rfl, rfl, rfl⟩, (isT1.push _)⟩ (fun b o e => Heap.get?_push_of_some _ (Heap.get?_push_of_some _ e)) ⟨[], #[], 0, _, setTR_fresh (Heap.get?_push_of_some _ atS), Got.zero ks⟩ ?_
    intro s' L es ep t mv R' g' kp
    rcases s' with ⟨h', g2, dr', tk', os'⟩
    have q1 : g2 = s.gens := mv.gens
    have q2 : dr' = s.drawn := mv.drawn
    have q3 : os' = s.os := mv.os
    subst q1 q2 q3
    rw [esz] at g'
    exact wpAny_pure (wpAny_pure ⟨rfl, h', tk', L, es, ep, t, rfl, R', g', kp⟩)
  · rcases r2 with e | fl
    · exact hr2
    cases fl <;> first | exact hr2.elim | skip
    obtain ⟨rfl, g, tk, L, es, ep, t, rfl, R', g', kp⟩ := hr2
    repeat (any_goals (first | assumption | wp_step))
    exact out _ _ _ _ _ _ R' g' kp
/-- such a set sorted -/
theorem setT_sorted {a : Addr} {L : List (Addr × List Int)} {es : Array (Int × Value)} {ep : Nat} {t : SetTable} {Q : Value → Shared → Prop} (R : SetTR P w s.heap a L es ep t) (free : A.handled = none) (full : 2 ≤ L.length → ∀ p ∈ L, p.2 ≠ [])
    (hQ : ∀ s' p (out : Array Value) (c : Nat) (M : List (Addr × List Int)), (∀ b o, s.heap.get? b = some o → s'.heap.get? b = some o) → s'.gens = s.gens → s'.os = s.os → s.heap.objs.size ≤ p →
      s'.heap.get? p = some (seqObj "list" out c) → out.toList = M.map (fun q => Value.ref q.1) → M.Perm L → M.Pairwise (fun q r => HT.lexLt r.2 q.2 = false) → Q (.ref p) s') :
    wpAny (model P w) A (call (.builtin "sorted") [.ref a]) Q E s := by
  obtain ⟨o, ho, hex, dat⟩ := R.ob
  have hsz := R.size
  have hfew := R.few
  refine Calls.call_function_entry kind_sorted plain_sorted entry_sorted (args_sorted1 _) ?_
  unfold Builtin.«sorted»
  refine wpAny_bind (m := checkCount "sorted" 1 1 _) (wpAny_pure (wpAny_bind (collect_set (A := A.in1) free ⟨o, ho, hex.1, dat⟩ R.fits (by unfold scanBound; omega) R.tab.ris R.led fun s1 vs old z1 g1 o1 pm => ?_)))
  have ees : es.toList.map (·.2) = L.map fun q => Value.ref q.1 := by
    rw [R.rows, rowsOf, List.map_map]
    rfl
  rw [ees] at pm
  have lay : ∀ us : List Value, (∀ u ∈ us, ∃ q ∈ L, u = Value.ref q.1) → ∃ M : List (Addr × List Int), us = M.map (fun q => Value.ref q.1) ∧ ∀ q ∈ M, q ∈ L := by
    intro us hu
    induction us with
    | nil => exact ⟨[], rfl, fun q hq => nomatch hq⟩
    | cons u us ih =>
      obtain ⟨q, mq, rfl⟩ := hu u (List.mem_cons_self ..)
      obtain ⟨M, rfl, hM⟩ := ih fun x hx => hu x (List.mem_cons_of_mem _ hx)
      refine ⟨q :: M, rfl, fun r hr => ?_⟩
      rcases List.mem_cons.mp hr with rfl | hr
      · exact mq
      · exact hM r hr
  have uniq : ∀ q ∈ L, ∀ r ∈ L, q.1 = r.1 → q = r := fun q hq r hr e => by
    have x1 := R.tup q hq
    rw [e] at x1
    exact Prod.ext e (x1.inj (R.tup r hr))
  have ndL : L.Nodup := nodup_of_map R.nd
  have ndV : (L.map fun q => Value.ref q.1).Nodup := List.pairwise_map.mpr (ndL.imp_of_mem fun {q r} hq hr ne e => ne (uniq q hq r hr (by injection e)))
  have back : ∀ M : List (Addr × List Int), (∀ q ∈ M, q ∈ L) → (M.map (fun q => Value.ref q.1)).Perm (L.map fun q => Value.ref q.1) → M.Perm L := by
    intro M hM pmM
    refine (List.perm_ext_iff_of_nodup (nodup_of_map (pmM.nodup_iff.mpr ndV)) ndL).mpr fun q => ⟨hM q, fun hq => ?_⟩
    obtain ⟨r, hr, e⟩ := List.mem_map.mp (pmM.mem_iff.mpr (List.mem_map.mpr ⟨q, hq, rfl⟩))
    injection e with e
    rw [← uniq r (hM r hr) q hq e]
    exact hr
  have lv : vs.length < 64 := by
    rw [pm.length_eq, List.length_map]
    exact hfew
  refine wpAny_bind (wpAny_newList ?_ (by rw [sizeLine_eq]; omega))
  have atL : (s1.heap.push (seqObj "list" vs.toArray 0)).get? s1.heap.objs.size = some (seqObj "list" vs.toArray 0) := Heap.get?_push_size _ rfl
  have isK : ∀ q ∈ L, IsTI (s1.heap.push (seqObj "list" vs.toArray 0)) (.ref q.1) q.2 := fun q hq => by
    obtain ⟨ob, its, n, h1, h2, h3, h4⟩ := R.tup q hq
    refine ⟨q.1, ob, its.toList, n, rfl, Heap.get?_push_of_some _ (old _ _ h1), h2, h3, ?_⟩
    have va : ∀ {k : List Int} {us : List Value}, ItemsAre (intKind P w) k us → Vals (k.map V.int) us := by
      intro k us hh
      induction hh with
      | nil => exact .nil
      | @cons k0 v ks vs h1 _ ih =>
        obtain ⟨tk, rfl⟩ := Value.isInt_shape h1
        exact .cons ⟨tk, rfl⟩ ih
    exact va h4
  have keyed : ∀ v ∈ vs, ∃ q ∈ L, v = Value.ref q.1 := fun v hv => by
    obtain ⟨q, hq, e⟩ := List.mem_map.mp (pm.mem_iff.mp hv)
    exact ⟨q, hq, e.symm⟩
  have kOf : ∀ q ∈ L, keyTI (s1.heap.push (seqObj "list" vs.toArray 0)) (.ref q.1) = q.2 := fun q hq => keyTI_of (isK q hq)
  have hs : wpAny (model P w) A.in1 (call (.builtin "list.sort") [.ref s1.heap.objs.size]) (fun _ s2 => ∃ out : List Value, SrtO.Srtd (fun v u => HT.lexLt (keyTI (s1.heap.push (seqObj "list" vs.toArray 0)) v) (keyTI (s1.heap.push (seqObj "list" vs.toArray 0)) u)) out ∧ out.Perm vs ∧
      s2 = { s1 with heap := sortedHeap (s1.heap.push (seqObj "list" vs.toArray 0)) s1.heap.objs.size vs out.toArray }) E { s1 with heap := s1.heap.push (seqObj "list" vs.toArray 0) } := by
    refine wpAny_call_entry slot_list_sort ⟨_, atL, rfl⟩ entry_list_sort (SrtO.list_sort_ord (NtL.swo_lexL _) atL (by rw [sizeLine_eq]; omega) (fun h2 => ?_) fun out a1 a2 => ⟨_, rfl, out, a1, a2.perm, rfl⟩) (args_list_sort _)
    refine ti_sortable (by omega) (fun v hv => ?_) fun ob hob => ?_
    · obtain ⟨q, hq, rfl⟩ := keyed v hv
      rw [kOf q hq]
      exact ⟨isK q hq, full (by rw [pm.length_eq, List.length_map] at h2; omega) q hq⟩
    · rw [atL] at hob
      cases hob
      show (Value.type "list") ≠ Value.type "tuple"
      decide
  refine wpAny_bind (wpAny_holding (wpAny_mono hs ?_ fun _ _ h => h))
  rintro _ _ ⟨out, a1, a2, rfl⟩
  obtain ⟨c, hc⟩ := sortedHeap_at (vs := vs) (out := out.toArray) atL
  obtain ⟨M, eM, hM⟩ := lay out fun v hv => keyed v (a2.mem_iff.mp hv)
  have pM : M.Perm L := back M hM (by rw [← eM]; exact a2.trans pm)
  refine wpAny_pure ⟨_, rfl, hQ _ s1.heap.objs.size out.toArray c M (fun b u e => ?_) g1 o1 z1 hc eM pM ?_⟩
  · have lt := Heap.lt_size (old b u e)
    show (sortedHeap (s1.heap.push (seqObj "list" vs.toArray 0)) s1.heap.objs.size vs out.toArray).get? b = some u
    rw [sortedHeap_old (Nat.ne_of_lt lt) (by rw [size_push']; exact Nat.lt_succ_of_lt lt)]
    exact Heap.get?_push_of_some _ (old b u e)
  · rw [eM] at a1
    refine (List.pairwise_map.mp a1).imp_of_mem fun {q r} hq hr h => ?_
    dsimp only at h
    rw [kOf q (hM q hq), kOf r (hM r hr)] at h
    exact h
end
section
variable {X : Cx}
/-- set(xs), xs a tuple of tuples of ints -/
def rSetTT (K : PySem.W.Frag) (P : Program) (w : World) : List V → Hp → VK → Prop := fun xs H Q => ∃ (l : Addr) (ks : List (Addr × List Int)), xs = [V.ref l] ∧ SqT K H l (ks.map fun p => V.ref p.1) ∧ (∀ p ∈ ks, SqT K H p.1 (p.2.map V.int)) ∧ ks.length < 64 ∧
  ∀ a L, H a = none → (∀ p ∈ L, p ∈ ks) → (∀ p ∈ ks, p.2 ∈ L.map (·.2)) → Q (.ref a) (upd H a (SetTO P w a L))
theorem cr_setTT (hc : X.calm = true) (hu : X.A.units + 64 < cLine) : CallR X (.type "set") (rSetTT X.K X.prog X.w) := by
  intro pins s σ H xs us Q I r h
  obtain ⟨l, ks, rfl, hl, hk, hf, q⟩ := h
  rw [Vals.ref1 r]
  obtain ⟨its, rv, pl, hz⟩ := I.tuple hl
  refine set_tupT (P := X.prog) (w := X.w) ks (I.ok.hd hc) pl (by simpa using refs_of_vals rv) (fun p hp => I.isT (hk p hp)) hf (by omega) fun g tk L es ep t R gt kp => ?_
  refine ⟨.ref s.heap.objs.size, _, I.laid (t' := tk) kp (Nat.le_refl _) (setTO_new R.t0), rfl, q _ L (I.hok.fresh (Nat.le_refl _)) (fun p hp => List.mem_of_mem_take (gt.sub p hp)) fun p hp => gt.all p ?_⟩
  rw [List.take_length]
  exact hp
/-- sorted(set) -/
def rSortSet (K : PySem.W.Frag) (P : Program) (w : World) : List V → Hp → VK → Prop := fun vs H Q => ∃ (a : Addr) (L : List (Addr × List Int)), vs = [V.ref a] ∧ H a = some (SetTO P w a L) ∧ (∀ p ∈ L, SqT K H p.1 (p.2.map V.int) ∧ p.2 ≠ []) ∧
  ∀ (M : List (Addr × List Int)) (p : Addr), M.Perm L → (M.map (·.2)).Nodup → M.Pairwise (fun q r => HT.lexLt r.2 q.2 = false) → M.length < 64 → H p = none → Q (.ref p) (upd H p (.lst (M.map fun q => V.ref q.1)))
theorem cr_sortSet (hc : X.calm = true) : CallR X (.builtin "sorted") (rSortSet X.K X.prog X.w) := by
  intro pins s σ H vs us Q I r h
  obtain ⟨a, L, rfl, ha, hk, q⟩ := h
  have R0 : SetT0 X.prog X.w s.heap a L := (I.hok a _ ha).1
  obtain ⟨es, ep, t, R⟩ := R0.full fun p hp => I.isT (hk p hp).1
  rw [Vals.ref1 r]
  refine setT_sorted R (I.ok.hd hc) (fun _ p hp => (hk p hp).2) fun s' p out c M old g o hp hg eo pm pw => ?_
  have lM : M.length < 64 := by
    rw [pm.length_eq]
    exact R.few
  have fresh : H p = none := I.hok.fresh hp
  have J : L2.Inv X pins σ (upd H p (.lst (M.map fun q => V.ref q.1))) { s with heap := s'.heap, gens := s'.gens, drawn := s'.drawn, toks := s'.toks } :=
    I.call (ch := []) (Un.laid old hp fresh) (I.hok.laid old hp ⟨by rw [List.length_map, sizeLine_eq]; omega, out.toList, c, by rw [eo]; exact vals_of_refs M, hg⟩) (by rw [g]; exact I.bare) (fun _ z => nomatch z)
  have es : s' = { s with heap := s'.heap, gens := s'.gens, drawn := s'.drawn, toks := s'.toks } := by
    cases s'
    cases s
    cases o
    rfl
  rw [es]
  exact ⟨.ref p, _, J, rfl, q M p pm ((pm.map (·.2)).nodup_iff.mpr R.nd) pw lM fresh⟩
/-- the same, where a set of two or more has no empty tuple -/
def rSortSZ (K : PySem.W.Frag) (P : Program) (w : World) : List V → Hp → VK → Prop := fun vs H Q => ∃ (a : Addr) (L : List (Addr × List Int)), vs = [V.ref a] ∧ H a = some (SetTO P w a L) ∧ (∀ p ∈ L, SqT K H p.1 (p.2.map V.int)) ∧ ((L.map (·.2)).Nodup → 2 ≤ L.length → ∀ p ∈ L, p.2 ≠ []) ∧
  ∀ (M : List (Addr × List Int)) (p : Addr), M.Perm L → (M.map (·.2)).Nodup → M.Pairwise (fun q r => HT.lexLt r.2 q.2 = false) → M.length < 64 → H p = none → Q (.ref p) (upd H p (.lst (M.map fun q => V.ref q.1)))
theorem cr_sortSZ (hc : X.calm = true) : CallR X (.builtin "sorted") (rSortSZ X.K X.prog X.w) := by
  intro pins s σ H vs us Q I r h
  obtain ⟨a, L, rfl, ha, hk, full, q⟩ := h
  have R0 : SetT0 X.prog X.w s.heap a L := (I.hok a _ ha).1
  obtain ⟨es, ep, t, R⟩ := R0.full fun p hp => I.isT (hk p hp)
  rw [Vals.ref1 r]
  refine setT_sorted R (I.ok.hd hc) (full R.nd) fun s' p out c M old g o hp hg eo pm pw => ?_
  have lM : M.length < 64 := by
    rw [pm.length_eq]
    exact R.few
  have fresh : H p = none := I.hok.fresh hp
  have J : L2.Inv X pins σ (upd H p (.lst (M.map fun q => V.ref q.1))) { s with heap := s'.heap, gens := s'.gens, drawn := s'.drawn, toks := s'.toks } :=
    I.call (ch := []) (Un.laid old hp fresh) (I.hok.laid old hp ⟨by rw [List.length_map, sizeLine_eq]; omega, out.toList, c, by rw [eo]; exact vals_of_refs M, hg⟩) (by rw [g]; exact I.bare) (fun _ z => nomatch z)
  have es : s' = { s with heap := s'.heap, gens := s'.gens, drawn := s'.drawn, toks := s'.toks } := by
    cases s'
    cases s
    cases o
    rfl
  rw [es]
  exact ⟨.ref p, _, J, rfl, q M p pm ((pm.map (·.2)).nodup_iff.mpr R.nd) pw lM fresh⟩
end
end Rp
/-! Sw: sorted of a tuple of tuples of ints; tuples read at every second place. -/
namespace Rp
open PySem PySem.Spec L2 PyProof.Rows
section
variable {prog : Program} {w : World} {A : Around} {E : Value → Shared → Prop} {s : Shared}
theorem sorted_tupO {l : Addr} {vs : List Value} {ltv : Value → Value → Bool} {Q : Value → Shared → Prop} (O : SrtO.Swo ltv) (hl : s.heap.IsTuple l vs.toArray) (hz : vs.length ≤ sizeLine)
    (hS : 2 ≤ vs.length → ∀ (h₁ : Heap) (a : Addr), h₁.get? a = some (seqObj "list" vs.toArray 0) → (∀ b o, s.heap.get? b = some o → b ≠ a ∧ h₁.get? b = some o) → SrtO.SortableO prog w A.in1.in1 { s with heap := h₁ } a vs ltv)
    (h : ∀ (out : List Value) (h1 h' : Heap) (c : Nat), SrtO.Srtd ltv out → out.Perm vs → (∀ b o, s.heap.get? b = some o → h1.get? b = some o) → (∀ b o, h1.get? b = some o → h'.get? b = some o) → h'.get? h1.objs.size = some (seqObj "list" out.toArray c) → Q (.ref h1.objs.size) { s with heap := h' }) :
    wpAny (model prog w) A (call (.builtin "sorted") [.ref l]) Q E s := by
  obtain ⟨o, ho, hc, n, hd⟩ := id hl
  refine Calls.call_function_entry kind_sorted plain_sorted entry_sorted (args_sorted1 _) ?_
  unfold Builtin.«sorted»
  refine wpAny_bind (m := checkCount "sorted" 1 1 _) (wpAny_pure ?_)
  refine wpAny_bind (wpAny_collect_seq l (.inr rfl) ho hc hd (fun h' k => ?_) (by rw [List.size_toArray]; exact hz))
  refine wpAny_bind (wpAny_newList ?_ hz)
  have atL : (h'.push (seqObj "list" vs.toArray 0)).get? h'.objs.size = some (seqObj "list" vs.toArray 0) := Heap.get?_push_size _ rfl
  have keep : ∀ b o, s.heap.get? b = some o → b ≠ h'.objs.size ∧ (h'.push (seqObj "list" vs.toArray 0)).get? b = some o := fun b o e =>
    ⟨Nat.ne_of_lt (Heap.lt_size (k b o e)), Heap.get?_push_of_some _ (k b o e)⟩
  have hs : wpAny (model prog w) A.in1 (call (.builtin "list.sort") [.ref h'.objs.size]) (fun _ s2 => ∃ out : List Value, SrtO.Srtd ltv out ∧ out.Perm vs ∧
      s2 = { s with heap := sortedHeap (h'.push (seqObj "list" vs.toArray 0)) h'.objs.size vs out.toArray }) E { s with heap := h'.push (seqObj "list" vs.toArray 0) } :=
    wpAny_call_entry slot_list_sort ⟨_, atL, rfl⟩ entry_list_sort (SrtO.list_sort_ord O atL hz (fun h2 => hS h2 _ _ atL keep) fun out a1 a2 => ⟨_, rfl, out, a1, a2.perm, rfl⟩) (args_list_sort _)
  refine wpAny_bind (wpAny_holding (wpAny_mono hs ?_ fun _ _ h => h))
  rintro _ _ ⟨out, a1, a2, rfl⟩
  obtain ⟨c, hc'⟩ := sortedHeap_at (vs := vs) (out := out.toArray) atL
  refine wpAny_pure ⟨_, rfl, h out h' _ c a1 a2 k (fun b u e => ?_) hc'⟩
  have lt := Heap.lt_size e
  rw [sortedHeap_old (Nat.ne_of_lt lt) (by rw [size_push']; exact Nat.lt_succ_of_lt lt)]
  exact Heap.get?_push_of_some _ e
end
section
variable {X : Cx}
/-- sorted of a tuple of non-empty tuples of ints, known by position -/
def rSortTT (K : PySem.W.Frag) : List V → Hp → VK → Prop := fun vs H Q => ∃ (a : Addr) (xs : List V) (ks : List (List Int)), vs = [V.ref a] ∧ SqT K H a xs ∧ KeysT K H xs ks ∧
  ∀ (ys : List V) (ls : List (List Int)) (p : Addr), KeysT K H ys ls → ls.Pairwise (fun x y => HT.lexLt y x = false) → ls.Perm ks → H p = none → Q (.ref p) (upd H p (.lst ys))
theorem cr_sortTT : CallR X (.builtin "sorted") (rSortTT X.K) := by
  intro pins s σ H vs us Q I r h
  obtain ⟨a, xs, ks, rfl, hs, hx, q⟩ := h
  obtain ⟨its, rv, hl, hz⟩ := I.tuple hs
  obtain ⟨u, rfl, ru⟩ := vals1 r
  cases ru
  obtain ⟨ek, hti, e1, e2⟩ := keysT_vals I hx rv
  have hlen : xs.length = its.length := rv.length
  refine sorted_tupO (ltv := fun v u => HT.lexLt (keyTI s.heap v) (keyTI s.heap u)) (NtL.swo_lexL _) hl (by rw [← hlen]; exact hz) (fun h2 h₁ b hb hk => ?_) (fun out h0 h' c h1 h2 old old2 he => ?_)
  · refine ti_sortable (by omega) (fun v hv => ⟨ti_keeps (hti v hv).1 fun c o e _ => (hk c o e).2, (hti v hv).2⟩) (fun o ho => ?_)
    rw [hb] at ho
    cases ho
    show (Value.type "list") ≠ Value.type "tuple"
    decide
  · have h3 : ∀ u ∈ out, ∃ t, u = Value.ref t := fun u hu => e2 u (h2.mem_iff.mp hu)
    have kk : KeysT X.K H (out.map backV) (out.map (keyTI s.heap)) := by
      have g : ∀ (l m : List Value), (∀ v ∈ l, v ∈ m) → (∀ v ∈ m, ∃ t, v = Value.ref t) → KeysT X.K H (m.map backV) (m.map (keyTI s.heap)) → KeysT X.K H (l.map backV) (l.map (keyTI s.heap)) := by
        intro l m hl hr hk
        have one : ∀ (m : List Value), (∀ v ∈ m, ∃ t, v = Value.ref t) → KeysT X.K H (m.map backV) (m.map (keyTI s.heap)) → ∀ v ∈ m, ∃ t, v = Value.ref t ∧ SqT X.K H t ((keyTI s.heap v).map V.int) ∧ keyTI s.heap v ≠ [] := by
          intro m
          induction m with
          | nil => intro _ _ v hv; cases hv
          | cons u m ih =>
            intro hr hk v hv
            obtain ⟨t, rfl⟩ := hr u (List.mem_cons_self ..)
            rw [List.map_cons, List.map_cons] at hk
            have hk' : KeysT X.K H (V.ref t :: m.map backV) (keyTI s.heap (.ref t) :: m.map (keyTI s.heap)) := hk
            cases hk' with
            | cons hh ne rr =>
              rcases List.mem_cons.mp hv with rfl | hv
              · exact ⟨t, rfl, hh, ne⟩
              · exact ih (fun v hv => hr v (List.mem_cons_of_mem _ hv)) rr v hv
        induction l with
        | nil => exact .nil
        | cons u l ih =>
          obtain ⟨t, rfl, hh, ne⟩ := one m hr hk u (hl u (List.mem_cons_self ..))
          exact .cons hh ne (ih fun v hv => hl v (List.mem_cons_of_mem _ hv))
      refine g out its (fun v hv => h2.mem_iff.mp hv) e2 ?_
      rw [e1, ek]
      exact hx
    have I1 : L2.Inv X pins σ H { s with heap := h0, toks := s.toks } := I.kept old
    refine ⟨.ref _, upd H _ (.lst (out.map backV)), I1.laid (t' := s.toks) old2 (Nat.le_refl _) ?_, rfl, q _ _ _ kk (List.pairwise_map.mpr h1) ?_ (I1.hok.fresh (Nat.le_refl _))⟩
    · exact ⟨by rw [List.length_map, h2.length_eq, ← hlen]; exact hz, out, c, vals_back h3, he⟩
    · rw [← ek]
      exact h2.map _
end
/-! every second place -/
theorem sliceApplied_step {prog : Program} {w : World} {A : Around} {E : Value → Shared → Prop} {s : Shared} {sl : Addr} {vl vs : Value} {o : Option Int} {n k : Nat} {l h : Int} {Q : Int × Int × Nat → Shared → Prop}
    (hs : s.heap.IsSliceOf sl vl .none vs) (hl : IsPart vl o) (hv : IsPart vs (some 2)) (ea : Builtin.Slice.sliceAdjust o none 2 (n : Int) = (l, h)) (ep : Builtin.Slice.slicePlaces l h 2 = k) (q : Q (l, 2, k) s) :
    wpAny (model prog w) A (Builtin.Slice.sliceApplied (.ref sl) (pure (n : Int))) Q E s := by
  obtain ⟨os, hos, hcs, hds⟩ := hs
  unfold Builtin.Slice.sliceApplied Builtin.Slice.sliceFields
  refine wpAny_bind (wpAny_bind (wpAny_field hos hds rfl (wpAny_bind (wpAny_field hos hds rfl (wpAny_bind (wpAny_field hos hds rfl (wpAny_pure ?_)))))))
  refine wpAny_bind (HT.slicePart_ (o := some 2) hv ?_)
  refine wpAny_bind (HT.slicePart_ (o := o) hl ?_)
  refine wpAny_bind (HT.slicePart_ (o := none) .none ?_)
  refine wpAny_bind (wpAny_pure ?_)
  show wpAny _ _ (match Builtin.Slice.sliceAdjust o none 2 (n : Int) with | (lo, hi) => pure (lo, (2 : Int), Builtin.Slice.slicePlaces lo hi 2)) Q E s
  rw [ea]
  show wpAny _ _ (pure (l, (2 : Int), Builtin.Slice.slicePlaces l h 2)) Q E s
  rw [ep]
  exact wpAny_pure q
theorem getItem_tuple_step {prog : Program} {w : World} {A : Around} {E : Value → Shared → Prop} {s : Shared} {t sl : Addr} {items : Array Value} {vl vs : Value} {o : Option Int} {k : Nat} {l h : Int} {Q : Value → Shared → Prop} (ht : IsTup s.heap t items) (hs : s.heap.IsSliceOf sl vl .none vs) (hl : IsPart vl o) (hv : IsPart vs (some 2))
    (ea : Builtin.Slice.sliceAdjust o none 2 (items.size : Int) = (l, h)) (ep : Builtin.Slice.slicePlaces l h 2 = k)
    (q : Q (.ref s.heap.objs.size) { s with heap := s.heap.push { cls := .type "tuple", data := .seq (List.filterMap (fun m : Nat => items[(l + (m : Int) * 2).toNat]?) (List.range k)).toArray } }) (hz : k ≤ sizeLine) : wpAny (model prog w) A (getItem (.ref t) (.ref sl)) Q E s := by
  obtain ⟨os, hos, hcs, hds⟩ := id hs
  have hTs : s.TypeIs (.ref sl) "slice" := ⟨os, hos, hcs⟩
  unfold getItem
  refine wpAny_holding ?_
  refine wpAny_bind (wpAny_sequenceKey ht.typeIs (by decide) ?_)
  refine wpAny_bind (wpAny_callSpecial?_slot ht.typeIs slot_tuple_getitem ?_)
  refine wpAny_call_entry slot_tuple_getitem ht.typeIs entry_tuple_getitem ?_ (args_tuple_getitem _ _)
  show wpAny _ _ (do
      let xs ← Builtin.Tuple.tupleItemsOf (.ref t)
      let __do_lift ← typeOf (.ref sl)
      if (__do_lift == Value.type "slice") = true then do
          let __x ← Builtin.Slice.sliceApplied (.ref sl) (pure ↑xs.size)
          match __x with
            | (lo, step, n) =>
              have __do_jp := fun __r => do
                let __do_lift ←
                  Builtin.Tuple.tupleExact
                      (List.filterMap (fun k => xs[(lo + ↑k * step).toNat]?) (List.range n)).toArray
                ret __do_lift;
              if (lo == 0 && step == 1 && n == xs.size) = true then do
                let __do_lift ← Builtin.Tuple.tupleIsExact (.ref t)
                if __do_lift = true then do
                    rule "tuple.getitem.whole"
                    ret (.ref t)
                  else __do_jp ()
              else __do_jp ()
        else _) _ _ _
  refine wpAny_bind (tupleItemsOf_ ht ?_)
  refine wpAny_bind (wpAny_typeOf hTs ?_)
  rw [if_pos (by decide)]
  refine wpAny_bind (sliceApplied_step hs hl hv ea ep ?_)
  have hno : ¬ (((l == 0) && ((2 : Int) == 1) && (k == items.size)) = true) := by
    rw [show ((2 : Int) == 1) = false by decide, Bool.and_false, Bool.false_and]
    decide
  show wpAny _ _ (if ((l == 0) && ((2 : Int) == 1) && (k == items.size)) = true then _ else _) _ _ _
  rw [if_neg hno]
  refine wpAny_bind ?_
  unfold Builtin.Tuple.tupleExact
  refine wpAny_newObj_type ?_ ?_
  · exact wpAny_pure ⟨_, rfl, wpAny_pure q⟩
  · show _ ≤ sizeLine
    rw [List.size_toArray]
    refine Nat.le_trans (List.length_filterMap_le _ _) ?_
    rw [List.length_range]
    exact hz
theorem vals_pick {xs : List V} {us : List Value} (r : Vals xs us) (f : Nat → Nat) : ∀ l : List Nat, Vals (l.filterMap fun m => xs[f m]?) (l.filterMap fun m => us[f m]?)
  | [] => .nil
  | m :: l => by
    have ih := vals_pick r f l
    rw [List.filterMap_cons, List.filterMap_cons]
    cases h : xs[f m]? with
    | none =>
      have e : us[f m]? = none := by
        rw [List.getElem?_eq_none_iff] at h ⊢
        rw [← r.length]
        exact h
      rw [e]
      exact ih
    | some x =>
      obtain ⟨u, e, ru⟩ := r.get h
      rw [e]
      exact .cons ru ih
section
variable {X : Cx}
def tStepT (K : PySem.W.Frag) (o : Option Int) (te : TE) : TE := fun σ H Q => te σ H fun x H1 => ∃ (a : Addr) (xs : List V) (l h : Int) (k : Nat), x = V.ref a ∧ SqT K H1 a xs ∧ Builtin.Slice.sliceAdjust o none 2 (xs.length : Int) = (l, h) ∧ Builtin.Slice.slicePlaces l h 2 = k ∧ k ≤ sizeLine ∧
  ∀ p, H1 p = none → Q (.ref p) (upd H1 p (.tup ((List.range k).filterMap fun m : Nat => xs[(l + (m : Int) * 2).toNat]?)))
theorem po_int {i : Int} {c : Nat} {p2 : Pos} : PO X (some (.Constant (.int i) c p2)) fun _ H Q => Q (some i) H :=
  ⟨fun pins s σ H Q I h => (po_some (X := X) pe_int).run pins s σ H Q I ⟨i, rfl, h⟩⟩
theorem pe_stepT {e : Expr} {te : TE} {lo : Option Expr} {o : Option Int} {c : Nat} {p2 p3 pos : Pos} (he : PE X e te) (hl : PO X lo fun _ H Q => Q o H) : PE X (.Subscript e (.Slice lo none (some (.Constant (.int 2) c p2)) p3) pos) (tStepT X.K o te) := by
  refine ⟨fun pins s σ H Q I h => ?_⟩
  refine Subscript_ (thn (he.run pins s σ H _ I h) fun v s1 x => ?_)
  obtain ⟨x1, H1, I1, r1, a, xs, l, hh, k, rfl, hx, ea, ep, hk, q⟩ := x
  cases r1
  have hst : PO X (some (.Constant (.int 2) c p2)) _ := po_some pe_int
  refine wpAny_Slice (thn (hl.run pins s1 σ H1 (fun o' H2 => o' = o ∧ H2 = H1) I1 ⟨rfl, rfl⟩) fun vl s2 x => ?_)
  obtain ⟨l', H2, I2, pl, rfl, rfl⟩ := x
  refine thn ((po_none (X := X)).run pins s2 σ H2 (fun o H3 => o = none ∧ H3 = H2) I2 ⟨rfl, rfl⟩) fun vu s3 x => ?_
  obtain ⟨u, H3, I3, pu, rfl, rfl⟩ := x
  refine thn (hst.run pins s3 σ H3 (fun o H4 => o = some 2 ∧ H4 = H3) I3 ?_) fun vs s4 x => ?_
  · exact ⟨2, rfl, rfl, rfl⟩
  obtain ⟨st, H4, I4, pst, rfl, rfl⟩ := x
  cases pu
  have I5 := I4.kept (h' := s4.heap.push { cls := Value.type "slice", data := Data.fields #[vl, Value.none, vs] }) (t' := s4.toks) (fun b u h => Heap.get?_push_of_some _ h)
  obtain ⟨its, hvals, ht, hz⟩ := I5.tuple hx
  have hlen : xs.length = its.length := hvals.length
  refine tail_any ht.typeIs slot_tuple_getitem.lookup (getItem_tuple_step ht (Heap.IsSliceOf.new ..) pl pst (by rw [List.size_toArray, ← hlen]; exact ea) ep ?_ hk) rfl
  have lk : ((List.range k).filterMap fun m : Nat => xs[(l + (m : Int) * 2).toNat]?).length ≤ sizeLine := by
    refine Nat.le_trans (List.length_filterMap_le _ _) ?_
    rw [List.length_range]
    exact hk
  refine ⟨.ref _, upd H4 _ (.tup ((List.range k).filterMap fun m : Nat => xs[(l + (m : Int) * 2).toNat]?)), I5.laid (fun b u h => Heap.get?_push_of_some _ h) (Nat.le_refl _) ?_, rfl, q _ (I5.hok.fresh (Nat.le_refl _))⟩
  unfold ObjOk
  have ef : (fun m : Nat => its.toArray[(l + (m : Int) * 2).toNat]?) = fun m : Nat => its[(l + (m : Int) * 2).toNat]? := by
    funext m
    simp
  rw [ef]
  refine ⟨lk, (List.range k).filterMap fun m : Nat => its[(l + (m : Int) * 2).toNat]?, vals_pick hvals (fun m => (l + (m : Int) * 2).toNat) _, _, Heap.get?_push_size _ (o := { cls := Value.type "tuple", data := Data.seq (List.filterMap (fun m : Nat => its[(l + (m : Int) * 2).toNat]?) (List.range k)).toArray }) rfl, rfl, _, rfl⟩
end
end Rp
/-! Ea: several clauses, some with a name for the error (ps_tryA goes the way of the library's ps_try_many and ps_try_as, which it joins); defs that are handed the error that is being handled. -/
namespace Rp
open PySem PySem.Spec L2 PyProof.Rows
abbrev TSA := Addr → Value → Option Addr → TS
/-- what clauses, each with a slot for its name or none, wish of an error of the body -/
def wMA (K : PySem.W.Frag) (Wout : WX) (D : Ends) : List (Value × Option Nat × TSA) → WX
  | [] => Wout
  | (c, none, ts) :: r => fun cls d σ H => ∃ b, PySem.W.exmOne K cls c = some b ∧ (b = true → ∀ a, H a = none → ts a cls d D σ H) ∧ (b = false → wMA K Wout D r cls d σ H)
  | (c, some i, ts) :: r => wAs K c i ts (wMA K Wout D r) D
inductive ClsOk (X : Cx) : List ExceptHandler → List (Value × Option Nat × TSA) → Prop
  | nil : ClsOk X [] []
  | bare {x : Str} {c : Value} {ts : TSA} {b₀ : Stmt} {su : List Stmt} {np pos' : Pos} {hs : List ExceptHandler} {l : List (Value × Option Nat × TSA)} (hc : Names X x c)
      (hsu : ∀ (a : Addr) (oe : Obj) (cls : Value) (d : Option Addr) (pn : List (Addr × Obj)), Zc cls d oe → (∃ vs, oe.data = .fields vs) → PSs (X.suite a ((a, oe) :: pn)) (b₀ :: su) (ts a cls d)) (r : ClsOk X hs l) :
      ClsOk X (.ExceptHandler (some (.Name x np)) none (b₀ :: su) pos' :: hs) ((c, none, ts) :: l)
  | named {x n : Str} {i : Nat} {c : Value} {ts : TSA} {b₀ : Stmt} {su : List Stmt} {np pos' : Pos} {hs : List ExceptHandler} {l : List (Value × Option Nat × TSA)} (hi : X.N[i]? = some n) (hln : X.env.kindOf n = some .local) (hc : Names X x c)
      (hsu : ∀ (a : Addr) (oe : Obj) (cls : Value) (d : Option Addr) (pn : List (Addr × Obj)), Zc cls d oe → (∃ vs, oe.data = .fields vs) → PSs (X.suite a ((a, oe) :: pn)) (b₀ :: su) (ts a cls d)) (r : ClsOk X hs l) :
      ClsOk X (.ExceptHandler (some (.Name x np)) (some n) (b₀ :: su) pos' :: hs) ((c, some i, ts) :: l)
section
variable {X : Cx} {body : List Stmt} {h₀ : ExceptHandler} {hs : List ExceptHandler} {l : List (Value × Option Nat × TSA)} {pos : Pos} {tb : WX → TS} {Wout : WX}
theorem ps_tryA (hst : X.stack = X.env :: X.outer) (hfr0 : X.env.frame = some X.env.locals) (hN : X.N.Nodup) (tk : Takes X Wout)
    (hb : ∀ (W : WX) (pn : List (Addr × Obj)) (xe : Value → Shared → Prop), Takes (X.tr pn xe) W → PassesOwn (model X.prog X.w) X.A X.env xe → PSs (X.tr pn xe) body (tb W))
    (hh : ClsOk X (h₀ :: cls0) l) : PS X (.Try body (h₀ :: cls0) [] [] pos) (fun D σ H => tb (wMA X.K Wout D l) D σ H) := by
  constructor
  intro pins s σ H D I want
  have ok := I.ok
  have frames : X.A.frames = some (X.env :: X.outer) := by rw [ok.frames, hst]
  refine wpAny_Try_except ?_
  refine wpAny_mono ((hb (wMA X.K Wout D l) (X.pn ++ pins) (fun e s₁ => wpAny (model X.prog X.w) X.A (noteFrame e X.env) (fun _ s₂ => wpAny (model X.prog X.w) X.A (setFlight e none) (fun _ s₃ =>
    wpAny (model X.prog X.w) X.A (handleBy e X.env (h₀ :: cls0)) (SP X pins D) X.xe s₃) X.xe s₂) X.xe s₁) (fun u s' up0 => ?caught) PassesOwn.looking).run [] s σ H D (I.toTry _) want) (fun f s1 out => ?went) (fun e s1 he => he)
  case went =>
    cases f with
    | next => obtain ⟨σ', H', It, q⟩ := out; exact wpAny_execs_nil ⟨σ', H', It.ofTry ok, q⟩
    | brk => obtain ⟨σ', H', It, q⟩ := out; exact ⟨σ', H', It.ofTry ok, q⟩
    | cont => obtain ⟨σ', H', It, q⟩ := out; exact ⟨σ', H', It.ofTry ok, q⟩
    | ret u => obtain ⟨v, σ', H', It, r, q⟩ := out; exact ⟨v, σ', H', It.ofTry ok, r, q⟩
  case caught =>
    obtain ⟨a, B, s0, ps0, σ', H', cls, d, rfl, It, apart, up, above, na, os, ag, w⟩ := up0
    have I1 : Inv X pins σ' H' s0 := It.ofTry ok
    have sky' : Sky B (X.env :: X.outer) a (Zc cls d) X.env.locals s'.heap := by rw [← hst]; exact above
    show wpAny (model X.prog X.w) X.A (noteFrame (.ref a) X.env) _ _ _
    refine Sky.land Zc.steady frames hfr0 sky' fun h3 land3 u3 => ?_
    have I3 : Inv X pins σ' H' { s' with heap := h3 } := I1.landed apart land3.1 (up.trans u3) os ag
    obtain ⟨o3, f3, g3, z3, k3⟩ := land3.there
    have offFr : a ∉ frs (X.env :: X.outer) := fun hm => by
      obtain ⟨_, o', e', hnf⟩ := land3.2.2.1.mem hm
      rw [g3] at e'
      cases e'
      exact hnf _ k3
    have offL : a ≠ X.env.locals := fun z => offFr (List.mem_filterMap.mpr ⟨X.env, List.mem_cons_self, by rw [hfr0, z]⟩)
    have offF : a ∉ X.fs := fun hm => by
      obtain ⟨e, he, q⟩ := List.mem_filterMap.mp hm
      exact offFr (List.mem_filterMap.mpr ⟨e, List.mem_cons_of_mem _ he, q⟩)
    have In3 := I3.suite g3 k3 na offL offF
    have looks : PySem.W.Looks (model X.prog X.w) h3 (typeOf (.ref a)) cls := fun A Q E s k q => wpAny_typeOf_ref (k _ _ g3) (by rw [z3.1]; exact q)
    have test : ∀ {x : Str} {c : Value} {np : Pos} {Q : Value → Shared → Prop} {E : Value → Shared → Prop}, Names X x c → Q c { s' with heap := h3 } → wpAny (model X.prog X.w) (X.A.mark (some (.ref a))) (eval (.Name x np) X.env) Q E { s' with heap := h3 } := fun {x c np Q E} hc q => by
      obtain ⟨hg, dbg, hm | ⟨hm, hv, nm⟩⟩ := hc
      · exact ld_glob (X := X.suite a ((a, o3) :: (X.pn ++ pins))) In3 hg hm q dbg
      · exact ld_blt (X := X.suite a ((a, o3) :: (X.pn ++ pins))) In3 hg hm hv q nm dbg
    have go : ∀ {hs' : List ExceptHandler} {l' : List (Value × Option Nat × TSA)}, ClsOk X hs' l' → wMA X.K Wout D l' cls d σ' H' →
        wpAny (model X.prog X.w) X.A (handleBy (.ref a) X.env hs') (SP X pins D) X.xe { s' with heap := h3 } := by
      intro hs' l' hk
      induction hk with
      | nil =>
        intro w
        refine wpAny_handleBy_nil ?_
        obtain ⟨_, _, _, oe, vs, T, oT, _, he, hz, hd, h1, hr⟩ := id land3
        unfold PySem.passOn
        refine wpAny_bind (wpAny_field he hd h1 ?_)
        rw [if_neg (show ¬ ((Value.ref T == Value.none) = true) from by simp)]
        have leave : wpAny (model X.prog X.w) X.A (setFlight (.ref a) X.env.frame) (fun _ s4 => wpAny (model X.prog X.w) X.A (throw (.ref a) : Sem Flow) (SP X pins D) X.xe s4) X.xe { s' with heap := h3 } := by
          rw [hfr0]
          refine HandSPX.setFlight_upZ land3 fun h4 hh4 u4 => wpAny_throw (tk _ _ ?_)
          exact ⟨a, B, s0, pins, σ', H', cls, d, rfl, I1, apart, (up.trans u3).trans u4, .inr (.inr (by rw [hst]; exact hh4)), na, os, ag, w⟩
        first
          | exact wpAny_bind (wpAny_pure (wpAny_bind leave))
          | exact wpAny_bind leave
      | @bare x c ts b₀ su np pos' hs2 l2 hc hsu r ih =>
        intro w
        obtain ⟨b, says, then_, else_⟩ := w
        refine wpAny_handleBy_cons (codeAny_handlers_test ?_) (by intro q; cases q)
        refine test hc ((PySem.W.exm_one (M := model X.prog X.w) I3.kIn looks says).here ?_)
        cases b with
        | false => exact ih (else_ rfl)
        | true =>
          refine codeAny_handlers_suite ?_
          refine HandSPX.lands_againZ land3 fun h4 land4 u4 => ?_
          have I4 : Inv X pins σ' H' { s' with heap := h4 } := I1.landed apart land4.1 ((up.trans u3).trans u4) os ag
          obtain ⟨o4, f4, g4, z4, k4⟩ := land4.there
          have In4 := I4.suite g4 k4 na offL offF
          refine wpAny_mono ((hsu a o4 cls d (X.pn ++ pins) z4 ⟨_, k4⟩).run [] _ _ H' _ In4 (then_ rfl a na)) (fun f s6 out => ?_) (fun _ _ z => False.elim z)
          cases f with
          | next => obtain ⟨σ6, H6, In6, q6⟩ := out; exact ⟨_, _, In6.unsuite ok, q6⟩
          | brk => obtain ⟨σ6, H6, In6, q6⟩ := out; exact ⟨_, _, In6.unsuite ok, q6⟩
          | cont => obtain ⟨σ6, H6, In6, q6⟩ := out; exact ⟨_, _, In6.unsuite ok, q6⟩
          | ret u => obtain ⟨v6, σ6, H6, In6, r6, q6⟩ := out; exact ⟨_, _, _, In6.unsuite ok, r6, q6⟩
      | @named x n i c ts b₀ su np pos' hs2 l2 hi hln hc hsu r ih =>
        intro w
        obtain ⟨b, says, then_, else_⟩ := w
        refine wpAny_handleBy_cons (codeAny_handlers_test ?_) (by intro q; cases q)
        refine test hc ((PySem.W.exm_one (M := model X.prog X.w) I3.kIn looks says).here ?_)
        cases b with
        | false => exact ih (else_ rfl)
        | true =>
          refine codeAny_handlers_suite_as ?_
          refine HandSPX.lands_againZ land3 fun h4 land4 u4 => ?_
          have I4 : Inv X pins σ' H' { s' with heap := h4 } := I1.landed apart land4.1 ((up.trans u3).trans u4) os ag
          obtain ⟨o4, f4, g4, z4, k4⟩ := land4.there
          have In4 := I4.suite g4 k4 na offL offF
          refine store_ok (X := X.suite a ((a, o4) :: (X.pn ++ pins))) (v := .ref a) In4 hN hi (.inl hln) rfl (fun s5 In5 => ?_) (.inr hln)
          refine wpAny_mono ((hsu a o4 cls d (X.pn ++ pins) z4 ⟨_, k4⟩).run [] s5 _ H' _ In5 (then_ rfl a na)) (fun f s6 out => ?_) (fun _ _ z => False.elim z)
          have end_ : ∀ {σ6 : L2.St} {H6 : Hp} {Q : Shared → Prop}, Inv (X.suite a ((a, o4) :: (X.pn ++ pins))) [] σ6 H6 s6 → (∀ s7, Inv X pins (σ6.set i none) H6 s7 → Q s7) →
              wpAny (model X.prog X.w) X.A (do bindName X.env n .none; unbindBehindTheSuite X.env n pos') (fun _ s7 => Q s7) X.xe s6 := fun In6 hq => gone_ok (In6.unsuite ok) hN hi hln hq
          cases f with
          | next => obtain ⟨σ6, H6, In6, q6⟩ := out; exact end_ In6 fun s7 J7 => ⟨_, _, J7, q6⟩
          | brk => obtain ⟨σ6, H6, In6, q6⟩ := out; exact end_ In6 fun s7 J7 => ⟨_, _, J7, q6⟩
          | cont => obtain ⟨σ6, H6, In6, q6⟩ := out; exact end_ In6 fun s7 J7 => ⟨_, _, J7, q6⟩
          | ret u => obtain ⟨v6, σ6, H6, In6, r6, q6⟩ := out; exact end_ In6 fun s7 J7 => ⟨_, _, _, J7, r6, q6⟩
    exact go hh w
end

/-! ### defs that are handed the error -/
/-- a def called in an except suite, told by the error: its address, its class, its dict -/
abbrev SpE := Addr → Value → Option Addr → Sp
structure FnE (P : Program) (w : World) (K : PySem.W.Frag) (mg : Str → Option Value) (base : Heap) (CX : CXT) (k : Nat) (f : Addr) (fd : FuncData) (ps : List Str) (sp : SpE) : Prop where
  len : ∀ a cls d vs H Q E, sp a cls d vs H Q E → vs.length = ps.length
  run : ∀ (A : Around) (outer : List Env) (s : Shared) (H : Hp) (args : Args) (us : List Value) (vs : List V) (Q : VK) (E : XK) (p : Addr × Obj) (cls : Value) (d : Option Addr), L2H.RoomH k A → L2H.PinOk outer H s p → Zc cls d p.2 → (∃ fs, p.2.data = .fields fs) →
    Env0 P w K mg base A outer s H → BindsTo s fd args (ps.zip us) → Vals vs us → sp p.1 cls d vs H Q E → codeAny (model P w) A (.call (.ref f) args) (CR CX outer P w H s Q E) s
section
variable {P : Program} {w : World} {K : PySem.W.Frag} {mg : Str → Option Value} {base : Heap}
theorem okE {CX : CXT} {name qual : Str} {st : Stmt} {f : Addr} {fd : FuncData} {N ps : List Str} {k : Nat} {sp : SpE} (F : Fun K name qual st f fd) (S : FnScope N ps (defScope st))
    (hlen : ∀ a cls d vs H Q E, sp a cls d vs H Q E → vs.length = ps.length)
    (hb : ∀ (cdv : Value) (A : Around) (outer : List Env) (s : Shared) (H : Hp) (vs : List V) (Q : VK) (E : XK) (p : Addr × Obj) (cls : Value) (d : Option Addr), Zc cls d p.2 → (∃ fs, p.2.data = .fields fs) →
      L2H.RoomH k (A.deeper (envOfC qual (defScope st) s.heap.objs.size f cdv)) → sp p.1 cls d vs H Q E →
      ∃ t, PSs (L2H.cxH CX P w K mg base N qual (defScope st) f cdv A outer s H E p) (defBody st) t ∧
        t { nx := fun _ H' => Q .non H', rt := Q } (start N vs) H) : FnE P w K mg base CX (k + 1) f fd ps sp := by
  obtain ⟨oc, od, kV, doc, pm, an, cdv, ct, osl, rfl, lk, hcd⟩ := F.ex
  refine ⟨hlen, fun A outer s H args us vs Q E p cls d room pin hz hf en bd rv want => ?_⟩
  have kin : K.In s.heap := en.mod.kin.keeps fun b o z => (en.bs b o z).1
  have nolim : s.heap.NoLimit := en.mod.nolimit.keeps fun b o z => (en.bs b o z).1
  have hl := hlen _ _ _ _ _ _ _ want
  refine Att.call_fn kin nolim lk hcd room.depth bd ?_ (fun s1 ic => ?_) S.co S.gen S.kind
  · refine List.all_eq_true.mpr fun y hy => ?_
    obtain ⟨a, b⟩ := y
    rcases S.par a (List.of_mem_zip hy).1 with z | z
    · simp [z]
    · simp [z]
  · obtain ⟨t, ht, hq⟩ := hb cdv A outer s H vs Q E p cls d hz hf (room.deeper _) want
    have I := L2H.inv_startH (CX := CX) (P := P) (w := w) (K := K) (mg := mg) (base := base) (E := E) S pin en hl rv ic
    refine wpAny_mono (ht.run [] s1 (start N vs) H _ I hq) (fun fl s' hs => ?_) (fun e s' hs => hs)
    cases fl with
    | ret u =>
      obtain ⟨v, σ', H', J, rr, q⟩ := hs
      exact ⟨v, H', J.os, J.bare, J.base, J.hok, rr, q⟩
    | next =>
      obtain ⟨σ', H', J, q⟩ := hs
      exact ⟨V.non, H', J.os, J.bare, J.base, J.hok, rfl, q⟩
    | brk =>
      obtain ⟨_, _, _, q⟩ := hs
      exact False.elim q
    | cont =>
      obtain ⟨_, _, _, q⟩ := hs
      exact False.elim q
end
section
variable {X : Cx} {CX : CXT} {k : Nat} {f : Addr} {fd : FuncData} {ps : List Str} {sp : SpE} {E : L2.St → XK} {x : Str} {q pos : Pos} {e : Expr} {es : List Expr} {t : TA} {a : Addr} {oe : Obj} {cls : Value} {d : Option Addr} {pn : List (Addr × Obj)}
theorem pe_callE (F : FnE X.prog X.w X.K X.mg X.base CX k f fd ps sp) (hr : L2H.RoomH k X.A) (hz : Zc cls d oe) (hf : ∃ vs, oe.data = .fields vs) (hg : Gl X x) (hm : X.mg x = some (.ref f)) (hk : PySem.W.keepIn X.K (.ref f) = true) (hb : Binds X.K fd ps [])
    (hx : ∀ σ, PassesAt CX (X.suite a ((a, oe) :: pn)) σ (E σ))
    (ha : PA (X.suite a ((a, oe) :: pn)) (e :: es) t) (hdb : (x == ("__debug__" : Str)) = false := by decide) (he : starEach (e :: es) X.env = (false, eval e X.env) :: starEach es X.env := by rfl) (hpl : (backTo pos (starEach es X.env)).any (·.1) = false := by rfl) :
    PE (X.suite a ((a, oe) :: pn)) (.Call (.Name x q) (e :: es) [] pos) (tCallS (sp a cls d) E t) := by
  constructor
  intro pins s σ H Q I want
  refine wpAny_Call_Name_kw (ld_glob (X := X.suite a ((a, oe) :: pn)) I hg hm ?_ hdb)
  refine PySem.W.callWith_K (h₀ := X.base) I.ok.mod.kin hk (thn (ha.run pos pins s σ H _ I want) ?_) he hpl
  rintro us s1 ⟨vs, H1, I1, rv, q⟩
  refine ⟨I1.kIn, ?_⟩
  have hl : us.length = ps.length := by
    rw [← rv.length]
    exact F.len _ _ _ _ _ _ _ q
  have b := hb s1 us I1.kIn (by rw [List.append_nil]; exact hl)
  rw [List.append_nil] at b
  have P1 := I1.pin (a, oe) (List.mem_append_left _ List.mem_cons_self)
  have pin : L2H.PinOk X.stack H1 s1 (a, oe) := ⟨P1.1, P1.2.1, fun hm => (List.mem_cons.mp (I1.stkSub a hm)).elim P1.2.2.1 P1.2.2.2.1, P1.2.2.2.2⟩
  refine wpAny_call (codeAny_mono (F.run (X.A.mark (some (.ref a))) X.stack s1 H1 ⟨us, []⟩ us vs Q (E σ) (a, oe) cls d ⟨hr.dp, hr.un⟩ pin hz hf I1.env0 b rv q) fun r s' hq => ?_)
  cases r with
  | error e => exact hx σ pins H1 s1 e s' I1 hq
  | ok fl =>
    cases fl with
    | ret u => exact I1.after hq
    | next => exact False.elim hq
    | brk => exact False.elim hq
    | cont => exact False.elim hq
/-- isinstance of an error that stands in the state, by its class -/
theorem cr_isE {X : Cx} {a D : Addr} {oe : Obj} (C : ExcC X.K D) (hm : (a, oe) ∈ X.pn) (hz : Zc (.ref D) none oe) (hf : ∃ vs, oe.data = .fields vs) : CallR X (.builtin "isinstance") (rIsE X.K D a) := by
  intro pins s σ H xs us Q I r h
  obtain ⟨c, cv, b, rfl, hcv, e, q⟩ := h
  cases r with
  | cons rx rr =>
    cases rr with
    | cons rt rr =>
      cases rr
      cases rx
      obtain rfl := hcv _ rt
      obtain ⟨hget, _⟩ := I.pin (a, oe) (List.mem_append.mpr (.inl hm))
      obtain ⟨vs, hv⟩ := hf
      obtain ⟨oc, od, oda, osl⟩ := oe
      obtain ⟨h1, h2⟩ := hz
      dsimp only at h1 h2 hv
      subst h1 h2 hv
      exact PySem.W.kia_one (PySem.W.handS_kitx_exc C.hg C.hk C.hs C.hd C.ha C.hn C.ht C.hm) I.kIn ⟨hget, rfl, rfl, trivial⟩ e (fun z => nomatch z) fun tk => ⟨.bl b, H, I.kept (t' := tk) fun _ _ z => z, rfl, q⟩
/-- a rule that is never asked -/
theorem cr_never {X : Cx} {f : Value} : CallR X f (fun _ _ _ => False) := fun _ _ _ _ _ _ _ _ _ h => False.elim h
theorem passE0 {X : Cx} {E : L2.St → XK} : ∀ σ, PassesAt CX0 X σ (E σ) := fun _ _ _ _ _ _ _ h => False.elim h
end
/-- isinstance by the class's line: what the written part tells of both -/
theorem kit_of {K : PySem.W.Frag} {C D : Addr} {b : Bool} (h : PySem.W.subIn K (.ref C) (.ref D) = some b) (hc : PySem.W.subIn K (.ref C) (.ref C) = some true) (i : PySem.W.isClsIn K D = true) (t : PySem.W.typeIn K (.ref D) = some (.type "type")) : PySem.W.kitOne K (.ref C) (.ref D) = some b := by
  have e : ((PySem.W.clsIn K D).isSome && PySem.W.typeIn K (.ref D) == some (.type "type")) = true := by
    have i' : (PySem.W.clsIn K D).isSome = true := i
    rw [i', t] <;> rfl
  unfold PySem.W.kitOne
  split
  · rename_i z
    obtain rfl : C = D := by simpa using z
    rw [hc] at h
    exact h
  · show (if ((PySem.W.clsIn K D).isSome && PySem.W.typeIn K (.ref D) == some (.type "type")) = true then PySem.W.subIn K (.ref C) (.ref D) else none) = some b
    rw [if_pos e]
    exact h
/-! ### a def picked out of data, called -/
structure HeldX (P : Program) (w : World) (K : PySem.W.Frag) (mg : Str → Option Value) (base : Heap) (k : Nat) (f : Addr) (sp : Sp) : Prop where
  ex : ∃ (fd : FuncData) (ps : List Str), FnOk P w K mg base (L2.CX P w) k f fd ps sp ∧ PySem.W.keepIn K (.ref f) = true ∧ Binds K fd ps []
def tCallP (S : Addr → Sp → Prop) (W : WX) (tf : TE) (t : TA) : TE := fun σ H Q => tf σ H fun v H1 => ∃ f sp, v = .ref f ∧ S f sp ∧ t σ H1 fun vs H2 => sp vs H2 Q (WE W σ)
section
variable {X : Cx} {k : Nat} {W : WX} {S : Addr → Sp → Prop} {fe e : Expr} {es : List Expr} {pos : Pos} {tf : TE} {t : TA}
theorem pe_callP (A : ∀ f sp, S f sp → HeldX X.prog X.w X.K X.mg X.base k f sp) (hr : Room k X.A) (tk : Takes X W) (hf : PE X fe tf) (ha : PA X (e :: es) t)
    (hc : eval (.Call fe (e :: es) [] pos) X.env = (do callWith pos (← eval fe X.env) [] (backTo pos (starEach (e :: es) X.env)) (backToKw pos (keywordEach [] X.env))) := by rfl)
    (he : starEach (e :: es) X.env = (false, eval e X.env) :: starEach es X.env := by rfl) (hpl : (backTo pos (starEach es X.env)).any (·.1) = false := by rfl) : PE X (.Call fe (e :: es) [] pos) (tCallP S W tf t) := by
  constructor
  intro pins s σ H Q I want
  refine Call_ (thn (hf.run pins s σ H _ I want) ?_) hc
  rintro u s1 ⟨v, H1, I1, rv, f, sp, rfl, hS, q⟩
  obtain rfl : u = Value.ref f := rv
  obtain ⟨fd, ps, F, hk, hb⟩ := (A f sp hS).ex
  refine PySem.W.callWith_K (h₀ := X.base) I.ok.mod.kin hk (thn (ha.run pos pins s1 σ H1 _ I1 q) ?_) he hpl
  rintro us s2 ⟨vs, H2, I2, r, q2⟩
  exact ⟨I2.kIn, run_fnS F hr hb (passAt tk σ) I2 r q2⟩
/-! ### list.count, flat items -/
def rCntF (K : PySem.W.Frag) : V → List V → Hp → VK → Prop := fun x xs H Q => ∃ (a : Addr) (ys : List V) (y : V), x = V.ref a ∧ xs = [y] ∧ SqL K H a ys ∧ flatV y = true ∧ ys.all flatV = true ∧ Q (.int ((ys.countP fun z => eqV z y : Nat) : Int)) H
theorem countP_eq {y : V} {uy : Value} : ∀ {ys : List V} {its : List Value}, Vals ys its → (∀ z u, z ∈ ys → RelV z u → eqU y u = eqV z y) → its.countP (eqU y) = ys.countP fun z => eqV z y := by
  intro ys its r
  induction r with
  | nil => intro _; rfl
  | cons r rs ih =>
    intro h
    rw [List.countP_cons, List.countP_cons, ih fun z' u' hz => h z' u' (List.mem_cons_of_mem _ hz), h _ _ (List.mem_cons_self ..) r]
theorem mt_cntF : MtR X "list.count" (rCntF X.K) := by
  intro pins s σ H x xs v us Q I rx rxs h
  obtain ⟨a, ys, y, rfl, rfl, hs, fy, fys, q⟩ := h
  cases rx
  cases rxs with
  | cons ry rt =>
    rename_i uy ut
    cases rt
    obtain ⟨its, rv, ⟨⟨cls, dd, data, sl⟩, n, ho, hc, hdn, hd⟩, hlen⟩ := I.list hs
    simp only at hc hd
    subst hc hd
    refine call_meets PySem.F.slot_list_count ⟨_, ho, rfl⟩ PySem.F.entry_list_count (PySem.F.args_list_count_2 _ _)
      (SeqAt.list_countAt a its.toArray n dd sl uy (eqU y)) ⟨ho, fun u' hu' => mem_eqAt ry fy rv fys u' (by simpa using hu'), ?_⟩
    have e : its.toArray.toList.countP (eqU y) = ys.countP fun z => eqV z y := countP_eq (uy := uy) rv fun z u hz r => eqU_of r (List.all_eq_true.mp fys z hz)
    refine ⟨.int ((ys.countP fun z => eqV z y : Nat) : Int), H, I.tok _, ⟨s.toks, ?_⟩, q⟩
    show Value.int ((its.toArray.toList.countP (eqU y) : Nat) : Int) s.toks = Value.int (((ys.countP fun z => eqV z y : Nat)) : Int) s.toks
    rw [e]
end
end Rp
/-! Ev: own errors over any built-in one, whose __init__ keeps a value: made, raised, the value read. The library's rules (ExcInit) speak of ValueError alone. -/
namespace Rp
open PySem PySem.Spec L2 PyProof.Rows
/-- what the written part says of such a class -/
structure OexB (K : PySem.W.Frag) (C : Addr) : Prop where
  base : ∃ (B newId initId : String) (bmB : List Value), ExcBaseFacts B newId initId bmB ∧ StoreFacts B bmB "object.__setattr__" "object" ∧ PySem.W.excInitIn K C bmB newId = true ∧ PySem.W.excOver K C bmB = true
  hd : PySem.W.hasDictIn K C = true
  sa : PySem.W.findIn K (.ref C) "__setattr__" = some (some (.builtin "object.__setattr__"))
  exC : PySem.W.subIn K (.ref C) (.type "BaseException") = some true
  tyC : PySem.W.typeIn K (.ref C) = some (.type "type")
  kC : PySem.W.keepIn K (.ref C) = true
theorem upd_swap {H : Hp} {a b : Addr} {o u v : HO} (n : b ≠ a) : upd (upd (upd H b o) a u) b v = upd (upd H b v) a u := by
  funext c
  by_cases h1 : c = b
  · subst h1
    rw [upd_same, upd_ne n, upd_same]
  · rw [upd_ne h1]
    by_cases h2 : c = a
    · subst h2
      rw [upd_same, upd_same]
    · rw [upd_ne h2, upd_ne h2, upd_ne h1, upd_ne h1]
section
variable {X : Cx} {pins : List (Addr × Obj)} {σ : L2.St} {H : Hp} {s : Shared} {a C : Addr} {f : Str} {y : V} {u : Value} {Q : Unit → Shared → Prop} {E : Value → Shared → Prop} {A : Around}
/-- self.f = y, the first field of an error that is being made -/
theorem keep_new (T : OexB X.K C) (I : Inv X pins σ H s) (e : H a = some (exo a C none)) (hno : PySem.W.findIn X.K (.ref C) f = some none) (ry : RelV y u)
    (h : ∀ dx s', H dx = none → dx ≠ a → Inv X pins σ (upd (upd H dx (exd dx [(f, y)])) a (exo a C (some dx))) s' → Q () s') : wpAny (model X.prog X.w) A (setAttr (.ref a) f u) Q E s := by
  obtain ⟨B, newId, initId, bmB, FB, SF, qi, qo⟩ := T.base
  obtain ⟨t1, ho⟩ := exo_at I.hok e
  obtain ⟨cd, hc, hcd⟩ := PySem.W.any_some T.hd
  obtain ⟨hp, g, d, t, os⟩ := s
  have tk0 : PySem.W.takerIn X.K C f = some none := by
    unfold PySem.W.takerIn
    rw [hno]
    rfl
  have inst : PySem.W.InstAt hp a { cls := .ref C, dict := none, data := .fields #[.ref t1, .none, .none, .none, .bool false, .none] } C none := ⟨ho, rfl, rfl, trivial⟩
  refine PySem.W.set_plain I.kIn (od := none) inst T.sa (PySem.W.osa_openX (od := none) SF I.kIn inst qo tk0 fun b => ?_)
  show wpAny _ _ (Builtin.ObjectAttr.storeInOwnDict (.ref a) (.ref C) (.str f t) f u b) _ _ _
  have fresh : H hp.objs.size = none := I.hok.fresh (Nat.le_refl _)
  have ne : a ≠ hp.objs.size := Nat.ne_of_lt (Heap.lt_size ho)
  refine wpAny_bind (wpAny_pure (wpAny_bind (PySem.W.instanceDict_exc (t := t1) (c2 := .none) ho (PySem.W.looks_clsIn I.kIn hc) hcd ?_)))
  -- the dict is new, the object gets it
  have I1 := I.laid (t' := t + 1) (a := hp.objs.size) (o := exd hp.objs.size []) (h' := hp.push (PySem.W.dictOf [] 0)) (fun b u e => Heap.get?_push_of_some _ e) (Nat.le_refl _)
    (exd_ok (Heap.Ns1.of_empty ⟨_, #[], 0, Heap.get?_push_size _ rfl, rfl, fun e he => absurd he (by simp), fun _ => rfl⟩) fun _ => True.intro)
  have e1 : upd H hp.objs.size (exd hp.objs.size []) a = some (exo a C none) := by
    rw [upd_ne ne]
    exact e
  have ha1 : (hp.push (PySem.W.dictOf [] 0)).get? a = some { cls := .ref C, dict := none, data := .fields #[.ref t1, .none, .none, .none, .bool false, .none] } := Heap.get?_push_of_some _ ho
  have ha2 : ((hp.push (PySem.W.dictOf [] 0)).update a fun o => { o with dict := some hp.objs.size }).get? a = some { cls := .ref C, dict := some hp.objs.size, data := .fields #[.ref t1, .none, .none, .none, .bool false, .none] } := Heap.get?_update_self _ ha1 rfl
  have I2 := I1.write (t' := t + 1) (x := a) (e := a) (o := exo a C (some hp.objs.size)) (h' := (hp.push (PySem.W.dictOf [] 0)).update a fun o => { o with dict := some hp.objs.size }) (by rw [e1]; exact True.intro) (.inl rfl)
    (fun b u n z => (Heap.get?_update_ne _ _ _ _ n).trans z) ⟨_, ha2⟩ (exo_ok ha2)
  have hdx : ((hp.push (PySem.W.dictOf [] 0)).update a fun o => { o with dict := some hp.objs.size }).Ns hp.objs.size fun _ => none :=
    ⟨_, #[], 0, (Heap.get?_update_ne _ _ _ _ ne.symm).trans (Heap.get?_push_size _ rfl), rfl, fun e he => absurd he (by simp), fun _ => rfl⟩
  show wpAny _ _ (Builtin.ObjectAttr.storeInDict hp.objs.size (.str f t) f u) _ _ _
  refine PySem.HandSPX.store_in_new hdx fun h' tk' hn hs => ?_
  have ed : upd (upd H hp.objs.size (exd hp.objs.size [])) a (exo a C (some hp.objs.size)) hp.objs.size = some (exd hp.objs.size []) := by
    rw [upd_ne ne.symm, upd_same]
  have I3 := I2.write (t' := tk') (x := hp.objs.size) (e := hp.objs.size) (o := exd hp.objs.size [(f, y)]) (h' := h') (by rw [ed]; exact True.intro) (.inl rfl) (fun b u n z => (hs.2 b n).trans z)
    (by obtain ⟨o, _, _, z, _⟩ := hn; exact ⟨o, z⟩) (exd_ok hn (relO_put (fs := []) ry fun _ => True.intro))
  rw [upd_swap ne.symm] at I3
  exact h _ _ fresh ne.symm I3
end
/-- self.f = e in an error's __init__ -/
def tKeepF (K : PySem.W.Frag) (f : Str) (to te : TE) : TS := fun D σ H => te σ H fun y H1 => to σ H1 fun x H2 => ∃ a C : Addr, x = .ref a ∧ OexB K C ∧ PySem.W.findIn K (.ref C) f = some none ∧
  H2 a = some (exo a C none) ∧ ∀ dx, H2 dx = none → dx ≠ a → D.nx σ (upd (upd H2 dx (exd dx [(f, y)])) a (exo a C (some dx)))
section
variable {X : Cx} {o e : Expr} {es : List Expr} {to te : TE} {ta : TA} {f : Str} {p p' pos : Pos}
theorem ps_keepF (ho : PE X o to) (he : PE X e te) (hs : swapsWith e (some (.Attribute o f p')) pos.line X.env = pure false := by rfl) : PS X (.Assign [.Attribute o f p'] e pos) (tKeepF X.K f to te) := by
  constructor
  intro pins s σ H D I want
  refine plainObj_wpAny_Assign_Attribute (thn (he.run pins s σ H _ I want) ?_) hs
  rintro v s1 ⟨y, H1, I1, r1, q1⟩
  refine thn (ho.run pins s1 σ H1 _ I1 q1) ?_
  rintro u s2 ⟨x, H2, I2, r2, a, C, rfl, T, hno, ea, q⟩
  obtain rfl : u = Value.ref a := r2
  exact keep_new T I2 ea hno r1 fun dx s' n ne J => ⟨σ, _, J, q dx n ne⟩
/-- what an __init__ that keeps its argument promises -/
def spKeep (C : Addr) (f : Str) : Sp := fun vs H Q _ => ∃ (a : Addr) (y : V), vs = [.ref a, y] ∧ H a = some (exo a C none) ∧ ∀ dx, H dx = none → dx ≠ a → Q .non (upd (upd H dx (exd dx [(f, y)])) a (exo a C (some dx)))
/-- C(e), the error as it is raised: its dict keeps the value -/
def tKeep (C : Addr) (f : Str) (ta : TA) : L2.St → Hp → XK → Prop := fun σ H Q => ta σ H fun vs H1 => ∃ y, vs = [y] ∧ ∀ d, H1 d = none → Q (.ref C) (some d) (upd H1 d (.xd [(f, y)]))
theorem pmk_keep {CX : CXT} {x : Str} {C fI : Addr} {k : Nat} {fd : FuncData} {ps : List Str} (T : OexB X.K C) (iC : PySem.W.findIn X.K (.ref C) "__init__" = some (some (.ref fI))) (tI : PySem.W.typeIn X.K (.ref fI) = some (.type "function"))
    (F1 : FnOk X.prog X.w X.K X.mg X.base CX k fI fd ps (spKeep C f)) (hr : Room (k + 1) X.A) (hb : Binds X.K fd ps []) (hx : Passes CX X (fun _ _ _ => False)) (hg : Gl X x) (hm : X.mg x = some (.ref C)) (ha : PA X (e :: es) ta)
    (hdb : (x == ("__debug__" : Str)) = false := by decide) (he : starEach (e :: es) X.env = (false, eval e X.env) :: starEach es X.env := by rfl) (hpl : (backTo pos (starEach es X.env)).any (·.1) = false := by rfl) :
    PMk X (.Call (.Name x p) (e :: es) [] pos) (tKeep C f ta) := by
  intro pins s σ H Q I want
  obtain ⟨B, newId, initId, bmB, FB, SF, qi, qo⟩ := T.base
  refine wpAny_Call_Name_kw (ld_glob I hg hm ?_ hdb)
  refine PySem.W.callWith_K (h₀ := X.base) I.ok.mod.kin T.kC (thn (ha.run pos pins s σ H _ I want) ?_) he hpl
  rintro us s1 ⟨vs, H1, I1, r1, y, rfl, q1⟩
  refine ⟨I1.kIn, ?_⟩
  show wpAny _ _ (call (.ref C) us) _ _ _
  obtain ⟨u, rfl, ru⟩ := vals1 r1
  obtain ⟨nm, N, qn, bs, bm, hdct, sn, sub, ab, col, dd, k0, k1, k2, k3, k5, hC, hT⟩ := PySem.W.excInit_of I1.kIn qi
  obtain ⟨hp, g, dr, tk, os⟩ := s1
  have up : hp.objs.size ≤ hp.objs.size + 1 := Nat.le_succ _
  have fresh : H1 (hp.objs.size + 1) = none := I1.hok.fresh up
  have kk : ∀ b o, hp.get? b = some o → ((hp.push (PySem.W.kdv_tup [u])).push (PySem.HandSPX.excO C hp.objs.size)).get? b = some o := fun b o e => Heap.get?_push_of_some _ (Heap.get?_push_of_some _ e)
  have hget : ((hp.push (PySem.W.kdv_tup [u])).push (PySem.HandSPX.excO C hp.objs.size)).get? (hp.objs.size + 1) = some (PySem.HandSPX.excO C hp.objs.size) := by heap_get
  have I2 := I1.laid (t' := tk) (a := hp.objs.size + 1) (o := exo (hp.objs.size + 1) C none) (h' := (hp.push (PySem.W.kdv_tup [u])).push (PySem.HandSPX.excO C hp.objs.size)) kk up (exo_ok hget)
  have r2 : Vals [V.ref (hp.objs.size + 1), y] [Value.ref (hp.objs.size + 1), u] := .cons rfl (.cons ru .nil)
  have hq : spKeep C f [V.ref (hp.objs.size + 1), y] (upd H1 (hp.objs.size + 1) (exo (hp.objs.size + 1) C none))
      (fun v H2 => v = .non ∧ ∃ (d : Addr) (fs : List (Str × V)), H2 (hp.objs.size + 1) = some (exo (hp.objs.size + 1) C (some d)) ∧ H2 d = some (exd d fs) ∧ H1 d = none ∧ Q (.ref C) (some d) (upd (del H2 (hp.objs.size + 1)) d (.xd fs))) (fun _ _ _ => False) := by
    refine ⟨_, y, rfl, upd_same, fun dx n ne => ⟨rfl, dx, [(f, y)], upd_same, by rw [upd_ne ne, upd_same], by rw [upd_ne ne] at n; exact n, ?_⟩⟩
    have n1 : H1 dx = none := by rw [upd_ne ne] at n; exact n
    have e : upd (del (upd (upd (upd H1 (hp.objs.size + 1) (exo (hp.objs.size + 1) C none)) dx (exd dx [(f, y)])) (hp.objs.size + 1) (exo (hp.objs.size + 1) C (some dx))) (hp.objs.size + 1)) dx (.xd [(f, y)]) = upd H1 dx (.xd [(f, y)]) := by
      funext b
      by_cases h1 : b = dx
      · subst h1
        rw [upd_same, upd_same]
      · rw [upd_ne h1, upd_ne h1]
        by_cases h2 : b = hp.objs.size + 1
        · subst h2
          rw [del_same, fresh]
        · rw [del_ne h2, upd_ne h2, upd_ne h1, upd_ne h2]
    rw [e]
    exact q1 dx n1
  have hl : [Value.ref (hp.objs.size + 1), u].length = ps.length := by
    have z := F1.len _ _ _ _ hq
    rw [← z]
    rfl
  have room := hr.make C [u] []
  refine wpAny_call (PySem.HandSPX.call_own FB hT hC (PySem.W.looks_findIn I1.kIn iC) (fun self => PySem.W.bind_fn I1.kIn self tI) (by rw [sizeLine_eq]; simp)
    (codeAny_mono (F1.run _ X.stack _ _ ⟨[Value.ref (hp.objs.size + 1), u], []⟩ [Value.ref (hp.objs.size + 1), u] _ _ (fun _ _ _ => False) (hr.make C [u] []) (I2.env0.make C [u] [])
      (by have z := hb _ [Value.ref (hp.objs.size + 1), u] I2.kIn (by rw [List.append_nil]; exact hl); rw [List.append_nil] at z; exact z) r2 hq) fun r s' hq' => ?_))
  cases r with
  | error er => exact hx pins σ _ _ er s' I2 hq'
  | ok fl =>
    cases fl with
    | ret v0 =>
      obtain ⟨v, H2, os2, bare2, un2, hok2, rv, rfl, d, fs, ea, ed, hd1, q2⟩ := hq'
      obtain ⟨h2, g2, d2, t2, os'⟩ := s'
      exact ⟨rv, mk_end (raises_own T.exC T.tyC) I1 up kk un2 hok2 os2 bare2 ea ed hd1 q2⟩
    | next => exact False.elim hq'
    | brk => exact False.elim hq'
    | cont => exact False.elim hq'
end
/-! ### an error that keeps a value: its field, isinstance; (a, oe) stands in the state -/
/-- isinstance(e, c) of such an error -/
def rIsX (K : PySem.W.Frag) (a : Addr) (cls : Value) (d : Option Addr) : List V → Hp → VK → Prop := fun xs H Q => ∃ (c : V) (cv : Value) (b : Bool) (D dx : Addr) (fs : List (Str × V)), xs = [.ref a, c] ∧ (∀ u, RelV c u → u = cv) ∧ cls = .ref D ∧ L2.ExcC K D ∧
  d = some dx ∧ H dx = some (.xd fs) ∧ PySem.W.kitOne K (.ref D) cv = some b ∧ Q (.bl b) H
/-- e.f of such an error -/
def tXfM (a : Addr) (cls : Value) (d : Option Addr) (C : Addr) (f : Str) (te : TE) : TE := fun σ H Q => te σ H fun x H1 => x = .ref a ∧ cls = .ref C ∧ ∃ (dd : Addr) (fs : List (Str × V)) (v : V), d = some dd ∧ H1 dd = some (.xd fs) ∧ fs.lookup f = some v ∧ Q v H1
section
variable {X : Cx} {a : Addr} {oe : Obj} {cls : Value} {d : Option Addr}
theorem cr_isED (hm : (a, oe) ∈ X.pn) (hz : Zc cls d oe) (hf : ∃ vs, oe.data = .fields vs) : CallR X (.builtin "isinstance") (rIsX X.K a cls d) := by
  intro pins s σ H xs us Q I r h
  obtain ⟨c, cv, b, D, dx, fs, rfl, hcv, rfl, C, rfl, hx, e, q⟩ := h
  cases r with
  | cons rx rr =>
    cases rr with
    | cons rt rr =>
      cases rr
      cases rx
      obtain rfl := hcv _ rt
      obtain ⟨hget, _⟩ := I.pin (a, oe) (List.mem_append.mpr (.inl hm))
      have ok : ObjOk X.prog X.w H s.heap dx (.xd fs) := I.hok dx _ hx
      obtain ⟨mA, ⟨od, es, ep, hod, _⟩, _⟩ := ok
      obtain ⟨vs, hv⟩ := hf
      obtain ⟨oc, ody, oda, osl⟩ := oe
      obtain ⟨z1, z2⟩ := hz
      dsimp only at z1 z2 hv
      subst z1 z2 hv
      have hcl : (PySem.W.clsIn X.K D).isSome = true := by
        obtain ⟨cd, hc, _⟩ := PySem.W.any_some C.hd
        rw [hc]
        rfl
      have J : PySem.W.InstAt s.heap a { cls := .ref D, dict := some dx, data := .fields vs, slots := osl } D (some od) := ⟨hget, rfl, rfl, hod⟩
      exact PySem.W.kia_one (PySem.W.kitx_exc hcl C.hg C.hk C.hs C.ha C.hn C.ht C.hm) I.kIn J e (fun z => nomatch z) fun tk => ⟨.bl b, H, I.kept (t' := tk) fun _ _ z => z, rfl, q⟩
theorem pe_xfM {C : Addr} {e : Expr} {te : TE} {pos : Pos} {n : Str} (T : XfC X.K C) (hno : PySem.W.findIn X.K (.ref C) n = some none) (hm : (a, oe) ∈ X.pn) (hz : Zc cls d oe) (hf : ∃ vs, oe.data = .fields vs) (he : PE X e te) (hb : attributeBase e n X.env (eval e X.env) = eval e X.env := by rfl) :
    PE X (.Attribute e n pos) (tXfM a cls d C n te) := by
  constructor
  intro pins s σ H Q I want
  refine attr_of hb (thn (he.run pins s σ H _ I want) ?_)
  rintro u s1 ⟨x, H1, I1, rx, rfl, rfl, dd, fs, v, rfl, ea, l, q⟩
  obtain rfl : u = Value.ref a := rx
  obtain ⟨ha, _⟩ := I1.pin (a, oe) (List.mem_append_left _ hm)
  obtain ⟨vs, hd⟩ := hf
  have ok : ObjOk X.prog X.w H1 s1.heap dd (.xd fs) := I1.hok dd _ ea
  obtain ⟨mA, hns, hr⟩ := ok
  obtain ⟨od, ho, hl⟩ := lookIn_ns hns
  obtain ⟨u, hu, ru⟩ := RelO.some_of (v := v) (o := mA n) (by rw [← l]; exact hr n)
  have J : PySem.W.InstAt s1.heap a oe C (some od) := ⟨ha, hz.1, by unfold PySem.W.notCls; rw [hd] <;> rfl, by rw [hz.2]; exact ho⟩
  exact HandSPX.exc_get I1.kIn J T.ga T.gg T.exC (PySem.W.findObj_own T.hdC hno rfl (by rw [hl, hu])) (handed_of ru) ⟨v, H1, I1.tok _, ru, q⟩
end
end Rp
/-! Te: a list extended by a tuple. -/
namespace Rp
open PySem PySem.Spec L2 PyProof.Rows
theorem extend_tupAt (l : Addr) (items : Array Value) (n : Nat) (b : Addr) (more : Array Value) (m : Nat) (dd : Option Addr) (sl : Array (Option Value)) (h0 : ¬(!items.isEmpty && Builtin.List.listTooLong (items.size + more.size)) = true) (h1 : items.size ≤ sizeLine) (h2 : items.size + more.size ≤ sizeLine + 1) :
    Meets (Builtin.«list.extend» ⟨[.ref l, .ref b], []⟩) (fun _ R s => s.heap.get? l = some { cls := .type "list", dict := none, data := .seq items n, slots := #[] } ∧ s.heap.get? b = some { cls := .type "tuple", dict := dd, data := .seq more m, slots := sl } ∧ R (.ok (.ret Value.none)) { s with heap := s.heap.update l (Obj.mapSeq fun x => x ++ more) }) :=
  .of_wp fun prog w A R s h => by
    obtain ⟨hp, g, d, tk, os⟩ := s
    obtain ⟨hl, hb, h⟩ := h
    have f1 := AutoSeq1.idx_int
    have f2 := AutoSeq1.sub_tuple_tuple
    have f3 := AutoSeq1.sub_list_list
    have f4 := AutoSeq1.sub_tuple_list
    have f5 := AutoSeq1.sub_list_tuple
    have hz' : (items ++ more).size ≤ sizeLine + 1 := by
      rw [Array.size_append]
      exact h2
    wp_walk using (wpAny_updateSeq hl rfl (hz := h1) (_hz' := hz')), AutoSeq1.wpAny_loadPart' hl, AutoSeq1.wpAny_loadPart' hb
    exact ⟨_, rfl, h⟩
def rExtT (K : PySem.W.Frag) : V → List V → Hp → VK → Prop := fun x vs H Q => ∃ (l b : Addr) (xs zs : List V), x = .ref l ∧ vs = [.ref b] ∧ H l = some (.lst xs) ∧ SqT K H b zs ∧ xs.length + zs.length ≤ sizeLine ∧ Q .non (upd H l (.lst (xs ++ zs)))
theorem mt_extT {X : Cx} : MtR X "list.extend" (rExtT X.K) := by
  intro pins s σ H x vs v us Q I rx rv h
  obtain ⟨l, b, xs, zs, rfl, rfl, hH, hB, hz, q⟩ := h
  cases rx
  obtain ⟨u, rfl, ru⟩ := rv.one
  cases ru
  obtain ⟨z, its, n, r, hl, e⟩ := I.lstM hH
  obtain ⟨its2, r2, o, ho, hc, m, hd⟩ := isTuple_of I hB
  obtain ⟨oc, od, oda, osl⟩ := o
  dsimp only at hc hd
  subst hc hd
  have e1 := r.length
  have e2 := r2.length
  have hsz : its.toArray.size + its2.size ≤ sizeLine := by
    rw [List.size_toArray]
    have e3 : its2.toList.length = its2.size := by simp
    omega
  have hlong : ¬ (!its.toArray.isEmpty && Builtin.List.listTooLong (its.toArray.size + its2.size)) = true := by
    rw [notLongL hsz, Bool.and_false]
    exact Bool.false_ne_true
  refine call_meets F.slot_list_extend ⟨_, e, rfl⟩ F.entry_list_extend (F.args_list_extend_2 _ _)
    (extend_tupAt l its.toArray n b its2 m od osl hlong (by omega) (by omega)) ⟨e, ho, ?_⟩
  refine ⟨.non, _, I.lset (its' := its ++ its2.toList) hH e (by simp) (r.append r2) ?_, rfl, q⟩
  rw [List.length_append]
  omega
/-- o[i] of an augmented assignment, a list from its front -/
def rGetN (K : PySem.W.Frag) : V → V → Hp → VK → Prop := fun x y H Q => ∃ (p : Addr) (xs : List V) (j : Nat) (v : V), x = .ref p ∧ y = .int (j : Int) ∧ SqL K H p xs ∧ xs[j]? = some v ∧ Q v H
theorem get_list {X : Cx} : PGet X (rGetN X.K) := by
  intro pins s σ H o i ov iv Q I ro ri h
  obtain ⟨p, xs, j, v, rfl, rfl, hs, hv, q⟩ := h
  obtain rfl : ov = Value.ref p := ro
  obtain ⟨t, rfl⟩ := ri
  obtain ⟨its, r, pl, hz⟩ := I.list hs
  obtain ⟨u, hu, ru⟩ := r.get hv
  have hl := r.length
  have hn := line63
  have hj : j < xs.length := (List.getElem?_eq_some_iff.mp hv).1
  exact wpAny_getItem_list pl.isList (by omega) (by omega) (by rw [Int.toNat_natCast]; simpa using hu) ⟨v, H, I, ru, q⟩
/-- ("seq", ()) that lies in the written part -/
theorem dp_seqE {K : PySem.W.Frag} {a e : Addr} {o o2 : Option Addr} {n m : Nat} {s s2 : Array (Option Value)} {t : Tok} (h1 : K.lookup a = some ⟨.type "tuple", o, .seq #[.str "seq" t, .ref e] n, s⟩) (h2 : K.lookup e = some ⟨.type "tuple", o2, .seq #[] m, s2⟩) :
    ∀ H, Dp K H (.ref a) (.tuple [.str "seq", .tuple []]) := by
  intro H
  have v1 : Vals [V.str "seq", V.ref e] [Value.str "seq" t, Value.ref e] := .cons ⟨t, rfl⟩ (.cons rfl .nil)
  have t1 : SqT K H a [V.str "seq", V.ref e] := .inr ⟨_, _, _, h1, rfl, rfl, (by show 2 ≤ sizeLine; decide), v1⟩
  have t2 : SqT K H e [] := .inr ⟨_, _, _, h2, rfl, rfl, Nat.zero_le _, .nil⟩
  exact .tup t1 (.cons (.str _) (.cons (.tup t2 .nil) .nil))
end Rp
/-! Rl: written data (ints, texts, None, tuples, lists, names of data) as one step; as Rd, but over Dp, and it asks nothing of the heap. -/
namespace Rp
open PySem L2 PyProof.Rows
/-- data held in slots -/
def Ns (K : PySem.W.Frag) (E : List (Nat × PyData)) (σ : L2.St) (H : Hp) : Prop := ∀ e ∈ E, ∃ v, σ[e.1]? = some (some v) ∧ Dp K H v e.2
theorem Ns.same {K : PySem.W.Frag} {E : List (Nat × PyData)} {σ : L2.St} {H H' : Hp} (h : Ns K E σ H) (s : Same H H') : Ns K E σ H' := fun e he => by
  obtain ⟨v, h1, h2⟩ := h e he
  exact ⟨v, h1, dp_same s h2⟩
theorem Ns.nil {K : PySem.W.Frag} {σ : L2.St} {H : Hp} : Ns K [] σ H := fun e he => by cases he
theorem Ns.cons {K : PySem.W.Frag} {E : List (Nat × PyData)} {σ : L2.St} {H : Hp} {i : Nat} {v : V} {d : PyData} (h : σ[i]? = some (some v)) (hd : Dp K H v d) (t : Ns K E σ H) : Ns K ((i, d) :: E) σ H := fun e he => by
  rcases List.mem_cons.mp he with rfl | he
  · exact ⟨v, h, hd⟩
  · exact t e he
def tW (K : PySem.W.Frag) (E : List (Nat × PyData)) (d : PyData) : TE := fun σ H Q => Ns K E σ H ∧ ∀ (H' : Hp) (v : V), Same H H' → Dp K H' v d → Q v H'
def tWs (K : PySem.W.Frag) (E : List (Nat × PyData)) (ds : List PyData) : TA := fun σ H Q => Ns K E σ H ∧ ∀ (H' : Hp) (vs : List V), Same H H' → DpAll K H' vs ds → Q vs H'
section
variable {X : Cx} {E : List (Nat × PyData)}
theorem pw_mono {e : Expr} {t t' : TE} (h : PE X e t) (f : ∀ σ H Q, t' σ H Q → t σ H Q) : PE X e t' := ⟨fun pins s σ H Q I z => h.run pins s σ H Q I (f σ H Q z)⟩
theorem pws_mono {es : List Expr} {t t' : TA} (h : PA X es t) (f : ∀ σ H Q, t' σ H Q → t σ H Q) : PA X es t' := ⟨fun pos pins s σ H Q I z => h.run pos pins s σ H Q I (f σ H Q z)⟩
theorem pw_int {e : Expr} {t : TE} {m n : Int} (h : PE X e t) (hm : m = n) (f : ∀ σ H (Q : VK), Q (.int m) H → t σ H Q) : PE X e (tW X.K E (.int n)) := by
  refine pw_mono h fun σ H Q z => f σ H Q ?_
  obtain ⟨_, q⟩ := z
  subst hm
  exact q H _ (Same.refl _) (.int _)
theorem pw_str {x : Str} {j : Nat} {pos : Pos} : PE X (.Constant (.str x) j pos) (tW X.K E (.str x)) :=
  pw_mono pe_str fun σ H Q ⟨_, q⟩ => q H _ (Same.refl _) (.str _)
theorem pw_non {j : Nat} {pos : Pos} : PE X (.Constant .none j pos) (tW X.K E .none) :=
  pw_mono pe_non fun σ H Q ⟨_, q⟩ => q H _ (Same.refl _) .non
theorem pw_bl {b : Bool} {j : Nat} {pos : Pos} : PE X (.Constant (.bool b) j pos) (tW X.K E (.bool b)) :=
  pw_mono pe_bl fun σ H Q ⟨_, q⟩ => q H _ (Same.refl _) (.bl _)
theorem pw_var {e : Expr} {i : Nat} {d : PyData} (h : PE X e (tVar i)) (m : (i, d) ∈ E) : PE X e (tW X.K E d) := by
  refine pw_mono h fun σ H Q z => ?_
  obtain ⟨n, q⟩ := z
  obtain ⟨v, h1, h2⟩ := n _ m
  exact ⟨v, h1, q H _ (Same.refl _) h2⟩
theorem pws_nil : PA X [] (tWs X.K E []) :=
  pws_mono pa_nil fun σ H Q ⟨_, q⟩ => q H _ (Same.refl _) .nil
theorem pws_cons {e : Expr} {es : List Expr} {d : PyData} {ds : List PyData} (h : PE X e (tW X.K E d)) (t : PA X es (tWs X.K E ds)) (hs : starEach (e :: es) X.env = (false, eval e X.env) :: starEach es X.env := by rfl) : PA X (e :: es) (tWs X.K E (d :: ds)) := by
  refine pws_mono (pa_cons h t hs) fun σ H Q z => ?_
  obtain ⟨n, q⟩ := z
  exact ⟨n, fun H' v s hd => ⟨n.same s, fun H2 vs s2 hvs => q H2 _ (s.trans s2) (.cons (dp_same s2 hd) hvs)⟩⟩
theorem pw_tup {es : List Expr} {ds : List PyData} {k : Nat} {pos : Pos} (h : PA X es (tWs X.K E ds)) (hl : ds.length ≤ 1000) : PE X (.Tuple es k pos) (tW X.K E (.tuple ds)) := by
  refine pw_mono (pe_tup h) fun σ H Q z => ?_
  obtain ⟨n, q⟩ := z
  refine ⟨n, fun H' vs s hvs => ⟨small (by rw [dpAll_length hvs]; exact hl), fun t ht => ?_⟩⟩
  obtain ⟨s2, hd⟩ := tup_fresh ht hvs
  exact q _ _ (s.trans s2) hd
theorem pw_lst {es : List Expr} {ds : List PyData} {pos : Pos} (h : PA X es (tWs X.K E ds)) (hl : ds.length ≤ 1000) : PE X (.List es pos) (tW X.K E (.list ds)) := by
  refine pw_mono (pe_lst h) fun σ H Q z => ?_
  obtain ⟨n, q⟩ := z
  refine ⟨n, fun H' vs s hvs => ⟨small (by rw [dpAll_length hvs]; exact hl), fun t ht => ?_⟩⟩
  obtain ⟨s2, hd⟩ := lst_fresh ht hvs
  exact q _ _ (s.trans s2) hd
theorem dpAll_repW {K : PySem.W.Frag} {H : Hp} {vs : List V} {ds : List PyData} (h : DpAll K H vs ds) : ∀ k : Nat, DpAll K H (List.replicate k vs).flatten (List.replicate k ds).flatten
  | 0 => .nil
  | k + 1 => by
    simp only [List.replicate_succ, List.flatten_cons]
    exact dpAll_append h (dpAll_repW h k)
theorem pw_rep {a b : Expr} {ds : List PyData} {k : Nat} {pos : Pos} (h : PE X a (tW X.K E (.tuple ds))) (hb : PE X b (tC (.int (k : Int)))) (h2 : 2 ≤ k) (hk : k ≤ 1000) (h0 : ds ≠ []) (hl : ds.length ≤ 1000) :
    PE X (.BinOp a .Mult b pos) (tW X.K E (.tuple (List.replicate k ds).flatten)) := by
  refine pw_mono (pe_op (r := rRepT X.K) op_repT h hb) fun σ H Q z => ?_
  obtain ⟨n, q⟩ := z
  refine ⟨n, fun H' v s hd => ?_⟩
  obtain ⟨l, xs, rfl, hs, hall⟩ := dp_tup_inv hd
  refine ⟨l, _, xs, rfl, rfl, hs, ?_, by omega, by omega, by rw [dpAll_length hall]; exact hl, fun t ht => ?_⟩
  · intro z
    subst z
    cases hall
    exact h0 rfl
  · have e : ((k : Int)).toNat = k := by omega
    rw [e]
    obtain ⟨s2, hd2⟩ := tup_fresh ht (dpAll_repW hall k)
    exact q _ _ (s.trans s2) hd2
theorem pw_cat {a b : Expr} {ds es : List PyData} {pos : Pos} (h : PE X a (tW X.K E (.tuple ds))) (h' : PE X b (tW X.K E (.tuple es))) (hl : ds.length + es.length ≤ 1000) :
    PE X (.BinOp a .Add b pos) (tW X.K E (.tuple (ds ++ es))) := by
  refine pw_mono (pe_op (r := rCatA X.K) op_catA h h') fun σ H Q z => ?_
  obtain ⟨n, q⟩ := z
  refine ⟨n, fun H1 v s1 hd => ⟨n.same s1, fun H2 u s2 hd2 => ?_⟩⟩
  obtain ⟨l, xs, rfl, hs, hall⟩ := dp_tup_inv (dp_same s2 hd)
  obtain ⟨l', ys, rfl, hs', hall'⟩ := dp_tup_inv hd2
  have hlen : xs.length + ys.length ≤ sizeLine := small (by rw [dpAll_length hall, dpAll_length hall']; exact hl)
  have hcat := dpAll_append hall hall'
  refine ⟨l, l', xs, ys, rfl, rfl, hs, hs', hlen, fun z => ?_, fun _ z => ?_, fun _ _ t ht => ?_⟩
  · subst z
    exact q _ _ (s1.trans s2) (.tup hs' hcat)
  · subst z
    rw [List.append_nil] at hcat
    exact q _ _ (s1.trans s2) (.tup hs hcat)
  · obtain ⟨s3, hd3⟩ := tup_fresh ht hcat
    exact q _ _ (s1.trans (s2.trans s3)) hd3
end
end Rp
/-! Mx: max of four ints, and a for over what is a list or a tuple. -/
namespace Rp
open PySem L2 PyProof.Rows
theorem best_is (f : Nat → Int) : ∀ k : Nat, argBest (fun i j => decide (f i > f j)) k ≤ k ∧ ∀ i, i ≤ k → f i ≤ f (argBest (fun i j => decide (f i > f j)) k)
  | 0 => ⟨Nat.le_refl _, fun i hi => by
      have e : i = 0 := by omega
      rw [e]
      exact Int.le_refl _⟩
  | k + 1 => by
    obtain ⟨h1, h2⟩ := best_is f k
    by_cases g : f (k + 1) > f (argBest (fun i j => decide (f i > f j)) k)
    · have e : argBest (fun i j => decide (f i > f j)) (k + 1) = k + 1 := by simp [argBest, g]
      rw [e]
      refine ⟨Nat.le_refl _, fun i hi => ?_⟩
      by_cases z : i = k + 1
      · rw [z]
        exact Int.le_refl _
      · have := h2 i (by omega)
        omega
    · have e : argBest (fun i j => decide (f i > f j)) (k + 1) = argBest (fun i j => decide (f i > f j)) k := by simp [argBest, g]
      rw [e]
      refine ⟨by omega, fun i hi => ?_⟩
      by_cases z : i = k + 1
      · rw [z]
        omega
      · exact h2 i (by omega)
section
variable {prog : Program} {w : World} {A : Around} {E : Value → Shared → Prop} {s : Shared}
theorem max4_args (a b c d : Value) : argsOk "max" ⟨[a, b, c, d], []⟩ := by
  unfold argsOk
  kernel_rfl
theorem far1 {n : Nat} : n ≠ n + 1 := by omega
theorem far2 {n : Nat} : n + 1 + 1 ∉ [n + 1, n] := by simp; omega
theorem far3 {z n : Nat} (h : z < n) : z ∉ [n + 1] := by simp; omega
theorem far4 {z n : Nat} (h : z < n) : z ≠ n + 1 + 1 := by omega
/-- the greatest of four -/
theorem max4 {n : Nat → Int} {t : Nat → Tok} {Q : Value → Shared → Prop} (hh : A.handled = none)
    (h : ∀ (g : Heap) (tk : Nat) (k : Nat), k < 4 → (∀ i, i < 4 → n i ≤ n k) → (∀ z o, s.heap.get? z = some o → g.get? z = some o) → Q (.int (n k) (t k)) { s with heap := g, toks := tk }) :
    wpAny (model prog w) A (call (.builtin "max") [.int (n 0) (t 0), .int (n 1) (t 1), .int (n 2) (t 2), .int (n 3) (t 3)]) Q E s := by
  have nm : (toString "max" ++ toString ".loop" : String) = "max.loop" := by decide
  have at4 : ∀ i v, (#[Value.int (n 0) (t 0), .int (n 1) (t 1), .int (n 2) (t 2), .int (n 3) (t 3)] : Array Value)[i]? = some v → i < 4 ∧ v = .int (n i) (t i) := by
    intro i v e
    match i, e with
    | 0, e => exact ⟨by omega, by simpa using e.symm⟩
    | 1, e => exact ⟨by omega, by simpa using e.symm⟩
    | 2, e => exact ⟨by omega, by simpa using e.symm⟩
    | 3, e => exact ⟨by omega, by simpa using e.symm⟩
    | i + 4, e => simp at e
  have at4 : ∀ (arr : Array Value) (i : Nat) (v : Value), arr = #[Value.int (n 0) (t 0), .int (n 1) (t 1), .int (n 2) (t 2), .int (n 3) (t 3)] → arr[i]? = some v → i < 4 ∧ v = .int (n i) (t i) := fun arr i v e h => at4 i v (e ▸ h)
  have sz : ∀ arr : Array Value, (s.heap.push { cls := .type "tuple", data := .seq arr }).objs.size = s.heap.objs.size + 1 := fun _ => Heap.size_push ..
  have tup : ∀ arr : Array Value, (s.heap.push { cls := .type "tuple", data := .seq arr }).IsTuple s.heap.objs.size arr := fun arr => ⟨_, Heap.get?_push_size _ rfl, rfl, 0, rfl⟩
  have four : ∀ arr : Array Value, arr = #[Value.int (n 0) (t 0), .int (n 1) (t 1), .int (n 2) (t 2), .int (n 3) (t 3)] → arr.size = 4 := fun arr e => by rw [e]; rfl
  refine call_function_tree F.kind_max F.plain_max F.entry_max (max4_args _ _ _ _) (wpAny_bind (wpAny_of_eq (a := [none, none]) rfl ?_))
  refine wpAny_bind (M := model prog w) (A := A.in1) (m := newTuple [.int (n 0) (t 0), .int (n 1) (t 1), .int (n 2) (t 2), .int (n 3) (t 3)]) (wpAny_newObj_type ?_)
  generalize ea : ([Value.int (n 0) (t 0), .int (n 1) (t 1), .int (n 2) (t 2), .int (n 3) (t 3)] : List Value).toArray = arr
  have ea' := ea.symm
  refine wpAny_bind (wpAny_pyIter_tuple (tup arr) (wpAny_bind (wpAny_newObj_type ?_)))
  rw [nm]
  have W := Walks.tuple (prog := prog) (w := w) (A := A.in1) hh (s.heap.objs.size + 1) s.heap.objs.size far1 arr
  have i1 : (s.heap.push { cls := .type "tuple", data := .seq arr }).objs.size = s.heap.objs.size + 1 := sz arr
  have i2 : ((s.heap.push { cls := .type "tuple", data := .seq arr }).push { cls := .type "tuple_iterator", data := .fields #[.ref s.heap.objs.size, .int 0 0] }).objs.size = s.heap.objs.size + 1 + 1 := by
    rw [Heap.size_push, i1]
  dsimp only [Option.getD_none, Option.toList_none, List.map_nil]
  rw [i1, i2]
  have hit : ((s.heap.push { cls := .type "tuple", data := .seq arr }).push { cls := .type "tuple_iterator", data := .fields #[.ref s.heap.objs.size, .int 0 0] }).IsTupleIter (s.heap.objs.size + 1) s.heap.objs.size 0 :=
    ⟨_, by rw [← i1]; exact Heap.get?_push_size _ rfl, rfl, rfl⟩
  have ht2 := (tup arr).push { cls := .type "tuple_iterator", data := .fields #[.ref s.heap.objs.size, .int 0 0] }
  have hst := W.frame 0 _ _ ⟨hit, ht2⟩ fun b (_ : b ∈ [s.heap.objs.size + 1, s.heap.objs.size]) o e => Heap.get?_push_of_some { cls := .type "list", data := .seq #[] } e
  refine wpAny_pure ⟨plainId_quiet F.plain_max_loop _, codeAny_max_loop_first W _ (CmpOf.ints_gt n fun i v e => ⟨t i, (at4 arr i v ea' e).2⟩) (s.heap.objs.size + 1 + 1) far2 (by rw [four arr ea']; omega) hst (by rw [← i2]; exact Heap.get?_push_size _ rfl) fun v g tk hP hk => ?_⟩
  obtain ⟨b1, b2⟩ := best_is n 3
  rw [four arr ea'] at hP
  obtain ⟨k4, rfl⟩ := at4 arr _ v ea' hP
  refine h g tk _ k4 (fun i hi => b2 i (by omega)) fun z o e => ?_
  have hz := Heap.lt_size e
  refine hk z o (far3 hz) (far4 hz) (Heap.get?_push_of_some _ (Heap.get?_push_of_some _ (Heap.get?_push_of_some _ e)))
end
section
variable {X : Cx}
theorem call_max4 (hc : X.calm = true) : CallR X (.builtin "max") (fun xs H Q => ∃ a b c d : Int, xs = [.int a, .int b, .int c, .int d] ∧ ∀ m, m ∈ [a, b, c, d] → a ≤ m → b ≤ m → c ≤ m → d ≤ m → Q (.int m) H) := by
  intro pins s σ H xs us Q I r h
  obtain ⟨a, b, c, d, rfl, q⟩ := h
  cases r with
  | cons r1 r =>
  cases r with
  | cons r2 r =>
  cases r with
  | cons r3 r =>
  cases r with
  | cons r4 r =>
  cases r
  obtain ⟨t1, rfl⟩ := r1
  obtain ⟨t2, rfl⟩ := r2
  obtain ⟨t3, rfl⟩ := r3
  obtain ⟨t4, rfl⟩ := r4
  refine max4 (n := fun i => [a, b, c, d].getD i 0) (t := fun i => [t1, t2, t3, t4].getD i t1) (I.ok.hd hc) fun g tk k hk hm hold => ⟨.int ([a, b, c, d].getD k 0), H, I.kept hold, ⟨_, rfl⟩, ?_⟩
  have m0 := hm 0 (by omega)
  have m1 := hm 1 (by omega)
  have m2 := hm 2 (by omega)
  have m3 := hm 3 (by omega)
  refine q _ ?_ m0 m1 m2 m3
  match k, hk with
  | 0, _ => simp
  | 1, _ => simp
  | 2, _ => simp
  | 3, _ => simp
/-- a for over a list or a tuple -/
def iSeqA (K : PySem.W.Frag) (te : TE) : TI := fun σ H R => te σ H fun x H1 => ∃ a, x = .ref a ∧ (((∃ xs, SqL K H1 a xs) ∧ R (Itl K a) H1) ∨ ((∃ xs, SqT K H1 a xs) ∧ R (Itt K a) H1))
theorem pi_seqA {tg l : Expr} {te : TE} (hl : PE X l te) : PI X tg l (iSeqA X.K te) := by
  refine ⟨fun pins s σ H R I h => thn (hl.run pins s σ H _ I h) fun v s1 ⟨x, H1, I1, r1, a, e, q⟩ => ?_⟩
  subst e
  cases r1
  have fresh : ∀ b ∈ [s1.heap.objs.size], FpOk X pins H1 b := fun b hb => by
    rw [List.mem_singleton] at hb
    rw [hb]
    exact I1.fpOk (Nat.le_refl _) (I1.hok.fresh (Nat.le_refl _))
  rcases q with ⟨⟨xs, hx⟩, q⟩ | ⟨⟨xs, hx⟩, q⟩
  · obtain ⟨its, rv, p, hz⟩ := I1.list hx
    exact wpAny_pyIter_list p.isList ⟨_, [s1.heap.objs.size], _, _, H1, rfl, I1.kept (t' := s1.toks) fun b o e => Heap.get?_push_of_some _ e, turn_list a _, ⟨_, Heap.get?_push_size _ rfl, rfl, rfl⟩, fresh, q⟩
  · obtain ⟨its, rv, p, hz⟩ := I1.tuple hx
    exact wpAny_pyIter_tuple (items := its.toArray) p ⟨_, [s1.heap.objs.size], _, _, H1, rfl, I1.kept (t' := s1.toks) fun b o e => Heap.get?_push_of_some _ e, turn_tuple a _, ⟨_, Heap.get?_push_size _ rfl, rfl, rfl⟩, fresh, q⟩
end
/-- a list or a tuple with these items -/
def SeqA (K : PySem.W.Frag) (H : Hp) (a : Addr) (xs : List V) : Prop := SqL K H a xs ∨ SqT K H a xs
theorem SeqA.same {K : PySem.W.Frag} {H H' : Hp} {a : Addr} {xs : List V} (h : SeqA K H a xs) (s : Same H H') : SeqA K H' a xs := by
  rcases h with h | h
  · rcases h with (h | ⟨o, h⟩) | h
    · exact .inl (.inl (.inl (s _ _ h)))
    · exact .inl (.inl (.inr ⟨o, s _ _ h⟩))
    · exact .inl (.inr h)
  · exact .inr (same_sqT s h)
theorem walk_revT {K : PySem.W.Frag} {a : Addr} {xs : List V} : Walk (RT.ItvT K a xs.length) xs.length (fun H => SqT K H a xs) (fun i H x H' => H' = H ∧ xs[xs.length - 1 - i]? = some x) :=
  ⟨fun i H hi h => ⟨hi, xs, xs[xs.length - 1 - i]'(by omega), h, List.getElem?_eq_getElem (by omega)⟩, fun _ _ => Nat.le_refl _, fun i H x H' hi h y => ⟨y.1, y.2 xs h⟩⟩
theorem same_sqL {K : PySem.W.Frag} {H H' : Hp} {a : Addr} {xs : List V} (s : Same H H') (h : SqL K H a xs) : SqL K H' a xs := by
  rcases h with (h | ⟨o, h⟩) | h
  · exact .inl (.inl (s _ _ h))
  · exact .inl (.inr ⟨o, s _ _ h⟩)
  · exact .inr h
/-- what a for asks of what it walks -/
def ForR (g : TG) (tb : TS) (D : Ends) (σ : L2.St) (J : It) (H : Hp) : Prop := ∃ W : Nat → Nat → L2.St → Hp → Prop, (∃ m, W 0 m σ H) ∧ ∀ (i m : Nat) (σ : L2.St) (H : Hp), W i m σ H →
  (J.stop i H ∧ D.nx σ H) ∨ (J.go i H ∧ ∃ N : L2.St → Hp → Prop, (∀ (σ' : L2.St) (H' : Hp), N σ' H' → ∃ m', m' < m ∧ W (i + 1) m' σ' H') ∧ ∀ (x : V) (H' : Hp), J.yld i H x H' → g x σ H' fun σ2 H2 => tb { nx := N, rt := D.rt, bk := D.nx, ct := N } σ2 H2)
theorem for_seqA {K : PySem.W.Frag} {a : Addr} {xs : List V} {g : TG} {tb : TS} {D : Ends} {σ : L2.St} {Hb H : Hp} (h : SeqA K Hb a xs) (hb : Same Hb H) (Pv : Nat → L2.St → Hp → Prop) (h0 : Pv 0 σ H)
    (hs : ∀ (i : Nat) (σ : L2.St) (H' : Hp), i ≤ xs.length → Pv i σ H' → Same Hb H')
    (step : ∀ (i : Nat) (x : V) (σ : L2.St) (H' : Hp), xs[i]? = some x → Pv i σ H' → g x σ H' fun σ2 H2 => tb { nx := Pv (i + 1), rt := D.rt, bk := D.nx, ct := Pv (i + 1) } σ2 H2)
    (fin : ∀ (σ : L2.St) (H' : Hp), Pv xs.length σ H' → D.nx σ H') : ((∃ xs, SqL K H a xs) ∧ ForR g tb D σ (Itl K a) H) ∨ ((∃ xs, SqT K H a xs) ∧ ForR g tb D σ (Itt K a) H) := by
  rcases h with h | h
  · exact .inl ⟨⟨xs, same_sqL hb h⟩, for_it (walk_list (xs := xs)) Pv h0 (fun i σ H' hi p => same_sqL (hs i σ H' hi p) h) (fun i x σ H1 H2 hi p y => by obtain ⟨rfl, y⟩ := y; exact step i x σ _ y p) fin⟩
  · exact .inr ⟨⟨xs, same_sqT hb h⟩, for_it (walk_tup (xs := xs)) Pv h0 (fun i σ H' hi p => same_sqT (hs i σ H' hi p) h) (fun i x σ H1 H2 hi p y => by obtain ⟨rfl, y⟩ := y; exact step i x σ _ y p) fin⟩
theorem for_revA {K : PySem.W.Frag} {a : Addr} {xs : List V} {g : TG} {tb : TS} {D : Ends} {σ : L2.St} {Hb H : Hp} (h : SeqA K Hb a xs) (hb : Same Hb H) (Pv : Nat → L2.St → Hp → Prop) (h0 : Pv 0 σ H)
    (hs : ∀ (i : Nat) (σ : L2.St) (H' : Hp), i ≤ xs.length → Pv i σ H' → Same Hb H')
    (step : ∀ (i : Nat) (x : V) (σ : L2.St) (H' : Hp), i < xs.length → xs[xs.length - 1 - i]? = some x → Pv i σ H' → g x σ H' fun σ2 H2 => tb { nx := Pv (i + 1), rt := D.rt, bk := D.nx, ct := Pv (i + 1) } σ2 H2)
    (fin : ∀ (σ : L2.St) (H' : Hp), Pv xs.length σ H' → D.nx σ H') : (SqL K H a xs ∧ ForR g tb D σ (Itv K a xs.length) H) ∨ (SqT K H a xs ∧ ForR g tb D σ (RT.ItvT K a xs.length) H) := by
  rcases h with h | h
  · exact .inl ⟨same_sqL hb h, for_it (walk_rev (xs := xs)) Pv h0 (fun i σ H' hi p => same_sqL (hs i σ H' hi p) h) (fun i x σ H1 H2 hi p y => by obtain ⟨rfl, y⟩ := y; exact step i x σ _ hi y p) fin⟩
  · exact .inr ⟨same_sqT hb h, for_it (walk_revT (xs := xs)) Pv h0 (fun i σ H' hi p => same_sqT (hs i σ H' hi p) h) (fun i x σ H1 H2 hi p y => by obtain ⟨rfl, y⟩ := y; exact step i x σ _ hi y p) fin⟩
theorem walk_zipT2 {K : PySem.W.Frag} {a b : Addr} {xs ys : List V} {n : Nat} (hn : n = min xs.length ys.length) : Walk (RZ.ItzT K a b) n (fun H => SqT K H a xs ∧ SqT K H b ys) (YPair (fun i => xs[i]?) (fun i => ys[i]?)) := by
  subst hn
  refine ⟨fun i H hi h => ?_, fun H h => ⟨xs, ys, h.1, h.2, by omega⟩, fun i H v H' hi h y => ?_⟩
  · have l1 : i < xs.length := by omega
    have l2 : i < ys.length := by omega
    exact ⟨xs, ys, xs[i], ys[i], h.1, h.2, List.getElem?_eq_getElem l1, List.getElem?_eq_getElem l2⟩
  · obtain ⟨T, x, z, rfl, hT, rfl, f1, f2⟩ := y
    exact ⟨T, x, z, rfl, hT, rfl, f1 xs h.1, f2 ys h.2⟩
end Rp
/-! Zm: zip of two rows, each a tuple or a list. -/
namespace RZM
open PySem PySem.Spec PyProof.Rows L2
/-- what a side is -/
inductive Sd | tup | lst
def Sd.sq : Sd → Heap → Addr → Array Value → Prop
  | .tup, g, l, vs => g.IsTuple l vs
  | .lst, g, l, vs => g.IsList l vs
def Sd.it : Sd → Heap → Addr → Addr → Nat → Prop
  | .tup, g, t, l, k => g.IsTupleIter t l k
  | .lst, g, t, l, k => g.IsListIter t l k
def Sd.SqV : Sd → PySem.W.Frag → Hp → Addr → List V → Prop
  | .tup => SqT
  | .lst => SqL
def Sd.nm : Sd → String
  | .tup => "tuple_iterator"
  | .lst => "list_iterator"
section
variable {d : Sd} {g g' : Heap} {t l b : Addr} {k : Nat} {vs : Array Value}
theorem Sd.sq_ext (x : d.sq g l vs) (e : Heap.ExtBut b g g') (n : l ≠ b) : d.sq g' l vs := by
  cases d
  · exact Heap.IsTuple.extBut x e n
  · exact Heap.IsList.extBut x e n
theorem Sd.it_ext (x : d.it g t l k) (e : Heap.ExtBut b g g') (n : t ≠ b) : d.it g' t l k := by
  cases d
  · exact Heap.IsTupleIter.extBut x e n
  · exact Heap.IsListIter.extBut x e n
theorem Sd.it_at (x : d.it g t l k) (e : ∀ o, g.get? t = some o → g'.get? t = some o) : d.it g' t l k := by
  cases d
  · exact Heap.IsTupleIter.at x e
  · exact Heap.IsListIter.at x e
theorem Sd.it_obj (x : d.it g t l k) : ∃ o, g.get? t = some o ∧ ∀ v, o.data ≠ .cell v := by
  cases d <;> (obtain ⟨o, e, _, q⟩ := x; exact ⟨o, e, fun v z => by rw [q] at z; cases z⟩)
theorem Sd.it_lt (x : d.it g t l k) : t < g.objs.size := by
  obtain ⟨o, e, _⟩ := Sd.it_obj x
  exact Heap.lt_size e
theorem Sd.sq_lt (x : d.sq g l vs) : l < g.objs.size := by
  cases d <;> (obtain ⟨o, e, _⟩ := x; exact Heap.lt_size e)
theorem Sd.sq_push (x : d.sq g l vs) (o : Obj) : d.sq (g.push o) l vs := by
  cases d
  · exact Heap.IsTuple.push x o
  · obtain ⟨u, e, q⟩ := x
    exact ⟨u, Heap.get?_push_of_some _ e, q⟩
end
section
variable {prog : Program} {w : World} {A : Around} {E : Value → Shared → Prop} {s : Shared} {d c : Sd}
theorem nx_item {t l : Addr} {k : Nat} {vs : Array Value} {v : Value} {Q : Value → Shared → Prop} (a1 : d.it s.heap t l k) (a2 : d.sq s.heap l vs) (a3 : vs[k]? = some v)
    (q : ∀ g, d.it g t l (k + 1) → Heap.SameBut t s.heap g → Q v { s with heap := g }) : wpAny (model prog w) A (Builtin.SmallTypes.nextOf (.ref t)) Q E s := by
  cases d
  · exact RZ.nextOf_tuple_item a1 a2 a3 q
  · exact wpAny_nextOf_list_item a1 a2 a3 q
theorem nx_end {t l : Addr} {k : Nat} {vs : Array Value} {Q : Value → Shared → Prop} (a0 : A.handled = none) (a1 : d.it s.heap t l k) (a2 : d.sq s.heap l vs) (a3 : vs[k]? = none)
    (q : ∀ g e, Heap.ExtBut t s.heap g → (∃ o, g.get? e = some o ∧ o.cls = .type "StopIteration") → E (.ref e) { s with heap := g }) : wpAny (model prog w) A (Builtin.SmallTypes.nextOf (.ref t)) Q E s := by
  cases d
  · exact RZ.nextOf_tuple_end a0 a1 a2 a3 q
  · exact wpAny_nextOf_list_end a0 a1 a2 a3 q
/-- the next pair -/
theorem zm_item {z P R t u l m : Addr} {k1 k2 : Nat} {vs ws : Array Value} {v w' p0 r0 : Value} {Q : Value → Shared → Prop} (D : ZipApart z P R t u l m) (az : IsZip s.heap z P R .none) (aP : IsPair s.heap P (.ref t) (.ref u)) (aR : IsPair s.heap R p0 r0)
    (b1 : d.it s.heap t l k1) (b2 : c.it s.heap u m k2) (c1 : d.sq s.heap l vs) (c2 : c.sq s.heap m ws) (e1 : vs[k1]? = some v) (e2 : ws[k2]? = some w')
    (q : ∀ g, IsZip g z P R (rawInt s.heap.objs.size) → IsPair g R v w' → d.it g t l (k1 + 1) → c.it g u m (k2 + 1) → IsPair g s.heap.objs.size v w' → g.objs.size = s.heap.objs.size + 1 → (∀ x o, x ≠ z → x ≠ R → x ≠ t → x ≠ u → s.heap.get? x = some o → g.get? x = some o) → Q (.ref s.heap.objs.size) { s with heap := g }) :
    wpAny (model prog w) A (Builtin.«zip.__next__» ⟨[.ref z], []⟩) (fun fin s' => ∃ v, fin = .done (.ret v) ∧ Q v s') E s := by
  show wpAny _ _ (field (.ref z) 2 >>= _) _ _ _; refine wpAny_bind (wpAny_field az rfl (x := .bool false) rfl ?_)
  show wpAny _ _ (field (.ref z) 3 >>= _) _ _ _; refine wpAny_bind (wpAny_field az rfl (x := .ref P) rfl ?_)
  refine wpAny_bind (wpAny_seqItems aP rfl ?_)
  show wpAny _ _ (Builtin.SmallTypes.ownedTupleIsFree (.ref z) >>= _) _ _ _; refine wpAny_bind ?_; unfold Builtin.SmallTypes.ownedTupleIsFree
  refine wpAny_bind (wpAny_field az rfl (x := .none) rfl (wpAny_pure ?_)); simp only [if_true]; refine wpAny_bind (wpAny_rule ?_)
  refine wpAny_bind (wpAny_field az rfl (x := .ref R) rfl ?_)
  refine wpAny_bind (wpAny_setField_rec az (by simp) fun g1 z1 n1 => ?_)
  have Z1 : IsZip g1 z P R .ellipsis := z1
  refine wpAny_bind ?_; simp only [List.zipIdx_cons, List.zipIdx_nil, List.forIn_cons, List.forIn_nil]
  -- the first side
  refine wpAny_bind (wpAny_bind (wpAny_onRaise ?_)); show wpAny _ _ (Builtin.SmallTypes.nextOf (.ref t) >>= _) _ _ _
  refine wpAny_bind (nx_item (d.it_ext b1 n1.extBut D.i1z) (d.sq_ext c1 n1.extBut D.l1z) e1 fun g2 t2 n2 => wpAny_pure ?_)
  have R2 : IsPair g2 R p0 r0 := n2.extBut _ _ D.TOi1 (n1.extBut _ _ D.TOz aR)
  refine wpAny_bind (wpAny_seqItems R2 rfl ?_)
  refine wpAny_bind (wpAny_updateSeq_pair R2 fun g3 r3 n3 => ?_)
  have R3 : IsPair g3 R v r0 := r3
  refine wpAny_bind (wpAny_letGo (wpAny_pure ?_))
  -- the second side
  refine wpAny_bind (wpAny_bind (wpAny_onRaise ?_)); show wpAny _ _ (Builtin.SmallTypes.nextOf (.ref u) >>= _) _ _ _
  refine wpAny_bind (nx_item (c.it_ext (c.it_ext (c.it_ext b2 n1.extBut D.i2z) n2.extBut D.i12.symm) n3.extBut D.TOi2.symm) (c.sq_ext (c.sq_ext (c.sq_ext c2 n1.extBut D.l2z) n2.extBut D.l2i1) n3.extBut D.l2TO) e2 fun g4 u4 n4 => wpAny_pure ?_)
  have R4 : IsPair g4 R v r0 := n4.extBut _ _ D.TOi2 R3
  refine wpAny_bind (wpAny_seqItems R4 rfl ?_)
  refine wpAny_bind (wpAny_updateSeq_pair R4 fun g5 r5 n5 => ?_)
  have R5 : IsPair g5 R v w' := r5
  refine wpAny_bind (wpAny_letGo (wpAny_pure (wpAny_pure ?_)))
  -- the pair is handed out
  refine wpAny_bind (wpAny_seqItems R5 rfl ?_)
  refine wpAny_bind (wpAny_newTuple ?_)
  have sz : g5.objs.size = s.heap.objs.size := by rw [n5.1, n4.1, n3.1, n2.1, n1.1]
  have Z5 : IsZip g5 z P R .ellipsis := n5.extBut _ _ D.TOz.symm (n4.extBut _ _ D.i2z.symm (n3.extBut _ _ D.TOz.symm (n2.extBut _ _ D.i1z.symm Z1)))
  have K5 : ∀ x o, x ≠ z → x ≠ R → x ≠ t → x ≠ u → s.heap.get? x = some o → g5.get? x = some o := fun x o x1 x2 x3 x4 e => n5.extBut _ _ x2 (n4.extBut _ _ x4 (n3.extBut _ _ x2 (n2.extBut _ _ x3 (n1.extBut _ _ x1 e))))
  have T5 : d.it g5 t l (k1 + 1) := d.it_ext (d.it_ext (d.it_ext t2 n3.extBut D.TOi1.symm) n4.extBut D.i12) n5.extBut D.TOi1.symm
  have U5 : c.it g5 u m (k2 + 1) := c.it_ext u4 n5.extBut D.TOi2.symm
  have ltz : z < g5.objs.size := Heap.lt_size Z5
  show wpAny _ _ (Builtin.SmallTypes.ownedTupleHandOut (.ref z) (.ref g5.objs.size) >>= _) _ _ _; refine wpAny_bind ?_; unfold Builtin.SmallTypes.ownedTupleHandOut
  have Z6 : IsZip (g5.push { cls := .type "tuple", data := .seq #[v, w'] }) z P R .ellipsis := Heap.get?_push_of_some _ Z5
  refine wpAny_bind (wpAny_setField_rec Z6 (by simp) fun g7 z7 n7 => ?_)
  have Z7 : IsZip g7 z P R (rawInt g5.objs.size) := z7
  refine wpAny_setField_rec Z7 (by simp) fun g8 z8 n8 => ?_
  have Z8 : IsZip g8 z P R (rawInt g5.objs.size) := z8
  have on : ∀ x o, x ≠ z → g5.get? x = some o → g8.get? x = some o := fun x o x1 e => n8.extBut _ _ x1 (n7.extBut _ _ x1 (Heap.get?_push_of_some _ e))
  have T8 : IsPair g8 g5.objs.size v w' := n8.extBut _ _ (Nat.ne_of_gt ltz) (n7.extBut _ _ (Nat.ne_of_gt ltz) (Heap.get?_push_size _ rfl))
  have S8 : g8.objs.size = g5.objs.size + 1 := by rw [n8.1, n7.1, Heap.size_push]
  rw [sz] at Z8 T8 S8
  refine wpAny_pure ⟨_, rfl, ?_⟩
  show Q (.ref g5.objs.size) _; rw [sz]
  exact q g8 Z8 (on _ _ D.TOz R5) (d.it_at T5 fun o e => on _ o D.i1z e) (c.it_at U5 fun o e => on _ o D.i2z e) T8 S8 fun x o x1 x2 x3 x4 e => on x o x1 (K5 x o x1 x2 x3 x4 e)
/-- the end of either -/
theorem zm_end {z P R t u l m : Addr} {k1 k2 : Nat} {vs ws : Array Value} {p0 r0 : Value} {Q : Fin → Shared → Prop} (a0 : A.handled = none) (D : ZipApart z P R t u l m) (az : IsZip s.heap z P R .none) (aP : IsPair s.heap P (.ref t) (.ref u)) (aR : IsPair s.heap R p0 r0)
    (b1 : d.it s.heap t l k1) (b2 : c.it s.heap u m k2) (c1 : d.sq s.heap l vs) (c2 : c.sq s.heap m ws) (e : vs[k1]? = none ∨ ws[k2]? = none)
    (q : ∀ g x, (∀ y o, y ≠ z → y ≠ R → y ≠ t → y ≠ u → s.heap.get? y = some o → g.get? y = some o) → (∃ o, g.get? x = some o ∧ o.cls = .type "StopIteration") → E (.ref x) { s with heap := g }) : wpAny (model prog w) A (Builtin.«zip.__next__» ⟨[.ref z], []⟩) Q E s := by
  show wpAny _ _ (field (.ref z) 2 >>= _) _ _ _; refine wpAny_bind (wpAny_field az rfl (x := .bool false) rfl ?_)
  show wpAny _ _ (field (.ref z) 3 >>= _) _ _ _; refine wpAny_bind (wpAny_field az rfl (x := .ref P) rfl ?_)
  refine wpAny_bind (wpAny_seqItems aP rfl ?_)
  show wpAny _ _ (Builtin.SmallTypes.ownedTupleIsFree (.ref z) >>= _) _ _ _; refine wpAny_bind ?_; unfold Builtin.SmallTypes.ownedTupleIsFree
  refine wpAny_bind (wpAny_field az rfl (x := .none) rfl (wpAny_pure ?_)); simp only [if_true]; refine wpAny_bind (wpAny_rule ?_)
  refine wpAny_bind (wpAny_field az rfl (x := .ref R) rfl ?_)
  refine wpAny_bind (wpAny_setField_rec az (by simp) fun g1 z1 n1 => ?_)
  have Z1 : IsZip g1 z P R .ellipsis := z1
  refine wpAny_bind ?_; simp only [List.zipIdx_cons, List.zipIdx_nil, List.forIn_cons, List.forIn_nil]
  refine wpAny_bind (wpAny_bind (wpAny_onRaise ?_)); show wpAny _ _ (Builtin.SmallTypes.nextOf (.ref t) >>= _) _ _ _
  cases ev : vs[k1]? with
  | none =>
    refine wpAny_bind (nx_end a0 (d.it_ext b1 n1.extBut D.i1z) (d.sq_ext c1 n1.extBut D.l1z) ev fun g2 x n2 ⟨ox, hx, cx⟩ => ?_)
    have Z2 : IsZip g2 z P R .ellipsis := n2 _ _ D.i1z.symm Z1
    have xz : x ≠ z := fun y => by subst y; rw [Z2] at hx; cases hx; simp at cx
    refine wpAny_setField_rec Z2 (by simp) fun g3 _ n3 => q g3 x (fun y o y1 _ y3 _ f => n3.extBut _ _ y1 (n2 _ _ y3 (n1.extBut _ _ y1 f))) ⟨ox, n3.extBut _ _ xz hx, cx⟩
  | some v =>
    have ew : ws[k2]? = none := e.resolve_left (by rw [ev]; simp)
    refine wpAny_bind (nx_item (d.it_ext b1 n1.extBut D.i1z) (d.sq_ext c1 n1.extBut D.l1z) ev fun g2 t2 n2 => wpAny_pure ?_)
    have R2 : IsPair g2 R p0 r0 := n2.extBut _ _ D.TOi1 (n1.extBut _ _ D.TOz aR)
    refine wpAny_bind (wpAny_seqItems R2 rfl ?_)
    refine wpAny_bind (wpAny_updateSeq_pair R2 fun g3 r3 n3 => ?_)
    refine wpAny_bind (wpAny_letGo (wpAny_pure ?_))
    refine wpAny_bind (wpAny_bind (wpAny_onRaise ?_)); show wpAny _ _ (Builtin.SmallTypes.nextOf (.ref u) >>= _) _ _ _
    refine wpAny_bind (nx_end a0 (c.it_ext (c.it_ext (c.it_ext b2 n1.extBut D.i2z) n2.extBut D.i12.symm) n3.extBut D.TOi2.symm) (c.sq_ext (c.sq_ext (c.sq_ext c2 n1.extBut D.l2z) n2.extBut D.l2i1) n3.extBut D.l2TO) ew fun g4 x n4 ⟨ox, hx, cx⟩ => ?_)
    have Z4 : IsZip g4 z P R .ellipsis := n4 _ _ D.i2z.symm (n3.extBut _ _ D.TOz.symm (n2.extBut _ _ D.i1z.symm Z1))
    have xz : x ≠ z := fun y => by subst y; rw [Z4] at hx; cases hx; simp at cx
    refine wpAny_setField_rec Z4 (by simp) fun g5 _ n5 => q g5 x (fun y o y1 y2 y3 y4 f => n5.extBut _ _ y1 (n4 _ _ y4 (n3.extBut _ _ y2 (n2.extBut _ _ y3 (n1.extBut _ _ y1 f))))) ⟨ox, n5.extBut _ _ xz hx, cx⟩
theorem nx_zm {z P R t u l m : Addr} {k1 k2 : Nat} {vs ws : Array Value} {v w' p0 r0 : Value} {Q : Option Value → Shared → Prop} (D : ZipApart z P R t u l m) (az : IsZip s.heap z P R .none) (aP : IsPair s.heap P (.ref t) (.ref u)) (aR : IsPair s.heap R p0 r0)
    (b1 : d.it s.heap t l k1) (b2 : c.it s.heap u m k2) (c1 : d.sq s.heap l vs) (c2 : c.sq s.heap m ws) (e1 : vs[k1]? = some v) (e2 : ws[k2]? = some w')
    (q : ∀ g, IsZip g z P R (rawInt s.heap.objs.size) → IsPair g R v w' → d.it g t l (k1 + 1) → c.it g u m (k2 + 1) → IsPair g s.heap.objs.size v w' → g.objs.size = s.heap.objs.size + 1 → (∀ x o, x ≠ z → x ≠ R → x ≠ t → x ≠ u → s.heap.get? x = some o → g.get? x = some o) → Q (some (.ref s.heap.objs.size)) { s with heap := g }) :
    wpAny (model prog w) A (pyNext (.ref z)) Q E s := by
  have ty : s.TypeIs (.ref z) "zip" := ⟨_, az, rfl⟩
  unfold pyNext
  exact wpAny_bind (wpAny_attempt (wpAny_callSpecial?_slot (name := Str.ofString "__next__") ty F.slot_zip_next (wpAny_call_entry F.slot_zip_next ty F.entry_zip_next (zm_item D az aP aR b1 b2 c1 c2 e1 e2 fun g q1 q2 q3 q4 q5 q6 q7 => wpAny_pure (q g q1 q2 q3 q4 q5 q6 q7)) (F.args_zip_next_1 _))))
theorem nx_zmE {z P R t u l m : Addr} {k1 k2 : Nat} {vs ws : Array Value} {p0 r0 : Value} {Q : Option Value → Shared → Prop} (a0 : A.handled = none) (D : ZipApart z P R t u l m) (az : IsZip s.heap z P R .none) (aP : IsPair s.heap P (.ref t) (.ref u)) (aR : IsPair s.heap R p0 r0)
    (b1 : d.it s.heap t l k1) (b2 : c.it s.heap u m k2) (c1 : d.sq s.heap l vs) (c2 : c.sq s.heap m ws) (e : vs[k1]? = none ∨ ws[k2]? = none)
    (q : ∀ g, (∀ y o, y ≠ z → y ≠ R → y ≠ t → y ≠ u → s.heap.get? y = some o → g.get? y = some o) → Q none { s with heap := g }) : wpAny (model prog w) A (pyNext (.ref z)) Q E s := by
  have ty : s.TypeIs (.ref z) "zip" := ⟨_, az, rfl⟩
  unfold pyNext
  refine wpAny_bind (wpAny_attempt (wpAny_callSpecial?_slot (name := Str.ofString "__next__") ty F.slot_zip_next (wpAny_call_entry F.slot_zip_next ty F.entry_zip_next (zm_end a0 D az aP aR b1 b2 c1 c2 e fun g x kp ⟨o, ho, ho2⟩ => ?_) (F.args_zip_next_1 _))))
  exact wpAny_bind (wpAny_isInstance (T := "StopIteration") (b := true) ⟨o, ho, ho2⟩ isSubtype_stop (wpAny_pure (q _ kp)))
/-- a side is walked: its iterator is laid -/
theorem it_new {l : Addr} {vs : Array Value} {Q : Value → Shared → Prop} (a : d.sq s.heap l vs) (q : Q (.ref s.heap.objs.size) { s with heap := s.heap.push { cls := .type d.nm, data := .fields #[.ref l, .int 0 0] } }) : wpAny (model prog w) A (pyIter (.ref l)) Q E s := by
  cases d
  · exact wpAny_pyIter_tuple a q
  · exact wpAny_pyIter_list a q
theorem it_laid {g : Heap} {l t : Addr} (e : g.get? t = some { cls := .type d.nm, data := .fields #[.ref l, .int 0 0] }) : d.it g t l 0 := by
  cases d <;> exact ⟨_, e, rfl, rfl⟩
end
/-- the heap behind zip(l, m) -/
abbrev zh1 (d : Sd) (g : Heap) (l : Addr) : Heap := g.push { cls := .type d.nm, data := .fields #[.ref l, .int 0 0] }
abbrev zh2 (d c : Sd) (g : Heap) (l m : Addr) : Heap := (zh1 d g l).push { cls := .type c.nm, data := .fields #[.ref m, .int 0 0] }
abbrev zh3 (d c : Sd) (g : Heap) (l m : Addr) : Heap := (zh2 d c g l m).push { cls := .type "tuple", data := .seq #[.ref g.objs.size, .ref (zh1 d g l).objs.size] }
abbrev zh4 (d c : Sd) (g : Heap) (l m : Addr) : Heap := (zh3 d c g l m).push { cls := .type "tuple", data := .seq #[.none, .none] }
abbrev zh5 (d c : Sd) (g : Heap) (l m : Addr) : Heap := (zh4 d c g l m).push { cls := .type "zip", data := .fields #[.none, .bool false, .bool false, .ref (zh2 d c g l m).objs.size, .ref (zh3 d c g l m).objs.size] }
theorem zm_new (l m : Addr) (vs ws : Array Value) : Meets (Builtin.«zip.__new__» ⟨[.type "zip", .ref l, .ref m], []⟩) (fun _ R s => s.heap.IsTuple l vs ∧ s.heap.IsList m ws ∧ R (.ok (.ret (.ref (zh4 .tup .lst s.heap l m).objs.size))) { s with heap := zh5 .tup .lst s.heap l m }) :=
  .of_wp fun prog w A R s h => by
    obtain ⟨gg, ga, dr, tk, os⟩ := s
    obtain ⟨x1, x2, h⟩ := h
    have hsub := sub_zip
    have y1 : Heap.IsTuple (Shared.heap ⟨gg, ga, dr, tk, os⟩) l vs := x1
    have y2 : Heap.IsList (Shared.heap ⟨gg.push { cls := .type "tuple_iterator", data := .fields #[.ref l, .int 0 0] }, ga, dr, tk, os⟩) m ws := Sd.sq_push (d := .lst) x2 _
    wp_walk using wpAny_pyIter_tuple y1, wpAny_pyIter_list y2
    exact ⟨_, rfl, h⟩
section
variable {prog : Program} {w : World} {A : Around} {E : Value → Shared → Prop} {s : Shared}
theorem call_zm {l m : Addr} {vs ws : Array Value} {Q : Value → Shared → Prop} (x1 : s.heap.IsTuple l vs) (x2 : s.heap.IsList m ws)
    (q : ∀ g, IsZip g (s.heap.objs.size + 4) (s.heap.objs.size + 2) (s.heap.objs.size + 3) .none → IsPair g (s.heap.objs.size + 2) (.ref s.heap.objs.size) (.ref (s.heap.objs.size + 1)) → IsPair g (s.heap.objs.size + 3) .none .none →
      Sd.it .tup g s.heap.objs.size l 0 → Sd.it .lst g (s.heap.objs.size + 1) m 0 → (∀ x o, s.heap.get? x = some o → g.get? x = some o) → Q (.ref (s.heap.objs.size + 4)) { s with heap := g }) : wpAny (model prog w) A (call (.type "zip") [.ref l, .ref m]) Q E s := by
  refine callType_new F.called_zip (by decide) (F.typeCall_zip_2 _ _) (F.newCall_zip_2 _ _) (fun obj => F.args_object_init_3 obj _ _) F.entry_zip_new (zm_new l m vs ws) ⟨x1, x2, ?_⟩
  have s1 : (zh1 .tup s.heap l).objs.size = s.heap.objs.size + 1 := Heap.size_push _ _
  have s2 : (zh2 .tup .lst s.heap l m).objs.size = s.heap.objs.size + 2 := by rw [Heap.size_push, s1]
  have s3 : (zh3 .tup .lst s.heap l m).objs.size = s.heap.objs.size + 3 := by rw [Heap.size_push, s2]
  have s4 : (zh4 .tup .lst s.heap l m).objs.size = s.heap.objs.size + 4 := by rw [Heap.size_push, s3]
  have f5 : (zh5 .tup .lst s.heap l m).get? (zh4 .tup .lst s.heap l m).objs.size = some _ := Heap.get?_push_size _ rfl
  have f4 : (zh5 .tup .lst s.heap l m).get? (zh3 .tup .lst s.heap l m).objs.size = some _ := Heap.get?_push_of_some _ (Heap.get?_push_size _ rfl)
  have f3 : (zh5 .tup .lst s.heap l m).get? (zh2 .tup .lst s.heap l m).objs.size = some _ := Heap.get?_push_of_some _ (Heap.get?_push_of_some _ (Heap.get?_push_size _ rfl))
  have f2 : (zh5 .tup .lst s.heap l m).get? (zh1 .tup s.heap l).objs.size = some _ := Heap.get?_push_of_some _ (Heap.get?_push_of_some _ (Heap.get?_push_of_some _ (Heap.get?_push_size _ rfl)))
  have f1 : (zh5 .tup .lst s.heap l m).get? s.heap.objs.size = some _ := Heap.get?_push_of_some _ (Heap.get?_push_of_some _ (Heap.get?_push_of_some _ (Heap.get?_push_of_some _ (Heap.get?_push_size _ rfl))))
  show _ ∧ _
  rw [s2, s3, s4] at f5
  rw [s1, s2] at f3
  rw [s3] at f4
  rw [s1] at f2
  rw [s4]
  exact ⟨⟨_, f5, rfl⟩, q _ f5 f3 f4 (it_laid (d := .tup) f1) (it_laid (d := .lst) f2) fun x o e => Heap.get?_push_of_some _ (Heap.get?_push_of_some _ (Heap.get?_push_of_some _ (Heap.get?_push_of_some _ (Heap.get?_push_of_some _ e))))⟩
end
/-- the rows at a and b as they stand at each turn, the items in new pairs -/
def ItzM (d c : Sd) (K : PySem.W.Frag) (a b : Addr) : It :=
  ⟨fun i H => ∃ (xs ys : List V) (x y : V), d.SqV K H a xs ∧ c.SqV K H b ys ∧ xs[i]? = some x ∧ ys[i]? = some y,
    fun i H v H' => ∃ t x y, v = .ref t ∧ H t = none ∧ H' = upd H t (.tup [x, y]) ∧ (∀ xs, d.SqV K H a xs → xs[i]? = some x) ∧ ∀ ys, c.SqV K H b ys → ys[i]? = some y,
    fun i H => ∃ xs ys : List V, d.SqV K H a xs ∧ c.SqV K H b ys ∧ (xs.length ≤ i ∨ ys.length ≤ i)⟩
theorem sqv_get {X : Cx} {pins : List (Addr × Obj)} {σ : L2.St} {H : Hp} {s : Shared} {d : Sd} {a : Addr} {xs : List V} (I : L2.Inv X pins σ H s) (h : d.SqV X.K H a xs) : ∃ its : List Value, Vals xs its ∧ d.sq s.heap a its.toArray := by
  cases d
  · obtain ⟨its, rv, p, _⟩ := I.tuple h
    exact ⟨its, rv, p⟩
  · obtain ⟨its, rv, p, _⟩ := I.list h
    exact ⟨its, rv, p.isList⟩
theorem sqv_inj {X : Cx} {pins : List (Addr × Obj)} {σ : L2.St} {H : Hp} {s : Shared} {d : Sd} {a : Addr} {xs ys : List V} (I : L2.Inv X pins σ H s) (h : d.SqV X.K H a xs) (k : d.SqV X.K H a ys) : xs = ys := by
  cases d
  · exact I.tuple_inj h k
  · exact I.list_inj h k
theorem turn_zm {P : Program} {w : World} {K : PySem.W.Frag} {elts : List Expr} {kk : Nat} {tpos : Pos} {d c : Sd} {a b z p r t u : Addr} (D : ZipApart z p r t u a b) :
    Turn P w K (.Tuple elts kk tpos) (ItzM d c K a b) [z, p, r, t, u] z (fun i g => IsZip g z p r .none ∧ IsPair g p (.ref t) (.ref u) ∧ (∃ x y, IsPair g r x y) ∧ d.it g t a i ∧ c.it g u b i) where
  mem := by simp
  obj := fun i g ⟨az, ap, ⟨x, y, ar⟩, b1, b2⟩ k hk => by
    simp only [List.mem_cons, List.not_mem_nil, or_false] at hk
    rcases hk with rfl | rfl | rfl | rfl | rfl
    · exact ⟨_, az, fun v q => nomatch q⟩
    · exact ⟨_, ap, fun v q => nomatch q⟩
    · exact ⟨_, ar, fun v q => nomatch q⟩
    · exact d.it_obj b1
    · exact c.it_obj b2
  keep := fun i g g' ⟨az, ap, ⟨x, y, ar⟩, b1, b2⟩ k => ⟨k z (by simp) _ az, k p (by simp) _ ap, ⟨x, y, k r (by simp) _ ar⟩, d.it_at b1 fun o q => k t (by simp) o q, c.it_at b2 fun o q => k u (by simp) o q⟩
  item := by
    intro X hP hw hK hc i pins s σ H E I fr st go
    subst hP hw hK
    obtain ⟨az, ap, ⟨x0, y0, ar⟩, b1, b2⟩ := st
    obtain ⟨xs, ys, x, y, qx, qy, gx, gy⟩ := go
    obtain ⟨is1, v1, p1⟩ := sqv_get I qx
    obtain ⟨is2, v2, p2⟩ := sqv_get I qy
    obtain ⟨m1, n1, r1⟩ := v1.get gx
    obtain ⟨m2, n2, r2⟩ := v2.get gy
    have lz : z < s.heap.objs.size := Heap.lt_size az
    refine nx_zm D az ap ar b1 b2 p1 p2 (v := m1) (w' := m2) (by simpa using n1) (by simpa using n2) fun g z' r' t' u' pp sz kp => ?_
    refine ⟨_, rfl, wpAny_letOwnedTupleGo_zip (s := { s with heap := g }) z' fun g2 z2 sb => ?_⟩
    have pp2 : g2.get? s.heap.objs.size = some { cls := .type "tuple", data := .seq #[m1, m2] } := (sb.2 _ (Nat.ne_of_gt lz)).trans pp
    have nw : ObjOk X.prog X.w (upd H s.heap.objs.size (.tup [x, y])) g2 s.heap.objs.size (.tup [x, y]) := ⟨by show 2 ≤ sizeLine; decide, [m1, m2], .cons r1 (.cons r2 .nil), ⟨_, pp2, rfl, _, rfl⟩⟩
    have I1 : L2.Inv X pins σ (upd H s.heap.objs.size (.tup [x, y])) { s with heap := g2 } :=
      I.turnedNew (t' := s.toks) (ch := [z, p, r, t, u]) (fun k o hb q => (sb.2 k (fun y => hb (by simp [y]))).trans (kp k o (fun y => hb (by simp [y])) (fun y => hb (by simp [y])) (fun y => hb (by simp [y])) (fun y => hb (by simp [y])) q)) fr (Nat.le_refl _) nw
    refine ⟨.ref s.heap.objs.size, _, I1, rfl, ⟨_, x, y, rfl, I.hok.fresh (Nat.le_refl _), rfl, fun l hl => by rw [sqv_inj I hl qx]; exact gx, fun l hl => by rw [sqv_inj I hl qy]; exact gy⟩, ⟨z2, ?_, ⟨m1, m2, ?_⟩, ?_, ?_⟩, fun k hk => ?_⟩
    · exact (sb.2 _ D.TIz).trans (kp _ _ D.TIz D.TITO D.TIi1 D.TIi2 ap)
    · exact (sb.2 _ D.TOz).trans r'
    · exact d.it_at t' fun o q => (sb.2 _ D.i1z).trans q
    · exact c.it_at u' fun o q => (sb.2 _ D.i2z).trans q
    · have kl : k < s.heap.objs.size := by
        simp only [List.mem_cons, List.not_mem_nil, or_false] at hk
        rcases hk with rfl | rfl | rfl | rfl | rfl
        · exact lz
        · exact Heap.lt_size ap
        · exact Heap.lt_size ar
        · exact d.it_lt b1
        · exact c.it_lt b2
      rw [upd_ne (Nat.ne_of_lt kl)]
      exact (fr k hk).1
  done := by
    intro X hP hw hK hc i pins s σ H E I fr st go
    subst hP hw hK
    obtain ⟨az, ap, ⟨x0, y0, ar⟩, b1, b2⟩ := st
    obtain ⟨xs, ys, qx, qy, en⟩ := go
    obtain ⟨is1, v1, p1⟩ := sqv_get I qx
    obtain ⟨is2, v2, p2⟩ := sqv_get I qy
    have l1 := v1.length
    have l2 := v2.length
    have e : is1.toArray[i]? = none ∨ is2.toArray[i]? = none := en.imp (fun q => by simp; omega) fun q => by simp; omega
    exact nx_zmE (I.ok.hd hc) D az ap ar b1 b2 p1 p2 e fun g kp => ⟨rfl, I.turnedL (t' := s.toks) (ch := [z, p, r, t, u]) (fun k o hb q => kp k o (fun y => hb (by simp [y])) (fun y => hb (by simp [y])) (fun y => hb (by simp [y])) (fun y => hb (by simp [y])) q) fr⟩
  self := fun A i s Q E st h => wpAny_pyIter_zip st.1 h
def iZipM (K : PySem.W.Frag) (ta : TA) : TI := fun σ H R => ta σ H fun vs H1 => ∃ a b xs ys, vs = [.ref a, .ref b] ∧ SqT K H1 a xs ∧ SqL K H1 b ys ∧ R (ItzM .tup .lst K a b) H1
theorem pi_zipM {X : Cx} {e e2 : Expr} {ta : TA} {p pos tpos : Pos} {elts : List Expr} {kk : Nat} (hg : Gl X "zip") (hm : X.mg "zip" = none) (ha : PA X [e, e2] ta)
    (hs : starEach [e, e2] X.env = (false, eval e X.env) :: starEach [e2] X.env := by rfl) (hpl : (backTo pos (starEach [e2] X.env)).any (·.1) = false := by rfl) : PI X (.Tuple elts kk tpos) (.Call (.Name "zip" p) [e, e2] [] pos) (iZipM X.K ta) := by
  refine ⟨fun pins s σ H R I h => Call_ (ld_blt I hg hm PyProof.Rows.boot_zip (PyProof.Rows.callWith_type1 (thn (ha.run pos pins s σ H _ I h) fun us s1 ⟨vs, H1, I1, r1, q1⟩ => ?_) hs hpl))⟩
  obtain ⟨a, b, xs, ys, rfl, qx, qy, q⟩ := q1
  cases r1 with
  | cons r rr =>
  cases rr with
  | cons r' rr =>
  cases rr
  cases r
  cases r'
  have fr : ∀ k, k ∈ [s1.heap.objs.size + 4, s1.heap.objs.size + 2, s1.heap.objs.size + 3, s1.heap.objs.size, s1.heap.objs.size + 1] → FpOk X pins H1 k := fun k hk => by
    have le : s1.heap.objs.size ≤ k := by
      simp only [List.mem_cons, List.not_mem_nil, or_false] at hk
      rcases hk with rfl | rfl | rfl | rfl | rfl <;> omega
    exact I1.fpOk le (I1.hok.fresh le)
  obtain ⟨is1, v1, p1⟩ := sqv_get (d := .tup) I1 qx
  obtain ⟨is2, v2, p2⟩ := sqv_get (d := .lst) I1 qy
  have la := Sd.sq_lt (d := .tup) p1
  have lb := Sd.sq_lt (d := .lst) p2
  refine call_zm p1 p2 fun g az ap ar b1 b2 kp => wpAny_pyIter_zip az ?_
  exact ⟨s1.heap.objs.size + 4, [s1.heap.objs.size + 4, s1.heap.objs.size + 2, s1.heap.objs.size + 3, s1.heap.objs.size, s1.heap.objs.size + 1], _, _, H1, rfl, I1.kept (t' := s1.toks) kp, turn_zm (d := .tup) (c := .lst) (PySem.W.ktu_apart s1.heap.objs.size a b la lb), ⟨az, ap, ⟨_, _, ar⟩, b1, b2⟩, fr, q⟩
theorem walk_zm {d c : Sd} {K : PySem.W.Frag} {a b : Addr} {xs ys : List V} {n : Nat} (hn : n = min xs.length ys.length) : Walk (ItzM d c K a b) n (fun H => d.SqV K H a xs ∧ c.SqV K H b ys) (YPair (fun i => xs[i]?) (fun i => ys[i]?)) := by
  subst hn
  refine ⟨fun i H hi h => ?_, fun H h => ⟨xs, ys, h.1, h.2, by omega⟩, fun i H v H' hi h ⟨t, x, z, e, ht, e', f1, f2⟩ => ⟨t, x, z, e, ht, e', f1 xs h.1, f2 ys h.2⟩⟩
  exact ⟨xs, ys, xs[i]'(by omega), ys[i]'(by omega), h.1, h.2, List.getElem?_eq_getElem (by omega), List.getElem?_eq_getElem (by omega)⟩
end RZM
/-! Sm: sum of a tuple of ints. -/
namespace Rp
open PySem PySem.Spec L2 PyProof.Rows PySem.W
section
variable {X : Cx}
theorem preSum_take (ns : List Int) : ∀ j, preSum (fun i => ns.getD i 0) j = (ns.take j).sum
  | 0 => by simp [preSum]
  | j + 1 => by
    rw [preSum, preSum_take ns j, List.take_add_one, List.sum_append, List.getD_eq_getElem?_getD]
    cases ns[j]? <;> simp
def rSumT (K : PySem.W.Frag) : List V → Hp → VK → Prop := fun vs H Q => ∃ (a : Addr) (ns : List Int), vs = [V.ref a] ∧ SqT K H a (ns.map V.int) ∧ Q (.int ns.sum) H
theorem cr_sumT (hc : X.calm = true) : CallR X (.builtin "sum") (rSumT X.K) := by
  intro pins s σ H vs us Q I r h
  obtain ⟨a, ns, rfl, hs, q⟩ := h
  obtain ⟨its, rv, ht, _⟩ := I.tuple hs
  rw [Vals.ref1 r]
  have hl : ns.length = its.length := by
    have := rv.length
    rwa [List.length_map] at this
  have la : a < s.heap.objs.size := by
    obtain ⟨o, e, _⟩ := ht
    exact Heap.lt_size e
  refine call_sum_walkG (wpAny_pyIter_tuple (show s.heap.IsTuple a its.toArray from ht) ?_)
  refine ⟨s.heap.objs.size, [s.heap.objs.size, a], [s.heap.objs.size], its.toArray.size, _, _, fun i => ns.getD i 0, rfl, Walks.tuple (A := X.A.in1) (I.ok.hd hc) _ a (Nat.ne_of_lt la) its.toArray, ⟨⟨_, Heap.get?_push_size _ rfl, rfl, rfl⟩, ?_⟩, fun b hb => ?_, fun i v hv => ?_, fun h' tk t' hk => ?_⟩
  · obtain ⟨o, e, rest⟩ := ht
    exact ⟨o, Heap.get?_push_of_some _ e, rest⟩
  · rw [Heap.size_push]
    simp only [List.mem_cons, List.not_mem_nil, or_false] at hb
    rcases hb with e | e
    · rw [e]
      exact Nat.lt_succ_self _
    · rw [e]
      exact Nat.lt_succ_of_lt la
  · have hv' : its[i]? = some v := by simpa using hv
    have li := (List.getElem?_eq_some_iff.mp hv').1
    have gi : (ns.map V.int)[i]? = some (.int (ns.getD i 0)) := by
      rw [List.getElem?_map, List.getElem?_eq_getElem (by omega), List.getD_eq_getElem?_getD, List.getElem?_eq_getElem (by omega)]
      rfl
    obtain ⟨u, hu, ru⟩ := rv.get gi
    rw [hv'] at hu
    cases hu
    exact ru
  · have e : preSum (fun i => ns.getD i 0) its.toArray.size = ns.sum := by
      rw [preSum_take, List.size_toArray, ← hl, List.take_length]
    rw [e]
    refine ⟨.int ns.sum, H, I.kept (t' := tk) fun b o hb => ?_, ⟨_, rfl⟩, q⟩
    refine hk b o (fun z => ?_) (Heap.get?_push_of_some _ hb)
    rw [List.mem_singleton] at z
    have h2 := Heap.lt_size hb
    rw [z] at h2
    exact Nat.lt_irrefl _ h2
end
end Rp
/-! Pv: offers, valleys and profiles of steps (mathematics alone). -/
namespace Lw
open PySem L2 Rp
abbrev P2 := Int × Int
/-- q is as good as p -/
abbrev Dm (q p : P2) : Prop := q.1 ≤ p.1 ∧ q.2 ≤ p.2
def Covers (V P : List P2) : Prop := ∀ p ∈ P, ∃ v ∈ V, Dm v p
theorem Covers.refl (P : List P2) : Covers P P := fun p h => ⟨p, h, Int.le_refl _, Int.le_refl _⟩
theorem Covers.trans {A B C : List P2} (h : Covers A B) (k : Covers B C) : Covers A C := fun p hp => by
  obtain ⟨b, hb, e1, e2⟩ := k p hp
  obtain ⟨a, ha, e3, e4⟩ := h b hb
  exact ⟨a, ha, Int.le_trans e3 e1, Int.le_trans e4 e2⟩
theorem Covers.of_sub {A B : List P2} (h : ∀ p ∈ B, p ∈ A) : Covers A B := fun p hp => ⟨p, h p hp, Int.le_refl _, Int.le_refl _⟩
theorem Covers.append {A B C D : List P2} (h : Covers A B) (k : Covers C D) : Covers (A ++ C) (B ++ D) := fun p hp => by
  rcases List.mem_append.mp hp with hp | hp
  · obtain ⟨v, hv, e⟩ := h p hp
    exact ⟨v, List.mem_append.mpr (.inl hv), e⟩
  · obtain ⟨v, hv, e⟩ := k p hp
    exact ⟨v, List.mem_append.mpr (.inr hv), e⟩
theorem Covers.map {A B : List P2} (h : Covers A B) (f : P2 → P2) (hf : ∀ q p, Dm q p → Dm (f q) (f p)) : Covers (A.map f) (B.map f) := fun p hp => by
  obtain ⟨b, hb, rfl⟩ := List.mem_map.mp hp
  obtain ⟨a, ha, e⟩ := h b hb
  exact ⟨f a, List.mem_map.mpr ⟨a, ha, rfl⟩, hf _ _ e⟩
/-- each offers as much as the other -/
def Alike (A B : List P2) : Prop := Covers A B ∧ Covers B A
theorem Alike.refl (A : List P2) : Alike A A := ⟨Covers.refl A, Covers.refl A⟩
theorem Alike.symm {A B : List P2} (h : Alike A B) : Alike B A := ⟨h.2, h.1⟩
theorem Alike.trans {A B C : List P2} (h : Alike A B) (k : Alike B C) : Alike A C := ⟨h.1.trans k.1, k.2.trans h.2⟩
theorem Alike.append {A B C D : List P2} (h : Alike A B) (k : Alike C D) : Alike (A ++ C) (B ++ D) := ⟨h.1.append k.1, h.2.append k.2⟩
theorem Alike.map {A B : List P2} (h : Alike A B) (f : P2 → P2) (hf : ∀ q p, Dm q p → Dm (f q) (f p)) : Alike (A.map f) (B.map f) := ⟨h.1.map f hf, h.2.map f hf⟩
theorem Alike.of_mem {A B : List P2} (h : ∀ p, p ∈ A ↔ p ∈ B) : Alike A B := ⟨Covers.of_sub fun p hp => (h p).mpr hp, Covers.of_sub fun p hp => (h p).mp hp⟩
/-- capacities go up, usages go down -/
abbrev Strict (V : List P2) : Prop := V.Pairwise fun a b => a.1 < b.1 ∧ b.2 < a.2
structure IsVal (P V : List P2) : Prop where
  strict : Strict V
  sub : ∀ v ∈ V, v ∈ P
  cov : Covers V P
theorem IsVal.alike {P V : List P2} (h : IsVal P V) : Alike V P := ⟨h.cov, Covers.of_sub h.sub⟩
theorem strict_cov : ∀ {V W : List P2}, Strict V → Strict W → Covers V W → Covers W V → V = W
  | [], [], _, _, _, _ => rfl
  | [], w :: W, _, _, h, _ => by
    obtain ⟨v, hv, _⟩ := h w (List.mem_cons_self ..)
    cases hv
  | v :: V, [], _, _, _, h => by
    obtain ⟨v, hv, _⟩ := h v (List.mem_cons_self ..)
    cases hv
  | v :: V, w :: W, sv, sw, h, k => by
    have sv' := List.pairwise_cons.mp sv
    have sw' := List.pairwise_cons.mp sw
    -- the first ones cover one another
    have dist : ∀ {a : P2} {A : List P2}, Strict (a :: A) → ∀ x ∈ a :: A, ∀ y ∈ a :: A, Dm x y → x = y := by
      intro a A s x hx y hy hd
      have tri : ∀ {l : List P2}, Strict l → ∀ x ∈ l, ∀ y ∈ l, Dm x y → x = y := by
        intro l
        induction l with
        | nil => intro _ x hx; cases hx
        | cons z l ih =>
          intro s x hx y hy hd
          have s' := List.pairwise_cons.mp s
          rcases List.mem_cons.mp hx with e | hx2
          · subst e
            rcases List.mem_cons.mp hy with e | hy2
            · exact e.symm
            · have := s'.1 y hy2
              have := hd.2
              omega
          · rcases List.mem_cons.mp hy with e | hy2
            · subst e
              have := s'.1 x hx2
              have := hd.1
              omega
            · exact ih s'.2 x hx2 y hy2 hd
      exact tri s x hx y hy hd
    have same : ∀ x ∈ v :: V, x ∈ w :: W := by
      intro x hx
      obtain ⟨y, hy, e1⟩ := k x hx
      obtain ⟨z, hz, e2⟩ := h y hy
      have ezx : z = x := dist sv z hz x hx ⟨Int.le_trans e2.1 e1.1, Int.le_trans e2.2 e1.2⟩
      subst ezx
      have : z = y := Prod.ext (Int.le_antisymm e2.1 e1.1) (Int.le_antisymm e2.2 e1.2)
      rw [this]
      exact hy
    have same2 : ∀ x ∈ w :: W, x ∈ v :: V := by
      intro x hx
      obtain ⟨y, hy, e1⟩ := h x hx
      obtain ⟨z, hz, e2⟩ := k y hy
      have ezx : z = x := dist sw z hz x hx ⟨Int.le_trans e2.1 e1.1, Int.le_trans e2.2 e1.2⟩
      subst ezx
      have : z = y := Prod.ext (Int.le_antisymm e2.1 e1.1) (Int.le_antisymm e2.2 e1.2)
      rw [this]
      exact hy
    have hvw : v = w := by
      rcases List.mem_cons.mp (same v (List.mem_cons_self ..)) with e | e
      · exact e
      · rcases List.mem_cons.mp (same2 w (List.mem_cons_self ..)) with e' | e'
        · exact e'.symm
        · have := sw'.1 v e
          have := sv'.1 w e'
          omega
    subst hvw
    have rest : ∀ {A B : List P2}, (∀ x ∈ A, v.1 < x.1 ∧ x.2 < v.2) → (∀ x ∈ v :: A, x ∈ v :: B) → ∀ x ∈ A, x ∈ B := by
      intro A B hA hs x hx
      rcases List.mem_cons.mp (hs x (List.mem_cons_of_mem _ hx)) with rfl | e
      · have := hA x hx
        omega
      · exact e
    rw [strict_cov sv'.2 sw'.2 (Covers.of_sub (rest sw'.1 same2)) (Covers.of_sub (rest sv'.1 same))]
theorem IsVal.uniq {P Q V W : List P2} (h : IsVal P V) (k : IsVal Q W) (e : Alike P Q) : V = W :=
  strict_cov h.strict k.strict ((h.alike.trans e).trans k.alike.symm).1 ((h.alike.trans e).trans k.alike.symm).2
/-! what the walk over sorted pairs finds -/
/-- the pairs found so far, of these sorted ones: the last one has the least usage -/
structure Found (P V : List P2) : Prop where
  val : IsVal P V
  last : ∀ p ∈ P, ∀ v, V.getLast? = some v → v.2 ≤ p.2
theorem Found.nil : Found [] [] := ⟨⟨.nil, by simp, by simp [Covers]⟩, by simp⟩
theorem strict_last : ∀ {V : List P2} {v x : P2}, Strict V → V.getLast? = some v → x ∈ V → x = v ∨ (x.1 < v.1 ∧ v.2 < x.2) := by
  intro V v x s h hx
  obtain ⟨l, rfl⟩ := List.getLast?_eq_some_iff.mp h
  have s' := List.pairwise_append.mp s
  rcases List.mem_append.mp hx with hx | hx
  · exact .inr (s'.2.2 x hx v (by simp))
  · rw [List.mem_singleton] at hx
    exact .inl hx
/-- a pair behind all others, by capacity and then by usage -/
def Behind (P : List P2) (p : P2) : Prop := ∀ q ∈ P, q.1 < p.1 ∨ (q.1 = p.1 ∧ q.2 ≤ p.2)
theorem Found.skip {P V : List P2} {p v : P2} (h : Found P V) (hv : V.getLast? = some v) (b : Behind P p) (hle : ¬ p.2 < v.2) : Found (P ++ [p]) V := by
  have hvV : v ∈ V := List.mem_of_getLast? hv
  have hb := b v (h.val.sub v hvV)
  refine ⟨⟨h.val.strict, fun x hx => List.mem_append.mpr (.inl (h.val.sub x hx)), fun x hx => ?_⟩, fun x hx u hu => ?_⟩
  · rcases List.mem_append.mp hx with hx | hx
    · exact h.val.cov x hx
    · rw [List.mem_singleton] at hx
      subst hx
      exact ⟨v, hvV, by omega, by omega⟩
  · rcases List.mem_append.mp hx with hx | hx
    · exact h.last x hx u hu
    · rw [List.mem_singleton] at hx
      subst hx
      rw [hv] at hu
      cases hu
      omega
theorem Found.add {P V : List P2} {p : P2} (h : Found P V) (b : Behind P p) (hlt : ∀ v, V.getLast? = some v → p.2 < v.2) : Found (P ++ [p]) (V ++ [p]) := by
  have hs : ∀ x ∈ V, x.1 < p.1 ∧ p.2 < x.2 := by
    intro x hx
    obtain ⟨v, hv⟩ : ∃ v, V.getLast? = some v := by
      cases e : V.getLast? with
      | none =>
        rw [List.getLast?_eq_none_iff] at e
        subst e
        cases hx
      | some v => exact ⟨v, rfl⟩
    have h1 := hlt v hv
    have h2 := b x (h.val.sub x hx)
    rcases strict_last h.val.strict hv hx with rfl | h3
    · omega
    · omega
  refine ⟨⟨?_, fun x hx => ?_, fun x hx => ?_⟩, fun x hx u hu => ?_⟩
  · refine List.pairwise_append.mpr ⟨h.val.strict, by simp, fun x hx y hy => ?_⟩
    rw [List.mem_singleton] at hy
    subst hy
    exact hs x hx
  · rcases List.mem_append.mp hx with hx | hx
    · exact List.mem_append.mpr (.inl (h.val.sub x hx))
    · exact List.mem_append.mpr (.inr hx)
  · rcases List.mem_append.mp hx with hx | hx
    · obtain ⟨v, hv, e⟩ := h.val.cov x hx
      exact ⟨v, List.mem_append.mpr (.inl hv), e⟩
    · rw [List.mem_singleton] at hx
      subst hx
      exact ⟨x, by simp, Int.le_refl _, Int.le_refl _⟩
  · have eu : u = p := by
      rw [List.getLast?_append] at hu
      simpa using hu.symm
    subst eu
    rcases List.mem_append.mp hx with hx | hx
    · obtain ⟨v, hv, e⟩ := h.val.cov x hx
      have := hs v hv
      have := e.2
      omega
    · rw [List.mem_singleton] at hx
      subst hx
      exact Int.le_refl _
/-! offers of steps -/
/-- the boundaries, with the greatest usage so far -/
def front (top h : Int) : List Int → List P2
  | [] => [(max top h, h)]
  | s :: ss => (max top h, h) :: front (max top h) (h + s) ss
def lift2 (top b : Int) (p : P2) : P2 := (max top (b + p.1), b + p.2)
theorem lift2_mono (top b : Int) (q p : P2) (h : Dm q p) : Dm (lift2 top b q) (lift2 top b p) := by
  have h1 := h.1
  have h2 := h.2
  simp only [lift2, Dm]
  omega
theorem front_lift : ∀ (ss : List Int) (top b t h : Int), front (max top (b + t)) (b + h) ss = (front t h ss).map (lift2 top b)
  | [], top, b, t, h => by
    simp only [front, List.map_cons, List.map_nil, lift2]
    congr 2
    omega
  | s :: ss, top, b, t, h => by
    have ih := front_lift ss top b (max t h) (h + s)
    have e1 : max (max top (b + t)) (b + h) = max top (b + max t h) := by omega
    have e2 : b + h + s = b + (h + s) := by omega
    simp only [front, List.map_cons, e1, e2, ih, lift2]
theorem front_at (ss : List Int) (top b : Int) (h : b ≤ top ∨ True) : front top b ss = (front 0 0 ss).map (lift2 top b) := by
  have e := front_lift ss top b 0 0
  cases ss with
  | nil =>
    simp only [front, List.map_cons, List.map_nil, lift2]
    congr 2 <;> omega
  | cons s ss =>
    have e2 := front_lift ss top b (max 0 0) (0 + s)
    simp only [front, List.map_cons, lift2]
    congr 1
    · congr 1 <;> omega
    · have e3 : max top (b + max 0 0) = max top b := by omega
      rw [e3] at e2
      have e4 : b + (0 + s) = b + s := by omega
      rw [e4] at e2
      exact e2
/-- the greatest usage -/
def highs (top h : Int) : List Int → Int
  | [] => max top h
  | s :: ss => highs (max top h) (h + s) ss
theorem front_app : ∀ (as bs : List Int) (top h : Int) (p : P2), p ∈ front top h (as ++ bs) ↔ p ∈ front top h as ∨ p ∈ front (highs top h as) (h + as.sum) bs
  | [], bs, top, h, p => by
    cases bs with
    | nil => simp [front, highs]
    | cons b bs =>
      simp only [List.nil_append, front, highs, List.mem_cons, List.sum_nil, Int.add_zero, List.not_mem_nil, or_false]
      have e : max (max top h) h = max top h := by omega
      rw [e]
      constructor
      · rintro (h | h)
        · exact .inl h
        · exact .inr (.inr h)
      · rintro (h | h | h)
        · exact .inl h
        · exact .inl h
        · exact .inr h
  | a :: as, bs, top, h, p => by
    have ih := front_app as bs (max top h) (h + a) p
    simp only [List.cons_append, front, highs, List.mem_cons, List.sum_cons, ih]
    have e : h + a + as.sum = h + (a + as.sum) := by omega
    rw [e]
    constructor
    · rintro (h | h | h)
      · exact .inl (.inl h)
      · exact .inl (.inr h)
      · exact .inr h
    · rintro ((h | h) | h)
      · exact .inl h
      · exact .inr (.inl h)
      · exact .inr (.inr h)
theorem highs_max : ∀ (ss : List Int) (top h : Int), highs top h ss = max top (h + highs 0 0 ss)
  | [], top, h => by simp only [highs]; omega
  | s :: ss, top, h => by
    have i1 := highs_max ss (max top h) (h + s)
    have i2 := highs_max ss (max 0 0) (0 + s)
    simp only [highs, i1, i2]
    omega
theorem highs_app : ∀ (as bs : List Int) (top h : Int), highs top h (as ++ bs) = highs (highs top h as) (h + as.sum) bs
  | [], bs, top, h => by
    cases bs with
    | nil => simp [highs]
    | cons b bs =>
      simp only [List.nil_append, highs, List.sum_nil, Int.add_zero]
      congr 1
      omega
  | a :: as, bs, top, h => by
    have ih := highs_app as bs (max top h) (h + a)
    simp only [List.cons_append, highs, List.sum_cons, ih]
    congr 1
    omega
/-! from the end -/
abbrev bw (ss : List Int) : List Int := ss.reverse.map fun s => -s
theorem bw_cons (s : Int) (ss : List Int) : bw (s :: ss) = bw ss ++ [-s] := by simp [bw]
theorem bw_app (as bs : List Int) : bw (as ++ bs) = bw bs ++ bw as := by simp [bw]
theorem bw_sum : ∀ ss : List Int, (bw ss).sum = -ss.sum
  | [] => rfl
  | s :: ss => by
    rw [bw_cons, List.sum_append, bw_sum ss]
    simp only [List.sum_cons, List.sum_nil]
    omega
theorem highs_ge : ∀ (ss : List Int) (top h : Int), top ≤ highs top h ss ∧ h ≤ highs top h ss ∧ h + ss.sum ≤ highs top h ss
  | [], top, h => by simp only [highs, List.sum_nil]; omega
  | s :: ss, top, h => by
    have := highs_ge ss (max top h) (h + s)
    simp only [highs, List.sum_cons]
    omega
theorem highs_bw : ∀ ss : List Int, highs 0 0 (bw ss) = highs 0 0 ss - ss.sum
  | [] => by simp [bw, highs]
  | s :: ss => by
    have ih := highs_bw ss
    have h1 := highs_max ss (max 0 0) (0 + s)
    have h2 := highs_ge ss 0 0
    rw [bw_cons, highs_app, ih, bw_sum]
    simp only [highs, List.sum_cons, h1]
    omega
theorem front_max : ∀ (ss : List Int) (top h : Int), front (max top h) h ss = front top h ss
  | [], top, h => by
    have e : max (max top h) h = max top h := by omega
    simp only [front, e]
  | s :: ss, top, h => by
    have e : max (max top h) h = max top h := by omega
    simp only [front, e]
structure Prof (ss : List Int) (N p : Int) (S E : List P2) : Prop where
  net : N = ss.sum
  peak : p = highs 0 0 ss
  start : IsVal (front 0 0 ss) S
  fin : IsVal (front ss.sum ss.sum (bw ss)) E
theorem Prof.uniq {ss : List Int} {N p N' p' : Int} {S E S' E' : List P2} (h : Prof ss N p S E) (k : Prof ss N' p' S' E') : N = N' ∧ p = p' ∧ S = S' ∧ E = E' :=
  ⟨h.net.trans k.net.symm, h.peak.trans k.peak.symm, h.start.uniq k.start (Alike.refl _), h.fin.uniq k.fin (Alike.refl _)⟩
theorem prof_step (s : Int) : Prof [s] s (max 0 s) [(0, min 0 s)] [(s, min 0 s)] := by
  refine ⟨by simp, by simp only [highs]; omega, ⟨by simp, ?_, ?_⟩, ⟨by simp, ?_, ?_⟩⟩
  all_goals (simp only [bw, front, Covers, List.mem_cons, List.not_mem_nil, or_false, List.sum_cons, List.sum_nil, List.reverse_cons, List.reverse_nil, List.nil_append, List.map_cons, List.map_nil])
  · rintro v rfl
    by_cases h : s ≤ 0
    · right
      simp only [Prod.mk.injEq]
      omega
    · left
      simp only [Prod.mk.injEq]
      omega
  · rintro p (rfl | rfl)
    · exact ⟨_, rfl, by simp only [Dm]; omega⟩
    · exact ⟨_, rfl, by simp only [Dm]; omega⟩
  · rintro v rfl
    by_cases h : s ≤ 0
    · left
      simp only [Prod.mk.injEq]
      omega
    · right
      simp only [Prod.mk.injEq]
      omega
  · rintro p (rfl | rfl)
    · exact ⟨_, rfl, by simp only [Dm]; omega⟩
    · exact ⟨_, rfl, by simp only [Dm]; omega⟩
/-- one more part behind those before -/
theorem begin_more {cat ss : List Int} {O : List P2} {N p : Int} {S E : List P2} (h : Alike O (front 0 0 cat)) (k : Prof ss N p S E) :
    Alike (O ++ S.map (lift2 (highs 0 0 cat) cat.sum)) (front 0 0 (cat ++ ss)) := by
  have e1 : Alike (front 0 0 cat ++ front (highs 0 0 cat) cat.sum ss) (front 0 0 (cat ++ ss)) := Alike.of_mem fun p => by
    rw [List.mem_append, front_app, Int.zero_add]
  refine (h.append ?_).trans e1
  rw [front_at ss _ _ (.inr trivial)]
  exact k.start.alike.map _ (lift2_mono _ _)
theorem begin_peak {cat ss : List Int} {N p : Int} {S E : List P2} (k : Prof ss N p S E) : max (highs 0 0 cat) (cat.sum + p) = highs 0 0 (cat ++ ss) := by
  rw [highs_app, highs_max ss, k.peak, Int.zero_add]
/-- one more part in front of those behind -/
theorem end_more {m ss : List Int} {t : Int} {O : List P2} {N p : Int} {S E : List P2} (h : Alike O (front t t m)) (k : Prof ss N p S E) :
    Alike (O ++ E.map (lift2 (highs t t m) (t + m.sum - N))) (front t t (m ++ bw ss)) := by
  have e1 : Alike (front t t m ++ front (highs t t m) (t + m.sum) (bw ss)) (front t t (m ++ bw ss)) := Alike.of_mem fun p => by
    rw [List.mem_append, front_app]
  refine (h.append ?_).trans e1
  have e2 := front_lift (bw ss) (highs t t m) (t + m.sum - N) N N
  rw [show t + m.sum - N + N = t + m.sum by omega, front_max] at e2
  rw [e2]
  have := k.fin.alike
  rw [← k.net] at this
  exact this.map _ (lift2_mono _ _)
theorem end_peak {m ss : List Int} {t : Int} {N p : Int} {S E : List P2} (k : Prof ss N p S E) : max (highs t t m) (t + m.sum - N + p) = highs t t (m ++ bw ss) := by
  rw [highs_app, highs_max (bw ss), highs_bw, k.peak, k.net]
  omega
/-! the form of a profile -/
theorem front_ge : ∀ (ss : List Int) (top h : Int) (p : P2), p ∈ front top h ss → max top h ≤ p.1 ∧ p.2 ≤ p.1 ∧ p.1 ≤ highs top h ss
  | [], top, h, p, hp => by
    simp only [front, List.mem_singleton] at hp
    subst hp
    simp only [highs]
    omega
  | s :: ss, top, h, p, hp => by
    simp only [front, List.mem_cons] at hp
    simp only [highs]
    rcases hp with rfl | hp
    · have := highs_ge ss (max top h) (h + s)
      simp only
      omega
    · have := front_ge ss (max top h) (h + s) p hp
      omega
theorem front_first (ss : List Int) (top h : Int) : (max top h, h) ∈ front top h ss := by cases ss <;> simp [front]
def helds (h : Int) : List Int → List Int
  | [] => [h]
  | s :: ss => h :: helds (h + s) ss
theorem front_held : ∀ (ss : List Int) (top h : Int), (front top h ss).map (·.2) = helds h ss
  | [], _, _ => rfl
  | s :: ss, top, h => by simp only [front, helds, List.map_cons, front_held ss]
theorem helds_snoc : ∀ (ss : List Int) (h s : Int), helds h (ss ++ [s]) = helds h ss ++ [h + ss.sum + s]
  | [], h, s => by simp [helds]
  | a :: ss, h, s => by
    simp only [List.cons_append, helds, helds_snoc ss, List.sum_cons]
    congr 3
    omega
theorem helds_bw : ∀ (ss : List Int) (h : Int), helds (h + ss.sum) (bw ss) = (helds h ss).reverse
  | [], h => by simp [helds, bw]
  | s :: ss, h => by
    have ih := helds_bw ss (h + s)
    rw [bw_cons, helds_snoc, helds, List.reverse_cons, List.sum_cons, show h + (s + ss.sum) = h + s + ss.sum by omega, ih, bw_sum]
    congr 2
    omega
theorem IsVal.ne {P V : List P2} (h : IsVal P V) {p : P2} (hp : p ∈ P) : V ≠ [] := by
  rintro rfl
  obtain ⟨v, hv, _⟩ := h.cov p hp
  cases hv
theorem IsVal.first {P V : List P2} {p : P2} (h : IsVal P V) (hp : p ∈ P) (hl : ∀ q ∈ P, p.1 ≤ q.1) : ∃ l W, V = (p.1, l) :: W ∧ l ≤ p.2 := by
  obtain ⟨v, hv, e⟩ := h.cov p hp
  have hvp := hl v (h.sub v hv)
  cases V with
  | nil => cases hv
  | cons u W =>
    have su := List.pairwise_cons.mp h.strict
    have eu : u = v := by
      rcases List.mem_cons.mp hv with e2 | e2
      · exact e2.symm
      · have := su.1 v e2
        have := hl u (h.sub u (List.mem_cons_self ..))
        have := e.1
        omega
    subst eu
    have e1 : u.1 = p.1 := Int.le_antisymm e.1 hvp
    exact ⟨u.2, W, by rw [← e1], e.2⟩
theorem IsVal.low {P V : List P2} (h : IsVal P V) {v : P2} (hv : V.getLast? = some v) : v ∈ P ∧ ∀ p ∈ P, v.2 ≤ p.2 := by
  refine ⟨h.sub v (List.mem_of_getLast? hv), fun p hp => ?_⟩
  obtain ⟨u, hu, e⟩ := h.cov p hp
  have e2 := e.2
  rcases strict_last h.strict hv hu with rfl | h3
  · exact e2
  · omega
theorem Prof.same_low {ss : List Int} {N p : Int} {S E : List P2} (h : Prof ss N p S E) {u v : P2} (hu : S.getLast? = some u) (hv : E.getLast? = some v) : v.2 = u.2 := by
  obtain ⟨u1, u2⟩ := h.start.low hu
  obtain ⟨v1, v2⟩ := h.fin.low hv
  have hb := helds_bw ss 0
  rw [Int.zero_add] at hb
  have m1 : ∀ x, x ∈ (front 0 0 ss).map (·.2) ↔ x ∈ (front ss.sum ss.sum (bw ss)).map (·.2) := by
    intro x
    rw [front_held, front_held, hb, List.mem_reverse]
  obtain ⟨a, ha, e1⟩ := List.mem_map.mp ((m1 u.2).mp (List.mem_map.mpr ⟨u, u1, rfl⟩))
  obtain ⟨b, hb2, e2⟩ := List.mem_map.mp ((m1 v.2).mpr (List.mem_map.mpr ⟨v, v1, rfl⟩))
  have h1 := v2 a ha
  have h2 := u2 b hb2
  omega
theorem front_len : ∀ (ss : List Int) (top h : Int), (front top h ss).length = ss.length + 1
  | [], _, _ => rfl
  | s :: ss, top, h => by simp only [front, List.length_cons, front_len ss]
theorem nodup_len {α : Type} [DecidableEq α] : ∀ (V P : List α), V.Nodup → (∀ v ∈ V, v ∈ P) → V.length ≤ P.length
  | [], _, _, _ => Nat.zero_le _
  | v :: V, P, nd, h => by
    have nd' := List.nodup_cons.mp nd
    have hv := h v (List.mem_cons_self ..)
    have ih := nodup_len V (P.erase v) nd'.2 fun u hu => (List.mem_erase_of_ne (fun (e : u = v) => nd'.1 (by rw [← e]; exact hu))).mpr (h u (List.mem_cons_of_mem _ hu))
    have hp := List.length_pos_of_mem hv
    rw [List.length_erase_of_mem hv] at ih
    rw [List.length_cons]
    omega
theorem IsVal.len {P V : List P2} (h : IsVal P V) : V.length ≤ P.length := by
  have nd : V.Nodup := h.strict.imp fun {a b} e => by
    rintro rfl
    omega
  exact nodup_len V P nd h.sub
theorem front_bd {B : Int} : ∀ (ss : List Int) (top h C : Int), (∀ s ∈ ss, -B ≤ s ∧ s ≤ B) → 0 ≤ B → -C ≤ top → top ≤ C → -C ≤ h → h ≤ C → ∀ p ∈ front top h ss, (-(C + ss.length * B) ≤ p.1 ∧ p.1 ≤ C + ss.length * B) ∧ (-(C + ss.length * B) ≤ p.2 ∧ p.2 ≤ C + ss.length * B)
  | [], top, h, C, hs, hB, h1, h2, h3, h4, p, hp => by
    simp only [front, List.mem_singleton] at hp
    subst hp
    simp only [List.length_nil, Int.natCast_zero, Int.zero_mul]
    omega
  | s :: ss, top, h, C, hs, hB, h1, h2, h3, h4, p, hp => by
    have hs0 := hs s (List.mem_cons_self ..)
    have e : C + B + (ss.length : Int) * B = C + ((s :: ss).length : Int) * B := by
      rw [List.length_cons, Int.natCast_add, Int.add_mul]
      simp only [Int.natCast_one, Int.one_mul]
      omega
    have hn : 0 ≤ (ss.length : Int) * B := Int.mul_nonneg (by omega) hB
    simp only [front, List.mem_cons] at hp
    rw [← e]
    rcases hp with rfl | hp
    · simp only
      omega
    · exact front_bd ss (max top h) (h + s) (C + B) (fun x hx => hs x (List.mem_cons_of_mem _ hx)) hB (by omega) (by omega) (by omega) (by omega) p hp
end Lw
/-! Lm: lambdas handed to a def: defs that make them (their code object is known), the def that is told, the law's end with tables of code objects and known guards. -/
namespace Rp
open PySem PySem.Spec L2 LamX PyProof.Rows
/-! ### a def that makes lambdas: its code object is known -/
def CodeIs (K : PySem.W.Frag) (f c : Addr) : Prop := ∀ (oc : Value) (od : Option Addr) (fd : FuncData) (osl : Array (Option Value)), K.lookup f = some ⟨oc, od, .func fd, osl⟩ → fd.code = .ref c
theorem code_is {K : PySem.W.Frag} {x : Str} {f c P : Addr} (a : PySem.W.nsIn K mainGlobals x = some (some (.ref f))) (t : PySem.W.tabIn K x = some (c, P)) : CodeIs K f c := by
  intro oc od fd osl hl
  unfold PySem.W.tabIn at t
  rw [a] at t
  simp only [hl] at t
  cases hc : fd.code with
  | ref c' =>
    rw [hc] at t
    simp only at t
    split at t
    · split at t
      · cases t
        rfl
      · cases t
    · cases t
  | _ =>
    rw [hc] at t
    simp only at t
    cases t
section
variable {P : Program} {w : World} {K : PySem.W.Frag} {mg : Str → Option Value} {base : Heap}
/-- the body of such a def, guards known or not -/
theorem run_code {CX : CXT} {name qual : Str} {st : Stmt} {f c : Addr} {fd : FuncData} {N ps : List Str} {k : Nat} {sp : Sp} (F : Fun K name qual st f fd) (hc : CodeIs K f c) (S : FnScope N ps (defScope st)) (hlen : ∀ vs H Q E, sp vs H Q E → vs.length = ps.length)
    {A : Around} {outer : List Env} {s : Shared} {H : Hp} {args : Args} {us : List Value} {vs : List V} {Q : VK} {E : XK} (room : Room (k + 1) A) (en : Env0 P w K mg base A outer s H) (bd : BindsTo s fd args (ps.zip us)) (rv : Vals vs us) (want : sp vs H Q E)
    (hb : Room k (A.deeper (envOfC qual (defScope st) s.heap.objs.size f (.ref c))) → ∃ t, PSs (cxOf CX P w K mg base N qual (defScope st) f (.ref c) A outer s H E).nox (defBody st) t ∧ t { nx := fun _ H' => Q .non H', rt := Q } (start N vs) H) :
    codeAny (model P w) A (.call (.ref f) args) (CR CX outer P w H s Q E) s := by
  obtain ⟨oc, od, kV, doc, pm, an, cdv, ct, osl, rfl, lk, hcd⟩ := F.ex
  obtain rfl : cdv = .ref c := hc _ _ _ _ lk
  have kin : K.In s.heap := en.mod.kin.keeps fun b o z => (en.bs b o z).1
  have nolim : s.heap.NoLimit := en.mod.nolimit.keeps fun b o z => (en.bs b o z).1
  have hl := hlen _ _ _ _ want
  refine Att.call_fn kin nolim lk hcd room.depth bd ?_ (fun s1 ic => ?_) S.co S.gen S.kind
  · refine List.all_eq_true.mpr fun y hy => ?_
    obtain ⟨a, b⟩ := y
    rcases S.par a (List.of_mem_zip hy).1 with z | z
    · simp [z]
    · simp [z]
  · obtain ⟨t, ht, hq⟩ := hb (room.deeper _)
    have I := inv_start (CX := CX) (P := P) (w := w) (K := K) (mg := mg) (base := base) (E := E) S room.hd en hl rv ic
    refine wpAny_mono (ht.nox.run [] s1 (start N vs) H _ I hq) (fun fl s' hs => ?_) (fun e s' hs => hs)
    cases fl with
    | ret u =>
      obtain ⟨v, σ', H', J, rr, q⟩ := hs
      exact ⟨v, H', J.os, J.bare, J.base, J.hok, rr, q⟩
    | next =>
      obtain ⟨σ', H', J, q⟩ := hs
      exact ⟨V.non, H', J.os, J.bare, J.base, J.hok, rfl, q⟩
    | brk =>
      obtain ⟨_, _, _, q⟩ := hs
      exact False.elim q
    | cont =>
      obtain ⟨_, _, _, q⟩ := hs
      exact False.elim q
theorem okC {name qual : Str} {st : Stmt} {f c : Addr} {fd : FuncData} {N ps : List Str} {k : Nat} {sp : Sp} (F : Fun K name qual st f fd) (hc : CodeIs K f c) (S : FnScope N ps (defScope st)) (hlen : ∀ vs H Q E, sp vs H Q E → vs.length = ps.length)
    (hb : ∀ (A : Around) (outer : List Env) (s : Shared) (H : Hp) (vs : List V) (Q : VK) (E : XK), Room k (A.deeper (envOfC qual (defScope st) s.heap.objs.size f (.ref c))) → sp vs H Q E →
      ∃ t, PSs (cxOf CX0 P w K mg base N qual (defScope st) f (.ref c) A outer s H E).nox (defBody st) t ∧ t { nx := fun _ H' => Q .non H', rt := Q } (start N vs) H) : FnOk P w K mg base CX0 (k + 1) f fd ps sp :=
  ⟨hlen, fun A outer s H args us vs Q E room en bd rv want => run_code F hc S hlen room en bd rv want fun hr => hb A outer s H vs Q E hr want⟩
theorem okCG {name qual : Str} {st : Stmt} {f c : Addr} {fd : FuncData} {N ps : List Str} {k : Nat} {sp : Sp} (F : Fun K name qual st f fd) (hc : CodeIs K f c) (S : FnScope N ps (defScope st)) (hlen : ∀ vs H Q E, sp vs H Q E → vs.length = ps.length)
    (hb : ∀ (A : Around) (outer : List Env) (s : Shared) (H : Hp) (vs : List V) (Q : VK) (E : XK), Room k (A.deeper (envOfC qual (defScope st) s.heap.objs.size f (.ref c))) → A.guards = some [] → sp vs H Q E →
      ∃ t, PSs (cxOf CX0 P w K mg base N qual (defScope st) f (.ref c) A outer s H E).nox (defBody st) t ∧ t { nx := fun _ H' => Q .non H', rt := Q } (start N vs) H) : FnG P w K mg base CX0 (k + 1) f fd ps sp :=
  ⟨hlen, fun A outer s H args us vs Q E room gd en bd rv want => run_code F hc S hlen room en bd rv want fun hr => hb A outer s H vs Q E hr gd want⟩
end
/-! ### the call of what was handed over -/
def tAct (W : WX) (n : Nat) (f c' : Addr) (q : Str) (tl : XK → Hp → VK → Prop) : TE := fun σ H Q => ∃ Ech : XK, (∀ cls d σ' H', Ech cls d H' → σ'.length = n → W cls d σ' H') ∧ σ[0]? = some (some (.ref f)) ∧ H c' = some (CodeO c' q) ∧ tl Ech H Q
/-- what is let out is let out with all slots -/
theorem takes_len {X : Cx} {W : WX} (tk : Takes X W) : Takes X (fun cls d σ H => σ.length = X.N.length → W cls d σ H) := fun u s' x => by
  obtain ⟨a, B, s0, ps0, σ', H', cls, d, e, I, apart, up, above, na, os, ag, w⟩ := x
  exact tk u s' ⟨a, B, s0, ps0, σ', H', cls, d, e, I, apart, up, above, na, os, ag, w I.len⟩
theorem pe_acts {X : Cx} {W : WX} {n : Nat} {f c' : Addr} {q : Str} {tl : XK → Hp → VK → Prop} {e : Expr} (h : ∀ Ech : XK, (∀ cls d σ' H', Ech cls d H' → σ'.length = n → W cls d σ' H') → PE X e (fun σZ HZ Q => σZ[0]? = some (some (.ref f)) ∧ HZ c' = some (CodeO c' q) ∧ tl Ech HZ Q)) : PE X e (tAct W n f c' q tl) :=
  ⟨fun pins s σ H Q I z => by
    obtain ⟨Ech, hW, z⟩ := z
    exact (h Ech hW).run pins s σ H Q I z⟩
theorem getSet {σ : L2.St} {n i : Nat} {x : Option V} (h : σ.length = n) (hi : i < n) : (σ.set i x)[i]? = some x := by
  rw [List.getElem?_set_self (by omega)]
/-- x(lambda: body), x told by its text -/
theorem pe_lamF {X : Cx} {T : List (Addr × Str)} {TT : (XK → Hp → VK → Prop) → Hp → VK → Prop} {x a : Str} {st : Stmt} {g c P : Addr} {fd : FuncData} {k : Nat} {Ng : List Str} {params : Arguments} {body : Expr} {scope : Scope} {t : XK → TE} {p lpos pos : Pos}
    (F : Fun X.K x x st g fd) (hb : Binds X.K fd [a] []) (hg : Gl X x) (hm : X.mg x = some (.ref g)) (Sg : FnScope Ng [a] (defScope st)) (hNg : Ng[0]? = some a) (hva : Vis (defScope st) a) (hG : ∀ cdv, GivesTo X Ng x (defScope st) g cdv (defBody st) a (X.env.qual ++ "<lambda>") TT)
    (TB : TabB X.base X.mg c P) (hcode : X.env.code = .ref c) (hmT : (P, X.env.qual ++ "<lambda>") ∈ T) (hu : ∀ p ∈ T, p.1 = P → p.2 = X.env.qual ++ "<lambda>") (hr : Room (k + 2) X.A) (L : LamS X.env.scope scope) (hdef : defaultsOf params X.env = ([], []))
    (hbind : ∀ (q : Str) (cl : List (Str × Addr)) (pm cv ctv : Value), bindArgs (PySem.W.kla_fn "<lambda>" q params body scope cl pm cv ctv) ⟨[], []⟩ = pure [])
    (hbody : ∀ (A : Around) (outer : List Env) (s : Shared) (H : Hp) (E : XK) (f c' : Addr), Room k (A.deeper (lamEnv X scope s.heap.objs.size f c')) → PE (lamCx X A outer s H E scope f c') body (t E))
    (hdb : (x == ("__debug__" : Str)) = false := by decide) (hd : (a == ("__debug__" : Str)) = false := by decide) (hcd : (a == ("__classdict__" : Str)) = false := by decide) :
    PE X (.Call (.Name x p) [.Lambda params body scope lpos] [] pos) (tLam T TT t) := by
  obtain ⟨oc, od, kV, doc, pm, an, cdv, ct, osl, rfl, lk, hco⟩ := F.ex
  exact pe_lamcall hg hm F.kp lk hco hb Sg hNg hva (hG cdv) TB hcode hmT hu hr L hdef hbind hbody hdb hd hcd
/-! ### what stays where tables grow -/
mutual
theorem dp_map {K : PySem.W.Frag} {H H' : Hp} (sl : ∀ a xs, SqL K H a xs → SqL K H' a xs) (st : ∀ a xs, SqT K H a xs → SqT K H' a xs) : ∀ {d : PyData} {v : V}, Dp K H v d → Dp K H' v d
  | .list ds, _, .lst hs ha => .lst (sl _ _ hs) (dpAll_map sl st ha)
  | .tuple ds, _, .tup hs ha => .tup (st _ _ hs) (dpAll_map sl st ha)
  | .none, _, .non => .non
  | .bool _, _, .bl _ => .bl _
  | .int _, _, .int _ => .int _
  | .str _, _, .str _ => .str _
theorem dpAll_map {K : PySem.W.Frag} {H H' : Hp} (sl : ∀ a xs, SqL K H a xs → SqL K H' a xs) (st : ∀ a xs, SqT K H a xs → SqT K H' a xs) : ∀ {ds : List PyData} {vs : List V}, DpAll K H vs ds → DpAll K H' vs ds
  | [], _, .nil => .nil
  | _ :: _, _, .cons h1 h2 => .cons (dp_map sl st h1) (dpAll_map sl st h2)
end
section
variable {K : PySem.W.Frag} {H H' H'' : Hp} {p a : Addr} {xs : List V} {T : List (Addr × Str)} {v : V} {d : PyData}
theorem extN_L (s : ExtN H H') (h : SqL K H a xs) : SqL K H' a xs := by
  rcases h with (h | ⟨o, h⟩) | h
  · exact .inl (.inl (s _ _ h fun q z => by cases z))
  · exact .inl (.inr ⟨o, s _ _ h fun q z => by cases z⟩)
  · exact .inr h
theorem extN_T (s : ExtN H H') (h : SqT K H a xs) : SqT K H' a xs := by
  rcases h with (h | ⟨o, h⟩) | h
  · exact .inl (.inl (s _ _ h fun q z => by cases z))
  · exact .inl (.inr ⟨o, s _ _ h fun q z => by cases z⟩)
  · exact .inr h
theorem dp_ext (s : ExtN H H') (h : Dp K H v d) : Dp K H' v d := dp_map (fun _ _ => extN_L s) (fun _ _ => extN_T s) h
theorem extN_same (s : Same H H') : ExtN H H' := ExtN.of fun b o h => s b o h
theorem extN_lst {l : List V} (s : ExtN H H') (h : H a = some (.lst l)) : H' a = some (.lst l) := s _ _ h fun q z => by cases z
theorem tabs_same (t : Tabs T H) (s : Same H H') : Tabs T H' := t.ext fun b o h => s b o h
theorem tabs_sx {l : List V} (t : Tabs T H) (s : Sx p H H') (hp : H p = some (.lst l)) : Tabs T H' := fun q hq => by
  obtain ⟨ps, h1, h2, h3⟩ := t q hq
  refine ⟨ps, s _ _ (fun z => by rw [z, hp] at h1; cases h1) h1, h2, fun pos cv hc => ?_⟩
  obtain ⟨c, e1, e2⟩ := h3 pos cv hc
  exact ⟨c, e1, s _ _ (fun z => by rw [z, hp] at e2; unfold CodeO at e2; cases e2) e2⟩
/-- all but p and the tables stays -/
def SxN (p : Addr) (H H' : Hp) : Prop := ∀ b o, b ≠ p → H b = some o → (∀ ps, o ≠ .tbl ps) → H' b = some o
theorem SxN.trans (s : SxN p H H') (t : SxN p H' H'') : SxN p H H'' := fun b o n h z => t b o n (s b o n h z) z
theorem SxN.of (s : Sx p H H') : SxN p H H' := fun b o n h _ => s b o n h
theorem SxN.ext (s : ExtN H H') : SxN p H H' := fun b o _ h z => s b o h z
theorem SxN.sqT {l : List V} (s : SxN p H H') (hp : H p = some (.lst l)) (h : SqT K H a xs) : SqT K H' a xs := by
  rcases h with (h | ⟨o, h⟩) | h
  · exact .inl (.inl (s _ _ (fun z => by rw [z, hp] at h; cases h) h fun q z => by cases z))
  · exact .inl (.inr ⟨o, s _ _ (fun z => by rw [z, hp] at h; cases h) h fun q z => by cases z⟩)
  · exact .inr h
theorem SxN.dp {l : List V} (s : SxN p H H') (hp : H p = some (.lst l)) (n : noL d = true) (h : Dp K H v d) : Dp K H' v d := dp_keep (fun _ _ z => s.sqT hp z) n h
/-- all but the tables stays, p was not there -/
theorem ExtN.sx_free {H1 H2 : Hp} (s : ExtN H H1) (h : H p = none) (t : SxN p H1 H2) : ExtN H H2 := fun b o e z => t b o (fun y => by rw [y, h] at e; cases e) (s b o e z) z
end
/-! ### the law's end -/
/-- a heap that tells of the script and of empty tables alone -/
theorem script_tables {P : Program} {w : World} {K : PySem.W.Frag} {h : Heap} {a : Addr} {vs : List Value} {ns : List Int} {ts : List Addr} (kin : K.In h) (ha : h.get? a = some { cls := .type "list", data := .seq vs.toArray }) (hi : IntsAre vs ns) (hl : ns.length ≤ sizeLine)
    (ht : ∀ b ∈ ts, h.get? b = some { cls := .none, data := .fields #[] }) (nt : ∀ b ∈ ts, K.lookup b = none) :
    ∃ H : Hp, (∀ b ∈ ts, H b = some (.tbl #[])) ∧ (∀ b, H b = none ∨ b ∈ ts ∨ ∃ o xs, H b = some (.frz o (.lst xs))) ∧ SqL K H a (ns.map V.int) ∧ HOk P w H h ∧ (∀ b, H b ≠ none → b = a ∨ b ∈ ts) ∧ (∀ b o, K.lookup b = some o → H b = none) := by
  have rv := vals_ints hi
  have len := hi.length
  have na : a ∉ ts := fun z => by
    have y := ht a z
    rw [ha] at y
    have y' : Data.seq vs.toArray _ = Data.fields #[] := congrArg Obj.data (Option.some.inj y)
    cases y'
  cases hk : K.lookup a with
  | some o =>
    have eo := kin a o hk
    rw [ha] at eo
    cases eo
    refine ⟨fun b => if b ∈ ts then some (.tbl #[]) else none, fun b hb => if_pos hb, fun b => ?_, .inr ⟨_, vs.toArray, _, hk, rfl, rfl, rfl, by rw [List.size_toArray, len]; exact hl, by simpa using rv⟩, fun b u z => ?_, fun b z => ?_, fun b o ho => ?_⟩
    · by_cases y : b ∈ ts
      · exact .inr (.inl y)
      · exact .inl (if_neg y)
    · dsimp only at z
      by_cases y : b ∈ ts
      · rw [if_pos y] at z
        cases z
        exact ht b y
      · rw [if_neg y] at z
        cases z
    · by_cases y : b ∈ ts
      · exact .inr y
      · exact absurd (if_neg y) z
    · refine if_neg fun y => ?_
      rw [nt b y] at ho
      cases ho
  | none =>
    let H : Hp := fun b => if b = a then some (.frz { cls := .type "list", data := .seq vs.toArray } (.lst (ns.map V.int))) else if b ∈ ts then some (.tbl #[]) else none
    have at_a : H a = some (.frz { cls := .type "list", data := .seq vs.toArray } (.lst (ns.map V.int))) := if_pos rfl
    have at_t : ∀ b, b ∈ ts → H b = some (.tbl #[]) := fun b hb => by
      have n : b ≠ a := fun z => na (z ▸ hb)
      show (if b = a then _ else _) = _
      rw [if_neg n, if_pos hb]
    have off : ∀ b, b ≠ a → b ∉ ts → H b = none := fun b n y => by
      show (if b = a then _ else _) = _
      rw [if_neg n, if_neg y]
    refine ⟨H, at_t, fun b => ?_, .inl (.inr ⟨_, at_a⟩), fun b u z => ?_, fun b z => ?_, fun b o ho => ?_⟩
    · by_cases n : b = a
      · exact .inr (.inr ⟨_, _, n ▸ at_a⟩)
      · by_cases y : b ∈ ts
        · exact .inr (.inl y)
        · exact .inl (off b n y)
    · by_cases n : b = a
      · subst n
        rw [at_a] at z
        cases z
        exact ⟨ha, by rw [List.length_map]; exact hl, vs, _, rv, ha⟩
      · by_cases y : b ∈ ts
        · rw [at_t b y] at z
          cases z
          exact ht b y
        · rw [off b n y] at z
          cases z
    · by_cases n : b = a
      · exact .inl n
      · by_cases y : b ∈ ts
        · exact .inr y
        · exact absurd (off b n y) z
    · refine off b (fun n => ?_) fun y => ?_
      · rw [n, hk] at ho
        cases ho
      · rw [nt b y] at ho
        cases ho
theorem law_endT {l : PySem.W.OpenLaw} {n k : Nat} {q : Program} {loose : List Str} {XP : (Str → Option Value) → Heap → Prop} {YP : World → Heap → Prop} {d : DefRec} {K : Params → PySem.W.Frag} {sp : PySem.W.Frag → List (Addr × Addr) → Sp} {x : Str} {nms : List Str}
    (hn : l.most = some n) (hn2 : n ≤ sizeLine) (hdf : d.params.defaults = []) (hr : Room k callerA) (hrec : ∀ y ∈ nms, ((recsOf q).find? fun e => e.name == y).isSome = true)
    (hY : ∀ (w : World) (h : Heap), YP w h → (K w.params).In h)
    (F : ∀ (w : World) (mg : Str → Option Value) (fa : Addr) (h : Heap), (K w.params).In h → h.Ns mainGlobals mg → mg d.name = some (.ref fa) →
      ∃ (cs : List (Addr × Addr)) (fd : FuncData), (∀ p ∈ cs, ∃ y ∈ nms, PySem.W.tabIn (K w.params) y = some p) ∧ (∀ p ∈ cs, (K w.params).lookup p.2 = none) ∧ (∀ (s : Shared) (u : Value), BindsTo s fd ⟨[u], []⟩ [(x, u)]) ∧
        (∀ base : Heap, (K w.params).In base → base.Ns mainGlobals mg → (∀ p ∈ cs, TabB base mg p.1 p.2) → FnG l.prog w (K w.params) mg base CX0 k fa fd [x] (sp (K w.params) cs)))
    (hsp : ∀ (K : PySem.W.Frag) (cs : List (Addr × Addr)) (H : Hp) (a : Addr) (ns : List Int), ns.length ≤ n → (∀ p ∈ cs, H p.2 = some (.tbl #[])) → SqL K H a (ns.map V.int) → sp K cs [.ref a] H (fun v _ => v = .bl true) fun _ _ _ => False) :
    PySem.W.WalkO q loose XP YP l.row.toRowW d [] (fun f vs => PySem.call f vs) := by
  refine Att.attach_call hn hdf fun w s₀ s₁ mg mb fa o pm cd doc a vs ns G Y ho hd hcd hmg hobj hints hlen hgens => ?_
  have kin := hY w _ Y
  obtain ⟨cs, fd, hcs, nK, bd, FF⟩ := F w mg fa _ kin G.T.g hmg
  have heads : ∀ p ∈ cs, PySem.W.CodeHd s₁.heap p.1 p.2 ∧ s₁.heap.get? p.2 = some { cls := .none, data := .fields #[] } := fun p hp => by
    obtain ⟨y, hy, e⟩ := hcs p hp
    obtain ⟨r, er⟩ := Option.isSome_iff_exists.mp (hrec y hy)
    exact PySem.W.tab_of (c := p.1) (P := p.2) G.T kin er e
  have tabs : ∀ b ∈ cs.map (·.2), s₁.heap.get? b = some { cls := .none, data := .fields #[] } := fun b hb => by
    obtain ⟨p, hp, e⟩ := List.mem_map.mp hb
    rw [← e]
    exact (heads p hp).2
  have inT : ∀ p ∈ cs, p.2 ∈ cs.map (·.2) := fun p hp => List.mem_map_of_mem hp
  obtain ⟨H, hT, hO, hS, hok, only, notK⟩ := script_tables (P := l.prog) (w := w) (ts := cs.map (·.2)) kin hobj hints (Nat.le_trans hlen hn2) tabs (fun b hb => by
    obtain ⟨p, hp, e⟩ := List.mem_map.mp hb
    rw [← e]
    exact nK p hp)
  -- what is neither a list nor an empty table is not told of
  have clear : ∀ {b : Addr} {ob : Obj}, s₁.heap.get? b = some ob → (∀ xs m, ob.data ≠ .seq xs m) → ob.data ≠ .fields #[] → H b = none := fun {b ob} e n1 n2 => by
    cases c : H b with
    | none => rfl
    | some u =>
      rcases only b (by rw [c]; exact fun z => nomatch z) with y | y
      · rw [y, hobj] at e
        exact absurd (congrArg Obj.data (Option.some.inj e)).symm (n1 _ _)
      · rw [tabs b y] at e
        exact absurd (congrArg Obj.data (Option.some.inj e)).symm n2
  have free : ∀ {b : Addr} {ob : Obj} {es : Array DictEntry} {ep : Nat}, s₁.heap.get? b = some ob → ob.data = .dict es ep → H b = none := fun {b ob es ep} h1 h2 =>
    clear h1 (fun xs m z => by rw [h2] at z; cases z) (fun z => by rw [h2] at z; cases z)
  have ns' : ∀ {b : Addr} {m : Str → Option Value}, s₁.heap.Ns b m → (hidT s₁.heap H).Ns b m := by
    rintro b m ⟨ob, es, ep, h1, h2, h3⟩
    exact ⟨ob, es, ep, hidT_get h1 (free h1 h2), h2, h3⟩
  have kinB : (K w.params).In (hidT s₁.heap H) := fun b ob e => hidT_get (kin b ob e) (notK b ob e)
  have lim : (hidT s₁.heap H).NoLimit := by
    obtain ⟨mc, h1, h2⟩ := G.T.nolimit
    exact ⟨mc, ns' h1, h2⟩
  have notGlobals : ∀ p ∈ cs, mainGlobals ≠ p.2 := fun p hp z => by
    obtain ⟨og, es, ep, e, hd', _⟩ := G.T.g
    have y := (heads p hp).2
    rw [← z, e] at y
    cases y
    cases hd'
  have TB : ∀ p ∈ cs, TabB (hidT s₁.heap H) mg p.1 p.2 := fun p hp => by
    obtain ⟨h1, h2⟩ := heads p hp
    refine ⟨?_, ?_, notGlobals p hp⟩
    · obtain ⟨oc, us, r1, r2, r3, r4, r5, r6, r7, e1, e2, e3, e4, rest⟩ := h1
      refine ⟨oc, us, r1, r2, r3, r4, r5, r6, r7, hidT_get e1 (clear e1 (fun xs m z => ?_) fun z => ?_), e2, e3, e4, rest⟩
      · rw [e3] at z
        cases z
      · rw [e3] at z
        cases z
        simp at e4
    · obtain ⟨bm, ob, b1, b2, b3, b4, b5, b6⟩ := G.T.bmain
      have z1 : bm ≠ mainGlobals := fun z => by
        obtain ⟨og, es, ep, e, hd', _⟩ := G.T.g
        rw [z, e] at b3
        cases b3
        rw [hd'] at b6
        cases b6
      have z2 : bm ≠ p.2 := fun z => by
        rw [z, h2] at b3
        cases b3
        cases b6
      exact ⟨bm, ob, b1, b2, z1, z2, hidT_get b3 (clear b3 (fun xs m z => by rw [b6] at z; cases z) fun z => by rw [b6] at z; cases z), b4, b5, b6⟩
  have en : Env0 l.prog w (K w.params) mg (hidT s₁.heap H) callerA [] s₁ H :=
    ⟨rfl, ⟨kinB, ns' G.T.g, ⟨mb, ns' G.T.b, G.T.builtins⟩, lim⟩, fun b ob e => of_hidT e, Nat.le_of_eq (hidT_size _ _), trivial, (fun b z => nomatch z), hok, .of_eq hgens⟩
  refine codeAny_mono ((FF _ kinB (ns' G.T.g) TB).run callerA [] s₁ H ⟨[.ref a], []⟩ [.ref a] [.ref a] _ _ hr rfl en (bd s₁ (.ref a)) (.cons rfl .nil) (hsp _ cs H a ns hlen (fun p hp => hT _ (inT p hp)) hS)) fun r s' z => ?_
  cases r with
  | error e => exact False.elim z
  | ok fl =>
    cases fl with
    | next => exact False.elim z
    | brk => exact False.elim z
    | cont => exact False.elim z
    | ret u =>
      obtain ⟨v, H', os, bare, un, hok', rr, e⟩ := z
      have e' : v = .bl true := e
      subst e'
      obtain rfl : u = Value.bool true := rr
      have stay : ∀ b ob, b ∉ cs.map (·.2) → s₁.heap.get? b = some ob → s'.heap.get? b = some ob := fun b ob nb hb => by
        cases c : H b with
        | none => exact un.keep b ob hb c (fun z => nomatch z) (fun z => nomatch z)
        | some u =>
          rcases hO b with z | z | ⟨ox, xs, z⟩
          · rw [c] at z
            cases z
          · exact absurd z nb
          · obtain ⟨e1, _⟩ := hok b _ z
            obtain ⟨e2, _⟩ := hok' b _ (un.frzs b ox _ z)
            rw [hb] at e1
            cases e1
            exact e2
      have grew : ∀ p ∈ cs, ∃ more : Array Value, s'.heap.get? p.2 = some { cls := .none, data := .fields more } := fun p hp => by
        obtain ⟨more, y⟩ := un.tbls p.2 #[] (hT _ (inT p hp))
        exact ⟨_, hok' p.2 _ y⟩
      refine ⟨rfl, ⟨fun b ob hb => ?_, fun b ob hb => ?_⟩, os, bare⟩
      · by_cases y : b ∈ cs.map (·.2)
        · obtain ⟨p, hp, rfl⟩ := List.mem_map.mp y
          obtain ⟨more, hm⟩ := grew p hp
          obtain ⟨h1, h2⟩ := heads p hp
          rw [h2] at hb
          cases hb
          exact .inr (.inl ⟨(h1.tab h2).isCodeTable, rfl, #[], more, rfl, by rw [hm, Array.empty_append]⟩)
        · exact .inl (stay b ob y hb)
      · by_cases y : b ∈ cs.map (·.2)
        · obtain ⟨p, hp, rfl⟩ := List.mem_map.mp y
          obtain ⟨more, hm⟩ := grew p hp
          exact ⟨_, hm⟩
        · exact ⟨ob, stay b ob y hb⟩
end Rp
/-! Jo: the mathematics of lows side by side: what settles from above, what goes down step by step (behind Pv; valAt as in bV20f, under its own name). -/
namespace Lw
open PySem L2 Rp
def sumN : Nat → (Nat → Int) → Int
  | 0, _ => 0
  | n + 1, f => sumN n f + f n
def upF {α : Type} (f : Nat → α) (i : Nat) (v : α) : Nat → α := fun k => if k = i then v else f k
theorem upF_same {α : Type} {f : Nat → α} {i : Nat} {v : α} : upF f i v i = v := by simp [upF]
theorem upF_ne {α : Type} {f : Nat → α} {i k : Nat} {v : α} (h : k ≠ i) : upF f i v k = f k := by simp [upF, h]
theorem upF_self {α : Type} {f : Nat → α} {i : Nat} : upF f i (f i) = f := by
  funext k
  unfold upF
  split
  · rename_i h
    rw [h]
  · rfl
theorem sumN_congr {f g : Nat → Int} : ∀ {n : Nat}, (∀ i, i < n → f i = g i) → sumN n f = sumN n g
  | 0, _ => rfl
  | n + 1, h => by
    show sumN n f + f n = sumN n g + g n
    rw [sumN_congr fun i hi => h i (by omega), h n (by omega)]
theorem sumN_up {f : Nat → Int} {i : Nat} {v : Int} : ∀ {n : Nat}, i < n → sumN n (upF f i v) = sumN n f - f i + v
  | 0, h => absurd h (Nat.not_lt_zero _)
  | n + 1, h => by
    show sumN n (upF f i v) + upF f i v n = sumN n f + f n - f i + v
    by_cases e : i = n
    · subst e
      rw [upF_same, sumN_congr (f := upF f i v) (g := f) fun k hk => upF_ne (by omega)]
      omega
    · rw [sumN_up (by omega), upF_ne (Ne.symm e)]
      omega
theorem sumN_mono {f g : Nat → Int} : ∀ {n : Nat}, (∀ i, i < n → f i ≤ g i) → sumN n f ≤ sumN n g
  | 0, _ => Int.le_refl _
  | n + 1, h => by
    have := sumN_mono (n := n) fun i hi => h i (by omega)
    have := h n (by omega)
    show sumN n f + f n ≤ sumN n g + g n
    omega
theorem sumN_but {f g : Nat → Int} : ∀ {n : Nat} {i : Nat}, i < n → (∀ k, k < n → f k ≤ g k) → sumN n f - f i ≤ sumN n g - g i
  | 0, _, h, _ => absurd h (Nat.not_lt_zero _)
  | n + 1, i, h, q => by
    show sumN n f + f n - f i ≤ sumN n g + g n - g i
    by_cases e : i = n
    · subst e
      have := sumN_mono (n := i) fun k hk => q k (by omega)
      omega
    · have := sumN_but (n := n) (i := i) (by omega) fun k hk => q k (by omega)
      have := q n (by omega)
      omega
theorem sumN_zero {n : Nat} : sumN n (fun _ => 0) = 0 := by
  induction n with
  | zero => rfl
  | succ n ih =>
    show sumN n _ + 0 = 0
    rw [ih]
    rfl
theorem sumN_le0 {n : Nat} {f : Nat → Int} (h : ∀ i, i < n → f i ≤ 0) : sumN n f ≤ 0 := by
  have := sumN_mono (n := n) (g := fun _ => 0) h
  rwa [sumN_zero] at this
theorem sumN_head {f : Nat → Int} : ∀ {n : Nat}, sumN (n + 1) f = f 0 + sumN n (fun i => f (i + 1))
  | 0 => by simp [sumN]
  | n + 1 => by
    show sumN (n + 1) f + f (n + 1) = f 0 + (sumN n (fun i => f (i + 1)) + f (n + 1))
    rw [sumN_head]
    omega
theorem sumN_rev {f : Nat → Int} : ∀ {n : Nat}, sumN n (fun i => f (n - 1 - i)) = sumN n f
  | 0 => rfl
  | n + 1 => by
    show sumN n (fun i => f (n - i)) + f (n + 1 - 1 - n) = sumN (n + 1) f
    rw [show n + 1 - 1 - n = 0 by omega, sumN_head]
    have := sumN_rev (f := fun i => f (i + 1)) (n := n)
    rw [← this, sumN_congr (g := fun i => f (n - 1 - i + 1)) fun i hi => by rw [show n - i = n - 1 - i + 1 by omega]]
    omega
def fI (l : List Int) : Nat → Int := fun i => l.getD i 0
theorem fI_at {l : List Int} {i : Nat} {x : Int} (h : l[i]? = some x) : fI l i = x := by
  unfold fI
  rw [List.getD_eq_getElem?_getD, h]
  rfl
theorem fI_sum : ∀ {l : List Int}, l.sum = sumN l.length (fI l)
  | [] => rfl
  | x :: l => by
    rw [List.sum_cons, List.length_cons, sumN_head, fI_sum (l := l)]
    rfl
theorem fI_set {l : List Int} {i : Nat} {v : Int} (h : i < l.length) : fI (l.set i v) = upF (fI l) i v := by
  funext k
  unfold fI upF
  rw [List.getD_eq_getElem?_getD]
  by_cases e : k = i
  · subst e
    rw [List.getElem?_set_self h, if_pos rfl]
    rfl
  · rw [List.getElem?_set_ne (Ne.symm e), if_neg e]
    show _ = l.getD k 0
    rw [List.getD_eq_getElem?_getD]
/-- the usage of the last pair that begins at c or ahead of it; 0 where there is none -/
def vlF (c : Int) (a : Option Int) (ps : List P2) : Option Int := ps.foldl (fun v p => if p.1 ≤ c then some p.2 else v) a
def vl (c : Int) (ps : List P2) : Int := (vlF c none ps).getD 0
theorem vlF_none {c : Int} : ∀ {ps : List P2} {a : Option Int}, (∀ p ∈ ps, c < p.1) → vlF c a ps = a
  | [], _, _ => rfl
  | p :: ps, a, h => by
    show vlF c (if p.1 ≤ c then some p.2 else a) ps = a
    rw [if_neg (by have := h p (List.mem_cons_self ..); omega)]
    exact vlF_none fun q hq => h q (List.mem_cons_of_mem _ hq)
theorem vlF_app {c : Int} {a : Option Int} {ps qs : List P2} : vlF c a (ps ++ qs) = vlF c (vlF c a ps) qs := by
  unfold vlF
  rw [List.foldl_append]
/-- where p stands and the next one is beyond, the value is p's -/
theorem vlF_split {c : Int} {a : Option Int} {A B : List P2} {p : P2} (hp : p.1 ≤ c) (hB : ∀ q ∈ B, c < q.1) : vlF c a (A ++ p :: B) = some p.2 := by
  rw [vlF_app]
  show vlF c (if p.1 ≤ c then some p.2 else _) B = _
  rw [if_pos hp]
  exact vlF_none hB
/-- what starts at 0, at 0 or below, and goes down -/
structure Sv (ps : List P2) : Prop where
  st : Strict ps
  hd : ∃ l W, ps = (0, l) :: W ∧ l ≤ 0
theorem Sv.neg {ps : List P2} (h : Sv ps) {c : Int} (hc : c < 0) : vlF c none ps = none := by
  obtain ⟨l, W, rfl, _⟩ := h.hd
  refine vlF_none fun q hq => ?_
  rcases List.mem_cons.mp hq with e | e
  · rw [e]
    exact hc
  · have := ((List.pairwise_cons.mp h.st).1 q e).1
    dsimp only at this
    omega
/-- the value at c >= 0: a pair at c or ahead, and all those at c or ahead are at least as high -/
theorem Sv.at {ps : List P2} (h : Sv ps) {c : Int} (hc : 0 ≤ c) : ∃ i p, ps[i]? = some p ∧ vlF c none ps = some p.2 ∧ p.1 ≤ c ∧ (∀ q, ps[i + 1]? = some q → c < q.1) ∧ ∀ q ∈ ps, q.1 ≤ c → p.2 ≤ q.2 := by
  obtain ⟨l, W, e, l0⟩ := h.hd
  have go : ∀ (B A : List P2) (p : P2), ps = A ++ p :: B → p.1 ≤ c → ∃ i r, ps[i]? = some r ∧ vlF c none ps = some r.2 ∧ r.1 ≤ c ∧ (∀ q, ps[i + 1]? = some q → c < q.1) ∧ ∀ q ∈ ps, q.1 ≤ c → r.2 ≤ q.2 := by
    intro B
    induction B with
    | nil =>
      intro A p e hp
      refine ⟨A.length, p, by rw [e]; simp, by rw [e]; exact vlF_split hp (by simp), hp, fun q hq => ?_, fun q hq _ => ?_⟩
      · rw [e] at hq
        simp at hq
      · rw [e] at hq
        have st := h.st
        rw [e] at st
        rcases List.mem_append.mp hq with z | z
        · have := ((List.pairwise_append.mp st).2.2 q z p (by simp)).2
          omega
        · rw [List.mem_singleton.mp z]
          exact Int.le_refl _
    | cons q B ih =>
      intro A p e hp
      by_cases hq : q.1 ≤ c
      · exact ih (A ++ [p]) q (by rw [e, List.append_assoc]; rfl) hq
      · have st := h.st
        rw [e] at st
        have st2 := (List.pairwise_append.mp st).2.1
        have stq := List.pairwise_cons.mp (List.pairwise_cons.mp st2).2
        have far : ∀ r ∈ q :: B, c < r.1 := by
          intro r hr
          rcases List.mem_cons.mp hr with z | z
          · rw [z]
            omega
          · have := (stq.1 r z).1
            omega
        refine ⟨A.length, p, by rw [e]; simp, by rw [e]; exact vlF_split hp far, hp, fun r hr => ?_, fun r hr hc2 => ?_⟩
        · rw [e] at hr
          have : r = q := by
            rw [List.getElem?_append_right (by omega)] at hr
            simpa using hr.symm
          rw [this]
          omega
        · rw [e] at hr
          rcases List.mem_append.mp hr with z | z
          · have := ((List.pairwise_append.mp st).2.2 r z p (by simp)).2
            omega
          · rcases List.mem_cons.mp z with y | y
            · rw [y]
              exact Int.le_refl _
            · have := far r y
              omega
  exact go W [] (0, l) e hc
theorem Sv.le0 {ps : List P2} (h : Sv ps) : ∀ p ∈ ps, p.2 ≤ 0 := by
  obtain ⟨l, W, e, l0⟩ := h.hd
  have st := h.st
  rw [e] at st ⊢
  intro p hp
  rcases List.mem_cons.mp hp with z | z
  · rw [z]
    exact l0
  · have := ((List.pairwise_cons.mp st).1 p z).2
    dsimp only at this
    omega
theorem Sv.vl0 {ps : List P2} (h : Sv ps) (c : Int) : vl c ps ≤ 0 := by
  unfold vl
  by_cases hc : 0 ≤ c
  · obtain ⟨i, p, e1, e2, _⟩ := h.at hc
    rw [e2]
    exact h.le0 p (List.mem_of_getElem? e1)
  · rw [h.neg (by omega)]
    exact Int.le_refl _
theorem Sv.anti {ps : List P2} (h : Sv ps) {c d : Int} (hcd : c ≤ d) : vl d ps ≤ vl c ps := by
  by_cases hc : 0 ≤ c
  · unfold vl
    obtain ⟨i, p, e1, e2, e3, _⟩ := h.at hc
    obtain ⟨j, q, f1, f2, f3, _, f5⟩ := h.at (c := d) (by omega)
    rw [e2, f2]
    exact f5 p (List.mem_of_getElem? e1) (by omega)
  · have : vl c ps = 0 := by
      unfold vl
      rw [h.neg (by omega)]
      rfl
    rw [this]
    exact h.vl0 d
theorem Sv.below {ps : List P2} (h : Sv ps) {c : Int} {q : P2} (hq : q ∈ ps) (hc : q.1 ≤ c) : vl c ps ≤ q.2 := by
  have q0 : 0 ≤ q.1 := by
    obtain ⟨l, W, e, l0⟩ := h.hd
    have st := h.st
    rw [e] at st hq
    rcases List.mem_cons.mp hq with z | z
    · rw [z]
      exact Int.le_refl _
    · have := ((List.pairwise_cons.mp st).1 q z).1
      dsimp only at this
      omega
  obtain ⟨i, p, e1, e2, e3, _, e5⟩ := h.at (c := c) (by omega)
  unfold vl
  rw [e2]
  exact e5 q hq hc
section
variable {n : Nat} {P : Nat → List P2} {c : Int}
abbrev Parts (n : Nat) (P : Nat → List P2) : Prop := ∀ i, i < n → Sv (P i)
/-- the value of the i-th beside the other lows -/
def Fx (n : Nat) (P : Nat → List P2) (c : Int) (L : Nat → Int) (i : Nat) : Int := vl (c - (sumN n L - L i)) (P i)
def Post (n : Nat) (P : Nat → List P2) (c : Int) (L : Nat → Int) : Prop := ∀ i, i < n → L i ≤ Fx n P c L i
def Settled (n : Nat) (P : Nat → List P2) (c : Int) (L : Nat → Int) : Prop := ∀ i, i < n → Fx n P c L i = L i
structure LowAt (n : Nat) (P : Nat → List P2) (c : Int) (L : Nat → Int) : Prop where
  settled : Settled n P c L
  great : ∀ M, Post n P c M → ∀ i, i < n → M i ≤ L i
theorem Settled.post {L : Nat → Int} (h : Settled n P c L) : Post n P c L := fun i hi => by rw [h i hi]; exact Int.le_refl _
theorem LowAt.uniq {L M : Nat → Int} (h : LowAt n P c L) (k : LowAt n P c M) : ∀ i, i < n → L i = M i := fun i hi => Int.le_antisymm (k.great L h.settled.post i hi) (h.great M k.settled.post i hi)
theorem Fx_anti (hP : Parts n P) {L M : Nat → Int} (h : ∀ k, k < n → L k ≤ M k) {i : Nat} (hi : i < n) : Fx n P c L i ≤ Fx n P c M i := (hP i hi).anti (by have := sumN_but hi h; omega)
theorem Fx_more (hP : Parts n P) {L : Nat → Int} {d : Int} (h : c ≤ d) {i : Nat} (hi : i < n) : Fx n P d L i ≤ Fx n P c L i := (hP i hi).anti (by omega)
theorem Post.more (hP : Parts n P) {L : Nat → Int} {d : Int} (h : c ≤ d) (k : Post n P d L) : Post n P c L := fun i hi => Int.le_trans (k i hi) (Fx_more hP h hi)
/-- a greater capacity never raises a low -/
theorem LowAt.mono (hP : Parts n P) {L M : Nat → Int} {d : Int} (h : c ≤ d) (a : LowAt n P c L) (b : LowAt n P d M) : ∀ i, i < n → M i ≤ L i := a.great M (b.settled.post.more hP h)
theorem LowAt.congr {L M : Nat → Int} (h : LowAt n P c L) (e : ∀ i, i < n → L i = M i) : LowAt n P c M := by
  have es := sumN_congr e
  refine ⟨fun i hi => ?_, fun N hN i hi => by rw [← e i hi]; exact h.great N hN i hi⟩
  have := h.settled i hi
  unfold Fx at this ⊢
  rw [← es, ← e i hi]
  exact this
theorem LowAt.congrP {Q : Nat → List P2} {L : Nat → Int} (h : LowAt n P c L) (e : ∀ i, i < n → P i = Q i) : LowAt n Q c L := by
  refine ⟨fun i hi => ?_, fun N hN i hi => h.great N (fun k hk => ?_) i hi⟩
  · have := h.settled i hi
    unfold Fx at this ⊢
    rw [← e i hi]
    exact this
  · have := hN k hk
    unfold Fx at this ⊢
    rw [e k hk]
    exact this
/-- the order of the parts does not matter -/
theorem LowAt.rev {L : Nat → Int} (h : LowAt n P c L) : LowAt n (fun i => P (n - 1 - i)) c (fun i => L (n - 1 - i)) := by
  refine ⟨fun i hi => ?_, fun N hN i hi => ?_⟩
  · have := h.settled (n - 1 - i) (by omega)
    unfold Fx at this ⊢
    rw [sumN_rev (f := L)]
    exact this
  · have := h.great (fun i => N (n - 1 - i)) (fun k hk => ?_) (n - 1 - i) (by omega)
    · rw [show n - 1 - (n - 1 - i) = i by omega] at this
      exact this
    · have := hN (n - 1 - k) (by omega)
      unfold Fx at this ⊢
      rw [sumN_rev (f := N)]
      dsimp only at this ⊢
      rw [show n - 1 - (n - 1 - k) = k by omega] at this
      exact this
/-! ### going down -/
def lowF (P : Nat → List P2) (k : Nat → Nat) : Nat → Int := fun i => ((P i).getD (k i) (0, 0)).2
def totF (n : Nat) (P : Nat → List P2) (k : Nat → Nat) : Int := sumN n (lowF P k)
theorem lowF_at {k : Nat → Nat} {i : Nat} {p : P2} (h : (P i)[k i]? = some p) : lowF P k i = p.2 := by
  unfold lowF
  rw [List.getD_eq_getElem?_getD, h]
  rfl
theorem lowF_up {k : Nat → Nat} {i : Nat} {q : P2} (h : (P i)[k i + 1]? = some q) : lowF P (upF k i (k i + 1)) = upF (lowF P k) i q.2 := by
  funext j
  by_cases e : j = i
  · subst e
    rw [upF_same, lowF_at (p := q) (by rw [upF_same]; exact h)]
  · rw [upF_ne e]
    unfold lowF
    rw [upF_ne e]
structure Dn (n : Nat) (P : Nat → List P2) (c : Int) (k : Nat → Nat) : Prop where
  ent : ∀ i, i < n → ∃ p, (P i)[k i]? = some p ∧ p.1 ≤ c - (totF n P k - p.2)
  great : ∀ M, Post n P c M → ∀ i, i < n → M i ≤ lowF P k i
theorem Dn.start (hP : Parts n P) (hc : 0 ≤ c) : Dn n P c (fun _ => 0) := by
  have l0 : ∀ i, i < n → lowF P (fun _ => 0) i ≤ 0 := fun i hi => by
    obtain ⟨l, W, e, h0⟩ := (hP i hi).hd
    rw [lowF_at (p := (0, l)) (by rw [e]; rfl)]
    exact h0
  refine ⟨fun i hi => ?_, fun M hM i hi => ?_⟩
  · obtain ⟨l, W, e, h0⟩ := (hP i hi).hd
    refine ⟨(0, l), by rw [e]; rfl, ?_⟩
    have el : lowF P (fun _ => 0) i = l := lowF_at (p := (0, l)) (by rw [e]; rfl)
    have := sumN_but (f := lowF P (fun _ => 0)) (g := fun _ => 0) hi fun k hk => l0 k hk
    rw [sumN_zero, el] at this
    show 0 ≤ c - (sumN n (lowF P fun _ => 0) - l)
    omega
  · have m0 : ∀ k, k < n → M k ≤ 0 := fun k hk => Int.le_trans (hM k hk) ((hP k hk).vl0 _)
    have := sumN_but (f := M) (g := fun _ => 0) hi m0
    rw [sumN_zero] at this
    obtain ⟨l, W, e, h0⟩ := (hP i hi).hd
    have el : lowF P (fun _ => 0) i = l := lowF_at (p := (0, l)) (by rw [e]; rfl)
    rw [el]
    exact Int.le_trans (hM i hi) ((hP i hi).below (q := (0, l)) (by rw [e]; exact List.mem_cons_self ..) (by dsimp only; omega))
theorem Dn.step (hP : Parts n P) {k : Nat → Nat} {i : Nat} {p q : P2} (h : Dn n P c k) (hi : i < n) (ep : (P i)[k i]? = some p) (eq : (P i)[k i + 1]? = some q) (le : totF n P k + (q.1 - p.2) ≤ c) :
    Dn n P c (upF k i (k i + 1)) ∧ totF n P (upF k i (k i + 1)) = totF n P k + (q.2 - p.2) ∧ q.2 < p.2 := by
  have low : q.2 < p.2 := by
    obtain ⟨h1, rfl⟩ := List.getElem?_eq_some_iff.mp ep
    obtain ⟨h2, rfl⟩ := List.getElem?_eq_some_iff.mp eq
    exact ((List.pairwise_iff_getElem.mp (hP i hi).st) _ _ h1 h2 (by omega)).2
  have et : totF n P (upF k i (k i + 1)) = totF n P k + (q.2 - p.2) := by
    unfold totF
    rw [lowF_up eq, sumN_up hi, lowF_at ep]
    omega
  refine ⟨⟨fun j hj => ?_, fun M hM j hj => ?_⟩, et, low⟩
  · by_cases e : j = i
    · subst e
      refine ⟨q, by rw [upF_same]; exact eq, ?_⟩
      rw [et]
      omega
    · obtain ⟨r, e1, e2⟩ := h.ent j hj
      refine ⟨r, by rw [upF_ne e]; exact e1, ?_⟩
      rw [et]
      omega
  · rw [lowF_up eq]
    by_cases e : j = i
    · subst e
      rw [upF_same]
      have sb := sumN_but (f := M) (g := lowF P k) hj fun x hx => h.great M hM x hx
      rw [lowF_at ep] at sb
      refine Int.le_trans (hM j hj) ((hP j hj).below (List.mem_of_getElem? eq) ?_)
      have : totF n P k = sumN n (lowF P k) := rfl
      omega
    · rw [upF_ne e]
      exact h.great M hM j hj
theorem Dn.more (hP : Parts n P) {k : Nat → Nat} {d : Int} (h : Dn n P c k) (hd : c ≤ d) : Dn n P d k := by
  refine ⟨fun i hi => ?_, fun M hM => h.great M (hM.more hP hd)⟩
  obtain ⟨p, e1, e2⟩ := h.ent i hi
  exact ⟨p, e1, by omega⟩
def Stuck (n : Nat) (P : Nat → List P2) (c : Int) (k : Nat → Nat) : Prop := ∀ i p q, i < n → (P i)[k i]? = some p → (P i)[k i + 1]? = some q → c < totF n P k + (q.1 - p.2)
theorem Dn.low (hP : Parts n P) {k : Nat → Nat} (h : Dn n P c k) (s : Stuck n P c k) : LowAt n P c (lowF P k) := by
  refine ⟨fun i hi => ?_, h.great⟩
  obtain ⟨p, e1, e2⟩ := h.ent i hi
  rw [lowF_at e1]
  unfold Fx
  rw [lowF_at e1]
  obtain ⟨hk, ek⟩ := List.getElem?_eq_some_iff.mp e1
  have es : P i = (P i).take (k i) ++ p :: (P i).drop (k i + 1) := by
    rw [← ek, ← List.drop_eq_getElem_cons hk, List.take_append_drop]
  unfold vl
  have t0 : totF n P k = sumN n (lowF P k) := rfl
  rw [es, vlF_split (p := p) (by omega) fun q hq => ?_]
  · rfl
  · obtain ⟨j, hj, rfl⟩ := List.getElem_of_mem hq
    rw [List.length_drop] at hj
    have h1 : k i + 1 < (P i).length := by omega
    have st := s i p _ hi e1 (List.getElem?_eq_getElem h1)
    have t : totF n P k = sumN n (lowF P k) := rfl
    rw [List.getElem_drop]
    by_cases z : j = 0
    · subst z
      simp only [Nat.add_zero]
      omega
    · have := ((List.pairwise_iff_getElem.mp (hP i hi).st) (k i + 1) (k i + 1 + j) h1 (by omega) (by omega)).1
      omega
/-! ### settling from above -/
structure Up (n : Nat) (P : Nat → List P2) (c : Int) (L : Nat → Int) : Prop where
  ge : ∀ M, Post n P c M → ∀ i, i < n → M i ≤ L i
  pre : ∀ i, i < n → Fx n P c L i ≤ L i
  np : ∀ i, i < n → L i ≤ 0
theorem Up.start (hP : Parts n P) : Up n P c (fun _ => 0) :=
  ⟨fun M hM i hi => Int.le_trans (hM i hi) ((hP i hi).vl0 _), fun i hi => (hP i hi).vl0 _, fun _ _ => Int.le_refl _⟩
theorem Fx_own {L : Nat → Int} {i : Nat} {v : Int} (hi : i < n) : Fx n P c (upF L i v) i = Fx n P c L i := by
  unfold Fx
  rw [sumN_up hi, upF_same, show sumN n L - L i + v - v = sumN n L - L i by omega]
theorem Up.step (hP : Parts n P) {L : Nat → Int} {i : Nat} (h : Up n P c L) (hi : i < n) : Up n P c (upF L i (Fx n P c L i)) := by
  have low : ∀ k, k < n → upF L i (Fx n P c L i) k ≤ L k := fun k hk => by
    by_cases e : k = i
    · subst e
      rw [upF_same]
      exact h.pre k hk
    · rw [upF_ne e]
      exact Int.le_refl _
  refine ⟨fun M hM k hk => ?_, fun k hk => ?_, fun k hk => Int.le_trans (low k hk) (h.np k hk)⟩
  · by_cases e : k = i
    · subst e
      rw [upF_same]
      exact Int.le_trans (hM k hk) (Fx_anti hP (fun x hx => h.ge M hM x hx) hk)
    · rw [upF_ne e]
      exact h.ge M hM k hk
  · by_cases e : k = i
    · subst e
      rw [Fx_own hi, upF_same]
      exact Int.le_refl _
    · rw [upF_ne e]
      exact Int.le_trans (Fx_anti hP low hk) (h.pre k hk)
theorem Up.low {L : Nat → Int} (h : Up n P c L) (s : Settled n P c L) : LowAt n P c L := ⟨s, h.ge⟩
theorem Up.bound (hc : 0 ≤ c) {L : Nat → Int} (h : Up n P c L) {i : Nat} (hi : i < n) : 0 ≤ c - (sumN n L - L i) := by
  have := sumN_but (f := L) (g := fun _ => 0) hi h.np
  rw [sumN_zero] at this
  omega
/-- how many lower values there are -/
def rnk (ps : List P2) (l : Int) : Nat := (ps.filter fun q => decide (q.2 < l)).length
theorem rnk_le (ps : List P2) (l : Int) : rnk ps l ≤ ps.length := List.length_filter_le _ _
theorem rnk_mono {l m : Int} (h : l ≤ m) : ∀ (ps : List P2), rnk ps l ≤ rnk ps m
  | [] => Nat.le_refl _
  | p :: ps => by
    have ih := rnk_mono h ps
    unfold rnk at ih ⊢
    rw [List.filter_cons, List.filter_cons]
    by_cases a : p.2 < l
    · rw [if_pos (decide_eq_true a), if_pos (decide_eq_true (by omega)), List.length_cons, List.length_cons]
      omega
    · rw [if_neg (fun z => a (of_decide_eq_true z))]
      split
      · rw [List.length_cons]
        omega
      · exact ih
theorem rnk_lt {l m : Int} (h : l < m) : ∀ {ps : List P2} {p : P2}, p ∈ ps → p.2 = l → rnk ps l < rnk ps m
  | r :: ps, p, hp, e => by
    have ih := rnk_mono (Int.le_of_lt h) ps
    rcases List.mem_cons.mp hp with z | z
    · subst z
      unfold rnk at ih ⊢
      rw [List.filter_cons, List.filter_cons, if_neg (by rw [decide_eq_true_eq]; omega), if_pos (decide_eq_true (by omega)), List.length_cons]
      omega
    · have := rnk_lt h z e
      unfold rnk at this ⊢
      rw [List.filter_cons, List.filter_cons]
      by_cases a : r.2 < l
      · rw [if_pos (decide_eq_true a), if_pos (decide_eq_true (by omega)), List.length_cons, List.length_cons]
        omega
      · rw [if_neg (fun z => a (of_decide_eq_true z))]
        split
        · rw [List.length_cons]
          omega
        · exact this
def mu (n : Nat) (P : Nat → List P2) (L : Nat → Int) : Int := sumN n fun i => (rnk (P i) (L i) : Int)
theorem mu_up {L : Nat → Int} {i : Nat} {v : Int} (hi : i < n) : mu n P (upF L i v) = mu n P L - (rnk (P i) (L i) : Int) + (rnk (P i) v : Int) := by
  have e : (fun j => (rnk (P j) (upF L i v j) : Int)) = upF (fun j => (rnk (P j) (L j) : Int)) i (rnk (P i) v : Int) := by
    funext j
    by_cases e : j = i
    · subst e
      rw [upF_same, upF_same]
    · rw [upF_ne e, upF_ne e]
  unfold mu
  rw [e, sumN_up hi]
theorem mu_lt (hP : Parts n P) (hc : 0 ≤ c) {L : Nat → Int} {i : Nat} (h : Up n P c L) (hi : i < n) (ne : Fx n P c L i ≠ L i) : mu n P (upF L i (Fx n P c L i)) < mu n P L := by
  rw [mu_up hi]
  have := h.pre i hi
  obtain ⟨j, p, e1, e2, _⟩ := (hP i hi).at (h.bound hc hi)
  have ev : Fx n P c L i = p.2 := by
    unfold Fx vl
    rw [e2]
    rfl
  have := rnk_lt (l := Fx n P c L i) (m := L i) (by omega) (List.mem_of_getElem? e1) ev.symm
  omega
theorem mu_start : mu n P (fun _ => 0) ≤ sumN n fun i => ((P i).length : Int) := sumN_mono fun i _ => by
  have := rnk_le (P i) 0
  dsimp only
  omega
theorem mu_ge {L : Nat → Int} : 0 ≤ mu n P L := by
  have := sumN_mono (n := n) (f := fun _ => 0) (g := fun i => (rnk (P i) (L i) : Int)) fun i _ => Int.natCast_nonneg _
  rwa [sumN_zero] at this
/-- within one turn: something went down, or all that was looked at stays -/
structure Turn (n : Nat) (P : Nat → List P2) (c : Int) (f : Nat) (L0 : Nat → Int) (s : Nat) (L : Nat → Int) : Prop where
  up : Up n P c L
  or : mu n P L < mu n P L0 ∨ ((∀ i, L i = L0 i) ∧ ∀ t, t < s → Fx n P c L0 ((f + t) % n) = L0 ((f + t) % n))
  stay : Settled n P c L0 → ∀ i, L i = L0 i
theorem Turn.start {f : Nat} {L : Nat → Int} (h : Up n P c L) : Turn n P c f L 0 L := ⟨h, .inr ⟨fun _ => rfl, fun t ht => absurd ht (Nat.not_lt_zero _)⟩, fun _ _ => rfl⟩
theorem Turn.step (hP : Parts n P) (hc : 0 ≤ c) {f s : Nat} {L0 L : Nat → Int} (h0 : 0 < n) (h : Turn n P c f L0 s L) : Turn n P c f L0 (s + 1) (upF L ((f + s) % n) (Fx n P c L ((f + s) % n))) := by
  have hi : (f + s) % n < n := Nat.mod_lt _ h0
  by_cases e : Fx n P c L ((f + s) % n) = L ((f + s) % n)
  · rw [e, upF_self]
    refine ⟨h.up, ?_, h.stay⟩
    rcases h.or with z | ⟨z, y⟩
    · exact .inl z
    · refine .inr ⟨z, fun t ht => ?_⟩
      by_cases q : t = s
      · subst q
        have : L = L0 := funext z
        rw [← this]
        exact e
      · exact y t (by omega)
  · have lt := mu_lt hP hc h.up hi e
    refine ⟨h.up.step hP hi, .inl ?_, fun z => ?_⟩
    · rcases h.or with y | ⟨y, _⟩
      · omega
      · have : L = L0 := funext y
        rw [this] at lt ⊢
        exact lt
    · have : L = L0 := funext (h.stay z)
      rw [this] at e
      exact absurd (z _ hi) e
theorem Turn.done (hP : Parts n P) {f : Nat} {L0 L : Nat → Int} (h : Turn n P c f L0 n L) : Up n P c L ∧ (mu n P L + 1 ≤ mu n P L0 ∨ Settled n P c L) ∧ (Settled n P c L0 → Settled n P c L) := by
  refine ⟨h.up, ?_, fun z => ?_⟩
  · rcases h.or with z | ⟨z, y⟩
    · exact .inl (by omega)
    · refine .inr fun i hi => ?_
      have : L = L0 := funext z
      rw [this]
      have e : (f + (i + n - f % n) % n) % n = i := by
        have f1 : f % n < n := Nat.mod_lt _ (by omega)
        rw [Nat.add_mod, Nat.mod_mod]
        by_cases g : f % n ≤ i
        · have e1 : (i + n - f % n) % n = i - f % n := by
            rw [show i + n - f % n = i - f % n + n by omega, Nat.add_mod_right, Nat.mod_eq_of_lt (by omega)]
          rw [e1, show f % n + (i - f % n) = i by omega, Nat.mod_eq_of_lt hi]
        · have e1 : (i + n - f % n) % n = i + n - f % n := Nat.mod_eq_of_lt (by omega)
          rw [e1, show f % n + (i + n - f % n) = i + n by omega, Nat.add_mod_right, Nat.mod_eq_of_lt hi]
      have := y ((i + n - f % n) % n) (Nat.mod_lt _ (by omega))
      rw [e] at this
      exact this
  · have : L = L0 := funext (h.stay z)
    rw [this]
    exact z
end
end Lw
/-! Jp: joint valleys as a function of the capacity: they are one list; order, groups, a part that adds nothing (behind Jo). -/
namespace Lw
open PySem L2 Rp
def lastF (P : Nat → List P2) (i : Nat) : Int := ((P i).getLast?.map (·.2)).getD 0
/-- the joint valleys: at each capacity the sum of the joint lows -/
structure Joint (n : Nat) (P : Nat → List P2) (R : List P2) : Prop where
  hd : ∃ l W, R = (0, l) :: W ∧ l ≤ 0
  st : Strict R
  val : ∀ c, 0 ≤ c → ∀ L, LowAt n P c L → vlF c none R = some (sumN n L)
  lst : ∃ p, R.getLast? = some p ∧ p.2 = sumN n (lastF P)
  cap : ∀ B, 0 ≤ B → (∀ i, i < n → ∀ q ∈ P i, q.1 ≤ B) → ∀ p ∈ R, p.1 ≤ B
theorem Joint.sv {n : Nat} {P : Nat → List P2} {R : List P2} (h : Joint n P R) : Sv R := ⟨h.st, h.hd⟩
theorem vlF_hd {c : Int} {a : Option Int} {p : P2} {W : List P2} (h : p.1 ≤ c) : vlF c a (p :: W) = vlF c none (p :: W) := by
  show vlF c (if p.1 ≤ c then some p.2 else a) W = vlF c (if p.1 ≤ c then some p.2 else none) W
  rw [if_pos h, if_pos h]
theorem vlF_cons {c : Int} {a : Option Int} {p : P2} {W : List P2} (h : p.1 ≤ c) : vlF c a (p :: W) = vlF c (some p.2) W := by
  show vlF c (if p.1 ≤ c then some p.2 else a) W = _
  rw [if_pos h]
/-- lists that begin alike and tell the same from there on are one list -/
theorem tell_one : ∀ {W V : List P2} {c0 l m : Int}, Strict ((c0, l) :: W) → Strict ((c0, m) :: V) → (∀ c, c0 ≤ c → vlF c none ((c0, l) :: W) = vlF c none ((c0, m) :: V)) → (c0, l) :: W = (c0, m) :: V
  | W, V, c0, l, m, hW, hV, h => by
    obtain ⟨w1, w2⟩ := List.pairwise_cons.mp hW
    obtain ⟨v1, v2⟩ := List.pairwise_cons.mp hV
    have at0 : ∀ {x : Int} {U : List P2}, (∀ q ∈ U, c0 < q.1 ∧ q.2 < x) → vlF c0 none ((c0, x) :: U) = some x := fun hu => by
      rw [vlF_cons (p := (c0, _)) (Int.le_refl _)]
      exact vlF_none fun q hq => (hu q hq).1
    have e0 := h c0 (Int.le_refl _)
    rw [at0 (fun q hq => w1 q hq), at0 (fun q hq => v1 q hq)] at e0
    obtain rfl : l = m := Option.some.inj e0
    -- what a list tells where another has its next pair
    have stay : ∀ {U : List P2} {c : Int}, c0 ≤ c → (∀ q ∈ U, c < q.1) → vlF c none ((c0, l) :: U) = some l := fun hc hu => by
      rw [vlF_cons (p := (c0, l)) hc]
      exact vlF_none hu
    have first : ∀ {U : List P2} {q : P2}, Strict (q :: U) → c0 < q.1 → vlF q.1 none ((c0, l) :: q :: U) = some q.2 := fun {U q} hs hc => by
      rw [vlF_cons (p := (c0, l)) (by dsimp only; omega), vlF_cons (Int.le_refl _)]
      exact vlF_none fun r hr => ((List.pairwise_cons.mp hs).1 r hr).1
    have far : ∀ {U : List P2} {q : P2} {c : Int}, Strict (q :: U) → c < q.1 → ∀ r ∈ q :: U, c < r.1 := fun {U q c} hs hc r hr => by
      rcases List.mem_cons.mp hr with z | z
      · rw [z]
        exact hc
      · have := ((List.pairwise_cons.mp hs).1 r z).1
        omega
    cases W with
    | nil =>
      cases V with
      | nil => rfl
      | cons q V =>
        have hq := v1 q (List.mem_cons_self ..)
        have := h q.1 (by dsimp only at hq; omega)
        rw [first v2 hq.1, stay (by dsimp only at hq; omega) (by simp)] at this
        have := Option.some.inj this
        dsimp only at hq
        omega
    | cons r W =>
      have hr := w1 r (List.mem_cons_self ..)
      cases V with
      | nil =>
        have := h r.1 (by dsimp only at hr; omega)
        rw [first w2 hr.1, stay (by dsimp only at hr; omega) (by simp)] at this
        have := Option.some.inj this
        dsimp only at hr
        omega
      | cons q V =>
        have hq := v1 q (List.mem_cons_self ..)
        have ec : r.1 = q.1 := by
          rcases Int.lt_trichotomy r.1 q.1 with z | z | z
          · have := h r.1 (by dsimp only at hr; omega)
            rw [first w2 hr.1, stay (by dsimp only at hr; omega) (far v2 z)] at this
            have := Option.some.inj this
            dsimp only at hr
            omega
          · exact z
          · have := h q.1 (by dsimp only at hq; omega)
            rw [first v2 hq.1, stay (by dsimp only at hq; omega) (far w2 z)] at this
            have := Option.some.inj this
            dsimp only at hq
            omega
        obtain ⟨rc, rl⟩ := r
        obtain ⟨qc, ql⟩ := q
        dsimp only at ec hr hq
        subst ec
        have ih := tell_one w2 v2 fun c hc => by
          have := h c (by omega)
          rw [vlF_cons (p := (c0, l)) (by dsimp only; omega), vlF_cons (p := (c0, l)) (by dsimp only; omega), vlF_hd (p := (rc, rl)) hc, vlF_hd (p := (rc, ql)) hc] at this
          exact this
        rw [ih]
/-- there are joint lows -/
theorem low_dn {n : Nat} {P : Nat → List P2} {c : Int} (hP : Parts n P) : ∀ (m : Nat) (k : Nat → Nat), Dn n P c k → (sumN n fun i => ((P i).length : Int) - (k i : Int)) ≤ m → ∃ L, LowAt n P c L
  | m, k, dn, hm => by
    by_cases s : Stuck n P c k
    · exact ⟨_, dn.low hP s⟩
    · have : ∃ i p q, i < n ∧ (P i)[k i]? = some p ∧ (P i)[k i + 1]? = some q ∧ totF n P k + (q.1 - p.2) ≤ c := by
        apply Classical.byContradiction
        intro no
        refine s fun i p q hi e1 e2 => ?_
        have : ¬ totF n P k + (q.1 - p.2) ≤ c := fun z => no ⟨i, p, q, hi, e1, e2, z⟩
        omega
      obtain ⟨i, p, q, hi, e1, e2, le⟩ := this
      obtain ⟨dn2, _, _⟩ := dn.step hP hi e1 e2 le
      have es : (sumN n fun j => ((P j).length : Int) - ((upF k i (k i + 1) j : Nat) : Int)) = (sumN n fun j => ((P j).length : Int) - (k j : Int)) - 1 := by
        have e : (fun j => ((P j).length : Int) - ((upF k i (k i + 1) j : Nat) : Int)) = upF (fun j => ((P j).length : Int) - (k j : Int)) i (((P i).length : Int) - ((k i + 1 : Nat) : Int)) := by
          funext j
          by_cases e : j = i
          · subst e
            rw [upF_same, upF_same]
          · rw [upF_ne e, upF_ne e]
        rw [e, sumN_up hi]
        omega
      have ge : 0 ≤ (sumN n fun j => ((P j).length : Int) - ((upF k i (k i + 1) j : Nat) : Int)) := by
        have := sumN_mono (n := n) (f := fun _ => 0) (g := fun j => ((P j).length : Int) - ((upF k i (k i + 1) j : Nat) : Int)) fun j hj => by
          obtain ⟨r, er, _⟩ := dn2.ent j hj
          have := (List.getElem?_eq_some_iff.mp er).1
          omega
        rwa [sumN_zero] at this
      cases m with
      | zero => omega
      | succ m => exact low_dn hP m _ dn2 (by omega)
theorem low_ex {n : Nat} {P : Nat → List P2} {c : Int} (hP : Parts n P) (hc : 0 ≤ c) : ∃ L, LowAt n P c L :=
  low_dn hP (sumN n fun i => ((P i).length : Int) - ((0 : Nat) : Int)).toNat _ (Dn.start hP hc) (by omega)
/-- joint valleys are the one list that tells the sums -/
theorem Joint.eq_of {n : Nat} {P : Nat → List P2} {R S : List P2} (h : Joint n P R) (hS : Sv S) (e : ∀ c, 0 ≤ c → ∃ L, LowAt n P c L ∧ vlF c none S = some (sumN n L)) : R = S := by
  obtain ⟨l, W, rfl, _⟩ := h.hd
  obtain ⟨m, V, rfl, _⟩ := hS.hd
  refine tell_one h.st hS.st fun c hc => ?_
  obtain ⟨L, hL, eL⟩ := e c hc
  rw [h.val c hc L hL, eL]
theorem Joint.uniq {n : Nat} {P : Nat → List P2} {R S : List P2} (hP : Parts n P) (h : Joint n P R) (k : Joint n P S) : R = S := h.eq_of k.sv fun c hc => by
  obtain ⟨L, hL⟩ := low_ex hP hc
  exact ⟨L, hL, k.val c hc L hL⟩
/-- the order does not matter -/
theorem Joint.rev {n : Nat} {P Q : Nat → List P2} {R S : List P2} (hP : Parts n P) (h : Joint n P R) (e : ∀ i, i < n → Q i = P (n - 1 - i)) (k : Joint n Q S) : S = R := k.eq_of h.sv fun c hc => by
  obtain ⟨L, hL⟩ := low_ex hP hc
  refine ⟨_, (hL.rev).congrP (fun i hi => (e i hi).symm), ?_⟩
  rw [sumN_rev (f := L)]
  exact h.val c hc L hL
/-- one part alone -/
theorem low_single {ps : List P2} {P : Nat → List P2} (h : Sv ps) (e : P 0 = ps) (c : Int) : LowAt 1 P c (fun _ => vl c ps) := by
  have fx : ∀ M : Nat → Int, Fx 1 P c M 0 = vl c ps := fun M => by
    unfold Fx
    rw [e]
    show vl (c - (0 + M 0 - M 0)) ps = _
    rw [show c - (0 + M 0 - M 0) = c by omega]
  refine ⟨fun i hi => ?_, fun M hM i hi => ?_⟩
  · obtain rfl : i = 0 := by omega
    exact fx _
  · obtain rfl : i = 0 := by omega
    have := hM 0 hi
    rw [fx] at this
    exact this
theorem vl_some {ps : List P2} (h : Sv ps) {c : Int} (hc : 0 ≤ c) : vlF c none ps = some (vl c ps) := by
  obtain ⟨i, p, _, e, _⟩ := h.at hc
  unfold vl
  rw [e]
  rfl
theorem Joint.single {ps R : List P2} {P : Nat → List P2} (h : Sv ps) (e : P 0 = ps) (k : Joint 1 P R) : R = ps := k.eq_of h fun c hc => ⟨_, low_single h e c, by rw [vl_some h hc]; exact congrArg some (by show vl c ps = 0 + vl c ps; omega)⟩
/-- a part that stays at 0 adds nothing -/
theorem low_zero {n : Nat} {P : Nat → List P2} {c : Int} {L : Nat → Int} (h : LowAt n P c L) (e : P n = [(0, 0)]) (hP : Parts n P) (hc : 0 ≤ c) : LowAt (n + 1) P c (upF L n 0) := by
  have z0 : ∀ d, vl d [((0 : Int), (0 : Int))] = 0 := fun d => by
    unfold vl vlF
    simp only [List.foldl_cons, List.foldl_nil]
    split <;> rfl
  have sm : ∀ M : Nat → Int, M n = 0 → sumN (n + 1) M = sumN n M := fun M z => by
    show sumN n M + M n = _
    omega
  have cg : sumN n (upF L n 0) = sumN n L := sumN_congr fun i hi => upF_ne (by omega)
  refine ⟨fun i hi => ?_, fun M hM i hi => ?_⟩
  · by_cases z : i = n
    · subst z
      unfold Fx
      rw [e, z0, upF_same]
    · have := h.settled i (by omega)
      unfold Fx at this ⊢
      rw [sm _ upF_same, cg, upF_ne z]
      exact this
  · have mn : M n ≤ 0 := by
      have := hM n (by omega)
      unfold Fx at this
      rwa [e, z0] at this
    by_cases z : i = n
    · subst z
      rw [upF_same]
      exact mn
    · rw [upF_ne z]
      refine h.great M (fun j hj => ?_) i (by omega)
      have := hM j (by omega)
      refine Int.le_trans this ((hP j hj).anti ?_)
      show c - (sumN n M - M j) ≤ c - (sumN n M + M n - M j)
      omega
theorem Joint.zero {n : Nat} {P : Nat → List P2} {R S : List P2} (hP : Parts n P) (h : Joint n P R) (e : P n = [(0, 0)]) (k : Joint (n + 1) P S) : S = R := k.eq_of h.sv fun c hc => by
  obtain ⟨L, hL⟩ := low_ex hP hc
  refine ⟨_, low_zero hL e hP hc, ?_⟩
  rw [h.val c hc L hL]
  refine congrArg some ?_
  show sumN n L = sumN n (upF L n 0) + upF L n 0 n
  rw [upF_same, sumN_congr (f := upF L n 0) (g := L) fun i hi => upF_ne (by omega)]
  omega
/-! ### groups -/
theorem sumN_add {f : Nat → Int} (a : Nat) : ∀ b, sumN (a + b) f = sumN a f + sumN b (fun i => f (a + i))
  | 0 => by simp [sumN]
  | b + 1 => by
    show sumN (a + b) f + f (a + b) = sumN a f + (sumN b (fun i => f (a + i)) + f (a + b))
    rw [sumN_add a b]
    omega
section
variable {a b : Nat} {P : Nat → List P2} {c : Int}
/-- within a whole, each group lies as low as it can beside the other -/
theorem low_left (hP : Parts (a + b) P) {L : Nat → Int} (h : LowAt (a + b) P c L) : LowAt a P (c - sumN b (fun i => L (a + i))) L := by
  have fx : ∀ (M : Nat → Int), (∀ i, M (a + i) = L (a + i)) → ∀ i, i < a → Fx (a + b) P c M i = Fx a P (c - sumN b (fun i => L (a + i))) M i := fun M e i hi => by
    unfold Fx
    rw [sumN_add, sumN_congr (f := fun i => M (a + i)) (g := fun i => L (a + i)) fun i _ => e i]
    rw [show c - (sumN a M + sumN b (fun i => L (a + i)) - M i) = c - sumN b (fun i => L (a + i)) - (sumN a M - M i) by omega]
  have hA : Parts a P := fun i hi => hP i (by omega)
  refine ⟨fun i hi => by rw [← fx L (fun _ => rfl) i hi]; exact h.settled i (by omega), fun M hM i hi => ?_⟩
  let N : Nat → Int := fun j => if j < a then max (M j) (L j) else L j
  have nA : ∀ j, j < a → N j = max (M j) (L j) := fun j hj => if_pos hj
  have nB : ∀ j, N (a + j) = L (a + j) := fun j => if_neg (by omega)
  have ge : ∀ j, j < a + b → L j ≤ N j := fun j hj => by
    by_cases z : j < a
    · rw [nA j z]
      omega
    · have : N j = L j := if_neg z
      omega
  have gM : ∀ j, j < a → M j ≤ N j := fun j hj => by
    rw [nA j hj]
    omega
  have post : Post (a + b) P c N := fun j hj => by
    have low : L j ≤ Fx (a + b) P c N j := by
      have := Fx_anti (c := c) hP ge hj
      rw [h.settled j hj] at this
      exact this
    by_cases z : j < a
    · have up : M j ≤ Fx (a + b) P c N j := by
        rw [fx N nB j z]
        exact Int.le_trans (hM j z) (Fx_anti hA (fun k hk => gM k hk) z)
      rw [nA j z]
      omega
    · have : N j = L j := if_neg z
      omega
  have := h.great N post i (by omega)
  have := gM i hi
  omega
theorem low_right (hP : Parts (a + b) P) {L : Nat → Int} (h : LowAt (a + b) P c L) : LowAt b (fun i => P (a + i)) (c - sumN a L) (fun i => L (a + i)) := by
  have fx : ∀ (M : Nat → Int), (∀ i, i < a → M i = L i) → ∀ i, i < b → Fx (a + b) P c M (a + i) = Fx b (fun i => P (a + i)) (c - sumN a L) (fun i => M (a + i)) i := fun M e i hi => by
    unfold Fx
    rw [sumN_add, sumN_congr (f := M) (g := L) fun i hi => e i hi]
    dsimp only
    rw [show c - (sumN a L + sumN b (fun i => M (a + i)) - M (a + i)) = c - sumN a L - (sumN b (fun i => M (a + i)) - M (a + i)) by omega]
  have hB : Parts b (fun i => P (a + i)) := fun i hi => hP (a + i) (by omega)
  refine ⟨fun i hi => by rw [← fx L (fun _ _ => rfl) i hi]; exact h.settled (a + i) (by omega), fun M hM i hi => ?_⟩
  let N : Nat → Int := fun j => if j < a then L j else max (M (j - a)) (L j)
  have nA : ∀ j, j < a → N j = L j := fun j hj => if_pos hj
  have nB : ∀ j, N (a + j) = max (M j) (L (a + j)) := fun j => by
    show (if a + j < a then _ else _) = _
    rw [if_neg (by omega), show a + j - a = j by omega]
  have ge : ∀ j, j < a + b → L j ≤ N j := fun j hj => by
    by_cases z : j < a
    · rw [nA j z]
      exact Int.le_refl _
    · obtain ⟨k, rfl⟩ : ∃ k, j = a + k := ⟨j - a, by omega⟩
      rw [nB k]
      omega
  have gM : ∀ j, j < b → M j ≤ N (a + j) := fun j hj => by
    rw [nB j]
    omega
  have post : Post (a + b) P c N := fun j hj => by
    have low : L j ≤ Fx (a + b) P c N j := by
      have := Fx_anti (c := c) hP ge hj
      rw [h.settled j hj] at this
      exact this
    by_cases z : j < a
    · rw [nA j z]
      exact low
    · obtain ⟨k, rfl⟩ : ∃ k, j = a + k := ⟨j - a, by omega⟩
      have up : M k ≤ Fx (a + b) P c N (a + k) := by
        rw [fx N nA k (by omega)]
        exact Int.le_trans (hM k (by omega)) (Fx_anti hB (M := fun i => N (a + i)) (fun k hk => gM k hk) (by omega))
      rw [nB k]
      omega
  have := h.great N post (a + i) (by omega)
  have := gM i hi
  omega
def two (R S : List P2) : Nat → List P2 := fun i => if i = 0 then R else S
def twoL (x y : Int) : Nat → Int := fun i => if i = 0 then x else y
theorem low_two (hP : Parts (a + b) P) {R S : List P2} (hR : Joint a P R) (hS : Joint b (fun i => P (a + i)) S) (hc : 0 ≤ c) {L : Nat → Int} (h : LowAt (a + b) P c L) : LowAt 2 (two R S) c (twoL (sumN a L) (sumN b fun i => L (a + i))) := by
  have hA : Parts a P := fun i hi => hP i (by omega)
  have hB : Parts b (fun i => P (a + i)) := fun i hi => hP (a + i) (by omega)
  have np : ∀ i, i < a + b → L i ≤ 0 := fun i hi => by
    rw [← h.settled i hi]
    exact (hP i hi).vl0 _
  have x0 : sumN a L ≤ 0 := sumN_le0 fun i hi => np i (by omega)
  have y0 : sumN b (fun i => L (a + i)) ≤ 0 := sumN_le0 fun i hi => np (a + i) (by omega)
  have vR := hR.val (c - sumN b fun i => L (a + i)) (by omega) L (low_left hP h)
  have vS := hS.val (c - sumN a L) (by omega) _ (low_right hP h)
  have f0 : ∀ M : Nat → Int, Fx 2 (two R S) c M 0 = vl (c - M 1) R := fun M => by
    show vl (c - (0 + M 0 + M 1 - M 0)) R = _
    rw [show c - (0 + M 0 + M 1 - M 0) = c - M 1 by omega]
  have f1 : ∀ M : Nat → Int, Fx 2 (two R S) c M 1 = vl (c - M 0) S := fun M => by
    show vl (c - (0 + M 0 + M 1 - M 1)) S = _
    rw [show c - (0 + M 0 + M 1 - M 1) = c - M 0 by omega]
  refine ⟨fun i hi => ?_, fun M hM i hi => ?_⟩
  · rcases (show i = 0 ∨ i = 1 by omega) with rfl | rfl
    · rw [f0]
      show vl (c - sumN b fun i => L (a + i)) R = sumN a L
      unfold vl
      rw [vR]
      rfl
    · rw [f1]
      show vl (c - sumN a L) S = sumN b fun i => L (a + i)
      unfold vl
      rw [vS]
      rfl
  · have m0 := hM 0 (by omega)
    have m1 := hM 1 (by omega)
    rw [f0] at m0
    rw [f1] at m1
    have n0 := Int.le_trans m0 (hR.sv.vl0 _)
    have n1 := Int.le_trans m1 (hS.sv.vl0 _)
    obtain ⟨A, hLA⟩ := low_ex (c := c - M 1) hA (by omega)
    obtain ⟨B, hLB⟩ := low_ex (c := c - M 0) hB (by omega)
    have eA := hR.val (c - M 1) (by omega) A hLA
    have eB := hS.val (c - M 0) (by omega) B hLB
    have gA : M 0 ≤ sumN a A := by
      unfold vl at m0
      rw [eA] at m0
      exact m0
    have gB : M 1 ≤ sumN b B := by
      unfold vl at m1
      rw [eB] at m1
      exact m1
    let N : Nat → Int := fun j => if j < a then A j else B (j - a)
    have nA : ∀ j, j < a → N j = A j := fun j hj => if_pos hj
    have nB : ∀ j, N (a + j) = B j := fun j => by
      show (if a + j < a then _ else _) = _
      rw [if_neg (by omega), show a + j - a = j by omega]
    have sN : sumN (a + b) N = sumN a A + sumN b B := by
      rw [sumN_add, sumN_congr (f := N) (g := A) nA, sumN_congr (f := fun i => N (a + i)) (g := B) fun i _ => nB i]
    have post : Post (a + b) P c N := fun j hj => by
      by_cases z : j < a
      · have := hLA.settled j z
        unfold Fx at this ⊢
        rw [nA j z, sN]
        refine Int.le_trans (Int.le_of_eq this.symm) ((hP j hj).anti ?_)
        omega
      · obtain ⟨k, rfl⟩ : ∃ k, j = a + k := ⟨j - a, by omega⟩
        have := hLB.settled k (by omega)
        unfold Fx at this ⊢
        rw [nB k, sN]
        refine Int.le_trans (Int.le_of_eq this.symm) ((hP _ hj).anti ?_)
        omega
    have gr := h.great N post
    rcases (show i = 0 ∨ i = 1 by omega) with rfl | rfl
    · refine Int.le_trans gA ?_
      show sumN a A ≤ sumN a L
      exact sumN_mono fun j hj => by rw [← nA j hj]; exact gr j (by omega)
    · refine Int.le_trans gB ?_
      show sumN b B ≤ sumN b fun i => L (a + i)
      exact sumN_mono fun j hj => by rw [← nB j]; exact gr (a + j) (by omega)
/-- parts can be joined in groups -/
theorem Joint.groups (hP : Parts (a + b) P) {R S T W : List P2} (hR : Joint a P R) (hS : Joint b (fun i => P (a + i)) S) (hT : Joint 2 (two R S) T) (hW : Joint (a + b) P W) : T = W := hT.eq_of hW.sv fun c hc => by
  obtain ⟨L, hL⟩ := low_ex hP hc
  refine ⟨_, low_two hP hR hS hc hL, ?_⟩
  rw [hW.val c hc L hL, sumN_add]
  refine congrArg some ?_
  show _ = 0 + sumN a L + sumN b (fun i => L (a + i))
  omega
end
end Lw
namespace Lw
open PySem L2 Rp
local macro_rules | `(tactic| walk_at "rd") => `(tactic| repeat (first | refine ⟨_, rfl, ?_⟩ | refine ⟨_, _, rfl, rfl, ?_⟩))
def lamNames : List Str := ["_law_bounds_right"]
def top (i : Nat) : Stmt := PySem.Challenge.pw_roomprofile_k23_joint_valleys_complete.main.body.getD i (.Pass ⟨0, 0, 0, 0⟩)
abbrev s_is_integer : Stmt := top 8
abbrev N_is_integer : List Str := ["value"]
theorem sc_is_integer : FnScope N_is_integer ["value"] (defScope s_is_integer) := ⟨rfl, rfl, rfl, by decide +kernel, rfl, by decide +kernel, by decide +kernel⟩
abbrev s_is_short_integer : Stmt := top 9
abbrev N_is_short_integer : List Str := ["value"]
theorem sc_is_short_integer : FnScope N_is_short_integer ["value"] (defScope s_is_short_integer) := ⟨rfl, rfl, rfl, by decide +kernel, rfl, by decide +kernel, by decide +kernel⟩
abbrev s_check_number : Stmt := top 10
abbrev N_check_number : List Str := ["value"]
theorem sc_check_number : FnScope N_check_number ["value"] (defScope s_check_number) := ⟨rfl, rfl, rfl, by decide +kernel, rfl, by decide +kernel, by decide +kernel⟩
abbrev s_joint_pairs : Stmt := top 13
abbrev N_joint_pairs : List Str := ["parts", "descent", "pairs", "capacity"]
theorem sc_joint_pairs : FnScope N_joint_pairs ["parts"] (defScope s_joint_pairs) := ⟨rfl, rfl, rfl, by decide +kernel, rfl, by decide +kernel, by decide +kernel⟩
abbrev s_is_valleys : Stmt := top 17
abbrev N_is_valleys : List Str := ["value", "pair", "left", "right"]
theorem sc_is_valleys : FnScope N_is_valleys ["value"] (defScope s_is_valleys) := ⟨rfl, rfl, rfl, by decide +kernel, rfl, by decide +kernel, by decide +kernel⟩
abbrev s_is_start_valleys : Stmt := top 18
abbrev N_is_start_valleys : List Str := ["value"]
theorem sc_is_start_valleys : FnScope N_is_start_valleys ["value"] (defScope s_is_start_valleys) := ⟨rfl, rfl, rfl, by decide +kernel, rfl, by decide +kernel, by decide +kernel⟩
abbrev s_valley_at : Stmt := top 19
abbrev N_valley_at : List Str := ["valleys", "capacity"]
theorem sc_valley_at : FnScope N_valley_at ["valleys", "capacity"] (defScope s_valley_at) := ⟨rfl, rfl, rfl, by decide +kernel, rfl, by decide +kernel, by decide +kernel⟩
abbrev s_joint_lows : Stmt := top 20
abbrev N_joint_lows : List Str := ["parts", "capacity", "descent"]
theorem sc_joint_lows : FnScope N_joint_lows ["parts", "capacity"] (defScope s_joint_lows) := ⟨rfl, rfl, rfl, by decide +kernel, rfl, by decide +kernel, by decide +kernel⟩
abbrev s_joint_valleys : Stmt := top 21
abbrev N_joint_valleys : List Str := ["parts"]
theorem sc_joint_valleys : FnScope N_joint_valleys ["parts"] (defScope s_joint_valleys) := ⟨rfl, rfl, rfl, by decide +kernel, rfl, by decide +kernel, by decide +kernel⟩
abbrev s_value_at : Stmt := top 22
abbrev N_value_at : List Str := ["pairs", "capacity", "value", "least", "low"]
theorem sc_value_at : FnScope N_value_at ["pairs", "capacity"] (defScope s_value_at) := ⟨rfl, rfl, rfl, by decide +kernel, rfl, by decide +kernel, by decide +kernel⟩
abbrev s_checked_length : Stmt := top 23
abbrev N_checked_length : List Str := ["pairs"]
theorem sc_checked_length : FnScope N_checked_length ["pairs"] (defScope s_checked_length) := ⟨rfl, rfl, rfl, by decide +kernel, rfl, by decide +kernel, by decide +kernel⟩
abbrev s__is_pair : Stmt := top 24
abbrev N__is_pair : List Str := ["value"]
theorem sc__is_pair : FnScope N__is_pair ["value"] (defScope s__is_pair) := ⟨rfl, rfl, rfl, by decide +kernel, rfl, by decide +kernel, by decide +kernel⟩
abbrev s__check_valleys : Stmt := top 25
abbrev N__check_valleys : List Str := ["value"]
theorem sc__check_valleys : FnScope N__check_valleys ["value"] (defScope s__check_valleys) := ⟨rfl, rfl, rfl, by decide +kernel, rfl, by decide +kernel, by decide +kernel⟩
abbrev s__check_parts : Stmt := top 26
abbrev N__check_parts : List Str := ["parts", "part"]
theorem sc__check_parts : FnScope N__check_parts ["parts"] (defScope s__check_parts) := ⟨rfl, rfl, rfl, by decide +kernel, rfl, by decide +kernel, by decide +kernel⟩
abbrev s__law_source : Stmt := top 28
abbrev N__law_source : List Str := ["_law_script", "_law_at", "_law_cell", "_law_size", "_law_mixed"]
theorem sc__law_source : FnScope N__law_source ["_law_script", "_law_at"] (defScope s__law_source) := ⟨rfl, rfl, rfl, by decide +kernel, rfl, by decide +kernel, by decide +kernel⟩
abbrev s__law_draw : Stmt := top 29
abbrev N__law_draw : List Str := ["_law_source_here", "_law_many", "_law_found", "_law_one", "_law_two"]
theorem sc__law_draw : FnScope N__law_draw ["_law_source_here", "_law_many"] (defScope s__law_draw) := ⟨rfl, rfl, rfl, by decide +kernel, rfl, by decide +kernel, by decide +kernel⟩
abbrev s__law_gaps : Stmt := top 30
abbrev N__law_gaps : List Str := ["_law_source_here", "_law_total", "_law_found", "_law_turn"]
theorem sc__law_gaps : FnScope N__law_gaps ["_law_source_here", "_law_total"] (defScope s__law_gaps) := ⟨rfl, rfl, rfl, by decide +kernel, rfl, by decide +kernel, by decide +kernel⟩
abbrev s__law_random_start : Stmt := top 31
abbrev N__law_random_start : List Str := ["_law_source_here", "_law_most", "_law_total", "_law_capacities", "_law_depths", "_law_first", "_law_bound", "_law_depth"]
theorem sc__law_random_start : FnScope N__law_random_start ["_law_source_here", "_law_most"] (defScope s__law_random_start) := ⟨rfl, rfl, rfl, by decide +kernel, rfl, by decide +kernel, by decide +kernel⟩
abbrev s__law_valley_outcome : Stmt := top 32
abbrev N__law_valley_outcome : List Str := ["_law_call", "e"]
theorem sc__law_valley_outcome : FnScope N__law_valley_outcome ["_law_call"] (defScope s__law_valley_outcome) := ⟨rfl, rfl, rfl, by decide +kernel, rfl, by decide +kernel, by decide +kernel⟩
abbrev s__law_joint_right : Stmt := top 33
abbrev N__law_joint_right : List Str := ["_law_source_here", "_law_parts", "_law_found", "_law_some", "_law_bound", "_law_part", "_law_pair", "_law_turn"]
theorem sc__law_joint_right : FnScope N__law_joint_right ["_law_source_here", "_law_parts"] (defScope s__law_joint_right) := ⟨rfl, rfl, rfl, by decide +kernel, rfl, by decide +kernel, by decide +kernel⟩
abbrev s__law_groups_right : Stmt := top 34
abbrev N__law_groups_right : List Str := ["_law_source_here", "_law_parts", "_law_at", "_law_first", "_law_second"]
theorem sc__law_groups_right : FnScope N__law_groups_right ["_law_source_here", "_law_parts"] (defScope s__law_groups_right) := ⟨rfl, rfl, rfl, by decide +kernel, rfl, by decide +kernel, by decide +kernel⟩
abbrev s__law_bounds_right : Stmt := top 35
abbrev N__law_bounds_right : List Str := ["_law_source_here", "_law_step", "_law_longer", "_law_half", "_law_twice", "_law_number"]
theorem sc__law_bounds_right : FnScope N__law_bounds_right ["_law_source_here"] (defScope s__law_bounds_right) := ⟨rfl, rfl, rfl, by decide +kernel, rfl, by decide +kernel, by decide +kernel⟩
abbrev s_Descent_init : Stmt := inClass (top 12) 0
abbrev N_Descent_init : List Str := ["self", "parts", "index", "part"]
theorem sc_Descent_init : FnScope N_Descent_init ["self", "parts"] (defScope s_Descent_init) := ⟨rfl, rfl, rfl, by decide +kernel, rfl, by decide +kernel, by decide +kernel⟩
abbrev s_Descent_queue_climb : Stmt := inClass (top 12) 1
abbrev N_Descent_queue_climb : List Str := ["self", "index", "part", "place"]
theorem sc_Descent_queue_climb : FnScope N_Descent_queue_climb ["self", "index"] (defScope s_Descent_queue_climb) := ⟨rfl, rfl, rfl, by decide +kernel, rfl, by decide +kernel, by decide +kernel⟩
abbrev s_Descent_next_capacity : Stmt := inClass (top 12) 2
abbrev N_Descent_next_capacity : List Str := ["self"]
theorem sc_Descent_next_capacity : FnScope N_Descent_next_capacity ["self"] (defScope s_Descent_next_capacity) := ⟨rfl, rfl, rfl, by decide +kernel, rfl, by decide +kernel, by decide +kernel⟩
abbrev s_Descent_go_down : Stmt := inClass (top 12) 3
abbrev N_Descent_go_down : List Str := ["self", "capacity", "index", "part", "place"]
theorem sc_Descent_go_down : FnScope N_Descent_go_down ["self", "capacity"] (defScope s_Descent_go_down) := ⟨rfl, rfl, rfl, by decide +kernel, rfl, by decide +kernel, by decide +kernel⟩
abbrev s_Descent_lows : Stmt := inClass (top 12) 4
abbrev N_Descent_lows : List Str := ["self", "part", "place"]
theorem sc_Descent_lows : FnScope N_Descent_lows ["self"] (defScope s_Descent_lows) := ⟨rfl, rfl, rfl, by decide +kernel, rfl, by decide +kernel, by decide +kernel⟩
abbrev s_InvalidNumber_init : Stmt := inClass (top 4) 0
abbrev N_InvalidNumber_init : List Str := ["self", "value"]
theorem sc_InvalidNumber_init : FnScope N_InvalidNumber_init ["self", "value"] (defScope s_InvalidNumber_init) := ⟨rfl, rfl, rfl, by decide +kernel, rfl, by decide +kernel, by decide +kernel⟩
abbrev s_TooMany_init : Stmt := inClass (top 5) 0
abbrev N_TooMany_init : List Str := ["self", "limit"]
theorem sc_TooMany_init : FnScope N_TooMany_init ["self", "limit"] (defScope s_TooMany_init) := ⟨rfl, rfl, rfl, by decide +kernel, rfl, by decide +kernel, by decide +kernel⟩
abbrev s_law : Stmt := top 36
abbrev N_law : List Str := ["_law_script", "_law_at", "_law_source_here", "_law_parts", "_law_many", "_law_turn"]
theorem sc_law : FnScope N_law ["_law_script"] (defScope s_law) := ⟨rfl, rfl, rfl, by decide +kernel, rfl, by decide +kernel, by decide +kernel⟩
structure Txt (K : PySem.W.Frag) (mg : Str → Option Value) where
  f_is_integer : Addr
  d_is_integer : FuncData
  F_is_integer : Fun K "is_integer" "is_integer" s_is_integer f_is_integer d_is_integer
  b_is_integer : Binds K d_is_integer ["value"] []
  m_is_integer : mg "is_integer" = some (.ref f_is_integer)
  f_is_short_integer : Addr
  d_is_short_integer : FuncData
  F_is_short_integer : Fun K "is_short_integer" "is_short_integer" s_is_short_integer f_is_short_integer d_is_short_integer
  b_is_short_integer : Binds K d_is_short_integer ["value"] []
  m_is_short_integer : mg "is_short_integer" = some (.ref f_is_short_integer)
  f_check_number : Addr
  d_check_number : FuncData
  F_check_number : Fun K "check_number" "check_number" s_check_number f_check_number d_check_number
  b_check_number : Binds K d_check_number ["value"] []
  m_check_number : mg "check_number" = some (.ref f_check_number)
  f_joint_pairs : Addr
  d_joint_pairs : FuncData
  F_joint_pairs : Fun K "joint_pairs" "joint_pairs" s_joint_pairs f_joint_pairs d_joint_pairs
  b_joint_pairs : Binds K d_joint_pairs ["parts"] []
  m_joint_pairs : mg "joint_pairs" = some (.ref f_joint_pairs)
  f_is_valleys : Addr
  d_is_valleys : FuncData
  F_is_valleys : Fun K "is_valleys" "is_valleys" s_is_valleys f_is_valleys d_is_valleys
  b_is_valleys : Binds K d_is_valleys ["value"] []
  m_is_valleys : mg "is_valleys" = some (.ref f_is_valleys)
  f_is_start_valleys : Addr
  d_is_start_valleys : FuncData
  F_is_start_valleys : Fun K "is_start_valleys" "is_start_valleys" s_is_start_valleys f_is_start_valleys d_is_start_valleys
  b_is_start_valleys : Binds K d_is_start_valleys ["value"] []
  m_is_start_valleys : mg "is_start_valleys" = some (.ref f_is_start_valleys)
  f_valley_at : Addr
  d_valley_at : FuncData
  F_valley_at : Fun K "valley_at" "valley_at" s_valley_at f_valley_at d_valley_at
  b_valley_at : Binds K d_valley_at ["valleys", "capacity"] []
  m_valley_at : mg "valley_at" = some (.ref f_valley_at)
  f_joint_lows : Addr
  d_joint_lows : FuncData
  F_joint_lows : Fun K "joint_lows" "joint_lows" s_joint_lows f_joint_lows d_joint_lows
  b_joint_lows : Binds K d_joint_lows ["parts", "capacity"] []
  m_joint_lows : mg "joint_lows" = some (.ref f_joint_lows)
  f_joint_valleys : Addr
  d_joint_valleys : FuncData
  F_joint_valleys : Fun K "joint_valleys" "joint_valleys" s_joint_valleys f_joint_valleys d_joint_valleys
  b_joint_valleys : Binds K d_joint_valleys ["parts"] []
  m_joint_valleys : mg "joint_valleys" = some (.ref f_joint_valleys)
  f_value_at : Addr
  d_value_at : FuncData
  F_value_at : Fun K "value_at" "value_at" s_value_at f_value_at d_value_at
  b_value_at : Binds K d_value_at ["pairs", "capacity"] []
  m_value_at : mg "value_at" = some (.ref f_value_at)
  f_checked_length : Addr
  d_checked_length : FuncData
  F_checked_length : Fun K "checked_length" "checked_length" s_checked_length f_checked_length d_checked_length
  b_checked_length : Binds K d_checked_length ["pairs"] []
  m_checked_length : mg "checked_length" = some (.ref f_checked_length)
  f__is_pair : Addr
  d__is_pair : FuncData
  F__is_pair : Fun K "_is_pair" "_is_pair" s__is_pair f__is_pair d__is_pair
  b__is_pair : Binds K d__is_pair ["value"] []
  m__is_pair : mg "_is_pair" = some (.ref f__is_pair)
  f__check_valleys : Addr
  d__check_valleys : FuncData
  F__check_valleys : Fun K "_check_valleys" "_check_valleys" s__check_valleys f__check_valleys d__check_valleys
  b__check_valleys : Binds K d__check_valleys ["value"] []
  m__check_valleys : mg "_check_valleys" = some (.ref f__check_valleys)
  f__check_parts : Addr
  d__check_parts : FuncData
  F__check_parts : Fun K "_check_parts" "_check_parts" s__check_parts f__check_parts d__check_parts
  b__check_parts : Binds K d__check_parts ["parts"] []
  m__check_parts : mg "_check_parts" = some (.ref f__check_parts)
  f__law_source : Addr
  d__law_source : FuncData
  F__law_source : Fun K "_law_source" "_law_source" s__law_source f__law_source d__law_source
  b__law_source : Binds K d__law_source ["_law_script", "_law_at"] []
  m__law_source : mg "_law_source" = some (.ref f__law_source)
  f__law_draw : Addr
  d__law_draw : FuncData
  F__law_draw : Fun K "_law_draw" "_law_draw" s__law_draw f__law_draw d__law_draw
  b__law_draw : Binds K d__law_draw ["_law_source_here", "_law_many"] []
  m__law_draw : mg "_law_draw" = some (.ref f__law_draw)
  f__law_gaps : Addr
  d__law_gaps : FuncData
  F__law_gaps : Fun K "_law_gaps" "_law_gaps" s__law_gaps f__law_gaps d__law_gaps
  b__law_gaps : Binds K d__law_gaps ["_law_source_here", "_law_total"] []
  m__law_gaps : mg "_law_gaps" = some (.ref f__law_gaps)
  f__law_random_start : Addr
  d__law_random_start : FuncData
  F__law_random_start : Fun K "_law_random_start" "_law_random_start" s__law_random_start f__law_random_start d__law_random_start
  b__law_random_start : Binds K d__law_random_start ["_law_source_here", "_law_most"] []
  m__law_random_start : mg "_law_random_start" = some (.ref f__law_random_start)
  f__law_valley_outcome : Addr
  d__law_valley_outcome : FuncData
  F__law_valley_outcome : Fun K "_law_valley_outcome" "_law_valley_outcome" s__law_valley_outcome f__law_valley_outcome d__law_valley_outcome
  b__law_valley_outcome : Binds K d__law_valley_outcome ["_law_call"] []
  m__law_valley_outcome : mg "_law_valley_outcome" = some (.ref f__law_valley_outcome)
  f__law_joint_right : Addr
  d__law_joint_right : FuncData
  F__law_joint_right : Fun K "_law_joint_right" "_law_joint_right" s__law_joint_right f__law_joint_right d__law_joint_right
  b__law_joint_right : Binds K d__law_joint_right ["_law_source_here", "_law_parts"] []
  m__law_joint_right : mg "_law_joint_right" = some (.ref f__law_joint_right)
  f__law_groups_right : Addr
  d__law_groups_right : FuncData
  F__law_groups_right : Fun K "_law_groups_right" "_law_groups_right" s__law_groups_right f__law_groups_right d__law_groups_right
  b__law_groups_right : Binds K d__law_groups_right ["_law_source_here", "_law_parts"] []
  m__law_groups_right : mg "_law_groups_right" = some (.ref f__law_groups_right)
  f__law_bounds_right : Addr
  d__law_bounds_right : FuncData
  F__law_bounds_right : Fun K "_law_bounds_right" "_law_bounds_right" s__law_bounds_right f__law_bounds_right d__law_bounds_right
  b__law_bounds_right : Binds K d__law_bounds_right ["_law_source_here"] []
  m__law_bounds_right : mg "_law_bounds_right" = some (.ref f__law_bounds_right)
  cc__law_bounds_right : Addr
  ct__law_bounds_right : Addr
  hc__law_bounds_right : Rp.CodeIs K f__law_bounds_right cc__law_bounds_right
  c_Descent : Addr
  g_Descent : mg "Descent" = some (.ref c_Descent)
  cl_Descent : Cls K c_Descent
  na_Descent_parts : NoAttr K c_Descent "parts"
  na_Descent_places : NoAttr K c_Descent "places"
  na_Descent_total : NoAttr K c_Descent "total"
  na_Descent_climbs : NoAttr K c_Descent "climbs"
  f_Descent_init : Addr
  d_Descent_init : FuncData
  F_Descent_init : Fun K "__init__" "Descent.__init__" s_Descent_init f_Descent_init d_Descent_init
  b_Descent_init : Binds K d_Descent_init ["self", "parts"] []
  mk_Descent : Mk K c_Descent f_Descent_init
  f_Descent_queue_climb : Addr
  d_Descent_queue_climb : FuncData
  F_Descent_queue_climb : Fun K "queue_climb" "Descent.queue_climb" s_Descent_queue_climb f_Descent_queue_climb d_Descent_queue_climb
  b_Descent_queue_climb : Binds K d_Descent_queue_climb ["self", "index"] []
  mt_Descent_queue_climb : Meth K c_Descent "queue_climb" f_Descent_queue_climb
  f_Descent_next_capacity : Addr
  d_Descent_next_capacity : FuncData
  F_Descent_next_capacity : Fun K "next_capacity" "Descent.next_capacity" s_Descent_next_capacity f_Descent_next_capacity d_Descent_next_capacity
  b_Descent_next_capacity : Binds K d_Descent_next_capacity ["self"] []
  mt_Descent_next_capacity : Meth K c_Descent "next_capacity" f_Descent_next_capacity
  f_Descent_go_down : Addr
  d_Descent_go_down : FuncData
  F_Descent_go_down : Fun K "go_down" "Descent.go_down" s_Descent_go_down f_Descent_go_down d_Descent_go_down
  b_Descent_go_down : Binds K d_Descent_go_down ["self", "capacity"] []
  mt_Descent_go_down : Meth K c_Descent "go_down" f_Descent_go_down
  f_Descent_lows : Addr
  d_Descent_lows : FuncData
  F_Descent_lows : Fun K "lows" "Descent.lows" s_Descent_lows f_Descent_lows d_Descent_lows
  b_Descent_lows : Binds K d_Descent_lows ["self"] []
  mt_Descent_lows : Meth K c_Descent "lows" f_Descent_lows
  t_NUMBER_END : Tok
  g_NUMBER_END : mg "NUMBER_END" = some (.int 10000000000000000000000000000000000000000000000000000000000000 t_NUMBER_END)
  t_MAX_VALLEYS : Tok
  g_MAX_VALLEYS : mg "MAX_VALLEYS" = some (.int 400 t_MAX_VALLEYS)
  t_MAX_JOINED : Tok
  g_MAX_JOINED : mg "MAX_JOINED" = some (.int 400 t_MAX_JOINED)
  c_InvalidValleys : Addr
  g_InvalidValleys : mg "InvalidValleys" = some (.ref c_InvalidValleys)
  x_InvalidValleys : PySem.W.excIn K c_InvalidValleys [.type "ValueError", .type "Exception", .type "BaseException", .type "object"] "ValueError.__new__" = true
  k_InvalidValleys : PySem.W.keepIn K (.ref c_InvalidValleys) = true
  bb_InvalidValleys : PySem.W.subIn K (.ref c_InvalidValleys) (.type "BaseException") = some true
  tt_InvalidValleys : PySem.W.typeIn K (.ref c_InvalidValleys) = some (.type "type")
  c_InvalidNumber : Addr
  g_InvalidNumber : mg "InvalidNumber" = some (.ref c_InvalidNumber)
  f_InvalidNumber_init : Addr
  d_InvalidNumber_init : FuncData
  F_InvalidNumber_init : Fun K "__init__" "InvalidNumber.__init__" s_InvalidNumber_init f_InvalidNumber_init d_InvalidNumber_init
  b_InvalidNumber_init : Binds K d_InvalidNumber_init ["self", "value"] []
  ox_InvalidNumber : OexB K c_InvalidNumber
  iC_InvalidNumber : PySem.W.findIn K (.ref c_InvalidNumber) "__init__" = some (some (.ref f_InvalidNumber_init))
  tI_InvalidNumber : PySem.W.typeIn K (.ref f_InvalidNumber_init) = some (.type "function")
  no_InvalidNumber : PySem.W.findIn K (.ref c_InvalidNumber) "value" = some none
  xf_InvalidNumber : XfC K c_InvalidNumber
  xc_InvalidNumber : L2.ExcC K c_InvalidNumber
  e_InvalidNumber_InvalidNumber : PySem.W.exmOne K (.ref c_InvalidNumber) (.ref c_InvalidNumber) = some true
  c_TooMany : Addr
  g_TooMany : mg "TooMany" = some (.ref c_TooMany)
  f_TooMany_init : Addr
  d_TooMany_init : FuncData
  F_TooMany_init : Fun K "__init__" "TooMany.__init__" s_TooMany_init f_TooMany_init d_TooMany_init
  b_TooMany_init : Binds K d_TooMany_init ["self", "limit"] []
  ox_TooMany : OexB K c_TooMany
  iC_TooMany : PySem.W.findIn K (.ref c_TooMany) "__init__" = some (some (.ref f_TooMany_init))
  tI_TooMany : PySem.W.typeIn K (.ref f_TooMany_init) = some (.type "function")
  no_TooMany : PySem.W.findIn K (.ref c_TooMany) "limit" = some none
  xf_TooMany : XfC K c_TooMany
  xc_TooMany : L2.ExcC K c_TooMany
  e_TooMany_TooMany : PySem.W.exmOne K (.ref c_TooMany) (.ref c_TooMany) = some true
  n_heappush : mg "heappush" = some (.builtin "_heapq.heappush")
  n_heappop : mg "heappop" = some (.builtin "_heapq.heappop")
  e_InvalidValleys_InvalidValleys : PySem.W.exmOne K (.ref c_InvalidValleys) (.ref c_InvalidValleys) = some true
  e_InvalidNumber_InvalidValleys : PySem.W.exmOne K (.ref c_InvalidNumber) (.ref c_InvalidValleys) = some false
  e_TooMany_InvalidValleys : PySem.W.exmOne K (.ref c_TooMany) (.ref c_InvalidValleys) = some false
  e_TooMany_InvalidNumber : PySem.W.exmOne K (.ref c_TooMany) (.ref c_InvalidNumber) = some false
  n_abs : mg "abs" = none
  n_all : mg "all" = none
  n_bool : mg "bool" = none
  n_int : mg "int" = none
  n_isinstance : mg "isinstance" = none
  n_len : mg "len" = none
  n_max : mg "max" = none
  n_min : mg "min" = none
  n_range : mg "range" = none
  n_sum : mg "sum" = none
  n_tuple : mg "tuple" = none
  n_zip : mg "zip" = none
/-! block SizesN (of the later code): is_integer, is_within, steps_of_leaf, sizes_of, _within_count, _sizes and its two helpers, is_job, checked_sizes -/
def spIsInt (K : PySem.W.Frag) : Sp := fun vs H Q _ => ∃ (v : V) (d : PyData), vs = [v] ∧ Dp K H v d ∧ Q (.bl (isInt d && !isBoo d)) H
/-- a pair of ints, or None -/
def RepSz (H : Hp) (r : V) : Option (Int × Int) → Prop
  | none => r = .non
  | some (a, b) => ∃ t, r = .ref t ∧ H t = some (.tup [.int a, .int b])
def spWithin : Sp := fun vs H Q _ => ∃ a b : Int, vs = [.int a, .int b] ∧ ∀ (H' : Hp) (r : V), Same H H' → RepSz H' r (within a b) → Q r H'
def inW : PyData → Int → Int → Bool
  | .int i, a, b => decide (a ≤ i) && decide (i ≤ b)
  | _, _, _ => false
theorem inW_int {i a b : Int} : inW (.int i) a b = (decide (a ≤ i) && decide (i ≤ b)) := rfl
def spWi (K : PySem.W.Frag) : Sp := fun vs H Q _ => ∃ (v : V) (d : PyData) (a b : Int), vs = [v, .int a, .int b] ∧ Dp K H v d ∧ Q (.bl (inW d a b)) H
def spLeaf (K : PySem.W.Frag) : Sp := fun vs H Q _ => ∃ (v : V) (d : PyData), vs = [v] ∧ Dp K H v d ∧ Q (if inW d (-M30) M30 = true then .int 1 else .non) H
def spSz (K : PySem.W.Frag) (L : Addr) (n : Nat) : Sp := fun vs H Q _ => ∃ (v : V) (j : J) (room lv : Int), vs = [v, .ref L, .int room, .int lv] ∧ Dp K H v j.toD ∧ 0 ≤ lv ∧ lv < (n : Int) ∧
  ∀ (H' : Hp) (r : V), Same H H' → RepSz H' r (szJ j room lv) → Q r H'
def spSzs (K : PySem.W.Frag) (L : Addr) (n : Nat) : Sp := fun vs H Q _ => ∃ (v : V) (js : List J) (room lv : Int), vs = [v, .ref L, .int room, .int lv] ∧ Dp K H v (.tuple (J.toDs js)) ∧ 1 ≤ lv ∧ lv ≤ (n : Int) ∧
  ∀ (H' : Hp) (r : V), Same H H' → RepSz H' r (if (js.length : Int) > 400 then none else szJs js 1 0 room lv) → Q r H'
def spSzr (K : PySem.W.Frag) (L : Addr) (n : Nat) : Sp := fun vs H Q _ => ∃ (v : V) (c : Int) (j : J) (room lv : Int), vs = [.int c, v, .ref L, .int room, .int lv] ∧ Dp K H v j.toD ∧ 1 ≤ lv ∧ lv ≤ (n : Int) ∧
  ∀ (H' : Hp) (r : V), Same H H' → RepSz H' r (if ¬ (0 ≤ c ∧ c ≤ M30) then none else match szJ j (room - 1) (lv - 1) with | none => none | some (a, b) => within (a + 1) (b * c)) → Q r H'
section
variable {P : Program} {w : World} {K : PySem.W.Frag} {mg : Str → Option Value} {base : Heap}
theorem ok_isint (T : Txt K mg) : FnOk P w K mg base CX0 1 T.f_is_integer T.d_is_integer ["value"] (spIsInt K) := by
  refine T.F_is_integer.ok sc_is_integer (fun vs H Q E h => ?_) (fun cdv A outer s H vs Q E hr h => ?_)
  · obtain ⟨v, d, rfl, _⟩ := h
    rfl
  obtain ⟨v, d, rfl, hd, q⟩ := h
  refine ⟨_, (pss_one (ps_ret (pe_and (pe_callB (r := rIsD K) call_isD (by rfl) T.n_isinstance (by decide +kernel) (pa_cons (pv 0) (pa_cons (pe_bltn (v := .ty "int") (by rfl) T.n_int (by decide +kernel) rfl) pa_nil))) (pe_one (pe_not (pe_callB (r := rIsD K) call_isD (by rfl) T.n_isinstance (by decide +kernel) (pa_cons (pv 0) (pa_cons (pe_bltn (v := .ty "bool") (by rfl) T.n_bool (by decide +kernel) rfl) pa_nil)))))))), ?_⟩
  refine ⟨_, rfl, v, _, d, _, rfl, hd, kit_int d, _, rfl, ?_⟩
  cases e : isInt d with
  | false =>
    refine iteF ?_
    rw [e] at q
    exact q
  | true =>
    refine iteT ⟨_, rfl, v, _, d, _, rfl, hd, kit_bool d, _, rfl, ?_⟩
    rw [e] at q
    exact q
theorem in_parts (k : Bool) : inV (.str (kwP k)) [.str "seq", .str "par"] = true := by cases k <;> decide +kernel
theorem in_parts_no (k : Bool) : inV (.str (kwR k)) [.str "seq", .str "par"] = false := by cases k <;> decide +kernel
theorem in_rounds (k : Bool) : inV (.str (kwR k)) [.str "repeat", .str "copies"] = true := by cases k <;> decide +kernel
/-- jobs of at most thirteen levels -/
def spIsJob (K : PySem.W.Frag) : Sp := fun vs H Q _ => ∃ (v : V) (j : J), vs = [v] ∧ Dp K H v j.toD ∧ j.deep ≤ 20 ∧ ∀ H', Same H H' → Q (.bl (szJ j 400 13).isSome) H'
def spChecked (K : PySem.W.Frag) : Sp := fun vs H Q _ => ∃ (v : V) (j : J) (a b : Int), vs = [v] ∧ Dp K H v j.toD ∧ j.deep ≤ 20 ∧ szJ j 400 13 = some (a, b) ∧
  ∀ (H' : Hp) (t : Addr), Same H H' → H' t = some (.tup [.int a, .int b]) → Q (.ref t) H'
def spSzOf (K : PySem.W.Frag) (L : Addr) : Sp := fun vs H Q _ => ∃ (v : V) (j : J), vs = [v, .ref L] ∧ Dp K H v j.toD ∧ ∀ (H' : Hp) (r : V), Same H H' → RepSz H' r (szJ j 400 13) → Q r H'
end
/-! block Src: _law_source, _law_draw (the second kind of a drawn source) -/
/-- a source at p: what is left of the cell, the mixed number, how many were drawn (at most n) -/
def Pot (H : Hp) (p : Addr) (n : Nat) : Prop := ∃ a b c : Int, H p = some (.lst [.int a, .int b, .int c]) ∧ (0 ≤ a ∧ a.natAbs < 2 ^ 3000) ∧ (0 ≤ b ∧ b < 72057594037927931) ∧ (0 ≤ c ∧ c ≤ (n : Int))
theorem Pot.lst {H : Hp} {p : Addr} {n : Nat} (h : Pot H p n) : ∃ l, H p = some (.lst l) := by
  obtain ⟨a, b, c, h, _⟩ := h
  exact ⟨_, h⟩
theorem Pot.mono {H : Hp} {p : Addr} {n m : Nat} (h : Pot H p n) (e : n ≤ m) : Pot H p m := by
  obtain ⟨a, b, c, h1, h2, h3, h4⟩ := h
  exact ⟨a, b, c, h1, h2, h3, h4.1, by omega⟩
theorem Pot.same {H H' : Hp} {p : Addr} {n : Nat} (h : Pot H p n) (s : Same H H') : Pot H' p n := by
  obtain ⟨a, b, c, h1, h2⟩ := h
  exact ⟨a, b, c, s _ _ h1, h2⟩
def spSource (K : PySem.W.Frag) : Sp := fun vs H Q _ => ∃ (a : Addr) (ns : List Int) (k : Int), vs = [.ref a, .int k] ∧ SqL K H a (ns.map V.int) ∧ ns.length ≤ 1000 ∧ 0 ≤ k ∧ k ≤ 1000 ∧
  ∀ (H' : Hp) (p : Addr), Same H H' → H p = none → Pot H' p 0 → Q (.ref p) H'
def spTake : Sp := fun vs H Q _ => ∃ (p : Addr) (n : Nat) (m : Int), vs = [.ref p, .int m] ∧ Pot H p n ∧ n ≤ 1099511627776 ∧ 0 < m ∧ m.natAbs < 2 ^ 200 ∧
  ∀ (H' : Hp) (r : Int), Sx p H H' → Pot H' p (n + 1) → 0 ≤ r → r < m → Q (.int r) H'
theorem natAbs_lt {i : Int} {B : Nat} (h0 : 0 ≤ i) (h : i < (B : Int)) : i.natAbs < B := by omega
theorem big12 : ((((10 : Int) ^ (60 : Int).toNat) ^ (12 : Int).toNat)).natAbs < 2 ^ 3000 := by decide +kernel
theorem pos12 : 0 < ((10 : Int) ^ (60 : Int).toNat) ^ (12 : Int).toNat := by decide +kernel
theorem mod_big {z m : Int} {B : Nat} (hm : 0 < m) (hB : m.natAbs < B) : 0 ≤ z % m ∧ (z % m).natAbs < B := by
  have h1 := Int.emod_nonneg z (Int.ne_of_gt hm)
  have h2 := Int.emod_lt_of_pos z hm
  exact ⟨h1, by omega⟩
section
variable {P : Program} {w : World} {K : PySem.W.Frag} {mg : Str → Option Value} {base : Heap}
theorem ok_source (T : Txt K mg) : FnOk P w K mg base CX0 1 T.f__law_source T.d__law_source ["_law_script", "_law_at"] (spSource K) := by
  refine T.F__law_source.ok sc__law_source (fun vs H Q E h => ?_) (fun cdv A outer s H vs Q E hr h => ?_)
  · obtain ⟨a, ns, k, rfl, _⟩ := h
    rfl
  obtain ⟨a, ns, k, rfl, hS, hlen, hk0, hk1, q⟩ := h
  refine ⟨_, (pss_cons (ps_set (i := 2) sc__law_source.nd rfl (Or.inl rfl) (pe_ifExp (pt_cmpR op_lt (pv 1) (pe_callB (r := rLenS K) call_lenS (by rfl) T.n_len (by decide +kernel) (pa_cons (pv 0) pa_nil)) (nomark _)) (pe_ix (r := rIxL K) ix_list (pv 0) (pv 1) (fun _ _ => rfl)) (pe_op op_add (pe_op op_mulW pe_int (pv 1)) pe_int)))
      (pss_cons (ps_set (i := 3) sc__law_source.nd rfl (Or.inl rfl) (pe_op op_mod (pe_callB call_abs (by rfl) T.n_abs (by decide +kernel) (pa_cons (pv 2) pa_nil)) (pe_op op_powW (pe_op op_powW pe_int pe_int) pe_int)))
      (pss_cons (ps_set (i := 4) sc__law_source.nd rfl (Or.inl rfl) (pe_op op_add (pe_op op_add (pe_op op_mulW (pv 3) pe_int) (pe_op op_mulW pe_int (pv 1))) (pe_callTy call_int1 (by rfl) T.n_int (by decide +kernel) (pa_cons (pe_cmpR op_lt (pv 2) pe_int (nomark _)) pa_nil))))
      (pss_one (ps_ret (pe_lst (pa_cons (pe_callB (call_max2 rfl) (by rfl) T.n_max (by decide +kernel) (pa_cons pe_int (pa_cons (pe_op op_sub (pv 3) (pe_op op_powW pe_int pe_int)) pa_nil))) (pa_cons (pe_op op_mod (pv 4) pe_int) (pa_cons pe_int pa_nil))))))))), ?_⟩
  refine ⟨_, rfl, _, rfl, a, _, rfl, .inl hS, _, _, rfl, rfl, _, rfl, ?_⟩
  refine ite2 (fun c => ?_) (fun c => ?_)
  · have c' := of_decide_eq_true c
    rw [List.length_map] at c'
    obtain ⟨z, _, hz⟩ := atI_int (ns := ns) hk0 c'
    refine ⟨_, rfl, _, rfl, _, _, _, _, rfl, rfl, hS, hz, ?_⟩
    show tSeq _ _ _ [some (.ref a), some (.int k), some (.int z), none, none] H
    generalize z = cell
    clear c c' hz
    refine ⟨_, rfl, _, rfl, _, _, rfl, rfl, powW_of 4 (by decide) (by decide) (by decide), _, _, rfl, rfl, powW_of 200 (by decide) (by decide +kernel) (by decide), _, _, rfl, rfl, pos12, ?_⟩
    have hb := mod_big (z := if cell < 0 then -cell else cell) pos12 big12
    dsimp only
    generalize (if cell < 0 then -cell else cell) % ((10 : Int) ^ (60 : Int).toNat) ^ (12 : Int).toNat = size at hb ⊢
    refine ⟨_, rfl, _, _, rfl, rfl, wide_mul (a := 3000) (b := 64) hb.2 (by decide) (by decide) (by decide) (by decide), ?_⟩
    refine ⟨_, rfl, _, _, rfl, rfl, wide_mul (a := 64) (b := 64) (by decide) (by omega) (by decide) (by decide) (by decide), _, _, rfl, rfl, ?_⟩
    refine ⟨_, rfl, _, _, rfl, rfl, .inr ⟨_, rfl, _, _, rfl, rfl, ?_⟩⟩
    dsimp only
    generalize size * 2862933555777941757 + 3037000493 * k + (if decide (cell < 0) = true then 1 else 0) = mixed
    refine ⟨_, rfl, _, _, rfl, rfl, powW_of 4 (by decide) (by decide) (by decide), _, _, rfl, rfl, _, _, rfl, ?_⟩
    refine ⟨_, rfl, _, _, rfl, rfl, (by show (0 : Int) < 72057594037927931; decide), (by show 3 ≤ sizeLine; decide), fun p hp => ?_⟩
    have hm0 : 0 ≤ mixed % 72057594037927931 := by omega
    have hm1 : mixed % 72057594037927931 < 72057594037927931 := by omega
    refine q _ p (same_new hp) hp ⟨_, _, _, upd_same, ?_, ⟨hm0, hm1⟩, by decide, by decide⟩
    have e18 : (10 : Int) ^ (18 : Int).toNat = 1000000000000000000 := by decide
    rw [e18]
    obtain ⟨h0, h1⟩ := hb
    split
    · exact ⟨by omega, by omega⟩
    · exact ⟨by omega, by decide⟩
  · refine ⟨_, rfl, _, _, rfl, rfl, (by show CMulW 3 k; exact wide_mul (a := 64) (b := 64) (by decide) (by omega) (by decide) (by decide) (by decide)), _, _, rfl, rfl, ?_⟩
    show tSeq _ _ _ [some (.ref a), some (.int k), some (.int (3 * k + 2)), none, none] H
    generalize 3 * k + 2 = cell
    refine ⟨_, rfl, _, rfl, _, _, rfl, rfl, powW_of 4 (by decide) (by decide) (by decide), _, _, rfl, rfl, powW_of 200 (by decide) (by decide +kernel) (by decide), _, _, rfl, rfl, pos12, ?_⟩
    have hb := mod_big (z := if cell < 0 then -cell else cell) pos12 big12
    dsimp only
    generalize (if cell < 0 then -cell else cell) % ((10 : Int) ^ (60 : Int).toNat) ^ (12 : Int).toNat = size at hb ⊢
    refine ⟨_, rfl, _, _, rfl, rfl, wide_mul (a := 3000) (b := 64) hb.2 (by decide) (by decide) (by decide) (by decide), ?_⟩
    refine ⟨_, rfl, _, _, rfl, rfl, wide_mul (a := 64) (b := 64) (by decide) (by omega) (by decide) (by decide) (by decide), _, _, rfl, rfl, ?_⟩
    refine ⟨_, rfl, _, _, rfl, rfl, .inr ⟨_, rfl, _, _, rfl, rfl, ?_⟩⟩
    dsimp only
    generalize size * 2862933555777941757 + 3037000493 * k + (if decide (cell < 0) = true then 1 else 0) = mixed
    refine ⟨_, rfl, _, _, rfl, rfl, powW_of 4 (by decide) (by decide) (by decide), _, _, rfl, rfl, _, _, rfl, ?_⟩
    refine ⟨_, rfl, _, _, rfl, rfl, (by show (0 : Int) < 72057594037927931; decide), (by show 3 ≤ sizeLine; decide), fun p hp => ?_⟩
    have hm0 : 0 ≤ mixed % 72057594037927931 := by omega
    have hm1 : mixed % 72057594037927931 < 72057594037927931 := by omega
    refine q _ p (same_new hp) hp ⟨_, _, _, upd_same, ?_, ⟨hm0, hm1⟩, by decide, by decide⟩
    have e18 : (10 : Int) ^ (18 : Int).toNat = 1000000000000000000 := by decide
    rw [e18]
    obtain ⟨h0, h1⟩ := hb
    split
    · exact ⟨by omega, by omega⟩
    · exact ⟨by omega, by decide⟩
theorem ok_take (T : Txt K mg) : FnOk P w K mg base CX0 1 T.f__law_draw T.d__law_draw ["_law_source_here", "_law_many"] spTake := by
  refine T.F__law_draw.ok sc__law_draw (fun vs H Q E h => ?_) (fun cdv A outer s H vs Q E hr h => ?_)
  · obtain ⟨p, n, m, rfl, _⟩ := h
    rfl
  obtain ⟨p, n, m, rfl, ⟨a, b, c, hp, ⟨a0, a1⟩, ⟨b0, b1⟩, c0, c1⟩, hn, hm, hm2, q⟩ := h
  refine ⟨_, (pss_cons (ps_if (pt_cmpR op_gt (pe_ix (r := rIxL K) ix_list (pv 0) pe_int (fun _ _ => rfl)) pe_int (nomark _)) (pss_cons (ps_set (i := 2) sc__law_draw.nd rfl (Or.inl rfl) (pe_op op_mod (pe_ix (r := rIxL K) ix_list (pv 0) pe_int (fun _ _ => rfl)) (pv 1)))
        (pss_cons (ps_asg (pe_op op_fdivW (pe_ix (r := rIxL K) ix_list (pv 0) pe_int (fun _ _ => rfl)) (pv 1)) (pg_sub (pv 0) pe_int set_list))
        (pss_one (ps_ret (pv 2))))) pss_nil)
      (pss_cons (ps_asg (pe_op op_add (pe_ix (r := rIxL K) ix_list (pv 0) pe_int (fun _ _ => rfl)) pe_int) (pg_sub (pv 0) pe_int set_list))
      (pss_cons (ps_set (i := 3) sc__law_draw.nd rfl (Or.inl rfl) (pe_op op_mod (pe_op op_add (pe_ix (r := rIxL K) ix_list (pv 0) pe_int (fun _ _ => rfl)) (pe_op op_mulW pe_int (pe_ix (r := rIxL K) ix_list (pv 0) pe_int (fun _ _ => rfl)))) pe_int))
      (pss_cons (ps_set (i := 4) sc__law_draw.nd rfl (Or.inl rfl) (pe_op op_mulW (pe_op op_mod (pe_op op_mulW (pv 3) (pv 3)) pe_int) (pv 3)))
      (pss_cons (ps_set (i := 4) sc__law_draw.nd rfl (Or.inl rfl) (pe_op op_mod (pe_op op_add (pe_op op_add (pv 4) (pe_op op_mulW pe_int (pe_ix (r := rIxL K) ix_list (pv 0) pe_int (fun _ _ => rfl)))) (pe_op op_mod (pe_ix (r := rIxL K) ix_list (pv 0) pe_int (fun _ _ => rfl)) pe_int)) pe_int))
      (pss_one (ps_ret (pe_op op_mod (pe_op op_fdivW (pe_op op_mod (pe_op op_mulW (pv 4) (pv 4)) pe_int) pe_int) (pv 1))))))))), ?_⟩
  refine ⟨_, rfl, _, _, _, _, rfl, rfl, SqL.of hp, rfl, _, _, rfl, rfl, _, rfl, ?_⟩
  refine ite2 (fun g => ?_) (fun g => ?_)
  · refine ⟨_, rfl, _, _, _, _, rfl, rfl, SqL.of hp, rfl, _, rfl, _, _, rfl, rfl, hm, ?_⟩
    refine ⟨_, rfl, _, _, _, _, rfl, rfl, SqL.of hp, rfl, _, rfl, _, _, rfl, rfl, wide_div hm hm2 (by decide) (by decide), ?_⟩
    refine ⟨_, rfl, _, _, _, _, rfl, rfl, hp, rfl, ?_⟩
    refine ⟨_, rfl, ?_⟩
    have d0 : 0 ≤ a / m := Int.ediv_nonneg a0 (by omega)
    have d1 : a / m ≤ a := Int.ediv_le_self m a0
    exact q _ _ sx_upd ⟨_, _, _, upd_same, ⟨d0, Nat.lt_of_le_of_lt (by omega) a1⟩, ⟨b0, b1⟩, c0, by omega⟩ (Int.emod_nonneg _ (by omega)) (Int.emod_lt_of_pos _ hm)
  · refine ⟨_, rfl, _, _, _, _, rfl, rfl, SqL.of hp, rfl, _, _, rfl, rfl, ?_⟩
    refine ⟨_, rfl, _, _, _, _, rfl, rfl, hp, rfl, ?_⟩
    dsimp only
    have hq : (upd H p (.lst [.int a, .int b, .int (c + 1)])) p = some (.lst [.int a, .int b, .int (c + 1)]) := upd_same
    refine ⟨_, rfl, _, _, _, _, rfl, rfl, SqL.of hq, rfl, _, rfl, _, _, _, _, rfl, rfl, SqL.of hq, rfl, _, _, rfl, rfl, wide_mul (a := 64) (b := 64) (by decide) (by omega) (by decide) (by decide) (by decide), _, _, rfl, rfl, _, _, rfl, rfl, (by show (0 : Int) < 18014398509481951; decide), ?_⟩
    dsimp only
    generalize b + 11400714819323198 * (c + 1) = pw
    have o0 : 0 ≤ pw % 18014398509481951 := by omega
    have o1 : pw % 18014398509481951 < 18014398509481951 := by omega
    generalize pw % 18014398509481951 = one at o0 o1 ⊢
    refine ⟨_, rfl, _, rfl, _, _, rfl, rfl, wide_mul (a := 64) (b := 64) (by omega) (by omega) (by decide) (by decide) (by decide), _, _, rfl, rfl, (by show (0 : Int) < 36028797018963913; decide), ?_⟩
    dsimp only
    generalize one * one = sq
    have k0 : 0 ≤ sq % 36028797018963913 := by omega
    have k1 : sq % 36028797018963913 < 36028797018963913 := by omega
    generalize sq % 36028797018963913 = low at k0 k1 ⊢
    refine ⟨_, rfl, _, _, rfl, rfl, wide_mul (a := 64) (b := 64) (by omega) (by omega) (by decide) (by decide) (by decide), ?_⟩
    dsimp only
    generalize low * one = two
    refine ⟨_, rfl, _, rfl, _, _, _, _, rfl, rfl, SqL.of hq, rfl, _, _, rfl, rfl, wide_mul (a := 64) (b := 64) (by decide) (by omega) (by decide) (by decide) (by decide), _, _, rfl, rfl, ?_⟩
    refine ⟨_, rfl, _, _, _, _, rfl, rfl, SqL.of hq, rfl, _, _, rfl, rfl, (by show (0 : Int) < 65521; decide), _, _, rfl, rfl, _, _, rfl, rfl, (by show (0 : Int) < 1125899906842597; decide), ?_⟩
    dsimp only
    generalize two + 2654435761 * (c + 1) + b % 65521 = pw2
    have t0 : 0 ≤ pw2 % 1125899906842597 := by omega
    have t1 : pw2 % 1125899906842597 < 1125899906842597 := by omega
    generalize pw2 % 1125899906842597 = three at t0 t1 ⊢
    refine ⟨_, rfl, _, rfl, _, _, rfl, rfl, wide_mul (a := 64) (b := 64) (by omega) (by omega) (by decide) (by decide) (by decide), _, _, rfl, rfl, (by show (0 : Int) < 562949953421231; decide), _, _, rfl, rfl, wide_div (b := 12) (by decide) (by decide) (by decide) (by decide), ?_⟩
    refine ⟨_, rfl, _, _, rfl, rfl, hm, ?_⟩
    exact q _ _ sx_upd ⟨_, _, _, upd_same, ⟨a0, a1⟩, ⟨b0, b1⟩, by omega, by omega⟩ (Int.emod_nonneg _ (by omega)) (Int.emod_lt_of_pos _ hm)
end
/-! block Vall: is_valleys, is_start_valleys, least_usages and _law_valleys (behind bSizes) -/
abbrev prD (p : P2) : PyData := .tuple [.int p.1, .int p.2]
abbrev prDs (ps : List P2) : List PyData := ps.map prD
theorem pv_ints {K : PySem.W.Frag} {H : Hp} : ∀ {a : List Int} {xs : List V}, DpAll K H xs (a.map .int) → xs = a.map V.int
  | [], _, h => by
    cases h
    rfl
  | k :: a, _, h => by
    cases h with
    | cons hx hr =>
    cases hx
    rw [pv_ints hr]
    rfl
theorem pr_inv {K : PySem.W.Frag} {H : Hp} {v : V} {p : P2} (h : Dp K H v (prD p)) : ∃ t, v = .ref t ∧ SqT K H t [.int p.1, .int p.2] := by
  obtain ⟨t, xs, rfl, hs, ha⟩ := dp_tup_inv h
  obtain rfl := pv_ints (a := [p.1, p.2]) ha
  exact ⟨t, rfl, hs⟩
theorem prs_at {K : PySem.W.Frag} {H : Hp} {vs : List V} {ps : List P2} {i : Nat} {x : V} (h : DpAll K H vs (prDs ps)) (hi : vs[i]? = some x) : ∃ p, ps[i]? = some p ∧ Dp K H x (prD p) := by
  obtain ⟨d, ed, hd⟩ := dpAll_get h hi
  rw [prDs, List.getElem?_map] at ed
  obtain ⟨p, ep, rfl⟩ := Option.map_eq_some_iff.mp ed
  exact ⟨p, ep, hd⟩
theorem slT {K : PySem.W.Frag} {H : Hp} {Q : VK} {a : Addr} {xs : List V} {lo hi : Option Int} (h1 : SqT K H a xs)
    (h : ∀ (H' : Hp) (t : Addr), Same H H' → SqT K H' t (cutV xs lo hi) → Q (.ref t) H') : rSlA K (.ref a) lo hi H Q := by
  refine ⟨a, xs, rfl, h1, fun z => ?_, fun _ p hp => h _ p (same_new hp) (SqT.of upd_same)⟩
  have e : cutV xs lo hi = xs := by simp [cutV, z.1, z.2]
  exact h H a (Same.refl _) (by rw [e]; exact h1)
theorem cut_1 {us : List V} : cutV us (some 1) none = us.drop 1 := by
  unfold cutV HT.sIx
  simp only [show ¬((1 : Int) < 0) by decide, if_false]
  have e : (1 : Int).toNat = 1 := rfl
  rw [e]
  by_cases h : us.length = 0
  · rw [List.length_eq_zero_iff.mp h]
    rfl
  · have e2 : min 1 us.length = 1 := by omega
    rw [e2, List.take_of_length_le (by rw [List.length_drop]; omega)]
def spPair (K : PySem.W.Frag) : Sp := fun vs H Q _ => ∃ (v : V) (p : P2), vs = [v] ∧ Dp K H v (prD p) ∧ ∀ H', Same H H' → Q (.bl true) H'
def spVal (K : PySem.W.Frag) : Sp := fun vs H Q _ => ∃ (v : V) (ps : List P2), vs = [v] ∧ Dp K H v (.tuple (prDs ps)) ∧ 1 ≤ ps.length ∧ ps.length ≤ 400 ∧ Strict ps ∧ ∀ H', Same H H' → Q (.bl true) H'
def spSVal (K : PySem.W.Frag) : Sp := fun vs H Q _ => ∃ (v : V) (ps : List P2) (l : Int) (W : List P2), vs = [v] ∧ Dp K H v (.tuple (prDs ps)) ∧ ps = (0, l) :: W ∧ l ≤ 0 ∧ ps.length ≤ 400 ∧ Strict ps ∧ ∀ H', Same H H' → Q (.bl true) H'
section
variable {P : Program} {w : World} {K : PySem.W.Frag} {mg : Str → Option Value} {base : Heap}
end
/-! block Vq: valleys over any data: is_short_integer, check_number, _is_pair, is_valleys, _check_valleys (behind bSizesN's first, bVall's first) -/
theorem iteFx {c : Bool} {A B : Prop} (h : c = false) (b : B) : if c = true then A else B := by
  subst h
  exact b
theorem iteTx {c : Bool} {A B : Prop} (h : c = true) (a : A) : if c = true then A else B := by
  subst h
  exact a
def N61 : Int := 10000000000000000000000000000000000000000000000000000000000000
def numB : PyData → Bool
  | .int i => decide (-N61 < i) && decide (i < N61)
  | _ => false
theorem numB_int {i : Int} : numB (.int i) = (decide (-N61 < i) && decide (i < N61)) := rfl
def pairB : PyData → Bool
  | .tuple [.int _, .int _] => true
  | _ => false
theorem pairB_two {a b : PyData} : pairB (.tuple [a, b]) = ((isInt a && !isBoo a) && (isInt b && !isBoo b)) := by
  cases a <;> first | rfl | (cases b <;> rfl)
theorem pairB_no {ds : List PyData} (n : ¬ ds.length = 2) : pairB (.tuple ds) = false := by
  unfold pairB
  split
  · rename_i h
    cases h
    exact absurd rfl n
  · rfl
def toP2 : PyData → P2
  | .tuple [.int a, .int b] => (a, b)
  | _ => (0, 0)
def adjB : List P2 → Bool
  | p :: q :: r => (decide (p.1 < q.1) && decide (q.2 < p.2)) && adjB (q :: r)
  | _ => true
def valB : PyData → Bool
  | .tuple ds => decide (1 ≤ ds.length ∧ ds.length ≤ 400) && ds.all pairB && adjB (ds.map toP2)
  | _ => false
theorem pairB_iff {d : PyData} : pairB d = true ↔ ∃ p : P2, d = prD p := by
  constructor
  · intro h
    unfold pairB at h
    split at h
    · exact ⟨(_, _), rfl⟩
    · cases h
  · rintro ⟨p, rfl⟩
    rfl
theorem toP2_prD (p : P2) : toP2 (prD p) = p := rfl
theorem adjB_iff : ∀ {ps : List P2}, adjB ps = true ↔ Strict ps
  | [] => by simp [adjB]
  | [p] => by simp [adjB]
  | p :: q :: r => by
    have ih := adjB_iff (ps := q :: r)
    simp only [adjB, Bool.and_eq_true, decide_eq_true_eq, ih]
    constructor
    · rintro ⟨⟨h1, h2⟩, h3⟩
      refine List.pairwise_cons.mpr ⟨fun x hx => ?_, h3⟩
      rcases List.mem_cons.mp hx with rfl | hx
      · exact ⟨h1, h2⟩
      · have := (List.pairwise_cons.mp h3).1 x hx
        omega
    · intro h
      obtain ⟨h1, h2⟩ := List.pairwise_cons.mp h
      exact ⟨h1 q (List.mem_cons_self ..), h2⟩
theorem all_pairs {ds : List PyData} (h : ds.all pairB = true) : ds = prDs (ds.map toP2) := by
  induction ds with
  | nil => rfl
  | cons d ds ih =>
    simp only [List.all_cons, Bool.and_eq_true] at h
    obtain ⟨p, rfl⟩ := pairB_iff.mp h.1
    rw [prDs, List.map_cons, List.map_cons, ← prDs, ← ih h.2]
    rfl
theorem valB_iff {d : PyData} : valB d = true ↔ ∃ ps : List P2, d = .tuple (prDs ps) ∧ 1 ≤ ps.length ∧ ps.length ≤ 400 ∧ Strict ps := by
  constructor
  · intro h
    cases d with
    | tuple ds =>
      simp only [valB, Bool.and_eq_true, decide_eq_true_eq] at h
      obtain ⟨⟨⟨h1, h2⟩, h3⟩, h4⟩ := h
      exact ⟨ds.map toP2, by rw [← all_pairs h3], by simpa using h1, by simpa using h2, adjB_iff.mp h4⟩
    | _ => cases h
  · rintro ⟨ps, rfl, h1, h2, h3⟩
    have e : (prDs ps).map toP2 = ps := by
      rw [prDs, List.map_map]
      have : ps.map (toP2 ∘ prD) = ps.map id := List.map_congr_left fun p _ => rfl
      rw [this, List.map_id]
    have e2 : (prDs ps).all pairB = true := by
      rw [List.all_eq_true]
      intro d hd
      obtain ⟨p, _, rfl⟩ := List.mem_map.mp hd
      rfl
    simp only [valB, e, e2, adjB_iff.mpr h3, Bool.and_true, decide_eq_true_eq]
    rw [prDs, List.length_map]
    exact ⟨h1, h2⟩
/-- how neighbours compare -/
def adjs : List P2 → List Bool
  | p :: q :: r => (decide (p.1 < q.1) && decide (q.2 < p.2)) :: adjs (q :: r)
  | _ => []
theorem adjs_len : ∀ {ps : List P2}, (adjs ps).length = ps.length - 1
  | [] => rfl
  | [p] => rfl
  | p :: q :: r => by
    have := adjs_len (ps := q :: r)
    simp only [adjs, List.length_cons] at *
    omega
theorem adjs_all : ∀ {ps : List P2}, (adjs ps).all id = adjB ps
  | [] => rfl
  | [p] => rfl
  | p :: q :: r => by
    have := adjs_all (ps := q :: r)
    simp only [adjs, adjB, List.all_cons, this, id]
theorem adjs_at : ∀ {ps : List P2} {i : Nat} {p q : P2}, ps[i]? = some p → ps[i + 1]? = some q → (adjs ps)[i]? = some (decide (p.1 < q.1) && decide (q.2 < p.2))
  | [], i, p, q, h, _ => by simp at h
  | [x], i, p, q, _, h => by simp at h
  | x :: y :: r, 0, p, q, h, k => by
    cases h
    cases k
    rfl
  | x :: y :: r, i + 1, p, q, h, k => by
    have := adjs_at (ps := y :: r) (i := i) (p := p) (q := q) (by simpa using h) (by simpa using k)
    simpa [adjs] using this
def spShort (K : PySem.W.Frag) : Sp := fun vs H Q _ => ∃ (v : V) (d : PyData), vs = [v] ∧ Dp K H v d ∧ Q (.bl (numB d)) H
def spChkN (K : PySem.W.Frag) (C : Addr) : Sp := fun vs H Q E => ∃ (v : V) (d : PyData), vs = [v] ∧ Dp K H v d ∧ (numB d = true → Q .non H) ∧
  (numB d = false → ∀ (dx : Addr), H dx = none → E (.ref C) (some dx) (upd H dx (.xd [("value", v)])))
def spPairQ (K : PySem.W.Frag) : Sp := fun vs H Q _ => ∃ (v : V) (d : PyData), vs = [v] ∧ Dp K H v d ∧ Q (.bl (pairB d)) H
def spIsV (K : PySem.W.Frag) : Sp := fun vs H Q _ => ∃ (v : V) (d : PyData), vs = [v] ∧ Dp K H v d ∧ ∀ H', Same H H' → Q (.bl (valB d)) H'
def spChkV (K : PySem.W.Frag) (C : Addr) : Sp := fun vs H Q E => ∃ (v : V) (d : PyData), vs = [v] ∧ Dp K H v d ∧ (valB d = true → ∀ H', Same H H' → Q .non H') ∧ (valB d = false → ∀ H', Same H H' → E (.ref C) none H')
section
variable {P : Program} {w : World} {K : PySem.W.Frag} {mg : Str → Option Value} {base : Heap}
theorem ok_short (T : Txt K mg) : FnOk P w K mg base CX0 2 T.f_is_short_integer T.d_is_short_integer ["value"] (spShort K) := by
  have g_is_integer : FnOk P w K mg base CX0 1 T.f_is_integer T.d_is_integer ["value"] (spIsInt K) := ok_isint T
  refine T.F_is_short_integer.ok sc_is_short_integer (fun vs H Q E h => ?_) (fun cdv A outer s H vs Q E hr h => ?_)
  · obtain ⟨v, d, rfl, _⟩ := h
    rfl
  obtain ⟨v, d, rfl, hd, q⟩ := h
  refine ⟨_, (pss_one (ps_ret (pe_and (pe_call g_is_integer (hr.mono (by omega)) rfl T.m_is_integer T.F_is_integer.kp T.b_is_integer .nil pass0 (pa_cons (pv 0) pa_nil)) (pe_one (pe_chain op_lt op_lt (pe_un un_neg (pe_glob (v := .int 10000000000000000000000000000000000000000000000000000000000000) rfl T.g_NUMBER_END ⟨_, rfl⟩)) (pv 0) (pe_glob (v := .int 10000000000000000000000000000000000000000000000000000000000000) rfl T.g_NUMBER_END ⟨_, rfl⟩)))))), ?_⟩
  refine ⟨_, rfl, v, d, rfl, hd, _, rfl, ?_⟩
  by_cases e : ∃ i, d = .int i
  · obtain ⟨i, rfl⟩ := e
    obtain rfl := dp_int_inv hd
    refine iteT ?_
    refine ⟨_, rfl, _, rfl, _, _, rfl, rfl, _, rfl, ?_⟩
    rw [numB_int] at q
    show if decide (-N61 < i) = true then _ else _
    cases e1 : decide (-N61 < i) with
    | true =>
      refine iteT ?_
      rw [e1, Bool.true_and] at q
      exact ⟨_, _, rfl, rfl, q⟩
    | false =>
      refine iteF ?_
      rw [e1, Bool.false_and] at q
      exact q
  · have e1 : (isInt d && !isBoo d) = false ∧ numB d = false := by
      cases d <;> first | exact absurd ⟨_, rfl⟩ e | exact ⟨rfl, rfl⟩
    rw [e1.1]
    rw [e1.2] at q
    refine iteF ?_
    exact q
theorem ok_inum (T : Txt K mg) : FnOk P w K mg base CX0 1 T.f_InvalidNumber_init T.d_InvalidNumber_init ["self", "value"] (spKeep T.c_InvalidNumber "value") := by
  refine T.F_InvalidNumber_init.ok sc_InvalidNumber_init (fun vs H Q E h => ?_) (fun cdv A outer s H vs Q E hr h => ?_)
  · obtain ⟨a, y, rfl, _⟩ := h
    rfl
  obtain ⟨a, y, rfl, ha, q⟩ := h
  refine ⟨_, (pss_one (ps_keepF (pv 0) (pv 1))), ?_⟩
  exact ⟨_, rfl, _, rfl, a, T.c_InvalidNumber, rfl, T.ox_InvalidNumber, T.no_InvalidNumber, ha, fun dx n ne => q dx n ne⟩
theorem ok_chkn (T : Txt K mg) : FnOk P w K mg base (L2.CX P w) 3 T.f_check_number T.d_check_number ["value"] (spChkN K T.c_InvalidNumber) := by
  have g_is_short_integer := ok_short (P := P) (w := w) (base := base) T
  have g_InvalidNumber_init := ok_inum (P := P) (w := w) (base := base) T
  refine T.F_check_number.okX sc_check_number (fun vs H Q E h => ?_) (fun cdv A outer s H vs Q E hr h => ?_)
  · obtain ⟨v, d, rfl, _⟩ := h
    rfl
  obtain ⟨v, d, rfl, hd, q, qe⟩ := h
  refine ⟨_, (pss_one (ps_if (pt_not (pt_val (pe_call g_is_short_integer (hr.mono (by omega)) rfl T.m_is_short_integer T.F_is_short_integer.kp T.b_is_short_integer .nil pass0 (pa_cons (pv 0) pa_nil)))) (pss_one (ps_raise rfl (takes_of rfl rfl rfl rfl) (pmk_keep T.ox_InvalidNumber T.iC_InvalidNumber T.tI_InvalidNumber g_InvalidNumber_init (hr.mono (by omega)) T.b_InvalidNumber_init pass0 rfl T.g_InvalidNumber (pa_cons (pv 0) pa_nil)))) pss_nil)), ?_⟩
  refine ⟨_, rfl, v, d, rfl, hd, _, rfl, ?_⟩
  cases e : numB d with
  | true =>
    refine iteF ?_
    exact q e
  | false =>
    refine iteT ?_
    exact ⟨_, rfl, _, rfl, fun dx hx => qe e dx hx⟩
theorem ok_pairq (T : Txt K mg) : FnOk P w K mg base CX0 2 T.f__is_pair T.d__is_pair ["value"] (spPairQ K) := by
  have g_is_integer := ok_isint (P := P) (w := w) (base := base) T
  refine T.F__is_pair.ok sc__is_pair (fun vs H Q E h => ?_) (fun cdv A outer s H vs Q E hr h => ?_)
  · obtain ⟨v, d, rfl, _⟩ := h
    rfl
  obtain ⟨v, d, rfl, hd, q⟩ := h
  refine ⟨_, (pss_one (ps_ret (pe_and (pe_callB (r := rIsD K) call_isD (by rfl) T.n_isinstance (by decide +kernel) (pa_cons (pv 0) (pa_cons (pe_bltn (v := .ty "tuple") (by rfl) T.n_tuple (by decide +kernel) rfl) pa_nil))) (pe_and (pe_cmpR op_eq (pe_callB (r := rLenS K) call_lenS (by rfl) T.n_len (by decide +kernel) (pa_cons (pv 0) pa_nil)) pe_int (nomark _)) (pe_and (pe_call g_is_integer (hr.mono (by omega)) rfl T.m_is_integer T.F_is_integer.kp T.b_is_integer .nil pass0 (pa_cons (pe_ix (r := rIxT K) ix_tup (pv 0) pe_int (fun _ _ => rfl)) pa_nil)) (pe_one (pe_call g_is_integer (hr.mono (by omega)) rfl T.m_is_integer T.F_is_integer.kp T.b_is_integer .nil pass0 (pa_cons (pe_ix (r := rIxT K) ix_tup (pv 0) pe_int (fun _ _ => rfl)) pa_nil)))))))), ?_⟩
  refine ⟨_, rfl, _, _, _, _, rfl, hd, kit_tuple _, _, rfl, ?_⟩
  cases et : isTup d with
  | false =>
    have e : pairB d = false := by cases d <;> first | rfl | cases et
    rw [e] at q
    refine iteF ?_
    exact q
  | true =>
  obtain ⟨ds, rfl⟩ : ∃ ds, d = .tuple ds := by
    cases d <;> first | exact ⟨_, rfl⟩ | cases et
  refine iteT ?_
  obtain ⟨a, xs, rfl, hs, hall⟩ := dp_tup_inv hd
  have hl := dpAll_length hall
  refine ⟨_, rfl, a, xs, rfl, .inr hs, rfl, _, rfl, ?_⟩
  have no : ¬ ds.length = 2 → pairB (.tuple ds) = false := pairB_no
  refine ite2 (fun g => ?_) (fun g => ?_)
  · have g2 : xs.length = 2 := by
      have h := of_decide_eq_true g
      have e : ((xs.length : Nat) : Int) = 2 := by simpa using h
      omega
    cases hall with
    | nil => cases g2
    | cons hx hall =>
    cases hall with
    | nil => cases g2
    | cons hy hall =>
    cases hall with
    | cons hz hall =>
      simp only [List.length_cons] at g2
      omega
    | nil =>
    rename_i x dx y dy
    refine ⟨_, rfl, _, _, _, _, rfl, rfl, hs, atI_at (j := 0) rfl rfl, x, dx, rfl, hx, _, rfl, ?_⟩
    rw [pairB_two] at q
    cases ex : (isInt dx && !isBoo dx) with
    | false =>
      rw [ex, Bool.false_and] at q
      refine iteF ?_
      exact q
    | true =>
      rw [ex, Bool.true_and] at q
      refine iteT ?_
      exact ⟨_, rfl, _, _, _, _, rfl, rfl, hs, atI_at (j := 1) rfl rfl, y, dy, rfl, hy, q⟩
  · rw [no (fun z => g (decide_eq_true (by rw [hl, z]; rfl)))] at q
    exact q
theorem ok_isv (T : Txt K mg) : FnOk P w K mg base CX0 3 T.f_is_valleys T.d_is_valleys ["value"] (spIsV K) := by
  have g__is_pair := ok_pairq (P := P) (w := w) (base := base) T
  refine T.F_is_valleys.ok sc_is_valleys (fun vs H Q E h => ?_) (fun cdv A outer s H vs Q E hr h => ?_)
  · obtain ⟨v, d, rfl, _⟩ := h
    rfl
  obtain ⟨v, d, rfl, hd, q⟩ := h
  refine ⟨_, (pss_cons (ps_if (PW.pt (pw_or (pt_not (pt_val (pe_callB (r := rIsD K) call_isD (by rfl) T.n_isinstance (by decide +kernel) (pa_cons (pv 0) (pa_cons (pe_bltn (v := .ty "tuple") (by rfl) T.n_tuple (by decide +kernel) rfl) pa_nil))))) (pw_or1 (pt_not (pt_chain op_le op_le pe_int (pe_callB (r := rLenS K) call_lenS (by rfl) T.n_len (by decide +kernel) (pa_cons (pv 0) pa_nil)) (pe_glob (v := .int 400) rfl T.g_MAX_VALLEYS ⟨_, rfl⟩)))))) (pss_one (ps_ret pe_bl)) pss_nil)
      (pss_cons (ps_if (pt_not (pt_val (pe_callB (r := rAll K) (cr_all rfl) (by rfl) T.n_all (by decide +kernel) (pa_cons (pe_lc (own := [("pair", 1)]) (g := (gName 1)) (by rfl) sc_is_valleys.nd (pi_tup (pv 0)) (blkOk_by (N := N_is_valleys) (sc := (defScope s_is_valleys)) (by decide +kernel)) (fun _ _ _ _ _ => (pg_name (i := 1) sc_is_valleys.nd rfl (Or.inl rfl))) (fun _ _ _ _ _ => pts_nil) (fun _ _ _ _ _ => (pe_call g__is_pair (hr.mono (by omega)) rfl T.m__is_pair T.F__is_pair.kp T.b__is_pair .nil pass0 (pa_cons (pv 1) pa_nil)))) pa_nil)))) (pss_one (ps_ret pe_bl)) pss_nil)
      (pss_one (ps_ret (pe_callB (r := rAll K) (cr_all rfl) (by rfl) T.n_all (by decide +kernel) (pa_cons (pe_lc (own := [("left", 2), ("right", 3)]) (g := (gTup K 2 (gCons (gName 2) (gCons (gName 3) gNil)))) (by rfl) sc_is_valleys.nd (RZ.pi_zipA (by rfl) T.n_zip (pa_cons (pv 0) (pa_cons (pe_slice (r := rSlA K) sl_tupA (pv 0) (po_some pe_int) po_none) pa_nil))) (blkOk_by (N := N_is_valleys) (sc := (defScope s_is_valleys)) (by decide +kernel)) (fun _ _ _ _ _ => (pg_tup (by rfl) (pgs_cons (pg_name (i := 2) sc_is_valleys.nd rfl (Or.inl rfl)) (pgs_cons (pg_name (i := 3) sc_is_valleys.nd rfl (Or.inl rfl)) pgs_nil)))) (fun _ _ _ _ _ => pts_nil) (fun _ _ _ _ _ => (pe_and (pe_cmpR op_lt (pe_ix (r := rIxT K) ix_tup (pv 2) pe_int (fun _ _ => rfl)) (pe_ix (r := rIxT K) ix_tup (pv 3) pe_int (fun _ _ => rfl)) (nomark _)) (pe_one (pe_cmpR op_gt (pe_ix (r := rIxT K) ix_tup (pv 2) pe_int (fun _ _ => rfl)) (pe_ix (r := rIxT K) ix_tup (pv 3) pe_int (fun _ _ => rfl)) (nomark _)))))) pa_nil)))))), ?_⟩
  refine ⟨_, rfl, _, _, _, _, rfl, hd, kit_tuple _, _, rfl, ?_⟩
  cases et : isTup d with
  | false =>
    have e : valB d = false := by cases d <;> first | rfl | cases et
    rw [e] at q
    refine iteT ?_
    exact q _ (Same.refl _)
  | true =>
  obtain ⟨ds, rfl⟩ : ∃ ds, d = .tuple ds := by
    cases d <;> first | exact ⟨_, rfl⟩ | cases et
  obtain ⟨a, xs, rfl, hs, hall⟩ := dp_tup_inv hd
  have hl : xs.length = ds.length := dpAll_length hall
  refine iteF ?_
  refine ⟨_, rfl, a, _, rfl, .inr hs, ?_⟩
  have no : ¬ (1 ≤ ds.length ∧ ds.length ≤ 400) → Q (.bl false) H := fun n => by
    have e : valB (.tuple ds) = false := by simp only [valB, decide_eq_false n, Bool.false_and]
    rw [e] at q
    exact q _ (Same.refl _)
  refine ⟨_, _, rfl, rfl, _, rfl, ?_⟩
  refine ite2 (fun g => ?_) (fun g => ?_)
  · have g1 : 1 ≤ ds.length := by
      have := of_decide_eq_true g
      omega
    refine ⟨_, _, rfl, rfl, _, rfl, ?_⟩
    show (if (!decide ((xs.length : Int) ≤ 400)) = true then _ else _)
    refine ite2 (fun g4 => ?_) (fun g4 => ?_)
    · refine no fun z => ?_
      rw [decide_eq_true (by rw [hl]; omega)] at g4
      cases g4
    have g400 : ds.length ≤ 400 := by
      rw [Bool.not_eq_true', decide_eq_false_iff_not] at g4
      have := Classical.byContradiction (p := (xs.length : Int) ≤ 400) g4
      omega
    clear g g4 no
    refine ⟨_, rfl, a, rfl, ⟨xs, hs⟩, fun D hD => ?_⟩
    refine lc_tup (K := K) (a := a) (xs := xs) (fun i G => Same H G ∧ G D = some (.lst (((ds.take i).map pairB).map V.bl))) ?_ ?_ ?_ ?_
    · exact ⟨same_new hD, by simpa using upd_same⟩
    · rintro i G _ ⟨s1, _⟩
      exact same_sqT s1 hs
    · rintro i x G hi ⟨s1, eD⟩
      obtain ⟨d, ed, hx⟩ := dpAll_get hall hi
      refine ⟨rfl, ?_⟩
      unfold tYes
      refine iteT ?_
      refine ⟨_, rfl, x, d, rfl, dp_same s1 hx, ?_⟩
      have etk : ds.take (i + 1) = ds.take i ++ [d] := by rw [List.take_add_one, ed]; rfl
      refine ⟨_, eD, ?_, ?_, ?_⟩
      · rw [List.length_map, List.length_map, List.length_take]
        exact small1000 (by omega)
      · intro c o hc
        rw [upd_ne (ne_of_none hc hD)]
        exact s1 _ _ hc
      · rw [upd_same, etk, List.map_append, List.map_append]
        rfl
    rintro G ⟨s1, eD⟩
    rw [hl, List.take_length] at eD
    refine ⟨D, _, rfl, SqL.of eD, ?_⟩
    have eid : ((ds.map pairB).all id) = ds.all pairB := by rw [List.all_map]; rfl
    rw [eid]
    refine ⟨_, rfl, ?_⟩
    cases ep : ds.all pairB with
    | false =>
      have e : valB (.tuple ds) = false := by simp only [valB, ep, Bool.and_false, Bool.false_and]
      rw [e] at q
      refine iteT ?_
      exact q _ s1
    | true =>
    refine iteF ?_
    clear eD eid
    have eps := all_pairs ep
    have e : valB (.tuple ds) = adjB (ds.map toP2) := by simp only [valB, ep, decide_eq_true (And.intro g1 g400), Bool.true_and]
    rw [e] at q
    clear e ep
    have lp : (ds.map toP2).length = ds.length := List.length_map ..
    generalize ds.map toP2 = ps at eps q lp
    subst eps
    -- neighbours
    have hsG := same_sqT s1 hs
    refine ⟨_, rfl, _, rfl, _, rfl, ?_⟩
    unfold tNoPart
    dsimp only
    refine slT hsG (fun G1 b s2 hb => ?_)
    rw [cut_1] at hb
    refine ⟨a, b, _, _, rfl, .inr ⟨same_sqT s2 hsG, hb, fun D hD => ?_⟩⟩
    have hsG1 := same_sqT s2 hsG
    have hall1 := dpAll_same (s1.trans s2) hall
    refine lc_it (walk_zipT2 (xs := xs) (ys := xs.drop 1) (n := xs.length - 1) (by rw [List.length_drop]; omega)) (fun i F => Same G1 F ∧ F D = some (.lst (((adjs ps).take i).map V.bl))) ?_ ?_ ?_ ?_
    · exact ⟨same_new hD, by simpa using upd_same⟩
    · rintro i F _ ⟨s3, _⟩
      exact ⟨same_sqT s3 hsG1, same_sqT s3 hb⟩
    · rintro i z F F' hi ⟨s3, eD⟩ ⟨t, x, y, rfl, ht, rfl, hx, hy⟩
      dsimp only at hx hy
      rw [List.getElem?_drop] at hy
      obtain ⟨p1, ep1, dx⟩ := prs_at hall1 hx
      obtain ⟨p2, ep2, dy⟩ := prs_at hall1 hy
      obtain ⟨t1, rfl, k1⟩ := pr_inv dx
      obtain ⟨t2, rfl, k2⟩ := pr_inv dy
      have s4 : Same F (upd F t (.tup [.ref t1, .ref t2])) := same_new ht
      have kt : SqT K (upd F t (.tup [.ref t1, .ref t2])) t [.ref t1, .ref t2] := SqT.of upd_same
      have eD4 := s4 _ _ eD
      generalize (upd F t (.tup [.ref t1, .ref t2])) = F2 at s4 kt eD4 ⊢
      have s34 := s3.trans s4
      have k1 := same_sqT s34 k1
      have k2 := same_sqT s34 k2
      have etk : (adjs ps).take (i + 1) = (adjs ps).take i ++ [decide (p1.1 < p2.1) && decide (p2.2 < p1.2)] := by
        rw [List.take_add_one, adjs_at ep1 (by rw [← ep2, Nat.add_comm])]
        rfl
      have fin : ∀ b : Bool, b = (decide (p1.1 < p2.1) && decide (p2.2 < p1.2)) → ∃ acc, F2 D = some (.lst acc) ∧ acc.length < sizeLine ∧ Same G1 (upd F2 D (.lst (acc ++ [.bl b]))) ∧ upd F2 D (.lst (acc ++ [.bl b])) D = some (.lst (((adjs ps).take (i + 1)).map V.bl)) := fun b eb => by
        refine ⟨_, eD4, ?_, ?_, ?_⟩
        · rw [List.length_map, List.length_take]
          exact small1000 (by omega)
        · intro c o hc
          rw [upd_ne (ne_of_none hc hD)]
          exact s34 _ _ hc
        · rw [upd_same, etk, List.map_append, ← eb]
          rfl
      refine ⟨t, _, rfl, kt, rfl, _, _, rfl, _, _, rfl, rfl, rfl, ?_⟩
      unfold tYes
      refine iteT ?_
      refine ⟨_, rfl, _, _, _, _, rfl, rfl, k1, atI_at (j := 0) rfl rfl, _, rfl, _, _, _, _, rfl, rfl, k2, atI_at (j := 0) rfl rfl, _, _, rfl, rfl, _, rfl, ?_⟩
      cases g1 : decide (p1.1 < p2.1) with
      | true =>
        refine iteT ?_
        refine ⟨_, rfl, _, _, _, _, rfl, rfl, k1, atI_at (j := 1) rfl rfl, _, rfl, _, _, _, _, rfl, rfl, k2, atI_at (j := 1) rfl rfl, _, _, rfl, rfl, ?_⟩
        exact fin _ (by rw [g1, Bool.true_and])
      | false =>
        refine iteF ?_
        exact fin _ (by rw [g1, Bool.false_and])
    rintro F ⟨s3, eD⟩
    rw [hl, prDs, List.length_map, ← adjs_len, List.take_length] at eD
    refine ⟨D, _, rfl, SqL.of eD, ?_⟩
    rw [adjs_all]
    exact q _ (s1.trans (s2.trans s3))
  · refine ⟨_, rfl, ?_⟩
    refine iteT ?_
    exact no fun z => g (decide_eq_true (by rw [hl]; omega))
theorem ok_chkv (T : Txt K mg) : FnOk P w K mg base (L2.CX P w) 4 T.f__check_valleys T.d__check_valleys ["value"] (spChkV K T.c_InvalidValleys) := by
  have g_is_valleys := ok_isv (P := P) (w := w) (base := base) T
  refine T.F__check_valleys.okX sc__check_valleys (fun vs H Q E h => ?_) (fun cdv A outer s H vs Q E hr h => ?_)
  · obtain ⟨v, d, rfl, _⟩ := h
    rfl
  obtain ⟨v, d, rfl, hd, q, qe⟩ := h
  refine ⟨_, (pss_one (ps_if (pt_not (pt_val (pe_call g_is_valleys (hr.mono (by omega)) rfl T.m_is_valleys T.F_is_valleys.kp T.b_is_valleys .nil pass0 (pa_cons (pv 0) pa_nil)))) (pss_one (ps_raise rfl (takes_of rfl rfl rfl rfl) (pmk_own PySem.F.excBase_ValueError T.x_InvalidValleys T.g_InvalidValleys T.k_InvalidValleys (raises_own T.bb_InvalidValleys T.tt_InvalidValleys) rfl))) pss_nil)), ?_⟩
  refine ⟨_, rfl, v, d, rfl, hd, fun H1 s1 => ⟨_, rfl, ?_⟩⟩
  cases e : valB d with
  | true =>
    refine iteF ?_
    exact q e _ s1
  | false =>
    refine iteT ?_
    exact qe e _ s1
end
/-! block V20f: value_at, moved, valley_at, shifted, from_capacity (behind bVq) -/
def valFrom (c : Int) (a : Option Int) (ps : List P2) : Option Int := ps.foldl (fun v p => if p.1 ≤ c then some p.2 else v) a
def valAt (c : Int) (ps : List P2) : Option Int := valFrom c none ps
def repO : Option Int → V
  | none => .non
  | some x => .int x
def movedP (c l : Int) (ps : List P2) : List P2 := ps.map fun p => (p.1 + c, p.2 + l)
def laterP (c : Int) (ps : List P2) : List P2 := ps.filter fun p => decide (p.1 > c)
def fromP (c : Int) (ps : List P2) : List P2 := (c, (valAt c ps).getD 0) :: laterP c ps
theorem valFrom_some {c : Int} : ∀ {ps : List P2} {x : Int}, ∃ y, valFrom c (some x) ps = some y
  | [], x => ⟨x, rfl⟩
  | p :: ps, x => by
    unfold valFrom
    rw [List.foldl_cons]
    split
    · exact valFrom_some (ps := ps)
    · exact valFrom_some (ps := ps)
theorem valAt_some {c : Int} {p : P2} {ps : List P2} (h : p.1 ≤ c) : valAt c (p :: ps) = some ((valAt c (p :: ps)).getD 0) := by
  obtain ⟨y, e⟩ := valFrom_some (c := c) (ps := ps) (x := p.2)
  have e2 : valAt c (p :: ps) = some y := by
    unfold valAt valFrom
    rw [List.foldl_cons, if_pos h]
    exact e
  rw [e2]
  rfl
theorem valFrom_mem {c : Int} : ∀ {ps : List P2} {a : Option Int} {y : Int}, valFrom c a ps = some y → a = some y ∨ ∃ p ∈ ps, p.1 ≤ c ∧ p.2 = y
  | [], a, y, h => .inl h
  | p :: ps, a, y, h => by
    unfold valFrom at h
    rw [List.foldl_cons] at h
    rcases valFrom_mem (ps := ps) h with z | ⟨q, hq, h1, h2⟩
    · by_cases e : p.1 ≤ c
      · rw [if_pos e] at z
        exact .inr ⟨p, List.mem_cons_self .., e, Option.some.inj z⟩
      · rw [if_neg e] at z
        exact .inl z
    · exact .inr ⟨q, List.mem_cons_of_mem _ hq, h1, h2⟩
theorem strict_before {ps : List P2} (h : Strict ps) {p q : P2} (hp : p ∈ ps) (hq : q ∈ ps) (c : Int) (h1 : p.1 ≤ c) (h2 : q.1 > c) : q.2 < p.2 := by
  obtain ⟨i, hi, rfl⟩ := List.getElem_of_mem hp
  obtain ⟨j, hj, rfl⟩ := List.getElem_of_mem hq
  rcases Nat.lt_trichotomy i j with z | z | z
  · exact ((List.pairwise_iff_getElem.mp h) i j hi hj z).2
  · subst z
    omega
  · have := ((List.pairwise_iff_getElem.mp h) j i hj hi z).1
    omega
theorem strict_from {c : Int} {p : P2} {ps : List P2} (h : Strict (p :: ps)) (hc : p.1 ≤ c) : Strict (fromP c (p :: ps)) := by
  unfold fromP
  refine List.pairwise_cons.mpr ⟨fun q hq => ?_, h.filter _⟩
  unfold laterP at hq
  rw [List.mem_filter, decide_eq_true_eq] at hq
  refine ⟨by dsimp only; omega, ?_⟩
  have e := valAt_some (ps := ps) hc
  rcases valFrom_mem e with z | ⟨r, hr, r1, r2⟩
  · cases z
  · dsimp only
    rw [← r2]
    exact strict_before h hr hq.1 c r1 hq.2
theorem from_len {c : Int} {p : P2} {ps : List P2} (hc : p.1 ≤ c) : (fromP c (p :: ps)).length ≤ (p :: ps).length := by
  unfold fromP laterP
  rw [List.filter_cons_of_neg (by rw [decide_eq_true_eq]; omega), List.length_cons, List.length_cons]
  have := List.length_filter_le (fun p : P2 => decide (p.1 > c)) ps
  omega
theorem noLs_prV : ∀ ps : List P2, noLs (prDs ps) = true
  | [] => rfl
  | p :: ps => by
    have := noLs_prV ps
    show noLs (prD p :: prDs ps) = true
    simp only [noLs, noL, this, Bool.and_self]
theorem noLs_one (p : P2) : noL (prD p) = true := by simp [noL, noLs]
def spVat (K : PySem.W.Frag) : Sp := fun vs H Q _ => ∃ (v : V) (ps : List P2) (c : Int), vs = [v, .int c] ∧ Dp K H v (.tuple (prDs ps)) ∧ Q (repO (valAt c ps)) H
def spMvd (K : PySem.W.Frag) : Sp := fun vs H Q _ => ∃ (v : V) (ps : List P2) (c l : Int), vs = [v, .int c, .int l] ∧ Dp K H v (.tuple (prDs ps)) ∧ ps.length ≤ 400 ∧ ∀ (H' : Hp) (r : V), Same H H' → Dp K H' r (.tuple (prDs (movedP c l ps))) → Q r H'
/-- an error that keeps what it was given -/
def badN (K : PySem.W.Frag) (C : Addr) (H : Hp) (E : XK) (x : V) : Prop := ∀ (H' : Hp) (dx : Addr), Same H H' → H' dx = none → E (.ref C) (some dx) (upd H' dx (.xd [("value", x)]))
@[irreducible] def spVA (K : PySem.W.Frag) (CV CN : Addr) : Sp := fun vs H Q E => ∃ (v x : V) (d e : PyData), vs = [v, x] ∧ Dp K H v d ∧ Dp K H x e ∧ (valB d = false → ∀ H', Same H H' → E (.ref CV) none H') ∧
  (valB d = true → numB e = false → badN K CN H E x) ∧ (∀ ps c, d = .tuple (prDs ps) → e = .int c → valB d = true → numB e = true → ∀ H', Same H H' → Q (repO (valAt c ps)) H')
@[irreducible] def spSh (K : PySem.W.Frag) (CV CN : Addr) : Sp := fun vs H Q E => ∃ (v x y : V) (d e f : PyData), vs = [v, x, y] ∧ Dp K H v d ∧ Dp K H x e ∧ Dp K H y f ∧ (valB d = false → ∀ H', Same H H' → E (.ref CV) none H') ∧
  (valB d = true → numB e = false → badN K CN H E x) ∧ (valB d = true → numB e = true → numB f = false → badN K CN H E y) ∧
  (∀ ps c l, d = .tuple (prDs ps) → e = .int c → f = .int l → valB d = true → numB e = true → numB f = true → ∀ (H' : Hp) (r : V), Same H H' → Dp K H' r (.tuple (prDs (movedP c l ps))) → Q r H')
@[irreducible] def spFC (K : PySem.W.Frag) (CV CN : Addr) : Sp := fun vs H Q E => ∃ (v x : V) (d e : PyData), vs = [v, x] ∧ Dp K H v d ∧ Dp K H x e ∧ (valB d = false → ∀ H', Same H H' → E (.ref CV) none H') ∧
  (valB d = true → numB e = false → badN K CN H E x) ∧ (∀ p ps c, d = .tuple (prDs (p :: ps)) → e = .int c → valB d = true → numB e = true → c < p.1 → badN K CN H E x) ∧
  (∀ p ps c, d = .tuple (prDs (p :: ps)) → e = .int c → valB d = true → numB e = true → p.1 ≤ c → ∀ (H' : Hp) (r : V), Same H H' → Dp K H' r (.tuple (prDs (fromP c (p :: ps)))) → Q r H')
theorem numB_inv {d : PyData} (h : numB d = true) : ∃ i, d = .int i := by
  cases d <;> first | exact ⟨_, rfl⟩ | cases h
section
variable {P : Program} {w : World} {K : PySem.W.Frag} {mg : Str → Option Value} {base : Heap}
theorem ok_vat (T : Txt K mg) : FnOk P w K mg base CX0 1 T.f_value_at T.d_value_at ["pairs", "capacity"] (spVat K) := by
  refine T.F_value_at.ok sc_value_at (fun vs H Q E h => ?_) (fun cdv A outer s H vs Q E hr h => ?_)
  · obtain ⟨v, ps, c, rfl, _⟩ := h
    rfl
  obtain ⟨v, ps, c, rfl, hd, q⟩ := h
  refine ⟨_, (pss_cons (ps_set (i := 2) sc_value_at.nd rfl (Or.inl rfl) pe_non)
      (pss_cons (ps_for PassesOwn.never rfl (pi_tup (pv 0)) (pg_tup (by rfl) (pgs_cons (pg_name (i := 3) sc_value_at.nd rfl (Or.inl rfl)) (pgs_cons (pg_name (i := 4) sc_value_at.nd rfl (Or.inl rfl)) pgs_nil)))
        (pss_one (ps_if (pt_cmpR op_le (pv 3) (pv 1) (nomark _)) (pss_one (ps_set (i := 2) sc_value_at.nd rfl (Or.inl rfl) (pv 4))) pss_nil)))
      (pss_one (ps_ret (pv 2))))), ?_⟩
  obtain ⟨a, xs, rfl, hs, hall⟩ := dp_tup_inv hd
  have hl : xs.length = ps.length := by rw [dpAll_length hall, prDs, List.length_map]
  refine ⟨_, rfl, a, rfl, ⟨xs, hs⟩, ?_⟩
  refine for_tup (K := K) (a := a) (xs := xs) (fun i σ G => ∃ y3 y4 : Option V, σ = [some (.ref a), some (.int c), some (repO (valAt c (ps.take i))), y3, y4] ∧ G = H) ⟨none, none, rfl, rfl⟩ (fun i σ G _ ⟨_, _, _, e⟩ => e ▸ hs) ?_ ?_
  · rintro i x σ G hi ⟨y3, y4, rfl, rfl⟩
    obtain ⟨p, ep, dx⟩ := prs_at hall hi
    obtain ⟨t, rfl, k⟩ := pr_inv dx
    have etk : ps.take (i + 1) = ps.take i ++ [p] := by rw [List.take_add_one, ep]; rfl
    have ev : valAt c (ps.take (i + 1)) = if p.1 ≤ c then some p.2 else valAt c (ps.take i) := by
      rw [etk]
      unfold valAt valFrom
      rw [List.foldl_append]
      rfl
    refine ⟨t, _, rfl, k, rfl, _, _, rfl, _, _, rfl, rfl, ?_⟩
    refine ⟨_, rfl, _, rfl, _, _, rfl, rfl, _, rfl, ?_⟩
    refine ite2 (fun g => ?_) (fun g => ?_)
    · rw [if_pos (of_decide_eq_true g)] at ev
      refine ⟨_, rfl, ?_⟩
      exact ⟨_, _, by rw [ev]; rfl, rfl⟩
    · rw [if_neg (fun z => g (decide_eq_true z))] at ev
      exact ⟨_, _, by rw [ev]; rfl, rfl⟩
  · rintro σ G ⟨y3, y4, rfl, rfl⟩
    rw [hl, List.take_length]
    exact ⟨_, rfl, q⟩
end
/-! block V20g: valley_at, shifted, from_capacity (behind bV20f) -/
section
variable {P : Program} {w : World} {K : PySem.W.Frag} {mg : Str → Option Value} {base : Heap}
theorem ok_vla (T : Txt K mg) : FnOk P w K mg base (L2.CX P w) 5 T.f_valley_at T.d_valley_at ["valleys", "capacity"] (spVA K T.c_InvalidValleys T.c_InvalidNumber) := by
  have g__check_valleys := ok_chkv (P := P) (w := w) (base := base) T
  have g_check_number := ok_chkn (P := P) (w := w) (base := base) T
  have g_value_at := ok_vat (P := P) (w := w) (base := base) T
  refine T.F_valley_at.okX sc_valley_at (fun vs H Q E h => ?_) (fun cdv A outer s H vs Q E hr h => ?_)
  · unfold spVA at h
    obtain ⟨v, x, d, e, rfl, _⟩ := h
    rfl
  unfold spVA at h
  obtain ⟨v, x, d, e, rfl, hd, he, q1, q2, q⟩ := h
  refine ⟨_, (pss_cons (ps_expr (pe_callS g__check_valleys (hr.mono (by omega)) rfl T.m__check_valleys T.F__check_valleys.kp T.b__check_valleys (fun σ => passAt (takes_of rfl rfl rfl rfl) σ) (pa_cons (pv 0) pa_nil)))
      (pss_cons (ps_expr (pe_callS g_check_number (hr.mono (by omega)) rfl T.m_check_number T.F_check_number.kp T.b_check_number (fun σ => passAt (takes_of rfl rfl rfl rfl) σ) (pa_cons (pv 1) pa_nil)))
      (pss_one (ps_ret (pe_call g_value_at (hr.mono (by omega)) rfl T.m_value_at T.F_value_at.kp T.b_value_at .nil pass0 (pa_cons (pv 0) (pa_cons (pv 1) pa_nil))))))), ?_⟩
  refine ⟨_, rfl, v, d, rfl, hd, fun ev H1 s1 => ?_, fun ev H1 s1 => q1 ev H1 s1⟩
  refine ⟨_, rfl, x, e, rfl, dp_same s1 he, fun en => ?_, fun en dx hx => q2 ev en H1 dx s1 hx⟩
  obtain ⟨ps, rfl, _, _, _⟩ := valB_iff.mp ev
  obtain ⟨c, rfl⟩ := numB_inv en
  obtain rfl := dp_int_inv he
  exact ⟨_, rfl, _, rfl, v, ps, c, rfl, dp_same s1 hd, q ps c rfl rfl ev en H1 s1⟩
end
/-! block Desc: the object that goes down in valleys side by side (behind bVall; with Hx, Zm, Jo) -/
def efl (pa la : Addr) (t : Int) (ca : Addr) : List (Str × V) := putF "climbs" (.ref ca) (putF "total" (.int t) (putF "places" (.ref la) (putF "parts" (.ref pa) [])))
theorem el_parts (pa la : Addr) (t : Int) (ca : Addr) : (efl pa la t ca).lookup ("parts" : Str) = some (.ref pa) := by kernel_rfl
theorem el_places (pa la : Addr) (t : Int) (ca : Addr) : (efl pa la t ca).lookup ("places" : Str) = some (.ref la) := by kernel_rfl
theorem el_total (pa la : Addr) (t : Int) (ca : Addr) : (efl pa la t ca).lookup ("total" : Str) = some (.int t) := by kernel_rfl
theorem el_climbs (pa la : Addr) (t : Int) (ca : Addr) : (efl pa la t ca).lookup ("climbs" : Str) = some (.ref ca) := by kernel_rfl
theorem el_qc (pa la : Addr) (t : Int) (ca : Addr) : (efl pa la t ca).lookup ("queue_climb" : Str) = none := by kernel_rfl
theorem el_nc (pa la : Addr) (t : Int) (ca : Addr) : (efl pa la t ca).lookup ("next_capacity" : Str) = none := by kernel_rfl
theorem el_gd (pa la : Addr) (t : Int) (ca : Addr) : (efl pa la t ca).lookup ("go_down" : Str) = none := by kernel_rfl
theorem el_lows (pa la : Addr) (t : Int) (ca : Addr) : (efl pa la t ca).lookup ("lows" : Str) = none := by kernel_rfl
theorem el_up (pa la : Addr) (t t' : Int) (ca : Addr) : putF "total" (.int t') (efl pa la t ca) = efl pa la t' ca := by kernel_rfl
theorem el_len (pa la : Addr) (t : Int) (ca : Addr) : (efl pa la t ca).length < 1000 := by
  have e : (efl pa la t ca).length = 4 := by kernel_rfl
  omega
abbrev vlD (ps : List P2) : PyData := .tuple (prDs ps)
abbrev vlsD (Ps : List (List P2)) : PyData := .tuple (Ps.map vlD)
abbrev pF (Ps : List (List P2)) : Nat → List P2 := fun i => Ps.getD i []
abbrev kF (pl : List Nat) : Nat → Nat := fun i => pl.getD i 0
abbrev plV (pl : List Nat) : List V := pl.map fun k : Nat => V.int (k : Int)
theorem pF_at {Ps : List (List P2)} {i : Nat} {p : List P2} (h : Ps[i]? = some p) : pF Ps i = p := by
  show Ps.getD i [] = p
  rw [List.getD_eq_getElem?_getD, h]
  rfl
theorem kF_at {pl : List Nat} {i k : Nat} (h : pl[i]? = some k) : kF pl i = k := by
  show pl.getD i 0 = k
  rw [List.getD_eq_getElem?_getD, h]
  rfl
theorem pF_lt {Ps : List (List P2)} {i k : Nat} {p : P2} (h : (pF Ps i)[k]? = some p) : i < Ps.length := by
  by_cases e : i < Ps.length
  · exact e
  · have : pF Ps i = [] := by
      show Ps.getD i [] = []
      rw [List.getD_eq_getElem?_getD, List.getElem?_eq_none (by omega)]
      rfl
    rw [this] at h
    simp at h
theorem kF_set {pl : List Nat} {i v : Nat} (h : i < pl.length) : kF (pl.set i v) = upF (kF pl) i v := by
  funext k
  show (pl.set i v).getD k 0 = upF (kF pl) i v k
  rw [List.getD_eq_getElem?_getD]
  by_cases e : k = i
  · subst e
    rw [List.getElem?_set_self h, upF_same]
    rfl
  · rw [List.getElem?_set_ne (Ne.symm e), upF_ne e]
    show _ = pl.getD k 0
    rw [List.getD_eq_getElem?_getD]
theorem noLs_vls : ∀ Ps : List (List P2), noLs (Ps.map vlD) = true
  | [] => rfl
  | p :: Ps => by
    show noLs (vlD p :: Ps.map vlD) = true
    simp only [noLs, noL, noLs_prV, noLs_vls Ps, Bool.and_self]
theorem noL_vls (Ps : List (List P2)) : noL (vlsD Ps) = true := by
  simp only [noL]
  exact noLs_vls Ps
/-- what waits in the queue: for each of S that can go down once more, what it wants beyond the total -/
structure Clm (Ps : List (List P2)) (pl : List Nat) (S : Nat → Prop) (ls : List (List Int)) : Prop where
  nd : ls.Nodup
  mem : ∀ y, y ∈ ls ↔ ∃ i p q, S i ∧ (pF Ps i)[kF pl i]? = some p ∧ (pF Ps i)[kF pl i + 1]? = some q ∧ y = [q.1 - p.2, (i : Int)]
theorem Clm.perm {Ps : List (List P2)} {pl : List Nat} {S : Nat → Prop} {ls ms : List (List Int)} (h : Clm Ps pl S ls) (p : ms.Perm ls) : Clm Ps pl S ms := ⟨p.nodup_iff.mpr h.nd, fun y => (p.mem_iff).trans (h.mem y)⟩
theorem Clm.add {Ps : List (List P2)} {pl : List Nat} {S : Nat → Prop} {ls : List (List Int)} {i : Nat} {p q : P2} (h : Clm Ps pl S ls) (n : ¬ S i) (ep : (pF Ps i)[kF pl i]? = some p) (eq : (pF Ps i)[kF pl i + 1]? = some q) : Clm Ps pl (fun j => S j ∨ j = i) (ls ++ [[q.1 - p.2, (i : Int)]]) := by
  refine ⟨List.nodup_append.mpr ⟨h.nd, by simp, fun a ha b hb e => ?_⟩, fun y => ?_⟩
  · rw [List.mem_singleton] at hb
    subst e
    subst hb
    obtain ⟨j, p', q', s, _, _, e⟩ := (h.mem _).mp ha
    have : i = j := by simp at e; omega
    exact n (this ▸ s)
  · rw [List.mem_append, List.mem_singleton, h.mem]
    constructor
    · rintro (⟨j, p', q', s, e⟩ | rfl)
      · exact ⟨j, p', q', .inl s, e⟩
      · exact ⟨i, p, q, .inr rfl, ep, eq, rfl⟩
    · rintro ⟨j, p', q', s | rfl, e1, e2, e3⟩
      · exact .inl ⟨j, p', q', s, e1, e2, e3⟩
      · rw [ep] at e1
        rw [eq] at e2
        cases e1
        cases e2
        exact .inr e3
theorem Clm.skip {Ps : List (List P2)} {pl : List Nat} {S : Nat → Prop} {ls : List (List Int)} {i : Nat} (h : Clm Ps pl S ls) (n : (pF Ps i)[kF pl i + 1]? = none) : Clm Ps pl (fun j => S j ∨ j = i) ls := by
  refine ⟨h.nd, fun y => ?_⟩
  rw [h.mem]
  constructor
  · rintro ⟨j, p', q', s, e⟩
    exact ⟨j, p', q', .inl s, e⟩
  · rintro ⟨j, p', q', s | rfl, e1, e2, e3⟩
    · exact ⟨j, p', q', s, e1, e2, e3⟩
    · rw [n] at e2
      cases e2
structure DescAt (K : PySem.W.Frag) (C : Addr) (H0 H : Hp) (x : Addr) (Ps : List (List P2)) (pl : List Nat) (t : Int) (S : Nat → Prop) (b : Nat) : Prop where
  same : Same H0 H
  ex : ∃ (dx pa la ca : Addr) (xs : List V) (ls : List (List Int)), H x = some (.ins C dx (efl pa la t ca)) ∧ Dp K H (.ref pa) (vlsD Ps) ∧ H la = some (.lst (plV pl)) ∧ (H ca = some (.lst xs) ∧ KeysT K H xs ls ∧ Hpd leK (atK ls) ls.length ∧ Clm Ps pl S ls ∧ ls.length ≤ b) ∧ la ≠ ca ∧ H0 x = none ∧ H0 la = none ∧ H0 ca = none
theorem sqT_off {K : PySem.W.Frag} {H : Hp} {p a C dx : Addr} {fs : List (Str × V)} {z : HO} {xs : List V} (e : H p = some (.ins C dx fs)) (h : SqT K H a xs) : SqT K (upd H p z) a xs := by
  rcases h with (h | ⟨ob, h⟩) | h
  · refine .inl (.inl ?_)
    rw [upd_ne (fun q => by rw [q, e] at h; cases h)]
    exact h
  · refine .inl (.inr ⟨ob, ?_⟩)
    rw [upd_ne (fun q => by rw [q, e] at h; cases h)]
    exact h
  · exact .inr h
theorem keysT_keep {K : PySem.W.Frag} {H H' : Hp} (t : ∀ a xs, SqT K H a xs → SqT K H' a xs) : ∀ {xs : List V} {ks : List (List Int)}, KeysT K H xs ks → KeysT K H' xs ks
  | _, _, .nil => .nil
  | _, _, .cons h ne r => .cons (t _ _ h) ne (keysT_keep t r)
theorem keysT_same {K : PySem.W.Frag} {H H' : Hp} (s : Same H H') : ∀ {xs : List V} {ks : List (List Int)}, KeysT K H xs ks → KeysT K H' xs ks
  | _, _, .nil => .nil
  | _, _, .cons h ne r => .cons (same_sqT s h) ne (keysT_same s r)
theorem DescAt.go {K : PySem.W.Frag} {C : Addr} {H0 H H' : Hp} {x : Addr} {Ps : List (List P2)} {pl : List Nat} {t : Int} {S : Nat → Prop} {b : Nat} (d : DescAt K C H0 H x Ps pl t S b) (s : Same H H') : DescAt K C H0 H' x Ps pl t S b := by
  obtain ⟨h0, dx, pa, la, ca, xs, ls, h1, h2, h3, ⟨h4, h5, h6⟩, h7⟩ := d
  exact ⟨h0.trans s, dx, pa, la, ca, xs, ls, s _ _ h1, dp_same s h2, s _ _ h3, ⟨s _ _ h4, keysT_same s h5, h6⟩, h7⟩
/-- a part by its place -/
theorem part_at {K : PySem.W.Frag} {H : Hp} {pa : Addr} {Ps : List (List P2)} {i : Nat} {ps : List P2} (h : Dp K H (.ref pa) (vlsD Ps)) (hi : Ps[i]? = some ps) :
    ∃ (xs : List V) (tp : Addr) (ys : List V), SqT K H pa xs ∧ xs.length = Ps.length ∧ xs[i]? = some (.ref tp) ∧ SqT K H tp ys ∧ ys.length = ps.length ∧ ∀ (k : Nat) (p : P2), ps[k]? = some p → ∃ tk : Addr, ys[k]? = some (.ref tk) ∧ SqT K H tk [.int p.1, .int p.2] := by
  obtain ⟨a, xs, e, hs, hall⟩ := dp_tup_inv h
  cases e
  have hl : xs.length = Ps.length := by rw [dpAll_length hall, List.length_map]
  have li := (List.getElem?_eq_some_iff.mp hi).1
  have gx : xs[i]? = some (xs[i]'(by omega)) := List.getElem?_eq_getElem (by omega)
  obtain ⟨d, ed, hd⟩ := dpAll_get hall gx
  rw [List.getElem?_map, hi] at ed
  cases ed
  obtain ⟨tp, ys, ev, ht, hys⟩ := dp_tup_inv hd
  have hly : ys.length = ps.length := by rw [dpAll_length hys, prDs, List.length_map]
  refine ⟨xs, tp, ys, hs, hl, by rw [gx, ev], ht, hly, fun k p hk => ?_⟩
  have lk := (List.getElem?_eq_some_iff.mp hk).1
  have gy : ys[k]? = some (ys[k]'(by omega)) := List.getElem?_eq_getElem (by omega)
  obtain ⟨p', ep, hp⟩ := prs_at hys gy
  rw [hk] at ep
  cases ep
  obtain ⟨tk, ek, hk2⟩ := pr_inv hp
  exact ⟨tk, by rw [gy, ek], hk2⟩
def spQC (K : PySem.W.Frag) (C : Addr) : Sp := fun vs H Q _ => ∃ (x : Addr) (i : Nat) (H0 : Hp) (Ps : List (List P2)) (pl : List Nat) (t : Int) (S : Nat → Prop) (b : Nat), vs = [.ref x, .int (i : Int)] ∧ DescAt K C H0 H x Ps pl t S b ∧ pl.length = Ps.length ∧ (∃ p, (pF Ps i)[kF pl i]? = some p) ∧ ¬ S i ∧ b < 900 ∧
  ∀ H', DescAt K C H0 H' x Ps pl t (fun j => S j ∨ j = i) (b + 1) → Q .non H'
section
variable {P : Program} {w : World} {K : PySem.W.Frag} {mg : Str → Option Value} {base : Heap}
theorem ok_qc (T : Txt K mg) : FnOk P w K mg base CX0 1 T.f_Descent_queue_climb T.d_Descent_queue_climb ["self", "index"] (spQC K T.c_Descent) := by
  refine T.F_Descent_queue_climb.ok sc_Descent_queue_climb (fun vs H Q E h => ?_) (fun cdv A outer s H vs Q E hr h => ?_)
  · obtain ⟨x, i, H0, Ps, pl, t, S, b, rfl, _⟩ := h
    rfl
  obtain ⟨x, i, H0, Ps, pl, t, S, b, rfl, D0, hl, ⟨p, ep⟩, nS, hb, q⟩ := h
  have hu := hu_of hr
  obtain ⟨s0, dx, pa, la, ca, xs, ls, h1, h2, h3, ⟨h4, h5, h6, h7, h8⟩, h9, f1, f2, f3⟩ := id D0
  have li := pF_lt ep
  obtain ⟨ps, hps⟩ : ∃ ps, Ps[i]? = some ps := ⟨Ps[i], List.getElem?_eq_getElem li⟩
  obtain ⟨xP, tp, ys, hsP, hlP, gP, hsp, hly, gk⟩ := part_at h2 hps
  obtain ⟨k, hk⟩ : ∃ k, pl[i]? = some k := ⟨pl[i], List.getElem?_eq_getElem (by omega)⟩
  have gpl : (plV pl)[i]? = some (.int (k : Int)) := by
    show (pl.map fun k : Nat => V.int (k : Int))[i]? = _
    rw [List.getElem?_map, hk]
    rfl
  have eP := pF_at hps
  have eK := kF_at hk
  rw [eP, eK] at ep
  obtain ⟨tk, gt, hst⟩ := gk k p ep
  refine ⟨_, (pss_cons (ps_set (i := 2) sc_Descent_queue_climb.nd rfl (Or.inl rfl) (pe_ix (r := rIxT K) ix_tup (pe_fld (pv 0) rfl) (pv 1) (fun _ _ => rfl)))
      (pss_cons (ps_set (i := 3) sc_Descent_queue_climb.nd rfl (Or.inl rfl) (pe_ix (r := rIxL K) ix_list (pe_fld (pv 0) rfl) (pv 1) (fun _ _ => rfl)))
      (pss_one (ps_if (pt_cmpR op_lt (pe_op op_add (pv 3) pe_int) (pe_callB (r := rLenS K) call_lenS (by rfl) T.n_len (by decide +kernel) (pa_cons (pv 2) pa_nil)) (nomark _)) (pss_one (ps_expr (pe_callBfun (r := rHPush K) (cr_hpush hu) (by rfl) T.n_heappush (pa_cons (pe_fld (pv 0) rfl) (pa_cons (pe_tup (pa_cons (pe_op op_sub (pe_ix (r := rIxT K) ix_tup (pe_ix (r := rIxT K) ix_tup (pv 2) (pe_op op_add (pv 3) pe_int) (fun _ _ => rfl)) pe_int (fun _ _ => rfl)) (pe_ix (r := rIxT K) ix_tup (pe_ix (r := rIxT K) ix_tup (pv 2) (pv 3) (fun _ _ => rfl)) pe_int (fun _ _ => rfl))) (pa_cons (pv 1) pa_nil))) pa_nil))))) pss_nil)))), ?_⟩
  refine ⟨_, rfl, x, _, dx, _, _, rfl, h1, T.cl_Descent, T.na_Descent_parts, el_parts _ _ _ _, _, rfl, _, _, _, _, rfl, rfl, hsP, atI_at (j := i) rfl gP, ?_⟩
  refine ⟨_, rfl, x, _, dx, _, _, rfl, h1, T.cl_Descent, T.na_Descent_places, el_places _ _ _ _, _, rfl, _, _, _, _, rfl, rfl, SqL.of h3, atI_at (j := i) rfl gpl, ?_⟩
  refine ⟨_, rfl, _, _, rfl, rfl, _, rfl, tp, _, rfl, .inr hsp, _, _, rfl, rfl, _, rfl, ?_⟩
  refine ite2 (fun g => ?_) (fun g => ?_)
  · have lk : k + 1 < ps.length := by
      have := of_decide_eq_true g
      rw [hly] at this
      omega
    obtain ⟨p2, ep2⟩ : ∃ p2, ps[k + 1]? = some p2 := ⟨ps[k + 1], List.getElem?_eq_getElem lk⟩
    obtain ⟨tk2, gt2, hst2⟩ := gk (k + 1) p2 ep2
    refine ⟨_, rfl, x, _, dx, _, _, rfl, h1, T.cl_Descent, T.na_Descent_climbs, el_climbs _ _ _ _, ?_⟩
    refine ⟨_, rfl, _, rfl, _, _, rfl, rfl, _, _, _, _, rfl, rfl, hsp, atI_at (j := k + 1) (by omega) gt2, _, _, _, _, rfl, rfl, hst2, atI_at (j := 0) rfl rfl, ?_⟩
    refine ⟨_, rfl, _, rfl, _, _, _, _, rfl, rfl, hsp, atI_at (j := k) rfl gt, _, _, _, _, rfl, rfl, hst, atI_at (j := 1) rfl rfl, _, _, rfl, rfl, _, rfl, (by show 2 ≤ sizeLine; decide), fun t2 ht2 => ?_⟩
    have s1 : Same H (upd H t2 (.tup [.int (p2.1 - p.2), .int (i : Int)])) := same_new ht2
    have k1 : SqT K (upd H t2 (.tup [.int (p2.1 - p.2), .int (i : Int)])) t2 ([p2.1 - p.2, (i : Int)].map V.int) := SqT.of upd_same
    generalize (upd H t2 (.tup [.int (p2.1 - p.2), .int (i : Int)])) = H1 at s1 k1 ⊢
    have D1 := D0.go s1
    have xsl := h5.len
    refine ⟨ca, t2, xs, ls, [p2.1 - p.2, (i : Int)], rfl, s1 _ _ h4, keysT_same s1 h5, k1, by simp, by omega, h6, fun zs ms hz pm hp => ?_⟩
    have e4 := s1 _ _ h4
    refine q _ ⟨fun b o hb => ?_, dx, pa, la, ca, zs, ms, ?_, ?_, ?_, ⟨upd_same, hz, hp, ?_, ?_⟩, h9, f1, f2, f3⟩
    · rw [upd_ne (ne_of_none hb f3)]
      exact s1 _ _ (s0 _ _ hb)
    · rw [upd_ne (fun z => by rw [z, h4] at h1; cases h1)]
      exact s1 _ _ h1
    · exact dp_keep (fun a zs' h => (sx_upd (p := ca)).sqT e4 h) (noL_vls Ps) (dp_same s1 h2)
    · rw [upd_ne h9]
      exact s1 _ _ h3
    · exact (h7.add nS (by rw [eP, eK]; exact ep) (by rw [eP, eK]; exact ep2)).perm pm
    · rw [pm.length_eq, List.length_append, List.length_singleton]
      omega
  · have lk : ¬ k + 1 < ps.length := fun z => g (decide_eq_true (by rw [hly]; omega))
    exact q H ⟨s0, dx, pa, la, ca, xs, ls, h1, h2, h3, ⟨h4, h5, h6, h7.skip (by rw [eP, eK]; exact List.getElem?_eq_none (by omega)), by omega⟩, h9, f1, f2, f3⟩
theorem ixN_k {n j : Nat} (hj : j < n) : ixN n (j : Int) = some j := by
  unfold ixN
  rw [if_pos (by omega), if_pos (by omega)]
  simp
theorem leK_two {a b c d : Int} (h : leK [a, b] [c, d]) : a ≤ c := by
  unfold leK at h
  rw [HT.lexLt_cons] at h
  by_cases e : c = a
  · omega
  · rw [if_neg e] at h
    have := of_decide_eq_false h
    omega
/-- the least that is wanted -/
def Least (Ps : List (List P2)) (pl : List Nat) (S : Nat → Prop) (m : Int) : Prop := (∃ i p q, S i ∧ (pF Ps i)[kF pl i]? = some p ∧ (pF Ps i)[kF pl i + 1]? = some q ∧ m = q.1 - p.2) ∧ ∀ i p q, S i → (pF Ps i)[kF pl i]? = some p → (pF Ps i)[kF pl i + 1]? = some q → m ≤ q.1 - p.2
theorem clm_least {Ps : List (List P2)} {pl : List Nat} {S : Nat → Prop} {ls : List (List Int)} {k : List Int} (h : Clm Ps pl S ls) (hm : k ∈ ls) (lo : ∀ y ∈ ls, leK k y) : ∃ i p q, S i ∧ (pF Ps i)[kF pl i]? = some p ∧ (pF Ps i)[kF pl i + 1]? = some q ∧ k = [q.1 - p.2, (i : Int)] ∧ Least Ps pl S (q.1 - p.2) := by
  obtain ⟨i, p, q, s, e1, e2, rfl⟩ := (h.mem _).mp hm
  refine ⟨i, p, q, s, e1, e2, rfl, ⟨i, p, q, s, e1, e2, rfl⟩, fun j p' q' s' e1' e2' => ?_⟩
  exact leK_two (lo _ ((h.mem _).mpr ⟨j, p', q', s', e1', e2', rfl⟩))
def spNC (K : PySem.W.Frag) (C : Addr) : Sp := fun vs H Q _ => ∃ (x : Addr) (H0 : Hp) (Ps : List (List P2)) (pl : List Nat) (t : Int) (S : Nat → Prop) (b : Nat), vs = [.ref x] ∧ DescAt K C H0 H x Ps pl t S b ∧ (∃ i p q, S i ∧ (pF Ps i)[kF pl i]? = some p ∧ (pF Ps i)[kF pl i + 1]? = some q) ∧
  ∀ m, Least Ps pl S m → Q (.int (t + m)) H
theorem ok_nc (T : Txt K mg) : FnOk P w K mg base CX0 1 T.f_Descent_next_capacity T.d_Descent_next_capacity ["self"] (spNC K T.c_Descent) := by
  refine T.F_Descent_next_capacity.ok sc_Descent_next_capacity (fun vs H Q E h => ?_) (fun cdv A outer s H vs Q E hr h => ?_)
  · obtain ⟨x, H0, Ps, pl, t, S, b, rfl, _⟩ := h
    rfl
  obtain ⟨x, H0, Ps, pl, t, S, b, rfl, D0, ⟨i, p, q', si, ep, eq⟩, q⟩ := h
  obtain ⟨s0, dx, pa, la, ca, xs, ls, h1, h2, h3, ⟨h4, h5, h6, h7, h8⟩, h9, f1, f2, f3⟩ := id D0
  obtain ⟨k, ks, rfl⟩ : ∃ k ks, ls = k :: ks := by
    cases ls with
    | nil => cases (h7.mem _).mpr ⟨i, p, q', si, ep, eq, rfl⟩
    | cons k ks => exact ⟨k, ks, rfl⟩
  cases h5 with
  | @cons tk k xs ks hk ne hr' =>
  obtain ⟨j, p2, q2, sj, ep2, eq2, rfl, le⟩ := clm_least h7 (List.mem_cons_self ..) (heap_least h6 rfl)
  refine ⟨_, (pss_one (ps_ret (pe_op op_add (pe_fld (pv 0) rfl) (pe_ix (r := rIxT K) ix_tup (pe_ix (r := rIxL K) ix_list (pe_fld (pv 0) rfl) pe_int (fun _ _ => rfl)) pe_int (fun _ _ => rfl))))), ?_⟩
  refine ⟨_, rfl, x, _, dx, _, _, rfl, h1, T.cl_Descent, T.na_Descent_total, el_total _ _ _ _, ?_⟩
  refine ⟨_, rfl, x, _, dx, _, _, rfl, h1, T.cl_Descent, T.na_Descent_climbs, el_climbs _ _ _ _, _, _, _, _, rfl, rfl, SqL.of h4, atI_at (j := 0) rfl rfl, _, _, _, _, rfl, rfl, hk, atI_at (j := 0) rfl rfl, _, _, rfl, rfl, ?_⟩
  exact q _ le
/-- how much is left to go down -/
def remN (Ps : List (List P2)) (pl : List Nat) : Int := sumN Ps.length fun i => ((pF Ps i).length : Int) - (kF pl i : Int)
theorem rem_ge {Ps : List (List P2)} {pl : List Nat} (h : ∀ i, i < Ps.length → ∃ p, (pF Ps i)[kF pl i]? = some p) : 0 ≤ remN Ps pl := by
  have := sumN_mono (n := Ps.length) (f := fun _ => 0) (g := fun i => ((pF Ps i).length : Int) - (kF pl i : Int)) fun i hi => by
    obtain ⟨p, ep⟩ := h i hi
    have := (List.getElem?_eq_some_iff.mp ep).1
    omega
  rwa [sumN_zero] at this
theorem rem_set {Ps : List (List P2)} {pl : List Nat} {i : Nat} (hl : pl.length = Ps.length) (hi : i < Ps.length) : remN Ps (pl.set i (kF pl i + 1)) = remN Ps pl - 1 := by
  have e : (fun j => ((pF Ps j).length : Int) - (kF (pl.set i (kF pl i + 1)) j : Int)) = upF (fun j => ((pF Ps j).length : Int) - (kF pl j : Int)) i (((pF Ps i).length : Int) - ((kF pl i + 1 : Nat) : Int)) := by
    funext j
    rw [kF_set (by omega)]
    by_cases e : j = i
    · subst e
      rw [upF_same, upF_same]
    · rw [upF_ne e, upF_ne e]
  unfold remN
  rw [e, sumN_up hi]
  omega
theorem Clm.pop {Ps : List (List P2)} {pl : List Nat} {S : Nat → Prop} {ls ms : List (List Int)} {i : Nat} {m : Int} (h : Clm Ps pl S ls) (p : ([m, (i : Int)] :: ms).Perm ls) : Clm Ps pl (fun j => S j ∧ j ≠ i) ms := by
  have nd := p.nodup_iff.mpr h.nd
  obtain ⟨n1, n2⟩ := List.nodup_cons.mp nd
  have hm : [m, (i : Int)] ∈ ls := p.mem_iff.mp (List.mem_cons_self ..)
  obtain ⟨i', p0, q0, s0, e1, e2, e3⟩ := (h.mem _).mp hm
  obtain rfl : i = i' := by simp at e3; omega
  refine ⟨n2, fun y => ⟨fun hy => ?_, ?_⟩⟩
  · obtain ⟨j, p', q', s', f1, f2, f3⟩ := (h.mem _).mp (p.mem_iff.mp (List.mem_cons_of_mem _ hy))
    refine ⟨j, p', q', ⟨s', fun z => ?_⟩, f1, f2, f3⟩
    subst z
    rw [e1] at f1
    rw [e2] at f2
    cases f1
    cases f2
    rw [f3, ← e3] at hy
    exact n1 hy
  · rintro ⟨j, p', q', ⟨s', ne⟩, f1, f2, rfl⟩
    have := p.mem_iff.mpr ((h.mem _).mpr ⟨j, p', q', s', f1, f2, rfl⟩)
    rcases List.mem_cons.mp this with z | z
    · simp at z
      exact absurd (by omega) ne
    · exact z
theorem Clm.other {Ps : List (List P2)} {pl : List Nat} {S : Nat → Prop} {ls : List (List Int)} {i v : Nat} (h : Clm Ps pl S ls) (hi : i < pl.length) (n : ¬ S i) : Clm Ps (pl.set i v) S ls := by
  refine ⟨h.nd, fun y => (h.mem y).trans ?_⟩
  have e : ∀ j, S j → kF (pl.set i v) j = kF pl j := fun j sj => by
    rw [kF_set hi, upF_ne (fun z : j = i => n (by rw [← z]; exact sj))]
  constructor
  · rintro ⟨j, p', q', sj, f1, f2, f3⟩
    exact ⟨j, p', q', sj, by rw [e j sj]; exact f1, by rw [e j sj]; exact f2, f3⟩
  · rintro ⟨j, p', q', sj, f1, f2, f3⟩
    rw [e j sj] at f1 f2
    exact ⟨j, p', q', sj, f1, f2, f3⟩
theorem Clm.iff {Ps : List (List P2)} {pl : List Nat} {S R : Nat → Prop} {ls : List (List Int)} (h : Clm Ps pl S ls) (e : ∀ j, S j ↔ R j) : Clm Ps pl R ls := by
  have : S = R := funext fun j => propext (e j)
  rw [← this]
  exact h
theorem DescAt.iff {K : PySem.W.Frag} {C : Addr} {H0 H : Hp} {x : Addr} {Ps : List (List P2)} {pl : List Nat} {t : Int} {S R : Nat → Prop} {b c : Nat} (d : DescAt K C H0 H x Ps pl t S b) (e : ∀ j, S j ↔ R j) (bc : b ≤ c) : DescAt K C H0 H x Ps pl t R c := by
  obtain ⟨h0, dx, pa, la, ca, xs, ls, h1, h2, h3, ⟨h4, h5, h6, h7, h8⟩, h9⟩ := d
  exact ⟨h0, dx, pa, la, ca, xs, ls, h1, h2, h3, ⟨h4, h5, h6, h7.iff e, Nat.le_trans h8 bc⟩, h9⟩
abbrev SvAll (Ps : List (List P2)) : Prop := ∀ ps ∈ Ps, Sv ps
theorem SvAll.parts {Ps : List (List P2)} (h : SvAll Ps) : Parts Ps.length (pF Ps) := fun i hi => by
  rw [pF_at (List.getElem?_eq_getElem hi)]
  exact h _ (List.getElem_mem hi)
abbrev Tot (Ps : List (List P2)) (pl : List Nat) : Int := totF Ps.length (pF Ps) (kF pl)
def spGD (K : PySem.W.Frag) (C : Addr) : Sp := fun vs H Q _ => ∃ (x : Addr) (c : Int) (H0 : Hp) (Ps : List (List P2)) (pl : List Nat) (b : Nat), vs = [.ref x, .int c] ∧ DescAt K C H0 H x Ps pl (Tot Ps pl) (fun _ => True) b ∧ pl.length = Ps.length ∧ SvAll Ps ∧ Dn Ps.length (pF Ps) c (kF pl) ∧ b < 900 ∧
  ∀ H' pl', DescAt K C H0 H' x Ps pl' (Tot Ps pl') (fun _ => True) b → pl'.length = Ps.length → Dn Ps.length (pF Ps) c (kF pl') → Stuck Ps.length (pF Ps) c (kF pl') → (pl' = pl ∨ Tot Ps pl' < Tot Ps pl ∧ remN Ps pl' < remN Ps pl) → Q .non H'
theorem ok_gd (T : Txt K mg) : FnOk P w K mg base CX0 2 T.f_Descent_go_down T.d_Descent_go_down ["self", "capacity"] (spGD K T.c_Descent) := by
  have g_Descent_queue_climb := ok_qc (P := P) (w := w) (base := base) T
  have g_Descent_next_capacity := ok_nc (P := P) (w := w) (base := base) T
  refine T.F_Descent_go_down.ok sc_Descent_go_down (fun vs H Q E h => ?_) (fun cdv A outer s H vs Q E hr h => ?_)
  · obtain ⟨x, c, H0, Ps, pl, b, rfl, _⟩ := h
    rfl
  obtain ⟨x, c, H0, Ps, pl0, b, rfl, D0, hl0, hSv, dn0, hb, q⟩ := h
  have hu := hu_of hr
  refine ⟨_, (pss_one (ps_while PassesOwn.never (PW.pt (pw_and (pt_truth (pe_fld (pv 0) rfl) (by intro _; rfl)) (pw_and1 (pt_cmpR op_le (pe_meth0 (pv 0) T.cl_Descent T.mt_Descent_next_capacity g_Descent_next_capacity (hr.mono (by omega)) T.b_Descent_next_capacity .nil pass0) (pv 1) (nomark _)))))
        (pss_cons (ps_set (i := 2) sc_Descent_go_down.nd rfl (Or.inl rfl) (pe_ix (r := rIxT K) ix_tup (pe_callBfun (r := rHPop K) (cr_hpop hu) (by rfl) T.n_heappop (pa_cons (pe_fld (pv 0) rfl) pa_nil)) pe_int (fun _ _ => rfl)))
        (pss_cons (ps_set (i := 3) sc_Descent_go_down.nd rfl (Or.inl rfl) (pe_ix (r := rIxT K) ix_tup (pe_fld (pv 0) rfl) (pv 2) (fun _ _ => rfl)))
        (pss_cons (ps_set (i := 4) sc_Descent_go_down.nd rfl (Or.inl rfl) (pe_op op_add (pe_ix (r := rIxL K) ix_list (pe_fld (pv 0) rfl) (pv 2) (fun _ _ => rfl)) pe_int))
        (pss_cons (ps_asg (pv 4) (pg_sub (pe_fld (pv 0) rfl) (pv 2) set_list))
        (pss_cons (ps_fldaug (pv 0) (pe_op op_sub (pe_ix (r := rIxT K) ix_tup (pe_ix (r := rIxT K) ix_tup (pv 3) (pv 4) (fun _ _ => rfl)) pe_int (fun _ _ => rfl)) (pe_ix (r := rIxT K) ix_tup (pe_ix (r := rIxT K) ix_tup (pv 3) (pe_op op_sub (pv 4) pe_int) (fun _ _ => rfl)) pe_int (fun _ _ => rfl))) in_add)
        (pss_one (ps_expr (pe_meth (pv 0) T.cl_Descent T.mt_Descent_queue_climb g_Descent_queue_climb (hr.mono (by omega)) T.b_Descent_queue_climb .nil pass0 (pa_cons (pv 2) pa_nil))))))))))), ?_⟩
  refine ⟨fun m σ G => ∃ (pl : List Nat) (y2 y3 y4 : Option V), σ = [some (.ref x), some (.int c), y2, y3, y4] ∧ DescAt K T.c_Descent H0 G x Ps pl (Tot Ps pl) (fun _ => True) b ∧ pl.length = Ps.length ∧ Dn Ps.length (pF Ps) c (kF pl) ∧ (pl = pl0 ∨ Tot Ps pl < Tot Ps pl0 ∧ remN Ps pl < remN Ps pl0) ∧ (m : Int) = remN Ps pl,
    ⟨(remN Ps pl0).toNat, pl0, none, none, none, rfl, D0, hl0, dn0, .inl rfl, Int.toNat_of_nonneg (rem_ge fun i hi => by obtain ⟨p, ep, _⟩ := dn0.ent i hi; exact ⟨p, ep⟩)⟩, ?_⟩
  rintro m σ G ⟨pl, y2, y3, y4, rfl, D, hl, dn, mv, em⟩
  obtain ⟨s0, dx, pa, la, ca, xs, ls, h1, h2, h3, ⟨h4, h5, h6, h7, h8⟩, h9, f1, f2, f3⟩ := id D
  refine ⟨_, rfl, x, _, dx, _, _, rfl, h1, T.cl_Descent, T.na_Descent_climbs, el_climbs _ _ _ _, ?_⟩
  refine ⟨!xs.isEmpty, .inl ⟨xs, SqL.of h4, rfl⟩, ?_⟩
  cases xs with
  | nil =>
    refine iteF ?_
    refine q G pl D hl dn (fun i p q' _ e1 e2 => ?_) mv
    have := (h7.mem _).mpr ⟨i, p, q', trivial, e1, e2, rfl⟩
    cases h5
    cases this
  | cons v0 xr =>
  obtain ⟨k0, kr, rfl⟩ : ∃ k ks, ls = k :: ks := by
    cases h5
    exact ⟨_, _, rfl⟩
  obtain ⟨i, p, q', _, ep, eq, rfl, le0⟩ := clm_least h7 (List.mem_cons_self ..) (heap_least h6 rfl)
  have hxl := h5.len
  refine iteT ?_
  refine ⟨_, rfl, x, dx, _, rfl, h1, el_nc _ _ _ _, x, H0, Ps, pl, _, _, b, rfl, D, ⟨i, p, q', trivial, ep, eq⟩, fun mm le => ?_⟩
  refine ⟨_, rfl, _, _, rfl, rfl, _, rfl, ?_⟩
  refine ite2 (fun g => ?_) (fun g => ?_)
  · have g := of_decide_eq_true g
    refine ⟨fun σ' G' => ∃ (pl' : List Nat) (y2 y3 y4 : Option V), σ' = [some (.ref x), some (.int c), y2, y3, y4] ∧ DescAt K T.c_Descent H0 G' x Ps pl' (Tot Ps pl') (fun _ => True) b ∧ pl'.length = Ps.length ∧ Dn Ps.length (pF Ps) c (kF pl') ∧ (pl' = pl0 ∨ Tot Ps pl' < Tot Ps pl0 ∧ remN Ps pl' < remN Ps pl0) ∧ remN Ps pl' = (m : Int) - 1, ?_, ?_⟩
    · rintro σ' G' ⟨pl', z2, z3, z4, e, D', hl', dn', mv', em'⟩
      have r0 : 0 ≤ remN Ps pl' := rem_ge fun i hi => by obtain ⟨p, ep, _⟩ := dn'.ent i hi; exact ⟨p, ep⟩
      exact ⟨m - 1, by omega, pl', z2, z3, z4, e, D', hl', dn', mv', by omega⟩
    have hx : x ≠ ca := fun z => by rw [z, h4] at h1; cases h1
    refine ⟨_, rfl, x, _, dx, _, _, rfl, h1, T.cl_Descent, T.na_Descent_climbs, el_climbs _ _ _ _, ca, _, _, rfl, h4, h5, by simp, by rw [hxl]; omega, h6, fun t key zs ms ht hk pm lo hp => ?_⟩
    have hkey : key ∈ [q'.1 - p.2, (i : Int)] :: kr := pm.mem_iff.mp (List.mem_cons_self ..)
    clear le0
    obtain ⟨i', p', q2, _, ep', eq', rfl, le0⟩ := clm_least h7 hkey lo
    clear ep eq hkey
    have emm : mm = q2.1 - p'.2 := by
      obtain ⟨⟨a1, a2, a3, a4, a5, a6, a7⟩, a8⟩ := le
      obtain ⟨⟨b1, b2, b3, b4, b5, b6, b7⟩, b8⟩ := le0
      have := a8 b1 b2 b3 b4 b5 b6
      have := b8 a1 a2 a3 a4 a5 a6
      omega
    have D1 : DescAt K T.c_Descent H0 (upd G ca (.lst zs)) x Ps pl (Tot Ps pl) (fun j => True ∧ j ≠ i') (b - 1) := by
      refine ⟨fun c o hc => ?_, dx, pa, la, ca, zs, ms, ?_, ?_, ?_, ⟨upd_same, hk, hp, h7.pop pm, ?_⟩, h9, f1, f2, f3⟩
      · rw [upd_ne (ne_of_none hc f3)]
        exact s0 _ _ hc
      · rw [upd_ne hx]
        exact h1
      · exact dp_keep (fun a zs' h => (sx_upd (p := ca)).sqT h4 h) (noL_vls Ps) h2
      · rw [upd_ne h9]
        exact h3
      · have := pm.length_eq
        rw [List.length_cons] at this
        omega
    generalize (upd G ca (.lst zs)) = G1 at ht hk D1 ⊢
    have b1 : 1 ≤ b := by
      rw [List.length_cons] at h8
      omega
    clear hk pm lo hp h1 h2 h3 h4 h5 h6 h7 h8 s0 h9 f1 f2 f3 D
    obtain ⟨s0, dx, pa, la, ca, xs, ls, h1, h2, h3, ⟨h4, h5, h6, h7, h8⟩, h9, f1, f2, f3⟩ := id D1
    have li := pF_lt ep'
    obtain ⟨ps, hps⟩ : ∃ ps, Ps[i']? = some ps := ⟨Ps[i'], List.getElem?_eq_getElem li⟩
    obtain ⟨xP, tp, ys, hsP, hlP, gP, hsp, hly, gk⟩ := part_at h2 hps
    obtain ⟨k, hk⟩ : ∃ k, pl[i']? = some k := ⟨pl[i'], List.getElem?_eq_getElem (by omega)⟩
    have gpl : (plV pl)[i']? = some (.int (k : Int)) := by
      show (pl.map fun k : Nat => V.int (k : Int))[i']? = _
      rw [List.getElem?_map, hk]
      rfl
    have eP := pF_at hps
    have eK := kF_at hk
    have ep2 := ep'
    have eq2 := eq'
    rw [eP, eK] at ep2 eq2
    obtain ⟨tk, gt, hst⟩ := gk k p' ep2
    obtain ⟨tk2, gt2, hst2⟩ := gk (k + 1) q2 eq2
    have hla : la ≠ x := fun z => by rw [z, h1] at h3; cases h3
    have hx : x ≠ ca := fun z => by rw [z, h4] at h1; cases h1
    refine ⟨_, _, _, _, rfl, rfl, ht, atI_at (j := 1) rfl rfl, ?_⟩
    refine ⟨_, rfl, x, _, dx, _, _, rfl, h1, T.cl_Descent, T.na_Descent_parts, el_parts _ _ _ _, _, rfl, _, _, _, _, rfl, rfl, hsP, atI_at (j := i') rfl gP, ?_⟩
    refine ⟨_, rfl, x, _, dx, _, _, rfl, h1, T.cl_Descent, T.na_Descent_places, el_places _ _ _ _, _, rfl, _, _, _, _, rfl, rfl, SqL.of h3, atI_at (j := i') rfl gpl, _, _, rfl, rfl, ?_⟩
    refine ⟨_, rfl, _, rfl, x, _, dx, _, _, rfl, h1, T.cl_Descent, T.na_Descent_places, el_places _ _ _ _, _, rfl, ?_⟩
    refine ⟨la, _, _, i', rfl, rfl, h3, ixN_k (by rw [List.length_map]; omega), ?_⟩
    have eset : (plV pl).set i' (V.int ((k : Int) + 1)) = plV (pl.set i' (k + 1)) := by
      show (pl.map fun k : Nat => V.int (k : Int)).set i' (V.int ((k : Int) + 1)) = (pl.set i' (k + 1)).map fun k : Nat => V.int (k : Int)
      rw [List.map_set]
      rfl
    dsimp only
    rw [eset]
    have t1 : ∀ a xs, SqT K G1 a xs → SqT K (upd G1 la (.lst (plV (pl.set i' (k + 1))))) a xs := fun a xs h => (sx_upd (p := la)).sqT h3 h
    have z1 : (upd G1 la (.lst (plV (pl.set i' (k + 1))))) x = some (.ins T.c_Descent dx (efl pa la (Tot Ps pl) ca)) := by rw [upd_ne (Ne.symm hla)]; exact h1
    have z3 : (upd G1 la (.lst (plV (pl.set i' (k + 1))))) la = some (.lst (plV (pl.set i' (k + 1)))) := upd_same
    have z4 : (upd G1 la (.lst (plV (pl.set i' (k + 1))))) ca = some (.lst xs) := by rw [upd_ne (Ne.symm h9)]; exact h4
    have zs0 : Same H0 (upd G1 la (.lst (plV (pl.set i' (k + 1))))) := fun c o hc => by rw [upd_ne (ne_of_none hc f2)]; exact s0 _ _ hc
    generalize (upd G1 la (.lst (plV (pl.set i' (k + 1))))) = G2 at t1 z1 z3 z4 zs0 ⊢
    refine ⟨_, rfl, x, _, dx, _, _, rfl, z1, T.cl_Descent, T.na_Descent_total, el_total _ _ _ _, ?_⟩
    refine ⟨_, rfl, _, rfl, _, _, _, _, rfl, rfl, t1 _ _ hsp, atI_at (j := k + 1) (by omega) gt2, _, _, _, _, rfl, rfl, t1 _ _ hst2, atI_at (j := 1) rfl rfl, ?_⟩
    refine ⟨_, rfl, _, rfl, _, _, rfl, rfl, _, _, _, _, rfl, rfl, t1 _ _ hsp, atI_at (j := k) (by omega) gt, _, _, _, _, rfl, rfl, t1 _ _ hst, atI_at (j := 1) rfl rfl, _, _, rfl, rfl, ?_⟩
    refine ⟨_, _, rfl, rfl, dx, _, z1, el_len _ _ _ _, ?_⟩
    rw [el_up]
    obtain ⟨dn2, et, low⟩ := dn.step hSv.parts li ep' eq' (by show Tot Ps pl + _ ≤ c; rw [← emm]; exact g)
    have ekp : upF (kF pl) i' (kF pl i' + 1) = kF (pl.set i' (k + 1)) := by rw [kF_set (by omega), eK]
    rw [ekp] at dn2 et
    have et2 : Tot Ps (pl.set i' (k + 1)) = Tot Ps pl + (q2.2 - p'.2) := et
    rw [← et2]
    have t2 : ∀ a xs, SqT K G2 a xs → SqT K (upd G2 x (.ins T.c_Descent dx (efl pa la (Tot Ps (pl.set i' (k + 1))) ca))) a xs := fun a xs h => sqT_off z1 h
    have D3 : DescAt K T.c_Descent H0 (upd G2 x (.ins T.c_Descent dx (efl pa la (Tot Ps (pl.set i' (k + 1))) ca))) x Ps (pl.set i' (k + 1)) (Tot Ps (pl.set i' (k + 1))) (fun j => True ∧ j ≠ i') (b - 1) := by
      refine ⟨fun c o hc => ?_, dx, pa, la, ca, xs, ls, upd_same, ?_, ?_, ⟨?_, keysT_keep (fun a xs h => t2 _ _ (t1 _ _ h)) h5, h6, h7.other (by omega) (fun z => z.2 rfl), h8⟩, h9, f1, f2, f3⟩
      · rw [upd_ne (ne_of_none hc f1)]
        exact zs0 _ _ hc
      · exact dp_keep (fun a xs h => t2 _ _ (t1 _ _ h)) (noL_vls Ps) h2
      · rw [upd_ne hla]
        exact z3
      · rw [upd_ne (Ne.symm hx)]
        exact z4
    generalize (upd G2 x (.ins T.c_Descent dx (efl pa la (Tot Ps (pl.set i' (k + 1))) ca))) = G3 at D3 ⊢
    obtain ⟨_, dx2, pa2, la2, ca2, xs2, ls2, y1, _⟩ := id D3
    refine ⟨_, rfl, x, dx2, _, rfl, y1, el_qc _ _ _ _, _, rfl, x, i', H0, Ps, pl.set i' (k + 1), _, _, b - 1, rfl, D3, by rw [List.length_set]; exact hl, ⟨q2, by rw [kF_set (by omega), upF_same, eP]; exact eq2⟩, fun z => z.2 rfl, by omega, fun G4 D4 => ?_⟩
    have rs := rem_set (Ps := Ps) (i := i') hl li
    rw [eK] at rs
    refine ⟨pl.set i' (k + 1), _, _, _, rfl, D4.iff (fun j => ⟨fun _ => trivial, fun _ => ?_⟩) (by omega), by rw [List.length_set]; exact hl, dn2, .inr ?_, ?_⟩
    · by_cases z : j = i'
      · exact .inr z
      · exact .inl ⟨trivial, z⟩
    · rcases mv with rfl | ⟨mv, mv2⟩
      · exact ⟨by omega, by omega⟩
      · exact ⟨by omega, by omega⟩
    · omega
  · have g : ¬ Tot Ps pl + mm ≤ c := fun z => g (decide_eq_true z)
    refine q G pl D hl dn (fun j p2 q2 _ e1 e2 => ?_) mv
    have := le.2 j p2 q2 trivial e1 e2
    show c < Tot Ps pl + (q2.1 - p2.2)
    omega
theorem sx_off {K : PySem.W.Frag} {H G : Hp} {x a C dx : Addr} {fs : List (Str × V)} {xs : List V} (s : Sx x H G) (e : H x = some (.ins C dx fs)) (h : SqT K H a xs) : SqT K G a xs := by
  rcases h with (h | ⟨ob, h⟩) | h
  · exact .inl (.inl (s _ _ (fun q => by rw [q, e] at h; cases h) h))
  · exact .inl (.inr ⟨ob, s _ _ (fun q => by rw [q, e] at h; cases h) h⟩)
  · exact .inr h
theorem none_same {H H' : Hp} (s : Same H H') {a : Addr} (h : H' a = none) : H a = none := by
  cases e : H a with
  | none => rfl
  | some o =>
    rw [s _ _ e] at h
    cases h
abbrev zeros (Ps : List (List P2)) : List Nat := List.replicate Ps.length 0
theorem kF_zero {n : Nat} : kF (List.replicate n 0) = fun _ => 0 := by
  funext i
  show (List.replicate n 0).getD i 0 = 0
  rw [List.getD_eq_getElem?_getD, List.getElem?_replicate]
  split <;> rfl
theorem rep_flat {n : Nat} : (List.replicate (n : Int).toNat [V.int 0]).flatten = plV (List.replicate n 0) := by
  rw [show (n : Int).toNat = n from rfl]
  show _ = (List.replicate n 0).map fun k : Nat => V.int (k : Int)
  induction n with
  | zero => rfl
  | succ n ih =>
    rw [List.replicate_succ, List.flatten_cons, ih, List.replicate_succ, List.map_cons]
    rfl
/-- the first lows -/
abbrev firsts (Ps : List (List P2)) : List Int := Ps.map fun ps => (ps.getD 0 (0, 0)).2
theorem firsts_sum : ∀ {Ps : List (List P2)}, (firsts Ps).sum = Tot Ps (zeros Ps) := by
  intro Ps
  show _ = sumN Ps.length (lowF (pF Ps) (kF (zeros Ps)))
  rw [kF_zero, fI_sum, List.length_map]
  refine sumN_congr fun i hi => ?_
  have e : Ps[i]? = some Ps[i] := List.getElem?_eq_getElem hi
  rw [fI_at (x := (Ps[i].getD 0 (0, 0)).2) (by rw [List.getElem?_map, e]; rfl)]
  unfold lowF
  rw [pF_at e]
theorem fl1 (pa : Addr) : (putF "parts" (.ref pa) [] : List (Str × V)).length < 1000 := by
  have e : (putF "parts" (.ref pa) [] : List (Str × V)).length = 1 := by kernel_rfl
  omega
theorem fl2 (pa la : Addr) : (putF "places" (.ref la) (putF "parts" (.ref pa) []) : List (Str × V)).length < 1000 := by
  have e : (putF "places" (.ref la) (putF "parts" (.ref pa) []) : List (Str × V)).length = 2 := by kernel_rfl
  omega
theorem fl3 (pa la : Addr) (t : Int) : (putF "total" (.int t) (putF "places" (.ref la) (putF "parts" (.ref pa) [])) : List (Str × V)).length < 1000 := by
  have e : (putF "total" (.int t) (putF "places" (.ref la) (putF "parts" (.ref pa) [])) : List (Str × V)).length = 3 := by kernel_rfl
  omega
def spDI (K : PySem.W.Frag) (C : Addr) : Sp := fun vs H Q _ => ∃ (x dx pa : Addr) (H0 : Hp) (Ps : List (List P2)), vs = [.ref x, .ref pa] ∧ H x = some (.ins C dx []) ∧ Same H0 H ∧ H0 x = none ∧ Dp K H (.ref pa) (vlsD Ps) ∧ Ps.length ≤ 400 ∧ SvAll Ps ∧
  ∀ H', DescAt K C H0 H' x Ps (zeros Ps) (Tot Ps (zeros Ps)) (fun _ => True) Ps.length → Q .non H'
theorem ok_di (T : Txt K mg) : FnOk P w K mg base CX0 2 T.f_Descent_init T.d_Descent_init ["self", "parts"] (spDI K T.c_Descent) := by
  have g_Descent_queue_climb := ok_qc (P := P) (w := w) (base := base) T
  refine T.F_Descent_init.ok sc_Descent_init (fun vs H Q E h => ?_) (fun cdv A outer s H vs Q E hr h => ?_)
  · obtain ⟨x, dx, pa, H0, Ps, rfl, _⟩ := h
    rfl
  obtain ⟨x, dx, pa, H0, Ps, rfl, hx, s0, hx0, hd, h400, hSv, q⟩ := h
  have hu := hu_of hr
  refine ⟨_, (pss_cons (ps_fld (pv 0) (pv 1) rfl)
      (pss_cons (ps_fld (pv 0) (pe_op op_rep (pe_lst (pa_cons pe_int pa_nil)) (pe_callB (r := rLenS K) call_lenS (by rfl) T.n_len (by decide +kernel) (pa_cons (pv 1) pa_nil))) rfl)
      (pss_cons (ps_fld (pv 0) (pe_callB (r := rSum K) (cr_sum rfl) (by rfl) T.n_sum (by decide +kernel) (pa_cons (pe_lc (own := [("part", 3)]) (g := (gName 3)) (by rfl) sc_Descent_init.nd (pi_tup (pv 1)) (blkOk_by (N := N_Descent_init) (sc := (defScope s_Descent_init)) (by decide +kernel)) (fun _ _ _ _ _ => (pg_name (i := 3) sc_Descent_init.nd rfl (Or.inl rfl))) (fun _ _ _ _ _ => pts_nil) (fun _ _ _ _ _ => (pe_ix (r := rIxT K) ix_tup (pe_ix (r := rIxT K) ix_tup (pv 3) pe_int (fun _ _ => rfl)) pe_int (fun _ _ => rfl)))) pa_nil)) rfl)
      (pss_cons (ps_fld (pv 0) (pe_lst pa_nil) rfl)
      (pss_one (ps_for PassesOwn.never rfl (pi_range1 rfl T.n_range (pa_cons (pe_callB (r := rLenS K) call_lenS (by rfl) T.n_len (by decide +kernel) (pa_cons (pv 1) pa_nil)) pa_nil)) (pg_name (i := 2) sc_Descent_init.nd rfl (Or.inl rfl))
        (pss_one (ps_expr (pe_meth (pv 0) T.cl_Descent T.mt_Descent_queue_climb g_Descent_queue_climb (hr.mono (by omega)) T.b_Descent_queue_climb .nil pass0 (pa_cons (pv 2) pa_nil)))))))))), ?_⟩
  obtain ⟨pa', xP, e, hsP, hall⟩ := dp_tup_inv hd
  cases e
  have hlP : xP.length = Ps.length := by rw [dpAll_length hall, List.length_map]
  refine ⟨_, rfl, _, rfl, x, _, dx, _, rfl, hx, T.cl_Descent, T.na_Descent_parts, (by show 0 < 1000; decide), ?_⟩
  have s1 : Sx x H (upd H x (.ins T.c_Descent dx (putF "parts" (.ref pa) []))) := sx_upd (p := x)
  have e1 : (upd H x (.ins T.c_Descent dx (putF "parts" (.ref pa) []))) x = some (.ins T.c_Descent dx (putF "parts" (.ref pa) [])) := upd_same
  generalize (upd H x (.ins T.c_Descent dx (putF "parts" (.ref pa) []))) = H1 at s1 e1 ⊢
  refine ⟨(by show 1 ≤ sizeLine; decide), fun w1 hw1 => ⟨_, rfl, pa, _, rfl, .inr (same_sqT (same_new hw1) (sx_off s1 hx hsP)), w1, _, _, rfl, rfl, upd_same, by omega, by omega, ?_, fun la hla => ?_⟩⟩
  · rw [List.length_singleton, hlP, sizeLine_eq]
    omega
  rw [hlP, rep_flat]
  have s2 : Same H1 (upd (upd H1 w1 (.lst [.int 0])) la (.lst (plV (List.replicate Ps.length 0)))) := (same_new hw1).trans (same_new hla)
  have e2 : (upd (upd H1 w1 (.lst [.int 0])) la (.lst (plV (List.replicate Ps.length 0)))) la = some (.lst (plV (zeros Ps))) := upd_same
  have nla1 : H1 la = none := none_same (same_new hw1) hla
  generalize (upd (upd H1 w1 (.lst [.int 0])) la (.lst (plV (List.replicate Ps.length 0)))) = H2 at s2 e2 ⊢
  refine ⟨_, rfl, x, _, dx, _, rfl, s2 _ _ e1, T.cl_Descent, T.na_Descent_places, fl1 _, ?_⟩
  have hla0 : H la = none := by
    cases e : H la with
    | none => rfl
    | some o =>
      have nx : la ≠ x := fun z => by rw [z, e1] at nla1; cases nla1
      rw [s1 _ _ nx e] at nla1
      cases nla1
  have nlx : la ≠ x := fun z => by rw [z, e1] at nla1; cases nla1
  have s3 : Sx x H (upd H2 x (.ins T.c_Descent dx (putF "places" (.ref la) (putF "parts" (.ref pa) [])))) := fun b o hb e => by
    rw [upd_ne hb]
    exact s2 _ _ (s1 _ _ hb e)
  have e3 : (upd H2 x (.ins T.c_Descent dx (putF "places" (.ref la) (putF "parts" (.ref pa) [])))) x = some (.ins T.c_Descent dx (putF "places" (.ref la) (putF "parts" (.ref pa) []))) := upd_same
  have a3 : (upd H2 x (.ins T.c_Descent dx (putF "places" (.ref la) (putF "parts" (.ref pa) [])))) la = some (.lst (plV (zeros Ps))) := by rw [upd_ne nlx]; exact e2
  generalize (upd H2 x (.ins T.c_Descent dx (putF "places" (.ref la) (putF "parts" (.ref pa) [])))) = H3 at s3 e3 a3 ⊢
  clear e1 s1 s2 e2 hw1 hla nla1
  refine ⟨_, rfl, pa, rfl, ⟨xP, sx_off s3 hx hsP⟩, fun D hD => ?_⟩
  have hall3 : DpAll K H3 xP (Ps.map vlD) := dpAll_keep (fun a xs h => sx_off s3 hx h) (noLs_vls Ps) hall
  refine lc_tup (K := K) (a := pa) (xs := xP) (fun i G => Same H3 G ∧ G D = some (.lst (((firsts Ps).take i).map V.int))) ⟨same_new hD, upd_same⟩ (fun i G _ ⟨s, _⟩ => same_sqT s (sx_off s3 hx hsP)) ?_ ?_
  · rintro i y G hi ⟨s4, eD⟩
    obtain ⟨d, ed, hdy⟩ := dpAll_get hall3 hi
    rw [List.getElem?_map] at ed
    obtain ⟨ps, eps, rfl⟩ := Option.map_eq_some_iff.mp ed
    obtain ⟨ty, ys, rfl, hty, hys⟩ := dp_tup_inv hdy
    obtain ⟨l, W, ew, l0⟩ := (hSv ps (List.mem_of_getElem? eps)).hd
    have hly : ys.length = ps.length := by rw [dpAll_length hys, prDs, List.length_map]
    have g0 : ys[0]? = some (ys[0]'(by rw [hly, ew]; simp)) := List.getElem?_eq_getElem _
    obtain ⟨p, ep, hp⟩ := prs_at hys g0
    obtain ⟨tk, ek, hk⟩ := pr_inv hp
    rw [ek] at g0
    refine ⟨rfl, ?_⟩
    unfold tYes
    refine iteT ?_
    refine ⟨_, rfl, _, _, _, _, rfl, rfl, same_sqT s4 hty, atI_at (j := 0) rfl g0, _, _, _, _, rfl, rfl, same_sqT s4 hk, atI_at (j := 1) rfl rfl, ?_⟩
    have hi2 := (List.getElem?_eq_some_iff.mp eps).1
    refine ⟨_, eD, ?_, ?_, ?_⟩
    · rw [List.length_map, List.length_take, List.length_map]
      exact small1000 (by omega)
    · intro c o hc
      rw [upd_ne (ne_of_none hc hD)]
      exact s4 _ _ hc
    · rw [upd_same, List.take_add_one, List.getElem?_map, eps, List.map_append]
      show some (HO.lst (_ ++ [V.int p.2])) = some (HO.lst (_ ++ [V.int (ps.getD 0 (0, 0)).2]))
      rw [List.getD_eq_getElem?_getD, ep]
      rfl
  rintro G ⟨s4, eD⟩
  rw [hlP, List.take_of_length_le (by rw [List.length_map]; omega)] at eD
  refine ⟨D, firsts Ps, rfl, SqL.of eD, _, rfl, x, _, dx, _, rfl, s4 _ _ e3, T.cl_Descent, T.na_Descent_total, fl2 _ _, ?_⟩
  rw [firsts_sum]
  have s5 : Sx x H (upd G x (.ins T.c_Descent dx (putF "total" (.int (Tot Ps (zeros Ps))) (putF "places" (.ref la) (putF "parts" (.ref pa) []))))) := fun b o hb e => by
    rw [upd_ne hb]
    exact s4 _ _ (s3 _ _ hb e)
  have e5 : (upd G x (.ins T.c_Descent dx (putF "total" (.int (Tot Ps (zeros Ps))) (putF "places" (.ref la) (putF "parts" (.ref pa) []))))) x = some (.ins T.c_Descent dx (putF "total" (.int (Tot Ps (zeros Ps))) (putF "places" (.ref la) (putF "parts" (.ref pa) [])))) := upd_same
  have a5 : (upd G x (.ins T.c_Descent dx (putF "total" (.int (Tot Ps (zeros Ps))) (putF "places" (.ref la) (putF "parts" (.ref pa) []))))) la = some (.lst (plV (zeros Ps))) := by rw [upd_ne nlx]; exact s4 _ _ a3
  generalize (upd G x (.ins T.c_Descent dx (putF "total" (.int (Tot Ps (zeros Ps))) (putF "places" (.ref la) (putF "parts" (.ref pa) []))))) = H5 at s5 e5 a5 ⊢
  clear s4 eD hD e3 a3 s3 hall3
  refine ⟨(by decide), fun ca hca => ⟨_, rfl, x, _, dx, _, rfl, same_new hca _ _ e5, T.cl_Descent, T.na_Descent_climbs, fl3 _ _ _, ?_⟩⟩
  have hca0 : H ca = none := by
    cases e : H ca with
    | none => rfl
    | some o =>
      have nx : ca ≠ x := fun z => by rw [z, e5] at hca; cases hca
      rw [s5 _ _ nx e] at hca
      cases hca
  have ncx : ca ≠ x := fun z => by rw [z, e5] at hca; cases hca
  have nlc : la ≠ ca := fun z => by rw [z, hca] at a5; cases a5
  obtain ⟨D6, hsP6⟩ : DescAt K T.c_Descent H0 (upd (upd H5 ca (.lst [])) x (.ins T.c_Descent dx (putF "climbs" (.ref ca) (putF "total" (.int (Tot Ps (zeros Ps))) (putF "places" (.ref la) (putF "parts" (.ref pa) [])))))) x Ps (zeros Ps) (Tot Ps (zeros Ps)) (fun j => j < 0) 0 ∧ SqT K (upd (upd H5 ca (.lst [])) x (.ins T.c_Descent dx (putF "climbs" (.ref ca) (putF "total" (.int (Tot Ps (zeros Ps))) (putF "places" (.ref la) (putF "parts" (.ref pa) [])))))) pa xP := by
    have s6 : Sx x H (upd (upd H5 ca (.lst [])) x (.ins T.c_Descent dx (putF "climbs" (.ref ca) (putF "total" (.int (Tot Ps (zeros Ps))) (putF "places" (.ref la) (putF "parts" (.ref pa) [])))))) := fun b o hb e => by
      rw [upd_ne hb]
      exact same_new hca _ _ (s5 _ _ hb e)
    refine ⟨⟨fun b o hb => s6 _ _ (ne_of_none hb hx0) (s0 _ _ hb), dx, pa, la, ca, [], [], upd_same, ?_, ?_, ⟨?_, .nil, fun i _ hi => absurd hi (Nat.not_lt_zero _), ⟨List.nodup_nil, fun y => ⟨(fun h => by cases h), (fun ⟨i, _, _, h, _⟩ => absurd h (Nat.not_lt_zero _))⟩⟩, Nat.le_refl _⟩, nlc, hx0, none_same s0 hla0, none_same s0 hca0⟩, sx_off s6 hx hsP⟩
    · exact dp_keep (fun a xs h => sx_off s6 hx h) (noL_vls Ps) hd
    · rw [upd_ne nlx, upd_ne nlc]
      exact a5
    · rw [upd_ne ncx]
      exact upd_same
  generalize (upd (upd H5 ca (.lst [])) x (.ins T.c_Descent dx (putF "climbs" (.ref ca) (putF "total" (.int (Tot Ps (zeros Ps))) (putF "places" (.ref la) (putF "parts" (.ref pa) [])))))) = H6 at D6 hsP6 ⊢
  clear hca hca0 hla0 ncx nlc s5 e5 a5 H5 nlx
  refine ⟨_, rfl, pa, _, rfl, .inr hsP6, _, rfl, by omega, by rw [hlP]; omega, ?_⟩
  refine for_range (lo := 0) (n := ((xP.length : Nat) : Int).toNat) (fun i σ G => ∃ y2 y3 : Option V, σ = [some (.ref x), some (.ref pa), y2, y3] ∧ DescAt K T.c_Descent H0 G x Ps (zeros Ps) (Tot Ps (zeros Ps)) (fun j => j < i) i) ⟨none, none, rfl, D6⟩ ?_ ?_
  · rintro i σ G hi ⟨y2, y3, rfl, D⟩
    have hi' : i < Ps.length := by
      have : ((xP.length : Nat) : Int).toNat = xP.length := rfl
      omega
    have e0 : (0 : Int) + (i : Int) = (i : Int) := by omega
    rw [e0]
    obtain ⟨_, dx2, pa2, la2, ca2, xs2, ls2, y1, _⟩ := id D
    have eP : Ps[i]? = some Ps[i] := List.getElem?_eq_getElem hi'
    obtain ⟨l, W, ew, l0⟩ := (hSv Ps[i] (List.getElem_mem hi')).hd
    refine ⟨_, rfl, x, dx2, _, rfl, y1, el_qc _ _ _ _, _, rfl, x, i, H0, Ps, zeros Ps, _, _, i, rfl, D, List.length_replicate .., ⟨(0, l), ?_⟩, Nat.lt_irrefl _, by omega, fun G2 D2 => ?_⟩
    · rw [kF_zero, pF_at eP, ew]
      rfl
    · exact ⟨_, _, rfl, D2.iff (fun j => by omega) (Nat.le_refl _)⟩
  · rintro σ G ⟨y2, y3, rfl, D⟩
    have e : ((xP.length : Nat) : Int).toNat = Ps.length := hlP
    rw [e] at D
    obtain ⟨h0, dx2, pa2, la2, ca2, xs2, ls2, y1, y2', y3', ⟨y4, y5, y6, y7, y8⟩, y9⟩ := D
    refine q G ⟨h0, dx2, pa2, la2, ca2, xs2, ls2, y1, y2', y3', ⟨y4, y5, y6, ⟨y7.nd, fun y => (y7.mem y).trans ⟨?_, ?_⟩⟩, y8⟩, y9⟩
    · rintro ⟨j, p, q', _, r⟩
      exact ⟨j, p, q', trivial, r⟩
    · rintro ⟨j, p, q', _, r1, r2⟩
      exact ⟨j, p, q', pF_lt r1, r1, r2⟩
/-- the lows by place -/
abbrev lowsL (Ps : List (List P2)) (pl : List Nat) : List Int := (List.range Ps.length).map (lowF (pF Ps) (kF pl))
theorem lowsL_sum {Ps : List (List P2)} {pl : List Nat} : (lowsL Ps pl).sum = Tot Ps pl := by
  rw [fI_sum, List.length_map, List.length_range]
  refine sumN_congr fun i hi => fI_at ?_
  rw [List.getElem?_map, List.getElem?_range hi]
  rfl
theorem lowsL_at {Ps : List (List P2)} {pl : List Nat} {i : Nat} (h : i < Ps.length) : fI (lowsL Ps pl) i = lowF (pF Ps) (kF pl) i := by
  refine fI_at ?_
  rw [List.getElem?_map, List.getElem?_range h]
  rfl
theorem ints_dpJ {K : PySem.W.Frag} {H : Hp} : ∀ a : List Int, DpAll K H (a.map V.int) (a.map PyData.int)
  | [] => .nil
  | k :: a => .cons (.int k) (ints_dpJ a)
def spLows (K : PySem.W.Frag) (C : Addr) : Sp := fun vs H Q _ => ∃ (x : Addr) (H0 : Hp) (Ps : List (List P2)) (pl : List Nat) (t : Int) (S : Nat → Prop) (b : Nat), vs = [.ref x] ∧ DescAt K C H0 H x Ps pl t S b ∧ pl.length = Ps.length ∧ (∀ i, i < Ps.length → ∃ p, (pF Ps i)[kF pl i]? = some p) ∧ Ps.length ≤ 400 ∧
  ∀ (H' : Hp) (r : V), Same H H' → Dp K H' r (.tuple ((lowsL Ps pl).map .int)) → Q r H'
theorem ok_lows (T : Txt K mg) : FnOk P w K mg base CX0 1 T.f_Descent_lows T.d_Descent_lows ["self"] (spLows K T.c_Descent) := by
  refine T.F_Descent_lows.ok sc_Descent_lows (fun vs H Q E h => ?_) (fun cdv A outer s H vs Q E hr h => ?_)
  · obtain ⟨x, H0, Ps, pl, t, S, b, rfl, _⟩ := h
    rfl
  obtain ⟨x, H0, Ps, pl, t, S, b, rfl, D0, hl, hv, h400, q⟩ := h
  obtain ⟨s0, dx, pa, la, ca, xs, ls, h1, h2, h3, _⟩ := id D0
  obtain ⟨pa', xP, e, hsP, hall⟩ := dp_tup_inv h2
  cases e
  have hlP : xP.length = Ps.length := by rw [dpAll_length hall, List.length_map]
  refine ⟨_, (pss_one (ps_ret (pe_callTy (r := rTupS K) call_tupS (by rfl) T.n_tuple (by decide +kernel) (pa_cons (pe_lc (own := [("part", 1), ("place", 2)]) (g := (gTup K 2 (gCons (gName 1) (gCons (gName 2) gNil)))) (by rfl) sc_Descent_lows.nd (RZM.pi_zipM (by rfl) T.n_zip (pa_cons (pe_fld (pv 0) rfl) (pa_cons (pe_fld (pv 0) rfl) pa_nil))) (blkOk_by (N := N_Descent_lows) (sc := (defScope s_Descent_lows)) (by decide +kernel)) (fun _ _ _ _ _ => (pg_tup (by rfl) (pgs_cons (pg_name (i := 1) sc_Descent_lows.nd rfl (Or.inl rfl)) (pgs_cons (pg_name (i := 2) sc_Descent_lows.nd rfl (Or.inl rfl)) pgs_nil)))) (fun _ _ _ _ _ => pts_nil) (fun _ _ _ _ _ => (pe_ix (r := rIxT K) ix_tup (pe_ix (r := rIxT K) ix_tup (pv 1) (pv 2) (fun _ _ => rfl)) pe_int (fun _ _ => rfl)))) pa_nil)))), ?_⟩
  refine ⟨_, rfl, x, _, dx, _, _, rfl, h1, T.cl_Descent, T.na_Descent_parts, el_parts _ _ _ _, _, rfl, x, _, dx, _, _, rfl, h1, T.cl_Descent, T.na_Descent_places, el_places _ _ _ _, ?_⟩
  refine ⟨pa, la, xP, plV pl, rfl, hsP, SqL.of h3, fun D hD => ?_⟩
  refine lc_it (RZM.walk_zm (d := .tup) (c := .lst) (xs := xP) (ys := plV pl) (n := Ps.length) (by rw [List.length_map]; omega)) (fun i F => Same H F ∧ F D = some (.lst (((lowsL Ps pl).take i).map V.int))) ⟨same_new hD, upd_same⟩ (fun i F _ ⟨s, _⟩ => ⟨same_sqT s hsP, SqL.of (s _ _ h3)⟩) ?_ ?_
  · rintro i z F F' hi ⟨s3, eD⟩ ⟨tt, v, y, rfl, ht, rfl, hv', hy⟩
    obtain ⟨ps, hps⟩ : ∃ ps, Ps[i]? = some ps := ⟨Ps[i], List.getElem?_eq_getElem hi⟩
    obtain ⟨xP', tp, ys, hsP', hlP', gP, hsp, hly, gk⟩ := part_at h2 hps
    obtain ⟨k, hk⟩ : ∃ k, pl[i]? = some k := ⟨pl[i], List.getElem?_eq_getElem (by omega)⟩
    obtain ⟨p, ep⟩ := hv i hi
    have ep2 := ep
    rw [pF_at hps, kF_at hk] at ep2
    obtain ⟨tk, gt, hst⟩ := gk k p ep2
    obtain ⟨d, ed, hd⟩ := dpAll_get hall hv'
    rw [List.getElem?_map, hps] at ed
    cases ed
    obtain ⟨tv, zs, rfl, hz, hzs⟩ := dp_tup_inv hd
    have hy2 : (pl.map fun k : Nat => V.int (k : Int))[i]? = some y := hy
    rw [List.getElem?_map, hk] at hy2
    cases hy2
    have lz : k < zs.length := by
      have := (List.getElem?_eq_some_iff.mp ep2).1
      rw [dpAll_length hzs, prDs, List.length_map]
      exact this
    have gz : zs[k]? = some zs[k] := List.getElem?_eq_getElem lz
    obtain ⟨p', ep', dp'⟩ := prs_at hzs gz
    rw [ep2] at ep'
    cases ep'
    obtain ⟨tz, ez, hz2⟩ := pr_inv dp'
    rw [ez] at gz
    have s4 : Same F (upd F tt (.tup [.ref tv, .int (k : Int)])) := same_new ht
    have kt : SqT K (upd F tt (.tup [.ref tv, .int (k : Int)])) tt [.ref tv, .int (k : Int)] := SqT.of upd_same
    have eD4 := s4 _ _ eD
    generalize (upd F tt (.tup [.ref tv, .int (k : Int)])) = F2 at s4 kt eD4 ⊢
    have s34 := s3.trans s4
    refine ⟨tt, _, rfl, kt, rfl, _, _, rfl, _, _, rfl, rfl, rfl, ?_⟩
    unfold tYes
    refine iteT ?_
    refine ⟨_, rfl, _, rfl, _, _, _, _, rfl, rfl, same_sqT s34 hz, atI_at (j := k) rfl gz, _, _, _, _, rfl, rfl, same_sqT s34 hz2, atI_at (j := 1) rfl rfl, ?_⟩
    refine ⟨_, eD4, ?_, ?_, ?_⟩
    · rw [List.length_map, List.length_take, List.length_map, List.length_range]
      exact small1000 (by omega)
    · intro c o hc
      rw [upd_ne (ne_of_none hc hD)]
      exact s34 _ _ hc
    · rw [upd_same, List.take_add_one, List.getElem?_map, List.getElem?_range hi, List.map_append]
      show some (HO.lst (_ ++ [V.int p.2])) = some (HO.lst (_ ++ [V.int (lowF (pF Ps) (kF pl) i)]))
      rw [lowF_at ep]
  rintro F ⟨s3, eD⟩
  rw [List.take_of_length_le (by rw [List.length_map, List.length_range]; omega)] at eD
  refine ⟨D, _, rfl, .inl ⟨SqL.of eD, fun t2 ht2 => ?_⟩⟩
  exact q _ _ (s3.trans (same_new ht2)) (.tup (SqT.of upd_same) (ints_dpJ _))
/-- so far: right up to c, where the last pair stands -/
structure JSo (Ps : List (List P2)) (c : Int) (pl : List Nat) (R : List P2) : Prop where
  hd : ∃ l W, R = (0, l) :: W ∧ l ≤ 0
  st : Strict R
  ls : R.getLast? = some (c, Tot Ps pl)
  val : ∀ d, 0 ≤ d → d ≤ c → ∀ L, LowAt Ps.length (pF Ps) d L → vlF d none R = some (sumN Ps.length L)
  dn : Dn Ps.length (pF Ps) c (kF pl)
  sk : Stuck Ps.length (pF Ps) c (kF pl)
  cap : ∀ B, 0 ≤ B → (∀ i, i < Ps.length → ∀ q ∈ pF Ps i, q.1 ≤ B) → ∀ p ∈ R, p.1 ≤ B
theorem rem_ge2 {Ps : List (List P2)} {pl : List Nat} (h : ∀ i, i < Ps.length → ∃ p, (pF Ps i)[kF pl i]? = some p) : (Ps.length : Int) ≤ remN Ps pl := by
  have := sumN_mono (n := Ps.length) (f := fun _ => 1) (g := fun i => ((pF Ps i).length : Int) - (kF pl i : Int)) fun i hi => by
    obtain ⟨p, ep⟩ := h i hi
    have := (List.getElem?_eq_some_iff.mp ep).1
    omega
  have e : sumN Ps.length (fun _ => (1 : Int)) = Ps.length := by
    generalize Ps.length = n
    induction n with
    | zero => rfl
    | succ n ih =>
      show sumN n _ + 1 = _
      rw [ih]
      omega
  rw [e] at this
  exact this
theorem others_le0 {Ps : List (List P2)} {c : Int} {pl : List Nat} (hS : SvAll Ps) (dn : Dn Ps.length (pF Ps) c (kF pl)) {i : Nat} {p : P2} (hi : i < Ps.length) (ep : (pF Ps i)[kF pl i]? = some p) : Tot Ps pl - p.2 ≤ 0 := by
  have := sumN_but (f := lowF (pF Ps) (kF pl)) (g := fun _ => 0) hi fun k hk => by
    obtain ⟨r, er, _⟩ := dn.ent k hk
    rw [lowF_at er]
    exact (hS.parts k hk).le0 r (List.mem_of_getElem? er)
  rw [sumN_zero, lowF_at ep] at this
  exact this
theorem vlF_last {R : List P2} {c d : Int} {t : Int} (h : R.getLast? = some (c, t)) (hd : c ≤ d) (a : Option Int) : vlF d a R = some t := by
  obtain ⟨A, rfl⟩ := List.getLast?_eq_some_iff.mp h
  exact vlF_split (p := (c, t)) hd (by simp)
theorem JSo.start {Ps : List (List P2)} {pl : List Nat} (hS : SvAll Ps) (dn : Dn Ps.length (pF Ps) 0 (kF pl)) (sk : Stuck Ps.length (pF Ps) 0 (kF pl)) : JSo Ps 0 pl [(0, Tot Ps pl)] := by
  refine ⟨⟨_, _, rfl, ?_⟩, List.pairwise_singleton .., rfl, fun d h0 hd L hL => ?_, dn, sk, fun B hB _ p hp => by rw [List.mem_singleton.mp hp]; exact hB⟩
  · refine sumN_le0 fun i hi => ?_
    obtain ⟨p, ep, _⟩ := dn.ent i hi
    rw [lowF_at ep]
    exact (hS.parts i hi).le0 p (List.mem_of_getElem? ep)
  · have : d = 0 := by omega
    subst this
    rw [vlF_last (c := 0) rfl (Int.le_refl _)]
    exact congrArg some (sumN_congr (LowAt.uniq (dn.low hS.parts sk) hL))
theorem JSo.between {Ps : List (List P2)} {c d : Int} {pl : List Nat} {R : List P2} (hS : SvAll Ps) (h : JSo Ps c pl R) (hcd : c ≤ d) (m : ∀ i p q, (pF Ps i)[kF pl i]? = some p → (pF Ps i)[kF pl i + 1]? = some q → d < Tot Ps pl + (q.1 - p.2)) (L : Nat → Int) (hL : LowAt Ps.length (pF Ps) d L) : vlF d none R = some (sumN Ps.length L) := by
  rw [vlF_last h.ls hcd]
  have dn := h.dn.more hS.parts hcd
  have sk : Stuck Ps.length (pF Ps) d (kF pl) := fun i p q _ e1 e2 => m i p q e1 e2
  exact congrArg some (sumN_congr (LowAt.uniq (dn.low hS.parts sk) hL))
theorem JSo.next {Ps : List (List P2)} {c m : Int} {pl pl' : List Nat} {R : List P2} (hS : SvAll Ps) (h : JSo Ps c pl R) (le : Least Ps pl (fun _ => True) m) (dn : Dn Ps.length (pF Ps) (Tot Ps pl + m) (kF pl')) (sk : Stuck Ps.length (pF Ps) (Tot Ps pl + m) (kF pl')) (mv : pl' = pl ∨ Tot Ps pl' < Tot Ps pl ∧ remN Ps pl' < remN Ps pl) :
    JSo Ps (Tot Ps pl + m) pl' (R ++ [(Tot Ps pl + m, Tot Ps pl')]) ∧ remN Ps pl' < remN Ps pl := by
  obtain ⟨⟨i, p, q, _, ep, eq, em⟩, lo⟩ := le
  have li := pF_lt ep
  have gt : c < Tot Ps pl + m := by
    have := h.sk i p q li ep eq
    show c < totF Ps.length (pF Ps) (kF pl) + m
    omega
  have mv2 : Tot Ps pl' < Tot Ps pl ∧ remN Ps pl' < remN Ps pl := by
    rcases mv with e | e
    · subst e
      have := sk i p q li ep eq
      have e2 : Tot Ps pl' = totF Ps.length (pF Ps) (kF pl') := rfl
      omega
    · exact e
  have h0 : 0 ≤ c := by
    obtain ⟨l, W, e, _⟩ := h.hd
    have hm : (c, Tot Ps pl) ∈ R := List.mem_of_getLast? h.ls
    rw [e] at hm
    rcases List.mem_cons.mp hm with z | z
    · cases z
      exact Int.le_refl _
    · have st := h.st
      rw [e] at st
      have := ((List.pairwise_cons.mp st).1 _ z).1
      dsimp only at this
      omega
  refine ⟨⟨?_, ?_, by simp, fun d d0 hd L hL => ?_, dn, sk, fun B hB hq r hr => ?_⟩, mv2.2⟩
  · obtain ⟨l, W, e, l0⟩ := h.hd
    exact ⟨l, W ++ [(Tot Ps pl + m, Tot Ps pl')], by rw [e]; rfl, l0⟩
  · refine List.pairwise_append.mpr ⟨h.st, List.pairwise_singleton .., fun r hr s hs => ?_⟩
    rw [List.mem_singleton] at hs
    subst hs
    obtain ⟨A, rfl⟩ := List.getLast?_eq_some_iff.mp h.ls
    rcases List.mem_append.mp hr with z | z
    · have := (List.pairwise_append.mp h.st).2.2 r z (c, Tot Ps pl) (by simp)
      dsimp only at this ⊢
      omega
    · rw [List.mem_singleton.mp z]
      dsimp only
      omega
  · by_cases z : d < Tot Ps pl + m
    · have e1 : vlF d none (R ++ [(Tot Ps pl + m, Tot Ps pl')]) = vlF d none R := by
        rw [vlF_app]
        exact vlF_none fun q hq => by rw [List.mem_singleton.mp hq]; exact z
      rw [e1]
      by_cases y : d ≤ c
      · exact h.val d d0 y L hL
      · exact h.between hS (by omega) (fun j p' q' e1 e2 => by have := lo j p' q' trivial e1 e2; omega) L hL
    · have : d = Tot Ps pl + m := by omega
      subst this
      rw [vlF_last (c := Tot Ps pl + m) (t := Tot Ps pl') (by simp) (Int.le_refl _)]
      exact congrArg some (sumN_congr (LowAt.uniq (dn.low hS.parts sk) hL))
  · rcases List.mem_append.mp hr with z | z
    · exact h.cap B hB hq r z
    · rw [List.mem_singleton.mp z]
      have := hq i li q (List.mem_of_getElem? eq)
      have := others_le0 hS h.dn li ep
      dsimp only
      omega
theorem JSo.done {Ps : List (List P2)} {c : Int} {pl : List Nat} {R : List P2} (hS : SvAll Ps) (h : JSo Ps c pl R) (no : ∀ i p q, (pF Ps i)[kF pl i]? = some p → (pF Ps i)[kF pl i + 1]? = some q → False) : Joint Ps.length (pF Ps) R := by
  have any : ∀ d, c ≤ d → LowAt Ps.length (pF Ps) d (lowF (pF Ps) (kF pl)) := fun d hd => (h.dn.more hS.parts hd).low hS.parts fun i p q _ e1 e2 => (no i p q e1 e2).elim
  refine ⟨h.hd, h.st, fun d d0 L hL => ?_, ⟨_, h.ls, ?_⟩, h.cap⟩
  · by_cases y : d ≤ c
    · exact h.val d d0 y L hL
    · exact h.between hS (by omega) (fun i p q e1 e2 => (no i p q e1 e2).elim) L hL
  · refine sumN_congr fun i hi => ?_
    obtain ⟨p, ep, _⟩ := h.dn.ent i hi
    have l1 := (List.getElem?_eq_some_iff.mp ep).1
    have l2 : ¬ kF pl i + 1 < (pF Ps i).length := fun z => no i p _ ep (List.getElem?_eq_getElem z)
    rw [lowF_at ep]
    unfold lastF
    rw [List.getLast?_eq_getElem?, show (pF Ps i).length - 1 = kF pl i by omega, ep]
    rfl
theorem DescAt.wnew {K : PySem.W.Frag} {C : Addr} {H0 G : Hp} {x u : Addr} {o : HO} {Ps : List (List P2)} {pl : List Nat} {t : Int} {S : Nat → Prop} {b : Nat} (D : DescAt K C H0 G x Ps pl t S b) (hu : G u = none) : DescAt K C (upd H0 u o) (upd G u o) x Ps pl t S b := by
  obtain ⟨h0, dx, pa, la, ca, xs, ls, h1, h2, h3, ⟨h4, h5, h6⟩, h7, f1, f2, f3⟩ := D
  have s := same_new (o := o) hu
  refine ⟨fun c z hc => ?_, dx, pa, la, ca, xs, ls, s _ _ h1, dp_same s h2, s _ _ h3, ⟨s _ _ h4, keysT_same s h5, h6⟩, h7, ?_, ?_, ?_⟩
  · by_cases e : c = u
    · subst e
      rw [upd_same] at hc ⊢
      exact hc
    · rw [upd_ne e] at hc ⊢
      exact h0 _ _ hc
  · rw [upd_ne (ne_of_none h1 hu)]
    exact f1
  · rw [upd_ne (ne_of_none h3 hu)]
    exact f2
  · rw [upd_ne (ne_of_none h4 hu)]
    exact f3
theorem DescAt.wlst {K : PySem.W.Frag} {C : Addr} {H0 G : Hp} {x l : Addr} {ws ys : List V} {Ps : List (List P2)} {pl : List Nat} {t : Int} {S : Nat → Prop} {b : Nat} (D : DescAt K C H0 G x Ps pl t S b) (e : H0 l = some (.lst ws)) : DescAt K C (upd H0 l (.lst ys)) (upd G l (.lst ys)) x Ps pl t S b := by
  obtain ⟨h0, dx, pa, la, ca, xs, ls, h1, h2, h3, ⟨h4, h5, h6⟩, h7, f1, f2, f3⟩ := D
  have eG := h0 _ _ e
  have kk : ∀ a zs, SqT K G a zs → SqT K (upd G l (.lst ys)) a zs := fun a zs h => (sx_upd (p := l)).sqT eG h
  have n1 : x ≠ l := fun z => by rw [z, e] at f1; cases f1
  have n2 : la ≠ l := fun z => by rw [z, e] at f2; cases f2
  have n3 : ca ≠ l := fun z => by rw [z, e] at f3; cases f3
  refine ⟨fun c z hc => ?_, dx, pa, la, ca, xs, ls, by rw [upd_ne n1]; exact h1, dp_keep kk (noL_vls Ps) h2, by rw [upd_ne n2]; exact h3, ⟨by rw [upd_ne n3]; exact h4, keysT_keep kk h5, h6⟩, h7, by rw [upd_ne n1]; exact f1, by rw [upd_ne n2]; exact f2, by rw [upd_ne n3]; exact f3⟩
  by_cases y : c = l
  · subst y
    rw [upd_same] at hc ⊢
    exact hc
  · rw [upd_ne y] at hc ⊢
    exact h0 _ _ hc
def spJP (K : PySem.W.Frag) : Sp := fun vs H Q _ => ∃ (v : V) (Ps : List (List P2)), vs = [v] ∧ Dp K H v (vlsD Ps) ∧ Ps.length ≤ 400 ∧ SvAll Ps ∧ remN Ps (zeros Ps) ≤ 1000000 ∧
  ∀ (H' : Hp) (r : V) (R : List P2), Same H H' → Dp K H' r (vlD R) → Joint Ps.length (pF Ps) R → (R.length : Int) + Ps.length ≤ 1 + remN Ps (zeros Ps) → Q r H'
theorem ok_jp (T : Txt K mg) : FnOk P w K mg base CX0 4 T.f_joint_pairs T.d_joint_pairs ["parts"] (spJP K) := by
  have g_Descent_init := ok_di (P := P) (w := w) (base := base) T
  have g_Descent_go_down := ok_gd (P := P) (w := w) (base := base) T
  have g_Descent_next_capacity := ok_nc (P := P) (w := w) (base := base) T
  refine T.F_joint_pairs.ok sc_joint_pairs (fun vs H Q E h => ?_) (fun cdv A outer s H vs Q E hr h => ?_)
  · obtain ⟨v, Ps, rfl, _⟩ := h
    rfl
  obtain ⟨v, Ps, rfl, hd, h400, hSv, hrem, q⟩ := h
  have hu := hu_of hr
  obtain ⟨pa, xP, rfl, hsP, hall⟩ := dp_tup_inv hd
  refine ⟨_, (pss_cons (ps_set (i := 1) sc_joint_pairs.nd rfl (Or.inl rfl) (pe_make T.mk_Descent g_Descent_init (hr.mono (by omega)) rfl T.g_Descent T.b_Descent_init .nil pass0 (pa_cons (pv 0) pa_nil)))
      (pss_cons (ps_expr (pe_meth (pv 1) T.cl_Descent T.mt_Descent_go_down g_Descent_go_down (hr.mono (by omega)) T.b_Descent_go_down .nil pass0 (pa_cons pe_int pa_nil)))
      (pss_cons (ps_set (i := 2) sc_joint_pairs.nd rfl (Or.inl rfl) (pe_lst (pa_cons (pe_tup (pa_cons pe_int (pa_cons (pe_fld (pv 1) rfl) pa_nil))) pa_nil)))
      (pss_cons (ps_while PassesOwn.never (pt_truth (pe_fld (pv 1) rfl) (by intro _; rfl))
        (pss_cons (ps_set (i := 3) sc_joint_pairs.nd rfl (Or.inl rfl) (pe_meth0 (pv 1) T.cl_Descent T.mt_Descent_next_capacity g_Descent_next_capacity (hr.mono (by omega)) T.b_Descent_next_capacity .nil pass0))
        (pss_cons (ps_expr (pe_meth (pv 1) T.cl_Descent T.mt_Descent_go_down g_Descent_go_down (hr.mono (by omega)) T.b_Descent_go_down .nil pass0 (pa_cons (pv 3) pa_nil)))
        (pss_one (ps_expr (pe_bm PySem.F.plainAttrs_list PySem.F.slot_list_append PySem.F.type_list_append mt_append (pv 2) (pa_cons (pe_tup (pa_cons (pv 3) (pa_cons (pe_fld (pv 1) rfl) pa_nil))) pa_nil)))))))
      (pss_one (ps_ret (pe_callTy (r := rTupS K) call_tupS (by rfl) T.n_tuple (by decide +kernel) (pa_cons (pv 2) pa_nil)))))))), ?_⟩
  refine ⟨_, rfl, fun x dx hx hdx ne => ⟨x, dx, pa, H, Ps, rfl, upd_same, ?_, hx, ?_, h400, hSv, fun H1 D1 => ⟨rfl, ?_⟩⟩⟩
  · intro b o hb
    rw [upd_ne (ne_of_none hb hx), upd_ne (ne_of_none hb hdx)]
    exact hb
  · refine dp_same (fun b o hb => ?_) hd
    rw [upd_ne (ne_of_none hb hx), upd_ne (ne_of_none hb hdx)]
    exact hb
  obtain ⟨_, dx1, pa1, la1, ca1, xs1, ls1, y1, _⟩ := id D1
  have dn0 : Dn Ps.length (pF Ps) 0 (kF (zeros Ps)) := by rw [kF_zero]; exact Dn.start hSv.parts (Int.le_refl _)
  refine ⟨_, rfl, x, dx1, _, rfl, y1, el_gd _ _ _ _, x, 0, H, Ps, zeros Ps, Ps.length, rfl, D1, List.length_replicate .., hSv, dn0, by omega, fun H2 pl2 D2 hl2 dn2 sk2 mv2 => ?_⟩
  obtain ⟨_, dx2, pa2, la2, ca2, xs2, ls2, y2, _⟩ := id D2
  refine ⟨_, rfl, x, _, dx2, _, _, rfl, y2, T.cl_Descent, T.na_Descent_total, el_total _ _ _ _, (by show 2 ≤ sizeLine; decide), fun t ht => ⟨(by show 1 ≤ sizeLine; decide), fun l hl => ?_⟩⟩
  have D3 := (D2.wnew (o := .tup [.int 0, .int (Tot Ps pl2)]) ht).wnew (o := .lst [.ref t]) hl
  have hH0 : ∀ a, H2 a = none → H a = none := fun a h => none_same D2.same h
  have ht0 := hH0 _ ht
  have hlt : l ≠ t := fun z => by rw [z, upd_same] at hl; cases hl
  have hl0 : H l = none := hH0 _ (none_same (same_new ht) hl)
  have s3 : Same H (upd (upd H t (.tup [.int 0, .int (Tot Ps pl2)])) l (.lst [.ref t])) := (same_new ht0).trans (same_new (by rw [upd_ne hlt]; exact hl0))
  have e3 : (upd (upd H t (.tup [.int 0, .int (Tot Ps pl2)])) l (.lst [.ref t])) l = some (.lst [.ref t]) := upd_same
  have d3 : DpAll K (upd (upd H t (.tup [.int 0, .int (Tot Ps pl2)])) l (.lst [.ref t])) [.ref t] (prDs [(0, Tot Ps pl2)]) := .cons (.tup (same_sqT (same_new (by rw [upd_ne hlt]; exact hl0)) (SqT.of upd_same)) (.cons (.int _) (.cons (.int _) .nil))) .nil
  generalize (upd (upd H t (.tup [.int 0, .int (Tot Ps pl2)])) l (.lst [.ref t])) = B3 at s3 e3 d3 D3
  generalize (upd (upd H2 t (.tup [.int 0, .int (Tot Ps pl2)])) l (.lst [.ref t])) = H3 at D3 ⊢
  have J0 := JSo.start hSv dn2 sk2
  have r0 : ∀ {c : Int} {k : List Nat}, Dn Ps.length (pF Ps) c (kF k) → 0 ≤ remN Ps k := fun dn => rem_ge fun i hi => by obtain ⟨p, ep, _⟩ := dn.ent i hi; exact ⟨p, ep⟩
  have rz : remN Ps pl2 ≤ remN Ps (zeros Ps) := by
    rcases mv2 with z | ⟨_, z⟩
    · rw [z]
      exact Int.le_refl _
    · omega
  clear y1 y2 ht hl ht0 hlt hH0 D1 D2 hx hdx
  refine ⟨fun m σ G => ∃ (B : Hp) (pl : List Nat) (c : Int) (R : List P2) (ws : List V) (y3 : Option V), σ = [some (.ref pa), some (.ref x), some (.ref l), y3] ∧ DescAt K T.c_Descent B G x Ps pl (Tot Ps pl) (fun _ => True) Ps.length ∧ pl.length = Ps.length ∧ JSo Ps c pl R ∧ Same H B ∧ B l = some (.lst ws) ∧ DpAll K B ws (prDs R) ∧ (m : Int) = remN Ps pl ∧ (R.length : Int) + remN Ps pl ≤ 1 + remN Ps (zeros Ps),
    ⟨(remN Ps pl2).toNat, B3, pl2, 0, _, _, none, rfl, D3, hl2, J0, s3, e3, d3, Int.toNat_of_nonneg (r0 dn2), by simp; omega⟩, ?_⟩
  clear J0 s3 e3 d3 D3 rz sk2 dn2 hl2 mv2
  rintro m σ G ⟨B, pl, c, R, ws, y3, rfl, D, hl, J, sB, eB, dB, em, hR⟩
  obtain ⟨s0, dx, pa', la, ca, xs, ls, h1, h2, h3, ⟨h4, h5, h6, h7, h8⟩, h9, f1, f2, f3⟩ := id D
  have wl : ws.length = R.length := by rw [dpAll_length dB, prDs, List.length_map]
  have rp := r0 J.dn
  refine ⟨_, rfl, x, _, dx, _, _, rfl, h1, T.cl_Descent, T.na_Descent_climbs, el_climbs _ _ _ _, !xs.isEmpty, .inl ⟨xs, SqL.of h4, rfl⟩, ?_⟩
  cases xs with
  | nil =>
    refine iteF ?_
    have no : ∀ i p q, (pF Ps i)[kF pl i]? = some p → (pF Ps i)[kF pl i + 1]? = some q → False := fun i p q e1 e2 => by
      have := (h7.mem _).mpr ⟨i, p, q, trivial, e1, e2, rfl⟩
      cases h5
      cases this
    have JJ := J.done hSv no
    have rp2 := rem_ge2 fun i hi => by obtain ⟨p, ep, _⟩ := J.dn.ent i hi; exact ⟨p, ep⟩
    refine ⟨_, rfl, l, ws, rfl, .inl ⟨SqL.of (s0 _ _ eB), fun t2 ht2 => ?_⟩⟩
    exact q _ _ R (sB.trans (s0.trans (same_new ht2))) (.tup (SqT.of upd_same) (dpAll_same (s0.trans (same_new ht2)) dB)) JJ (by omega)
  | cons v0 xr =>
  obtain ⟨k0, kr, rfl⟩ : ∃ k ks, ls = k :: ks := by
    cases h5
    exact ⟨_, _, rfl⟩
  obtain ⟨i, p, q', _, ep, eq, rfl, le0⟩ := clm_least h7 (List.mem_cons_self ..) (heap_least h6 rfl)
  refine iteT ?_
  refine ⟨fun σ' G' => ∃ (B : Hp) (pl' : List Nat) (c : Int) (R : List P2) (ws : List V) (y3 : Option V), σ' = [some (.ref pa), some (.ref x), some (.ref l), y3] ∧ DescAt K T.c_Descent B G' x Ps pl' (Tot Ps pl') (fun _ => True) Ps.length ∧ pl'.length = Ps.length ∧ JSo Ps c pl' R ∧ Same H B ∧ B l = some (.lst ws) ∧ DpAll K B ws (prDs R) ∧ remN Ps pl' < (m : Int) ∧ (R.length : Int) + remN Ps pl' ≤ 1 + remN Ps (zeros Ps), ?_, ?_⟩
  · rintro σ' G' ⟨B', pl', c', R', ws', z3, e, D', hl', J', sB', eB', dB', em', hR'⟩
    have := r0 J'.dn
    exact ⟨(remN Ps pl').toNat, by omega, B', pl', c', R', ws', z3, e, D', hl', J', sB', eB', dB', Int.toNat_of_nonneg this, hR'⟩
  refine ⟨_, rfl, x, dx, _, rfl, h1, el_nc _ _ _ _, x, B, Ps, pl, _, _, Ps.length, rfl, D, ⟨i, p, q', trivial, ep, eq⟩, fun mm le => ?_⟩
  have dnm : Dn Ps.length (pF Ps) (Tot Ps pl + mm) (kF pl) := J.dn.more hSv.parts (by
    obtain ⟨⟨a1, a2, a3, _, a5, a6, a7⟩, _⟩ := le
    have := J.sk a1 a2 a3 (pF_lt a5) a5 a6
    have e2 : Tot Ps pl = totF Ps.length (pF Ps) (kF pl) := rfl
    omega)
  refine ⟨_, rfl, x, dx, _, rfl, h1, el_gd _ _ _ _, _, rfl, x, _, B, Ps, pl, Ps.length, rfl, D, hl, hSv, dnm, by omega, fun G2 pl3 D3 hl3 dn3 sk3 mv3 => ?_⟩
  obtain ⟨J3, r3⟩ := J.next hSv le dn3 sk3 mv3
  obtain ⟨s03, dx3, pa3, la3, ca3, xs3, ls3, y1, _⟩ := id D3
  refine ⟨_, rfl, .inl ⟨rfl, _, SqL.of (s03 _ _ eB)⟩, _, rfl, _, rfl, x, _, dx3, _, _, rfl, y1, T.cl_Descent, T.na_Descent_total, el_total _ _ _ _, (by show 2 ≤ sizeLine; decide), fun t ht => ?_⟩
  have ht0 : B t = none := none_same s03 ht
  have D4 := D3.wnew (o := .tup [.int (Tot Ps pl + mm), .int (Tot Ps pl3)]) ht
  have s4 := same_new (o := .tup [.int (Tot Ps pl + mm), .int (Tot Ps pl3)]) ht0
  have e4 := s4 _ _ eB
  have d4 := dpAll_same s4 dB
  have t4 : Dp K (upd B t (.tup [.int (Tot Ps pl + mm), .int (Tot Ps pl3)])) (.ref t) (prD (Tot Ps pl + mm, Tot Ps pl3)) := .tup (SqT.of upd_same) (.cons (.int _) (.cons (.int _) .nil))
  have sB4 := sB.trans s4
  generalize (upd B t (.tup [.int (Tot Ps pl + mm), .int (Tot Ps pl3)])) = B4 at D4 e4 d4 t4 sB4
  generalize (upd G2 t (.tup [.int (Tot Ps pl + mm), .int (Tot Ps pl3)])) = G4 at D4 ⊢
  have D5 := D4.wlst (ys := ws ++ [.ref t]) e4
  have kk : ∀ a zs, SqT K B4 a zs → SqT K (upd B4 l (.lst (ws ++ [.ref t]))) a zs := fun a zs h => (sx_upd (p := l)).sqT e4 h
  refine ⟨l, ws, _, rfl, rfl, D4.same _ _ e4, ?_, ?_⟩
  · rw [wl, sizeLine_eq]
    omega
  refine ⟨_, pl3, _, _, _, _, rfl, D5, hl3, J3, ?_, upd_same, ?_, by omega, ?_⟩
  · intro b o hb
    rw [upd_ne (ne_of_none hb hl0)]
    exact sB4 _ _ hb
  · rw [prDs, List.map_append]
    exact dpAll_append (dpAll_keep kk (noLs_prV _) d4) (.cons (dp_keep kk (noLs_one _) t4) .nil)
  · rw [List.length_append, List.length_singleton]
    omega
end
/-! block V22u: _law_value_at, _law_gaps, _law_random_start, starts told (behind bV20f; with Jo; as bV20u, bV21s) -/
abbrev Asc (gs : List Int) : Prop := gs.Pairwise fun a b => a < b
def spGaps : Sp := fun vs H Q _ => ∃ (p : Addr) (m t : Nat), vs = [.ref p, .int (t : Int)] ∧ Pot H p m ∧ m + 2 * t ≤ 1099511627776 ∧ 1 ≤ t ∧ t ≤ 100 ∧
  ∀ (H' : Hp) (l : Addr) (gs : List Int), Sx p H H' → Pot H' p (m + 2 * t) → H' l = some (.lst (gs.map V.int)) → H l = none → gs.length = t → Asc gs → (∀ g ∈ gs, 0 ≤ g ∧ g ≤ 41 * (t : Int)) → gs.head? = some 0 → Q (.ref l) H'
/-- valleys as they are drawn -/
structure Rv (most : Nat) (ps : List P2) : Prop where
  one : 1 ≤ ps.length
  len : ps.length ≤ most
  st : Strict ps
  bd : ∀ p ∈ ps, -2000000000000000000000000000000000000000000000000000000000000 ≤ p.1 ∧ p.1 ≤ 2000000000000000000000000000000000000000000000000000000000000 ∧ -2000000000000000000000000000000000000000000000000000000000000 ≤ p.2 ∧ p.2 ≤ 2000000000000000000000000000000000000000000000000000000000000
def spRv (K : PySem.W.Frag) : Sp := fun vs H Q _ => ∃ (p : Addr) (m t : Nat), vs = [.ref p, .int (t : Int)] ∧ Pot H p m ∧ m + 4 * t + 10 ≤ 1099511627776 ∧ 1 ≤ t ∧ t ≤ 100 ∧
  ∀ (H' : Hp) (r : V) (ps : List P2), Sx p H H' → Pot H' p (m + 4 * t + 10) → Dp K H' r (.tuple (prDs ps)) → Rv t ps → Q r H'
def spRvS (K : PySem.W.Frag) : Sp := fun vs H Q _ => ∃ (p : Addr) (m t : Nat), vs = [.ref p, .int (t : Int)] ∧ Pot H p m ∧ m + 4 * t + 10 ≤ 1099511627776 ∧ 1 ≤ t ∧ t ≤ 100 ∧
  ∀ (H' : Hp) (r : V) (ps : List P2), Sx p H H' → Pot H' p (m + 4 * t + 10) → Dp K H' r (.tuple (prDs ps)) → Rv t ps → Sv ps → Q r H'
theorem asc_snoc {gs : List Int} {x y : Int} (h : Asc gs) (e : gs.getLast? = some x) (l : x < y) : Asc (gs ++ [y]) := by
  refine List.pairwise_append.mpr ⟨h, by simp, fun a ha b hb => ?_⟩
  obtain rfl := List.mem_singleton.mp hb
  obtain ⟨r, rfl⟩ := List.getLast?_eq_some_iff.mp e
  rcases List.mem_append.mp ha with z | z
  · have := (List.pairwise_append.mp h).2.2 a z x (by simp)
    omega
  · rw [List.mem_singleton.mp z]
    exact l
theorem atI_lastZ {ns : List Int} {z : Int} (h : ns.getLast? = some z) : atI (ns.map V.int) (-1) = some (.int z) := by
  obtain ⟨r, rfl⟩ := List.getLast?_eq_some_iff.mp h
  rw [List.map_append]
  exact L2.atI_last _ _
theorem rv_of {first high : Int} {cs ds : List Int} {t most : Nat} (h1 : cs.length = t) (h2 : ds.length = t) (a1 : Asc cs) (a2 : Asc ds) (b1 : ∀ g ∈ cs, 0 ≤ g ∧ g ≤ 41 * (t : Int)) (b2 : ∀ g ∈ ds, 0 ≤ g ∧ g ≤ 41 * (t : Int)) (t1 : 1 ≤ t) (t2 : t ≤ most) (t3 : most ≤ 100)
    (f1 : -1000000000000000000000000000000000000000000000000000000000000 ≤ first ∧ first ≤ 1000000000000000000000000000000000000000000000000000000000000) (f2 : -1000000000000000000000000000000000000000000000000000000000000 ≤ high ∧ high ≤ 1000000000000000000000000000000000000000000000000000000000000) :
    Rv most ((cs.zip ds).map fun z => (first + z.1, high - z.2)) := by
  refine ⟨by rw [List.length_map, List.length_zip]; omega, by rw [List.length_map, List.length_zip]; omega, ?_, ?_⟩
  · rw [Strict, List.pairwise_map, List.pairwise_iff_getElem]
    intro i j hi hj hij
    rw [List.length_zip] at hi hj
    rw [List.getElem_zip, List.getElem_zip]
    have y1 := (List.pairwise_iff_getElem.mp a1) i j (by omega) (by omega) hij
    have y2 := (List.pairwise_iff_getElem.mp a2) i j (by omega) (by omega) hij
    dsimp only
    omega
  · intro p hp
    obtain ⟨z, hz, rfl⟩ := List.mem_map.mp hp
    have y1 := b1 z.1 (List.of_mem_zip hz).1
    have y2 := b2 z.2 (List.of_mem_zip hz).2
    dsimp only
    omega
section
variable {P : Program} {w : World} {K : PySem.W.Frag} {mg : Str → Option Value} {base : Heap}
theorem ok_gaps (T : Txt K mg) : FnOk P w K mg base CX0 2 T.f__law_gaps T.d__law_gaps ["_law_source_here", "_law_total"] spGaps := by
  have g__law_draw := ok_take (P := P) (w := w) (base := base) T
  refine T.F__law_gaps.ok sc__law_gaps (fun vs H Q E h => ?_) (fun cdv A outer s H vs Q E hr h => ?_)
  · obtain ⟨p, m, t, rfl, _⟩ := h
    rfl
  obtain ⟨p, m, t, rfl, hp, hm, t1, t2, q⟩ := h
  refine ⟨_, (pss_cons (ps_set (i := 2) sc__law_gaps.nd rfl (Or.inl rfl) (pe_lst (pa_cons pe_int pa_nil)))
      (pss_cons (ps_for PassesOwn.never rfl (pi_range1 rfl T.n_range (pa_cons (pe_op op_sub (pv 1) pe_int) pa_nil)) (pg_name (i := 3) sc__law_gaps.nd rfl (Or.inl rfl))
        (pss_one (ps_expr (pe_bm PySem.F.plainAttrs_list PySem.F.slot_list_append PySem.F.type_list_append mt_append (pv 2) (pa_cons (pe_op op_add (pe_op op_add (pe_ix (r := rIxL K) ix_list (pv 2) (pe_un un_neg pe_int) (fun _ _ => rfl)) pe_int) (pe_call g__law_draw (hr.mono (by omega)) rfl T.m__law_draw T.F__law_draw.kp T.b__law_draw .nil pass0 (pa_cons (pv 0) (pa_cons (pe_ix (r := rIxL K) ix_list (pe_lst (pa_cons pe_int (pa_cons pe_int (pa_cons pe_int (pa_cons pe_int pa_nil))))) (pe_call g__law_draw (hr.mono (by omega)) rfl T.m__law_draw T.F__law_draw.kp T.b__law_draw .nil pass0 (pa_cons (pv 0) (pa_cons pe_int pa_nil))) (fun _ _ => rfl)) pa_nil)))) pa_nil)))))
      (pss_one (ps_ret (pv 2))))), ?_⟩
  obtain ⟨l0, hl0⟩ := hp.lst
  refine ⟨(by show 1 ≤ sizeLine; decide), fun l hl => ?_⟩
  have nlp : l ≠ p := fun z => by rw [z, hl0] at hl; cases hl
  refine ⟨_, rfl, _, _, rfl, rfl, _, rfl, by omega, by omega, ?_⟩
  refine for_range (lo := 0) (n := ((t : Int) - 1).toNat) (fun i σ G => ∃ (y3 : Option V) (gs : List Int) (x : Int), σ = [some (.ref p), some (.int (t : Int)), some (.ref l), y3] ∧ (∀ b o, b ≠ p → H b = some o → G b = some o) ∧ Pot G p (m + 2 * i) ∧
    G l = some (.lst (gs.map V.int)) ∧ gs.length = i + 1 ∧ gs.getLast? = some x ∧ Asc gs ∧ (∀ g ∈ gs, 0 ≤ g ∧ g ≤ 41 * (i : Int)) ∧ 0 ≤ x ∧ x ≤ 41 * (i : Int) ∧ gs.head? = some 0) ⟨none, [0], 0, rfl, fun b o _ h => same_new hl _ _ h, hp.same (same_new hl), upd_same, rfl, rfl, by simp, by simp, by omega, by omega, rfl⟩ ?_ ?_
  · rintro i σ G hi ⟨y3, gs, x, rfl, sG, hpG, gl, glen, glast, gasc, gbd, x0, x1, gh⟩
    obtain ⟨lg, hlg⟩ := hpG.lst
    refine ⟨_, rfl, ⟨.inl ⟨rfl, _, SqL.of gl⟩, _, rfl, _, rfl, l, _, _, _, rfl, rfl, SqL.of gl, atI_lastZ glast, _, _, rfl, rfl, _, rfl, (by show 4 ≤ sizeLine; decide), fun u hu => ?_⟩⟩
    have nup : u ≠ p := fun z => by rw [z, hlg] at hu; cases hu
    have nul : u ≠ l := fun z => by rw [z, gl] at hu; cases hu
    refine ⟨_, rfl, p, m + 2 * i, 4, rfl, hpG.same (same_new hu), by omega, by decide, by decide, fun G1 r s1 hp1 r0 r1 => ?_⟩
    obtain ⟨z, hz, ez⟩ := atI_int (ns := [1, 2, 6, 40]) r0 r1
    have z1 : 1 ≤ z ∧ z ≤ 40 := by
      simp only [List.mem_cons, List.not_mem_nil, or_false] at hz
      omega
    have eu := s1 u _ nup upd_same
    have gl1 : G1 l = some (.lst (gs.map V.int)) := s1 l _ nlp (by rw [upd_ne nul.symm]; exact gl)
    refine ⟨u, _, _, _, rfl, rfl, SqL.of eu, ez, p, m + 2 * i + 1, z, rfl, hp1, by omega, by omega, Nat.lt_of_le_of_lt (show z.natAbs ≤ 40 by omega) (by decide), fun G2 r2 s2 hp2 c0 c1 => ?_⟩
    have gl2 := s2 l _ nlp gl1
    refine ⟨_, _, rfl, rfl, l, _, _, rfl, rfl, gl2, by rw [List.length_map, sizeLine_eq]; omega, ?_⟩
    refine ⟨_, gs ++ [x + 1 + r2], x + 1 + r2, rfl, fun b o n h => ?_, ?_, ?_, by simp [glen], by simp, asc_snoc gasc glast (by omega), ?_, by omega, by omega, by rw [List.head?_append, gh]; rfl⟩
    · have nb : b ≠ l := fun e => by rw [e, hl] at h; cases h
      have nu : b ≠ u := fun e => by
        have := sG b o n h
        rw [e, hu] at this
        cases this
      rw [upd_ne nb]
      exact s2 b _ n (s1 b _ n (by rw [upd_ne nu]; exact sG b o n h))
    · obtain ⟨a1, a2, a3, p1, p2⟩ := hp2.mono (show m + 2 * i + 1 + 1 ≤ m + 2 * (i + 1) by omega)
      exact ⟨a1, a2, a3, by rw [upd_ne nlp.symm]; exact p1, p2⟩
    · rw [upd_same, List.map_append]
      rfl
    · intro g hg
      rcases List.mem_append.mp hg with y | y
      · have := gbd g y
        omega
      · rw [List.mem_singleton.mp y]
        omega
  · rintro σ G ⟨y3, gs, x, rfl, sG, hpG, gl, glen, glast, gasc, gbd, x0, x1, gh⟩
    exact ⟨_, rfl, q G l gs sG (hpG.mono (by omega)) gl hl (by omega) gasc (fun g hg => by have := gbd g hg; omega) gh⟩
theorem ok_rst (T : Txt K mg) : FnOk P w K mg base CX0 3 T.f__law_random_start T.d__law_random_start ["_law_source_here", "_law_most"] (spRvS K) := by
  have g__law_draw := ok_take (P := P) (w := w) (base := base) T
  have g__law_gaps := ok_gaps (P := P) (w := w) (base := base) T
  refine T.F__law_random_start.ok sc__law_random_start (fun vs H Q E h => ?_) (fun cdv A outer s H vs Q E hr h => ?_)
  · obtain ⟨p, m, t, rfl, _⟩ := h
    rfl
  obtain ⟨p, m, t, rfl, hp, hm, t1, t2, q⟩ := h
  refine ⟨_, (pss_cons (ps_set (i := 2) sc__law_random_start.nd rfl (Or.inl rfl) (pe_op op_add pe_int (pe_call g__law_draw (hr.mono (by omega)) rfl T.m__law_draw T.F__law_draw.kp T.b__law_draw .nil pass0 (pa_cons (pv 0) (pa_cons (pv 1) pa_nil)))))
      (pss_cons (ps_par (i := 3) (j := 4) (by rfl) sc__law_random_start.nd rfl rfl (by decide) rfl rfl (pa_cons (pe_call g__law_gaps (hr.mono (by omega)) rfl T.m__law_gaps T.F__law_gaps.kp T.b__law_gaps .nil pass0 (pa_cons (pv 0) (pa_cons (pv 2) pa_nil))) (pa_cons (pe_call g__law_gaps (hr.mono (by omega)) rfl T.m__law_gaps T.F__law_gaps.kp T.b__law_gaps .nil pass0 (pa_cons (pv 0) (pa_cons (pv 2) pa_nil))) pa_nil)) (by rfl))
      (pss_cons (ps_set (i := 5) sc__law_random_start.nd rfl (Or.inr rfl) (pe_ix (r := rIxL K) ix_list (pe_lst (pa_cons pe_int (pa_cons pe_int (pa_cons pe_int (pa_cons pe_int (pa_cons pe_int pa_nil)))))) (pe_call g__law_draw (hr.mono (by omega)) rfl T.m__law_draw T.F__law_draw.kp T.b__law_draw .nil pass0 (pa_cons (pv 0) (pa_cons pe_int pa_nil))) (fun _ _ => rfl)))
      (pss_one (ps_ret (pe_callTy (r := rTupS K) call_tupS (by rfl) T.n_tuple (by decide +kernel) (pa_cons (pe_lc (own := [("_law_bound", 6), ("_law_depth", 7)]) (g := (gTup K 2 (gCons (gName 6) (gCons (gName 7) gNil)))) (by rfl) sc__law_random_start.nd (pi_zip (by rfl) T.n_zip (pa_cons (pv 3) (pa_cons (pv 4) pa_nil))) (blkOk_by (N := N__law_random_start) (sc := (defScope s__law_random_start)) (by decide +kernel)) (fun _ _ _ _ _ => (pg_tup (by rfl) (pgs_cons (pg_name (i := 6) sc__law_random_start.nd rfl (Or.inl rfl)) (pgs_cons (pg_name (i := 7) sc__law_random_start.nd rfl (Or.inl rfl)) pgs_nil)))) (fun _ _ _ _ _ => pts_nil) (fun _ _ _ _ _ => (pe_tup (pa_cons (pv 6) (pa_cons (pe_op op_sub (pe_op op_sub pe_int (pv 5)) (pv 7)) pa_nil))))) pa_nil))))))), ?_⟩
  refine ⟨_, rfl, _, rfl, p, m, t, rfl, hp, by omega, by omega, Nat.lt_of_le_of_lt (show ((t : Int)).natAbs ≤ 100 by omega) (by decide), fun H1 r s1 hp1 r0 r1 => ?_⟩
  obtain ⟨n, en⟩ : ∃ n : Nat, 1 + r = (n : Int) := ⟨(1 + r).toNat, by omega⟩
  refine ⟨_, _, rfl, rfl, ?_⟩
  show tSeq _ _ _ [some (.ref p), some (.int (t : Int)), some (.int (1 + r)), none, none, none, none, none] H1
  rw [en]
  refine ⟨_, rfl, _, rfl, p, m + 1, n, rfl, hp1, by omega, by omega, by omega, fun H2 lc cs s2 hp2 ec nc lcs asc bc ch => ?_⟩
  obtain ⟨l1, hl1⟩ := hp1.lst
  have ncp : lc ≠ p := fun z => by rw [z, hl1] at nc; cases nc
  refine ⟨_, rfl, _, rfl, p, m + 1 + 2 * n, n, rfl, hp2, by omega, by omega, by omega, fun H3 ld ds s3 hp3 ed nd lds asd bd dh => ?_⟩
  obtain ⟨l2, hl2⟩ := hp2.lst
  have ndp : ld ≠ p := fun z => by rw [z, hl2] at nd; cases nd
  have ec3 := s3 lc _ ncp ec
  have S3 := s1.trans (s2.trans s3)
  refine ⟨_, _, rfl, ?_⟩
  -- the first usage
  refine ⟨(by show 5 ≤ sizeLine; decide), fun u hu => ?_⟩
  obtain ⟨l3, hl3⟩ := hp3.lst
  have nup : u ≠ p := fun z => by rw [z, hl3] at hu; cases hu
  refine ⟨_, rfl, p, m + 1 + 2 * n + 2 * n, 5, rfl, hp3.same (same_new hu), by omega, by decide, by decide, fun H5 k s4 hp5 k0 k1 => ?_⟩
  obtain ⟨first, hf, ef⟩ := atI_int (ns := [0, 0, 0, 1, 4]) k0 k1
  refine ⟨u, _, _, _, rfl, rfl, SqL.of (s4 u _ nup upd_same), ef, ?_⟩
  have S5 : Sx p H H5 := S3.trans ((sx_new hu).trans s4)
  have ec5 := s4 lc _ ncp (same_new hu _ _ ec3)
  have ed5 := s4 ld _ ndp (same_new hu _ _ ed)
  have fb : -1000000000000000000000000000000000000000000000000000000000000 ≤ first ∧ first ≤ 1000000000000000000000000000000000000000000000000000000000000 := by
    simp only [List.mem_cons, List.not_mem_nil, or_false] at hf
    omega
  have RV := rv_of (first := 0) (high := 0 - first) (cs := cs) (ds := ds) (t := n) (most := t) lcs lds asc asd bc bd (by omega) (by omega) (by omega) (by omega) (by omega)
  have SV : Sv ((cs.zip ds).map fun z => (0 + z.1, 0 - first - z.2)) := by
    refine ⟨RV.st, ?_⟩
    cases cs with
    | nil => cases ch
    | cons c0 cr =>
    cases ds with
    | nil => cases dh
    | cons d0 dr =>
    cases ch
    cases dh
    refine ⟨0 - first - 0, _, rfl, ?_⟩
    simp only [List.mem_cons, List.not_mem_nil, or_false] at hf
    omega
  have zl : (cs.zip ds).length = n := by rw [List.length_zip]; omega
  refine ⟨_, rfl, _, rfl, lc, ld, _, _, rfl, SqL.of ec5, SqL.of ed5, fun C hC => ?_⟩
  have nC : ∀ {b : Addr} {o : HO}, H5 b = some o → b ≠ C := fun e z => by rw [z, hC] at e; cases e
  refine lc_it (walk_zip (xs := cs.map V.int) (ys := ds.map V.int) (n := n) (by rw [List.length_map, List.length_map]; omega)) (fun i F => Same H5 F ∧ ∃ ws : List V, F C = some (.lst ws) ∧ DpAll K F ws (prDs (((cs.zip ds).take i).map fun z => (0 + z.1, 0 - first - z.2)))) ⟨same_new hC, [], upd_same, .nil⟩ (fun i F _ ⟨s, _⟩ => ⟨s.seq (SqL.of ec5), s.seq (SqL.of ed5)⟩) ?_ ?_
  · rintro i z F F' hi ⟨s6, ws, eC, hw⟩ ⟨t', x, y, rfl, ht', rfl, hx, hy⟩
    dsimp only at hx hy
    rw [List.getElem?_map] at hx hy
    obtain ⟨c, ec, rfl⟩ := Option.map_eq_some_iff.mp hx
    obtain ⟨d, ed, rfl⟩ := Option.map_eq_some_iff.mp hy
    have ez : (cs.zip ds)[i]? = some (c, d) := List.getElem?_zip_eq_some.mpr ⟨ec, ed⟩
    have etk : (cs.zip ds).take (i + 1) = (cs.zip ds).take i ++ [(c, d)] := by rw [List.take_add_one, ez]; rfl
    have s7 : Same F (upd F t' (.tup [.int c, .int d])) := same_new ht'
    have kt : SqT K (upd F t' (.tup [.int c, .int d])) t' [.int c, .int d] := SqT.of upd_same
    have eC7 := s7 _ _ eC
    generalize (upd F t' (.tup [.int c, .int d])) = F2 at s7 kt eC7 ⊢
    refine ⟨t', _, rfl, kt, rfl, _, _, rfl, _, _, rfl, rfl, rfl, ?_⟩
    unfold tYes
    refine iteT ?_
    refine ⟨_, rfl, _, rfl, _, _, rfl, rfl, _, rfl, _, _, rfl, rfl, (by show 2 ≤ sizeLine; decide), fun v hv => ?_⟩
    have s8 : Same F2 (upd F2 v (.tup [.int c, .int (0 - first - d)])) := same_new hv
    have dv : Dp K (upd F2 v (.tup [.int c, .int (0 - first - d)])) (.ref v) (prD (0 + c, 0 - first - d)) := by
      have e0 : (0 : Int) + c = c := by omega
      rw [e0]
      exact .tup (SqT.of upd_same) (.cons (.int _) (.cons (.int _) .nil))
    have eC8 := s8 _ _ eC7
    generalize (upd F2 v (.tup [.int c, .int (0 - first - d)])) = F3 at s8 dv eC8 ⊢
    have wl : ws.length ≤ 100 := by
      have := dpAll_length hw
      rw [prDs, List.length_map, List.length_map, List.length_take] at this
      omega
    have kk : ∀ b zs, SqT K F3 b zs → SqT K (upd F3 C (.lst (ws ++ [.ref v]))) b zs := fun b zs h => (sx_upd (p := C)).sqT eC8 h
    refine ⟨ws, eC8, small1000 (by omega), fun b o e => by rw [upd_ne (nC e)]; exact s8 _ _ (s7 _ _ (s6 _ _ e)), _, upd_same, ?_⟩
    rw [etk, List.map_append, prDs, List.map_append]
    exact dpAll_append (dpAll_keep kk (noLs_prV _) (dpAll_same (s7.trans s8) hw)) (.cons (dp_keep kk (noLs_one _) dv) .nil)
  · rintro F ⟨s6, ws, eC, hw⟩
    rw [← zl, List.take_length] at hw
    refine ⟨C, ws, rfl, .inl ⟨SqL.of eC, fun t' ht' => ?_⟩⟩
    have s7 : Same F (upd F t' (.tup ws)) := same_new ht'
    exact q _ _ _ (S5.trans (Same.sx (s6.trans s7))) ((hp5.same (s6.trans s7)).mono (by omega)) (.tup (SqT.of upd_same) (dpAll_same s7 hw)) RV SV
end
/-! block V22p: is_start_valleys, _check_parts, joint_lows, joint_valleys over any data (behind bV21l, bDesc) -/
def startB : PyData → Bool
  | .tuple ds => valB (.tuple ds) && (match ds with | d :: _ => decide ((toP2 d).1 = 0) && decide ((toP2 d).2 ≤ 0) | [] => false)
  | _ => false
theorem startB_val {d : PyData} (h : startB d = true) : valB d = true := by
  cases d with
  | tuple ds =>
    simp only [startB, Bool.and_eq_true] at h
    exact h.1
  | _ => cases h
theorem startB_iff {d : PyData} : startB d = true ↔ ∃ ps : List P2, d = .tuple (prDs ps) ∧ ps.length ≤ 400 ∧ Sv ps := by
  constructor
  · intro h
    obtain ⟨ps, rfl, h1, h2, h3⟩ := valB_iff.mp (startB_val h)
    refine ⟨ps, rfl, h2, h3, ?_⟩
    cases ps with
    | nil => simp at h1
    | cons p r =>
      simp only [startB, prDs, List.map_cons, toP2_prD, Bool.and_eq_true, decide_eq_true_eq] at h
      exact ⟨p.2, r, by rw [← of_decide_eq_true h.2.1], of_decide_eq_true h.2.2⟩
  · rintro ⟨ps, rfl, h2, hs⟩
    obtain ⟨l, W, e, l0⟩ := hs.hd
    have hv : valB (.tuple (prDs ps)) = true := valB_iff.mpr ⟨ps, rfl, by rw [e]; simp, h2, hs.st⟩
    rw [e] at hv ⊢
    show (valB (.tuple (prDs ((0, l) :: W))) && (decide ((0 : Int) = 0) && decide (l ≤ 0))) = true
    rw [hv, decide_eq_true l0]
    rfl
def partsB : PyData → Bool
  | .tuple ds => decide (ds.length ≤ 400) && ds.all startB
  | _ => false
theorem all_starts : ∀ {ds : List PyData}, ds.all startB = true → ∃ Ps : List (List P2), ds = Ps.map vlD ∧ ∀ ps ∈ Ps, ps.length ≤ 400 ∧ Sv ps
  | [], _ => ⟨[], rfl, by simp⟩
  | d :: ds, h => by
    simp only [List.all_cons, Bool.and_eq_true] at h
    obtain ⟨ps, rfl, h1, h2⟩ := startB_iff.mp h.1
    obtain ⟨Ps, rfl, hP⟩ := all_starts h.2
    refine ⟨ps :: Ps, rfl, fun q hq => ?_⟩
    rcases List.mem_cons.mp hq with z | z
    · rw [z]
      exact ⟨h1, h2⟩
    · exact hP q z
structure PartsOk (Ps : List (List P2)) : Prop where
  len : Ps.length ≤ 400
  sv : SvAll Ps
  each : ∀ ps ∈ Ps, ps.length ≤ 400
theorem partsB_iff {d : PyData} : partsB d = true ↔ ∃ Ps, d = vlsD Ps ∧ PartsOk Ps := by
  constructor
  · intro h
    cases d with
    | tuple ds =>
      simp only [partsB, Bool.and_eq_true, decide_eq_true_eq] at h
      obtain ⟨Ps, rfl, hP⟩ := all_starts h.2
      exact ⟨Ps, rfl, by simpa using h.1, fun ps hp => (hP ps hp).2, fun ps hp => (hP ps hp).1⟩
    | _ => cases h
  · rintro ⟨Ps, rfl, h⟩
    simp only [partsB, Bool.and_eq_true, decide_eq_true_eq]
    refine ⟨by rw [List.length_map]; exact h.len, ?_⟩
    rw [List.all_eq_true]
    intro d hd
    obtain ⟨ps, hp, rfl⟩ := List.mem_map.mp hd
    exact startB_iff.mpr ⟨ps, rfl, h.each ps hp, h.sv ps hp⟩
theorem sumN_const {n : Nat} {c : Int} : sumN n (fun _ => c) = n * c := by
  induction n with
  | zero => simp [sumN]
  | succ n ih =>
    show sumN n _ + c = _
    rw [ih, Int.natCast_succ, Int.add_mul, Int.one_mul]
theorem PartsOk.rem {Ps : List (List P2)} (h : PartsOk Ps) : remN Ps (zeros Ps) ≤ 1000000 := by
  unfold remN
  have := sumN_mono (n := Ps.length) (f := fun i => ((pF Ps i).length : Int) - (kF (zeros Ps) i : Int)) (g := fun _ => 400) fun i hi => by
    rw [pF_at (List.getElem?_eq_getElem hi)]
    have := h.each _ (List.getElem_mem hi)
    omega
  rw [sumN_const] at this
  have := h.len
  omega
def spChl22 (K : PySem.W.Frag) (CM : Addr) : Sp := fun vs H Q E => ∃ (v : V) (R : List P2), vs = [v] ∧ Dp K H v (.tuple (prDs R)) ∧ (R.length ≤ 400 → Q v H) ∧ (400 < R.length → ∀ dx, H dx = none → E (.ref CM) (some dx) (upd H dx (.xd [("limit", .int 400)])))
def spIsS (K : PySem.W.Frag) : Sp := fun vs H Q _ => ∃ (v : V) (d : PyData), vs = [v] ∧ Dp K H v d ∧ ∀ H', Same H H' → Q (.bl (startB d)) H'
def spChkP (K : PySem.W.Frag) (C : Addr) : Sp := fun vs H Q E => ∃ (v : V) (d : PyData), vs = [v] ∧ Dp K H v d ∧ (partsB d = true → ∀ H', Same H H' → Q .non H') ∧ (partsB d = false → ∀ H', Same H H' → E (.ref C) none H')
@[irreducible] def spJL (K : PySem.W.Frag) (CV CN : Addr) : Sp := fun vs H Q E => ∃ (v x : V) (d e : PyData), vs = [v, x] ∧ Dp K H v d ∧ Dp K H x e ∧ (partsB d = false → ∀ H', Same H H' → E (.ref CV) none H') ∧ (partsB d = true → numB e = false → badN K CN H E x) ∧
  (∀ c, partsB d = true → e = .int c → c < 0 → badN K CN H E x) ∧
  (∀ Ps c, d = vlsD Ps → e = .int c → PartsOk Ps → numB e = true → 0 ≤ c → ∀ (H' : Hp) (r : V) (L : List Int), Same H H' → Dp K H' r (.tuple (L.map .int)) → L.length = Ps.length → LowAt Ps.length (pF Ps) c (fI L) → Q r H')
@[irreducible] def spJV (K : PySem.W.Frag) (CV CM : Addr) : Sp := fun vs H Q E => ∃ (v : V) (d : PyData), vs = [v] ∧ Dp K H v d ∧ (partsB d = false → ∀ H', Same H H' → E (.ref CV) none H') ∧
  (∀ Ps R, d = vlsD Ps → PartsOk Ps → Joint Ps.length (pF Ps) R → (R.length : Int) + Ps.length ≤ 1 + remN Ps (zeros Ps) → (R.length ≤ 400 → ∀ (H' : Hp) (r : V), Same H H' → Dp K H' r (vlD R) → Q r H') ∧ (400 < R.length → ∀ (H' : Hp) (dx : Addr), Same H H' → H' dx = none → E (.ref CM) (some dx) (upd H' dx (.xd [("limit", .int 400)]))))
section
variable {P : Program} {w : World} {K : PySem.W.Frag} {mg : Str → Option Value} {base : Heap}
theorem ok_many22 (T : Txt K mg) : FnOk P w K mg base CX0 1 T.f_TooMany_init T.d_TooMany_init ["self", "limit"] (spKeep T.c_TooMany "limit") := by
  refine T.F_TooMany_init.ok sc_TooMany_init (fun vs H Q E h => ?_) (fun cdv A outer s H vs Q E hr h => ?_)
  · obtain ⟨a, y, rfl, _⟩ := h
    rfl
  obtain ⟨a, y, rfl, ha, q⟩ := h
  refine ⟨_, (pss_one (ps_keepF (pv 0) (pv 1))), ?_⟩
  exact ⟨_, rfl, _, rfl, a, T.c_TooMany, rfl, T.ox_TooMany, T.no_TooMany, ha, fun dx n ne => q dx n ne⟩
theorem ok_chl22 (T : Txt K mg) : FnOk P w K mg base (L2.CX P w) 3 T.f_checked_length T.d_checked_length ["pairs"] (spChl22 K T.c_TooMany) := by
  have g_TooMany_init := ok_many22 (P := P) (w := w) (base := base) T
  refine T.F_checked_length.okX sc_checked_length (fun vs H Q E h => ?_) (fun cdv A outer s H vs Q E hr h => ?_)
  · obtain ⟨v, R, rfl, _⟩ := h
    rfl
  obtain ⟨v, R, rfl, hd, q, qe⟩ := h
  refine ⟨_, (pss_cons (ps_if (pt_cmpR op_gt (pe_callB (r := rLenS K) call_lenS (by rfl) T.n_len (by decide +kernel) (pa_cons (pv 0) pa_nil)) (pe_glob (v := .int 400) rfl T.g_MAX_VALLEYS ⟨_, rfl⟩) (nomark _)) (pss_one (ps_raise rfl (takes_of rfl rfl rfl rfl) (pmk_keep T.ox_TooMany T.iC_TooMany T.tI_TooMany g_TooMany_init (hr.mono (by omega)) T.b_TooMany_init pass0 rfl T.g_TooMany (pa_cons (pe_glob (v := .int 400) rfl T.g_MAX_VALLEYS ⟨_, rfl⟩) pa_nil)))) pss_nil)
      (pss_one (ps_ret (pv 0)))), ?_⟩
  obtain ⟨a, xs, rfl, hs, hall⟩ := dp_tup_inv hd
  have hl : xs.length = R.length := by rw [dpAll_length hall, prDs, List.length_map]
  refine ⟨_, rfl, a, _, rfl, .inr hs, _, _, rfl, rfl, _, rfl, ?_⟩
  refine ite2 (fun z => ?_) (fun z => ?_)
  · have z' := of_decide_eq_true z
    exact ⟨_, rfl, fun dx hx => qe (by omega) dx hx⟩
  · have z' : ¬ (400 : Int) < ((xs.length : Nat) : Int) := fun y => z (decide_eq_true y)
    exact ⟨_, rfl, q (by omega)⟩
theorem ok_iss (T : Txt K mg) : FnOk P w K mg base CX0 4 T.f_is_start_valleys T.d_is_start_valleys ["value"] (spIsS K) := by
  have g_is_valleys := ok_isv (P := P) (w := w) (base := base) T
  refine T.F_is_start_valleys.ok sc_is_start_valleys (fun vs H Q E h => ?_) (fun cdv A outer s H vs Q E hr h => ?_)
  · obtain ⟨v, d, rfl, _⟩ := h
    rfl
  obtain ⟨v, d, rfl, hd, q⟩ := h
  refine ⟨_, (pss_one (ps_ret (pe_and (pe_call g_is_valleys (hr.mono (by omega)) rfl T.m_is_valleys T.F_is_valleys.kp T.b_is_valleys .nil pass0 (pa_cons (pv 0) pa_nil)) (pe_and (pe_cmpR op_eq (pe_ix (r := rIxT K) ix_tup (pe_ix (r := rIxT K) ix_tup (pv 0) pe_int (fun _ _ => rfl)) pe_int (fun _ _ => rfl)) pe_int (nomark _)) (pe_one (pe_cmpR op_le (pe_ix (r := rIxT K) ix_tup (pe_ix (r := rIxT K) ix_tup (pv 0) pe_int (fun _ _ => rfl)) pe_int (fun _ _ => rfl)) pe_int (nomark _))))))), ?_⟩
  refine ⟨_, rfl, v, d, rfl, hd, fun H1 s1 => ⟨_, rfl, ?_⟩⟩
  cases ev : valB d with
  | false =>
    refine iteF ?_
    have e : startB d = false := by
      cases es : startB d with
      | false => rfl
      | true =>
        rw [startB_val es] at ev
        cases ev
    rw [e] at q
    exact q _ s1
  | true =>
  refine iteT ?_
  obtain ⟨ps, rfl, h1, h2, h3⟩ := valB_iff.mp ev
  cases ps with
  | nil => simp at h1
  | cons p r =>
  have es : startB (.tuple (prDs (p :: r))) = (decide (p.1 = 0) && decide (p.2 ≤ 0)) := by
    have : startB (.tuple (prDs (p :: r))) = (valB (.tuple (prDs (p :: r))) && (decide (p.1 = 0) && decide (p.2 ≤ 0))) := rfl
    rw [this, ev, Bool.true_and]
  rw [es] at q
  obtain ⟨a, xs, rfl, hs, hall⟩ := dp_tup_inv (dp_same s1 hd)
  cases hall with
  | cons hx hr2 =>
  obtain ⟨t, rfl, k⟩ := pr_inv hx
  refine ⟨_, rfl, _, _, _, _, rfl, rfl, hs, atI_at (j := 0) rfl rfl, _, _, _, _, rfl, rfl, k, atI_at (j := 0) rfl rfl, rfl, _, rfl, ?_⟩
  have e1 : (decide (V.int p.1 = V.int 0)) = decide (p.1 = 0) := by
    by_cases z : p.1 = 0
    · rw [z]
      rfl
    · rw [decide_eq_false z, decide_eq_false (fun y => z (V.int.inj y))]
  show if (decide (V.int p.1 = V.int 0)) = true then _ else _
  rw [e1]
  cases e0 : decide (p.1 = 0) with
  | false =>
    rw [e0, Bool.false_and] at q
    refine iteF ?_
    exact q _ s1
  | true =>
    rw [e0, Bool.true_and] at q
    refine iteT ?_
    exact ⟨_, rfl, _, _, _, _, rfl, rfl, hs, atI_at (j := 0) rfl rfl, _, _, _, _, rfl, rfl, k, atI_at (j := 1) rfl rfl, _, _, rfl, rfl, q _ s1⟩
theorem ok_chkp (T : Txt K mg) : FnOk P w K mg base (L2.CX P w) 5 T.f__check_parts T.d__check_parts ["parts"] (spChkP K T.c_InvalidValleys) := by
  have g_is_start_valleys := ok_iss (P := P) (w := w) (base := base) T
  refine T.F__check_parts.okX sc__check_parts (fun vs H Q E h => ?_) (fun cdv A outer s H vs Q E hr h => ?_)
  · obtain ⟨v, d, rfl, _⟩ := h
    rfl
  obtain ⟨v, d, rfl, hd, q, qe⟩ := h
  refine ⟨_, (pss_cons (ps_if (PW.pt (pw_or (pt_not (pt_val (pe_callB (r := rIsD K) call_isD (by rfl) T.n_isinstance (by decide +kernel) (pa_cons (pv 0) (pa_cons (pe_bltn (v := .ty "tuple") (by rfl) T.n_tuple (by decide +kernel) rfl) pa_nil))))) (pw_or1 (pt_cmpR op_gt (pe_callB (r := rLenS K) call_lenS (by rfl) T.n_len (by decide +kernel) (pa_cons (pv 0) pa_nil)) (pe_glob (v := .int 400) rfl T.g_MAX_JOINED ⟨_, rfl⟩) (nomark _))))) (pss_one (ps_raise rfl (takes_of rfl rfl rfl rfl) (pmk_own PySem.F.excBase_ValueError T.x_InvalidValleys T.g_InvalidValleys T.k_InvalidValleys (raises_own T.bb_InvalidValleys T.tt_InvalidValleys) rfl))) pss_nil)
      (pss_one (ps_for (passes_of rfl) rfl (pi_tup (pv 0)) (pg_name (i := 1) sc__check_parts.nd rfl (Or.inl rfl))
        (pss_one (ps_if (pt_not (pt_val (pe_call g_is_start_valleys (hr.mono (by omega)) rfl T.m_is_start_valleys T.F_is_start_valleys.kp T.b_is_start_valleys .nil pass0 (pa_cons (pv 1) pa_nil)))) (pss_one (ps_raise rfl (takes_of rfl rfl rfl rfl) (pmk_own PySem.F.excBase_ValueError T.x_InvalidValleys T.g_InvalidValleys T.k_InvalidValleys (raises_own T.bb_InvalidValleys T.tt_InvalidValleys) rfl))) pss_nil))))), ?_⟩
  refine ⟨_, rfl, _, _, _, _, rfl, hd, kit_tuple _, _, rfl, ?_⟩
  cases et : isTup d with
  | false =>
    have e : partsB d = false := by cases d <;> first | rfl | cases et
    refine iteT ?_
    refine iteT ?_
    exact qe e _ (Same.refl _)
  | true =>
  obtain ⟨ds, rfl⟩ : ∃ ds, d = .tuple ds := by
    cases d <;> first | exact ⟨_, rfl⟩ | cases et
  obtain ⟨a, xs, rfl, hs, hall⟩ := dp_tup_inv hd
  have hl : xs.length = ds.length := dpAll_length hall
  refine iteF ?_
  refine ⟨_, rfl, a, _, rfl, .inr hs, _, _, rfl, rfl, _, rfl, ?_⟩
  cases e4 : decide ((400 : Int) < ((xs.length : Nat) : Int)) with
  | true =>
    have e : partsB (.tuple ds) = false := by
      have := of_decide_eq_true e4
      simp only [partsB, decide_eq_false (show ¬ ds.length ≤ 400 by omega), Bool.false_and]
    refine iteT ?_
    exact qe e _ (Same.refl _)
  | false =>
  have l4 : ds.length ≤ 400 := by
    have := of_decide_eq_false e4
    omega
  have ep : partsB (.tuple ds) = ds.all startB := by simp only [partsB, decide_eq_true l4, Bool.true_and]
  rw [ep] at q qe
  refine iteF ?_
  refine ⟨_, rfl, a, rfl, ⟨xs, hs⟩, ?_⟩
  refine for_tup (K := K) (a := a) (xs := xs) (fun i σ G => ∃ y1 : Option V, σ = [some (.ref a), y1] ∧ Same H G ∧ (ds.take i).all startB = true) ⟨none, rfl, Same.refl _, rfl⟩ (fun i σ G _ ⟨_, _, s, _⟩ => same_sqT s hs) ?_ ?_
  · rintro i x σ G hi ⟨y1, rfl, s1, ha⟩
    obtain ⟨d, ed, hx⟩ := dpAll_get hall hi
    refine ⟨_, rfl, x, d, rfl, dp_same s1 hx, fun G2 s2 => ⟨_, rfl, ?_⟩⟩
    cases es : startB d with
    | false =>
      refine iteT ?_
      refine qe ?_ _ (s1.trans s2)
      rw [List.all_eq_false]
      exact ⟨d, List.mem_of_getElem? ed, by rw [es]; exact Bool.false_ne_true⟩
    | true =>
      refine iteF ?_
      refine ⟨_, rfl, s1.trans s2, ?_⟩
      rw [List.take_add_one, ed, List.all_append, ha]
      simp [es]
  · rintro σ G ⟨y1, rfl, s1, ha⟩
    rw [hl, List.take_length] at ha
    exact q ha _ s1
theorem ok_jl (T : Txt K mg) : FnOk P w K mg base (L2.CX P w) 6 T.f_joint_lows T.d_joint_lows ["parts", "capacity"] (spJL K T.c_InvalidValleys T.c_InvalidNumber) := by
  have g__check_parts := ok_chkp (P := P) (w := w) (base := base) T
  have g_check_number := ok_chkn (P := P) (w := w) (base := base) T
  have g_InvalidNumber_init := ok_inum (P := P) (w := w) (base := base) T
  have g_Descent_init := ok_di (P := P) (w := w) (base := base) T
  have g_Descent_go_down := ok_gd (P := P) (w := w) (base := base) T
  have g_Descent_lows := ok_lows (P := P) (w := w) (base := base) T
  refine T.F_joint_lows.okX sc_joint_lows (fun vs H Q E h => ?_) (fun cdv A outer s H vs Q E hr h => ?_)
  · unfold spJL at h
    obtain ⟨v, x, d, e, rfl, _⟩ := h
    rfl
  unfold spJL at h
  obtain ⟨v, x, d, e, rfl, hd, he, q1, q2, q3, q⟩ := h
  refine ⟨_, (pss_cons (ps_expr (pe_callS g__check_parts (hr.mono (by omega)) rfl T.m__check_parts T.F__check_parts.kp T.b__check_parts (fun σ => passAt (takes_of rfl rfl rfl rfl) σ) (pa_cons (pv 0) pa_nil)))
      (pss_cons (ps_expr (pe_callS g_check_number (hr.mono (by omega)) rfl T.m_check_number T.F_check_number.kp T.b_check_number (fun σ => passAt (takes_of rfl rfl rfl rfl) σ) (pa_cons (pv 1) pa_nil)))
      (pss_cons (ps_if (pt_cmpR op_lt (pv 1) pe_int (nomark _)) (pss_one (ps_raise rfl (takes_of rfl rfl rfl rfl) (pmk_keep T.ox_InvalidNumber T.iC_InvalidNumber T.tI_InvalidNumber g_InvalidNumber_init (hr.mono (by omega)) T.b_InvalidNumber_init pass0 rfl T.g_InvalidNumber (pa_cons (pv 1) pa_nil)))) pss_nil)
      (pss_cons (ps_set (i := 2) sc_joint_lows.nd rfl (Or.inl rfl) (pe_make T.mk_Descent g_Descent_init (hr.mono (by omega)) rfl T.g_Descent T.b_Descent_init .nil pass0 (pa_cons (pv 0) pa_nil)))
      (pss_cons (ps_expr (pe_meth (pv 2) T.cl_Descent T.mt_Descent_go_down g_Descent_go_down (hr.mono (by omega)) T.b_Descent_go_down .nil pass0 (pa_cons (pv 1) pa_nil)))
      (pss_one (ps_ret (pe_meth0 (pv 2) T.cl_Descent T.mt_Descent_lows g_Descent_lows (hr.mono (by omega)) T.b_Descent_lows .nil pass0)))))))), ?_⟩
  refine ⟨_, rfl, v, d, rfl, hd, fun ev H1 s1 => ?_, fun ev H1 s1 => q1 ev H1 s1⟩
  refine ⟨_, rfl, x, e, rfl, dp_same s1 he, fun en => ?_, fun en dx hx => q2 ev en H1 dx s1 hx⟩
  obtain ⟨Ps, rfl, hok⟩ := partsB_iff.mp ev
  obtain ⟨c, rfl⟩ := numB_inv en
  obtain rfl := dp_int_inv he
  refine ⟨_, rfl, _, _, rfl, rfl, _, rfl, ?_⟩
  refine ite2 (fun g => ?_) (fun g => ?_)
  · exact ⟨_, rfl, _, rfl, fun dx hx => q3 c ev rfl (of_decide_eq_true g) H1 dx s1 hx⟩
  have c0 : 0 ≤ c := by
    have : ¬ c < 0 := fun z => g (decide_eq_true z)
    omega
  obtain ⟨pa, xP, rfl, hsP, hall⟩ := dp_tup_inv (dp_same s1 hd)
  have hd1 := dp_same s1 hd
  refine ⟨_, rfl, fun y dy hy hdy ne => ⟨y, dy, pa, H1, Ps, rfl, upd_same, ?_, hy, ?_, hok.len, hok.sv, fun H2 D1 => ⟨rfl, ?_⟩⟩⟩
  · intro b o hb
    rw [upd_ne (ne_of_none hb hy), upd_ne (ne_of_none hb hdy)]
    exact hb
  · refine dp_same (fun b o hb => ?_) hd1
    rw [upd_ne (ne_of_none hb hy), upd_ne (ne_of_none hb hdy)]
    exact hb
  obtain ⟨_, dx1, pa1, la1, ca1, xs1, ls1, y1, _⟩ := id D1
  have dn0 : Dn Ps.length (pF Ps) c (kF (zeros Ps)) := by rw [kF_zero]; exact Dn.start hok.sv.parts c0
  have hlen := hok.len
  refine ⟨_, rfl, y, dx1, _, rfl, y1, el_gd _ _ _ _, _, rfl, y, c, H1, Ps, zeros Ps, Ps.length, rfl, D1, List.length_replicate .., hok.sv, dn0, by omega, fun H3 pl2 D2 hl2 dn2 sk2 mv2 => ?_⟩
  obtain ⟨s12, dx2, pa2, la2, ca2, xs2, ls2, y2, _⟩ := id D2
  refine ⟨_, rfl, y, dx2, _, rfl, y2, el_lows _ _ _ _, y, H1, Ps, pl2, _, _, Ps.length, rfl, D2, hl2, fun i hi => ?_, hlen, fun H4 r s4 d4 => ?_⟩
  · obtain ⟨p, ep, _⟩ := dn2.ent i hi
    exact ⟨p, ep⟩
  · refine q Ps c rfl rfl hok en c0 H4 r (lowsL Ps pl2) (s1.trans (s12.trans s4)) d4 (by rw [List.length_map, List.length_range]) ?_
    exact (dn2.low hok.sv.parts sk2).congr fun i hi => (lowsL_at hi).symm
theorem ok_jv (T : Txt K mg) : FnOk P w K mg base (L2.CX P w) 6 T.f_joint_valleys T.d_joint_valleys ["parts"] (spJV K T.c_InvalidValleys T.c_TooMany) := by
  have g__check_parts := ok_chkp (P := P) (w := w) (base := base) T
  have g_joint_pairs := ok_jp (P := P) (w := w) (base := base) T
  have g_checked_length := ok_chl22 (P := P) (w := w) (base := base) T
  refine T.F_joint_valleys.okX sc_joint_valleys (fun vs H Q E h => ?_) (fun cdv A outer s H vs Q E hr h => ?_)
  · unfold spJV at h
    obtain ⟨v, d, rfl, _⟩ := h
    rfl
  unfold spJV at h
  obtain ⟨v, d, rfl, hd, q1, q⟩ := h
  refine ⟨_, (pss_cons (ps_expr (pe_callS g__check_parts (hr.mono (by omega)) rfl T.m__check_parts T.F__check_parts.kp T.b__check_parts (fun σ => passAt (takes_of rfl rfl rfl rfl) σ) (pa_cons (pv 0) pa_nil)))
      (pss_one (ps_ret (pe_callS g_checked_length (hr.mono (by omega)) rfl T.m_checked_length T.F_checked_length.kp T.b_checked_length (fun σ => passAt (takes_of rfl rfl rfl rfl) σ) (pa_cons (pe_call g_joint_pairs (hr.mono (by omega)) rfl T.m_joint_pairs T.F_joint_pairs.kp T.b_joint_pairs .nil pass0 (pa_cons (pv 0) pa_nil)) pa_nil))))), ?_⟩
  refine ⟨_, rfl, v, d, rfl, hd, fun ev H1 s1 => ?_, fun ev H1 s1 => q1 ev H1 s1⟩
  obtain ⟨Ps, rfl, hok⟩ := partsB_iff.mp ev
  refine ⟨_, rfl, v, Ps, rfl, dp_same s1 hd, hok.len, hok.sv, hok.rem, fun H2 r R s2 dR hJ hlen => ?_⟩
  obtain ⟨p1, p2⟩ := q Ps R rfl hok hJ hlen
  exact ⟨r, R, rfl, dR, fun z => p1 z H2 r (s1.trans s2) dR, fun z dx hx => p2 z H2 dx (s1.trans s2) hx⟩
end
/-! block V23t: as V22t, over the defs of k23 (behind bV20f) -/
abbrev lamQ (x : Str) (st : Stmt) : Str := (PyProof.Rows.envOfC x (defScope st) 0 0 .none).qual ++ "<lambda>"
def lamT {K : PySem.W.Frag} {mg : Str → Option Value} (T : Txt K mg) : List (Addr × Str) := [(T.ct__law_bounds_right, lamQ "_law_bounds_right" s__law_bounds_right)]
theorem lamU__law_bounds_right {K : PySem.W.Frag} {mg : Str → Option Value} (T : Txt K mg) : ∀ p ∈ lamT T, p.1 = T.ct__law_bounds_right → p.2 = lamQ "_law_bounds_right" s__law_bounds_right := by
  intro p hp e
  simp only [lamT, List.mem_singleton] at hp
  rw [hp]
/-- what is told of an error -/
def toE (CV CN CM : Addr) (Q : VK) : XK := fun cls d H' => (cls = .ref CV ∧ Q (.str "valleys") H') ∨ (∃ dx y, cls = .ref CN ∧ d = some dx ∧ H' dx = some (.xd [("value", y)]) ∧ ∀ t, H' t = none → Q (.ref t) (upd H' t (.tup [.str "number", y]))) ∨
  (∃ dx y, cls = .ref CM ∧ d = some dx ∧ H' dx = some (.xd [("limit", y)]) ∧ ∀ t, H' t = none → Q (.ref t) (upd H' t (.tup [.str "many", y])))
/-- what is told of a call: "returned", or its error -/
def TTo (CV CN CM : Addr) : (XK → Hp → VK → Prop) → Hp → VK → Prop := fun tl H Q => tl (toE CV CN CM Q) H (fun _ H' => Q (.str "returned") H')
theorem gives__law_valley_outcome {K : PySem.W.Frag} {mg : Str → Option Value} (T : Txt K mg) (X : Cx) (e1 : X.K = K) (e2 : X.mg = mg) {q : Str} {cdv : Value} :
    LamX.GivesTo X N__law_valley_outcome "_law_valley_outcome" (defScope s__law_valley_outcome) T.f__law_valley_outcome cdv (defBody s__law_valley_outcome) "_law_call" q (TTo T.c_InvalidValleys T.c_InvalidNumber T.c_TooMany) := by
  subst e1
  subst e2
  intro f c' s H Q tl act hc h
  refine ⟨_, (pss_cons (ps_tryA rfl rfl sc__law_valley_outcome.nd takes0 (fun W pn xe tk _ => (pss_one (ps_expr (pe_acts (fun Ech hW => act _ _ _ Ech _ _ (takes_len tk) hW))))) (.bare ⟨rfl, by decide, .inl T.g_InvalidValleys⟩ (fun a oe cls d pn hz hf => (pss_one (ps_ret pe_str))) (.named (i := 1) rfl rfl ⟨rfl, by decide, .inl T.g_InvalidNumber⟩ (fun a oe cls d pn hz hf => (pss_one (ps_ret (pe_tup (pa_cons pe_str (pa_cons (pe_xfM T.xf_InvalidNumber T.no_InvalidNumber (List.mem_cons_self ..) hz hf (pv 1)) pa_nil)))))) (.named (i := 1) rfl rfl ⟨rfl, by decide, .inl T.g_TooMany⟩ (fun a oe cls d pn hz hf => (pss_one (ps_ret (pe_tup (pa_cons pe_str (pa_cons (pe_xfM T.xf_TooMany T.no_TooMany (List.mem_cons_self ..) hz hf (pv 1)) pa_nil)))))) .nil))))
      (pss_one (ps_ret pe_str))), ?_⟩
  refine ⟨_, fun cls d σ' H' hE hl => ?_, rfl, hc, h⟩
  rcases hE with ⟨rfl, q1⟩ | ⟨dx, y, rfl, rfl, hd, q1⟩ | ⟨dx, y, rfl, rfl, hd, q1⟩
  · exact ⟨true, T.e_InvalidValleys_InvalidValleys, fun _ a ha => q1, fun z => by cases z⟩
  · refine ⟨false, T.e_InvalidNumber_InvalidValleys, (fun z => by cases z), fun _ => ⟨true, T.e_InvalidNumber_InvalidNumber, fun _ a ha => ?_, fun z => by cases z⟩⟩
    exact ⟨_, getSet hl (by decide), rfl, rfl, dx, _, y, rfl, hd, rfl, (by show 2 ≤ sizeLine; decide), q1⟩
  · refine ⟨false, T.e_TooMany_InvalidValleys, (fun z => by cases z), fun _ => ⟨false, T.e_TooMany_InvalidNumber, (fun z => by cases z), fun _ => ⟨true, T.e_TooMany_TooMany, fun _ a ha => ?_, fun z => by cases z⟩⟩⟩
    exact ⟨_, getSet hl (by decide), rfl, rfl, dx, _, y, rfl, hd, rfl, (by show 2 ≤ sizeLine; decide), q1⟩
/-! block V22l: _law_lows, _law_settled (behind bV22t) -/
/-- all pairs of all parts -/
def lenAll (Ps : List (List P2)) : Nat := (Ps.map List.length).sum
theorem lenAll_sum {Ps : List (List P2)} : ((lenAll Ps : Nat) : Int) = sumN Ps.length fun i => ((pF Ps i).length : Int) := by
  induction Ps with
  | nil => rfl
  | cons p Ps ih =>
    have e : lenAll (p :: Ps) = p.length + lenAll Ps := by simp [lenAll]
    rw [e, List.length_cons, sumN_head, Int.natCast_add, ih]
    rfl
theorem lens_sum {Ps : List (List P2)} : (Ps.map fun p => ((p.length : Nat) : Int)).sum = ((lenAll Ps : Nat) : Int) := by
  induction Ps with
  | nil => rfl
  | cons p Ps ih =>
    rw [List.map_cons, List.sum_cons, ih]
    have e : lenAll (p :: Ps) = p.length + lenAll Ps := by simp [lenAll]
    rw [e, Int.natCast_add]
theorem valAt_vlF {c : Int} {ps : List P2} : valAt c ps = vlF c none ps := rfl
/-- what is read at a capacity that is not negative is the value -/
theorem valAt_vl {ps : List P2} (h : Sv ps) {c : Int} (hc : 0 ≤ c) : valAt c ps = some (vl c ps) := by
  obtain ⟨i, p, _, e, _⟩ := h.at hc
  rw [valAt_vlF]
  unfold vl
  rw [e]
  rfl
def spLL (K : PySem.W.Frag) : Sp := fun vs H Q _ => ∃ (p : Addr) (m : Nat) (v : V) (Ps : List (List P2)) (c : Int), vs = [.ref p, v, .int c] ∧ Pot H p m ∧ m + 1 + lenAll Ps ≤ 1099511627776 ∧ Dp K H v (vlsD Ps) ∧ PartsOk Ps ∧ 0 ≤ c ∧
  ∀ (H' : Hp) (r : V) (L : List Int), Sx p H H' → Pot H' p (m + 1 + lenAll Ps) → Dp K H' r (.tuple (L.map .int)) → L.length = Ps.length → LowAt Ps.length (pF Ps) c (fI L) → Q r H'
theorem fI_rep {n : Nat} : fI (List.replicate n 0) = fun _ => 0 := by
  funext i
  show (List.replicate n (0 : Int)).getD i 0 = 0
  rw [List.getD_eq_getElem?_getD, List.getElem?_replicate]
  split <;> rfl
theorem rep_flatI {n : Nat} : (List.replicate (n : Int).toNat [V.int 0]).flatten = (List.replicate n (0 : Int)).map V.int := by
  rw [show (n : Int).toNat = n from rfl]
  induction n with
  | zero => rfl
  | succ n ih =>
    rw [List.replicate_succ, List.flatten_cons, ih, List.replicate_succ, List.map_cons]
    rfl
section
variable {P : Program} {w : World} {K : PySem.W.Frag} {mg : Str → Option Value} {base : Heap}
def spSt (K : PySem.W.Frag) : Sp := fun vs H Q _ => ∃ (v u : V) (Ps : List (List P2)) (L : List Int) (c : Int), vs = [v, u, .int c] ∧ Dp K H v (vlsD Ps) ∧ Dp K H u (.tuple (L.map .int)) ∧ PartsOk Ps ∧ 0 ≤ c ∧ L.length = Ps.length ∧ LowAt Ps.length (pF Ps) c (fI L) ∧
  ∀ H', Same H H' → Q (.bl true) H'
theorem low_np {n : Nat} {P : Nat → List P2} {c : Int} {L : Nat → Int} (hP : Parts n P) (h : LowAt n P c L) : ∀ i, i < n → L i ≤ 0 := fun i hi => by
  rw [← h.settled i hi]
  exact (hP i hi).vl0 _
theorem low_bound {n : Nat} {P : Nat → List P2} {c : Int} {L : Nat → Int} (hP : Parts n P) (h : LowAt n P c L) (hc : 0 ≤ c) {i : Nat} (hi : i < n) : 0 ≤ c - (sumN n L - L i) := by
  have := sumN_but (f := L) (g := fun _ => 0) hi (low_np hP h)
  rw [sumN_zero] at this
  omega
end
/-! block V22r: _law_at_right (behind bV22l) -/
/-- parts as the law draws them -/
structure Fw (Ps : List (List P2)) : Prop where
  ok : PartsOk Ps
  n : Ps.length ≤ 100
  len : lenAll Ps ≤ 2000
  bd : ∀ ps ∈ Ps, ∀ p ∈ ps, p.1.natAbs ≤ 2000000000000000000000000000000000000000000000000000000000000 ∧ p.2.natAbs ≤ 2000000000000000000000000000000000000000000000000000000000000
theorem big180 : (2000000000000000000000000000000000000000000000000000000000000 : Nat) < 10 ^ 180 := by decide +kernel
theorem fines_prs : ∀ {ps : List P2}, (∀ p ∈ ps, p.1.natAbs ≤ 2000000000000000000000000000000000000000000000000000000000000 ∧ p.2.natAbs ≤ 2000000000000000000000000000000000000000000000000000000000000) → fines (prDs ps)
  | [], _ => trivial
  | q :: ps, hb => by
    have h0 := hb q (List.mem_cons_self ..)
    refine ⟨?_, fines_prs fun z hz => hb z (List.mem_cons_of_mem _ hz)⟩
    simp only [fine, fines, and_true]
    exact ⟨Nat.lt_of_le_of_lt h0.1 big180, Nat.lt_of_le_of_lt h0.2 big180⟩
theorem fines_vls : ∀ {Ps : List (List P2)}, (∀ ps ∈ Ps, ∀ p ∈ ps, p.1.natAbs ≤ 2000000000000000000000000000000000000000000000000000000000000 ∧ p.2.natAbs ≤ 2000000000000000000000000000000000000000000000000000000000000) → fines (Ps.map vlD)
  | [], _ => trivial
  | q :: Ps, hb => ⟨fines_prs (hb q (List.mem_cons_self ..)), fines_vls fun z hz => hb z (List.mem_cons_of_mem _ hz)⟩
theorem depth_prs22 : ∀ ps : List P2, PyData.depthAll (prDs ps) ≤ 1
  | [] => by simp [prDs, PyData.depthAll]
  | q :: ps => by
    have h := depth_prs22 ps
    show PyData.depthAll (prD q :: prDs ps) ≤ _
    simp only [PyData.depthAll, PyData.depth]
    omega
theorem depth_vls : ∀ Ps : List (List P2), PyData.depthAll (Ps.map vlD) ≤ 2
  | [] => by simp [PyData.depthAll]
  | q :: Ps => by
    have h := depth_vls Ps
    have h2 := depth_prs22 q
    show PyData.depthAll (vlD q :: Ps.map vlD) ≤ _
    simp only [PyData.depthAll, PyData.depth]
    omega
theorem bulk_prs22 : ∀ ps : List P2, PyData.bulkAll (prDs ps) = 3 * ps.length
  | [] => by simp [prDs, PyData.bulkAll]
  | q :: ps => by
    have h := bulk_prs22 ps
    show PyData.bulkAll (prD q :: prDs ps) = _
    simp only [PyData.bulkAll, PyData.bulk, List.length_cons]
    omega
theorem bulk_vls : ∀ Ps : List (List P2), PyData.bulkAll (Ps.map vlD) = 3 * lenAll Ps + Ps.length
  | [] => by simp [PyData.bulkAll, lenAll]
  | q :: Ps => by
    have h := bulk_vls Ps
    have h2 := bulk_prs22 q
    have e : lenAll (q :: Ps) = q.length + lenAll Ps := by simp [lenAll]
    show PyData.bulkAll (vlD q :: Ps.map vlD) = _
    simp only [PyData.bulkAll, PyData.bulk, List.length_cons]
    omega
theorem Fw.rep {Ps : List (List P2)} (h : Fw Ps) : fine (vlsD Ps) ∧ (vlsD Ps).depth ≤ 64 ∧ (vlsD Ps).bulk ≤ 80000 := by
  refine ⟨fines_vls h.bd, ?_, ?_⟩
  · have := depth_vls Ps
    simp only [PyData.depth]
    omega
  · have := bulk_vls Ps
    have := h.len
    have := h.n
    simp only [PyData.bulk]
    omega
theorem vl_bd {ps : List P2} (h : Sv ps) (b : ∀ p ∈ ps, p.1.natAbs ≤ 2000000000000000000000000000000000000000000000000000000000000 ∧ p.2.natAbs ≤ 2000000000000000000000000000000000000000000000000000000000000) (c : Int) : (vl c ps).natAbs ≤ 2000000000000000000000000000000000000000000000000000000000000 := by
  unfold vl
  by_cases hc : 0 ≤ c
  · obtain ⟨i, p, e1, e2, _⟩ := h.at hc
    rw [e2]
    exact (b p (List.mem_of_getElem? e1)).2
  · rw [h.neg (by omega)]
    exact Nat.zero_le _
theorem Fw.low_bd {Ps : List (List P2)} (h : Fw Ps) {c : Int} {L : Nat → Int} (l : LowAt Ps.length (pF Ps) c L) {i : Nat} (hi : i < Ps.length) : (L i).natAbs ≤ 2000000000000000000000000000000000000000000000000000000000000 := by
  rw [← l.settled i hi]
  unfold Fx
  rw [pF_at (List.getElem?_eq_getElem hi)]
  exact vl_bd (h.ok.sv _ (List.getElem_mem hi)) (h.bd _ (List.getElem_mem hi)) _
theorem fines_ints : ∀ {L : List Int}, (∀ x ∈ L, x.natAbs ≤ 2000000000000000000000000000000000000000000000000000000000000) → fines (L.map .int)
  | [], _ => trivial
  | x :: L, h => ⟨Nat.lt_of_le_of_lt (h x (List.mem_cons_self ..)) big180, fines_ints fun y hy => h y (List.mem_cons_of_mem _ hy)⟩
theorem bulk_ints : ∀ L : List Int, PyData.bulkAll (L.map .int) = L.length
  | [] => by simp [PyData.bulkAll]
  | x :: L => by
    have h := bulk_ints L
    show PyData.bulkAll (.int x :: L.map .int) = _
    simp only [PyData.bulkAll, PyData.bulk, List.length_cons]
    omega
theorem depth_ints22 : ∀ L : List Int, PyData.depthAll (L.map .int) = 0
  | [] => by simp [PyData.depthAll]
  | x :: L => by
    have h := depth_ints22 L
    show PyData.depthAll (.int x :: L.map .int) = _
    simp only [PyData.depthAll, PyData.depth]
    omega
theorem Fw.repL {Ps : List (List P2)} (h : Fw Ps) {c : Int} {L : List Int} (hl : L.length = Ps.length) (l : LowAt Ps.length (pF Ps) c (fI L)) : fine (.tuple (L.map .int)) ∧ (PyData.tuple (L.map .int)).depth ≤ 64 ∧ (PyData.tuple (L.map .int)).bulk ≤ 80000 := by
  refine ⟨fines_ints fun x hx => ?_, ?_, ?_⟩
  · obtain ⟨i, hi, rfl⟩ := List.getElem_of_mem hx
    have := h.low_bd l (i := i) (by omega)
    rwa [fI_at (List.getElem?_eq_getElem hi)] at this
  · have := depth_ints22 L
    simp only [PyData.depth]
    omega
  · have := bulk_ints L
    have := h.n
    simp only [PyData.bulk]
    omega
theorem fI_ext {L M : List Int} (h : L.length = M.length) (e : ∀ i, i < L.length → fI L i = fI M i) : L = M := by
  refine List.ext_getElem h fun i h1 h2 => ?_
  have := e i h1
  rwa [fI_at (List.getElem?_eq_getElem h1), fI_at (List.getElem?_eq_getElem h2)] at this
theorem low_one {Ps : List (List P2)} {c : Int} {L M : List Int} (h1 : L.length = Ps.length) (h2 : M.length = Ps.length) (a : LowAt Ps.length (pF Ps) c (fI L)) (b : LowAt Ps.length (pF Ps) c (fI M)) : L = M :=
  fI_ext (by omega) fun i hi => a.uniq b i (by omega)
theorem fI_rev {L : List Int} {i : Nat} (h : i < L.length) : fI L.reverse i = fI L (L.length - 1 - i) := by
  have e : L.reverse[i]? = some (L[L.length - 1 - i]'(by omega)) := by
    rw [List.getElem?_reverse h, List.getElem?_eq_getElem]
  rw [fI_at e, fI_at (List.getElem?_eq_getElem _)]
theorem pF_rev {Ps : List (List P2)} {i : Nat} (h : i < Ps.length) : pF Ps.reverse i = pF Ps (Ps.length - 1 - i) := by
  have e : Ps.reverse[i]? = some (Ps[Ps.length - 1 - i]'(by omega)) := by
    rw [List.getElem?_reverse h, List.getElem?_eq_getElem]
  rw [pF_at e, pF_at (List.getElem?_eq_getElem _)]
theorem low_rev {Ps : List (List P2)} {c : Int} {L M : List Int} (h1 : L.length = Ps.length) (h2 : M.length = Ps.length) (a : LowAt Ps.length (pF Ps) c (fI L)) (b : LowAt Ps.reverse.length (pF Ps.reverse) c (fI M)) : M = L.reverse := by
  rw [List.length_reverse] at b
  refine fI_ext (by rw [List.length_reverse]; omega) fun i hi => ?_
  have r := (a.rev.congrP (Q := pF Ps.reverse) fun i hi => (pF_rev hi).symm)
  rw [b.uniq r i (by omega), fI_rev (by omega), h1]
theorem PartsOk.rev {Ps : List (List P2)} (h : PartsOk Ps) : PartsOk Ps.reverse := ⟨by rw [List.length_reverse]; exact h.len, fun ps hp => h.sv ps (List.mem_reverse.mp hp), fun ps hp => h.each ps (List.mem_reverse.mp hp)⟩
theorem prs_inj22 : ∀ {ps qs : List P2}, prDs ps = prDs qs → ps = qs
  | [], [], _ => rfl
  | [], _ :: _, h => by cases h
  | _ :: _, [], h => by cases h
  | p :: ps, q :: qs, h => by
    have h' : prD p :: prDs ps = prD q :: prDs qs := h
    injection h' with h1 h2
    rw [prs_inj22 h2, ← toP2_prD p, h1, toP2_prD]
theorem vlD_inj {ps qs : List P2} (h : vlD ps = vlD qs) : ps = qs := by
  injection h with h
  exact prs_inj22 h
theorem noLs_intsJ : ∀ L : List Int, noLs (L.map .int) = true
  | [] => rfl
  | x :: L => by
    show noLs (.int x :: L.map .int) = true
    simp only [noLs, noL, noLs_intsJ L, Bool.and_self]
theorem dpAll_rev {K : PySem.W.Frag} {H : Hp} {vs : List V} {ds : List PyData} (h : DpAll K H vs ds) : DpAll K H vs.reverse ds.reverse := by
  induction vs generalizing ds with
  | nil =>
    cases h
    exact .nil
  | cons v vs ih =>
    cases h with
    | cons hx hr =>
      rw [List.reverse_cons, List.reverse_cons]
      exact dpAll_append (ih hr) (.cons hx .nil)
theorem ints_lay22 : ∀ L : List Int, PyData.canLayAll0 (L.map .int) = true
  | [] => rfl
  | x :: L => by
    show PyData.canLayAll0 (.int x :: L.map .int) = true
    simp only [PyData.canLayAll0, PyData.canLay0, ints_lay22 L, Bool.and_self]
theorem shaped_ints22 (L : List Int) : SeqAt.shaped (.tuple (L.map .int)) = true := by
  have h := depth_ints22 L
  unfold SeqAt.shaped
  rw [Bool.and_eq_true, decide_eq_true_eq]
  refine ⟨by simp only [PyData.canLay0]; exact ints_lay22 L, ?_⟩
  simp only [PyData.depth]
  omega
theorem eqv_ints22 : ∀ L : List Int, PyData.eqvAll (L.map .int) (L.map .int) = true
  | [] => rfl
  | x :: L => by
    show PyData.eqvAll (.int x :: L.map .int) (.int x :: L.map .int) = true
    simp [PyData.eqvAll, PyData.eqv, eqv_ints22 L]
theorem eqv_low (L : List Int) : PyData.eqv (.tuple (L.map .int)) (.tuple (L.map .int)) = true := by simp only [PyData.eqv, eqv_ints22]
theorem jl_use {K : PySem.W.Frag} {CV CN : Addr} {H : Hp} {Q : VK} {E : XK} {v : V} {Ps : List (List P2)} {c : Int} (hd : Dp K H v (vlsD Ps)) (hok : PartsOk Ps) (hc : 0 ≤ c) (hn : numB (.int c) = true)
    (q : ∀ (H' : Hp) (r : V) (L : List Int), Same H H' → Dp K H' r (.tuple (L.map .int)) → L.length = Ps.length → LowAt Ps.length (pF Ps) c (fI L) → Q r H') : spJL K CV CN [v, .int c] H Q E := by
  unfold spJL
  have pb : partsB (vlsD Ps) = true := partsB_iff.mpr ⟨Ps, rfl, hok⟩
  refine ⟨v, .int c, _, _, rfl, hd, .int c, (fun z => by rw [pb] at z; cases z), (fun _ z => by rw [hn] at z; cases z), (fun c' _ e l => by cases e; omega), fun Ps' c' e1 e2 _ _ _ H' r L s d hl low => ?_⟩
  cases e2
  have e3 : Ps' = Ps := by
    have inj : ∀ {A B : List (List P2)}, A.map vlD = B.map vlD → A = B := by
      intro A
      induction A with
      | nil =>
        intro B h
        cases B with
        | nil => rfl
        | cons b B => cases h
      | cons a A ih =>
        intro B h
        cases B with
        | nil => cases h
        | cons b B =>
          rw [List.map_cons, List.map_cons] at h
          injection h with h1 h2
          rw [ih h2, vlD_inj h1]
    injection e1 with e1
    exact (inj e1).symm
  subst e3
  exact q H' r L s d hl low
def spAR (K : PySem.W.Frag) : Sp := fun vs H Q _ => ∃ (p : Addr) (m : Nat) (v : V) (Ps : List (List P2)) (c : Int), vs = [.ref p, v, .int c] ∧ Pot H p m ∧ m + 2 + lenAll Ps ≤ 1099511627776 ∧ Dp K H v (vlsD Ps) ∧ Fw Ps ∧ 0 ≤ c ∧ c ≤ 10000000000 ∧
  ∀ H', Sx p H H' → Pot H' p (m + 2 + lenAll Ps) → Q (.bl true) H'
section
variable {P : Program} {w : World} {K : PySem.W.Frag} {mg : Str → Option Value} {base : Heap}
end
/-! block V22e: _law_errors_right (behind bV22r, bV22t) -/
theorem atI_exV {vs : List V} {r : Int} (h0 : 0 ≤ r) (h1 : r < (vs.length : Int)) : ∃ v, vs[r.toNat]? = some v ∧ atI vs r = some v := by
  have h : r.toNat < vs.length := by omega
  exact ⟨vs[r.toNat], List.getElem?_eq_getElem h, atI_at (j := r.toNat) (by omega) (List.getElem?_eq_getElem h)⟩
/-- data that stays when the source is drawn from -/
def St (K : PySem.W.Frag) (p : Addr) (H : Hp) (v : V) (d : PyData) : Prop := ∀ H', Sx p H H' → Dp K H' v d
theorem St.dp {K : PySem.W.Frag} {p : Addr} {H : Hp} {v : V} {d : PyData} (h : St K p H v d) : Dp K H v d := h H Sx.refl
theorem St.mono {K : PySem.W.Frag} {p : Addr} {H H' : Hp} {v : V} {d : PyData} (h : St K p H v d) (s : Sx p H H') : St K p H' v d := fun H2 t => h H2 (s.trans t)
theorem st_noL {K : PySem.W.Frag} {p : Addr} {H : Hp} {v : V} {d : PyData} {l : List V} (hp : H p = some (.lst l)) (n : noL d = true) (h : Dp K H v d) : St K p H v d := fun _ s => s.dp hp n h
theorem st_one {K : PySem.W.Frag} {p a : Addr} {H : Hp} {v : V} {d : PyData} {l : List V} (hp : H p = some (.lst l)) (n : noL d = true) (h : Dp K H v d) (ha : H a = some (.lst [v])) (nap : a ≠ p) : St K p H (.ref a) (.list [d]) :=
  fun _ s => .lst (SqL.of (s a _ nap ha)) (.cons (s.dp hp n h) .nil)
theorem st_nil {K : PySem.W.Frag} {p a : Addr} {H : Hp} (ha : H a = some (.lst [])) (nap : a ≠ p) : St K p H (.ref a) (.list []) := fun _ s => .lst (SqL.of (s a _ nap ha)) .nil
/-- what is no start valleys -/
def oths : List PyData := [.tuple (prDs [(1, 0)]), .tuple (prDs [(0, 1)]), .tuple (prDs [(0, 0), (0, -1)]), .tuple (prDs [(-1, 0), (0, -2)]), .none, .int 5, .tuple []]
theorem oths_no : ∀ d ∈ oths, startB d = false ∧ noL d = true := by
  intro d hd
  simp only [oths, List.mem_cons, List.not_mem_nil, or_false] at hd
  rcases hd with rfl | rfl | rfl | rfl | rfl | rfl | rfl <;> decide +kernel
theorem parts_app {ds es : List PyData} {d : PyData} (h : startB d = false) : partsB (.tuple (ds ++ d :: es)) = false := by
  have : (ds ++ d :: es).all startB = false := by
    rw [List.all_eq_false]
    exact ⟨d, by simp, by rw [h]; exact Bool.false_ne_true⟩
  simp only [partsB, this, Bool.and_false]
/-- numbers that are refused: no integers of at most 61 digits, or negative ones -/
def numsP : List PyData := [.none, .int (-1), .bool true, .int 10000000000000000000000000000000000000000000000000000000000000, .str "0", .int (0 - 1000000000000000000000000000000)]
theorem numsP_no : ∀ d ∈ numsP, (numB d = false ∨ ∃ c, d = .int c ∧ c < 0) ∧ fine d ∧ d.depth ≤ 3 ∧ d.bulk ≤ 100 := by
  intro d hd
  simp only [numsP, List.mem_cons, List.not_mem_nil, or_false] at hd
  rcases hd with rfl | rfl | rfl | rfl | rfl | rfl
  · exact ⟨.inl (by decide +kernel), by simp only [fine], by decide +kernel, by decide +kernel⟩
  · exact ⟨.inr ⟨_, rfl, by decide⟩, by simp only [fine]; decide +kernel, by decide +kernel, by decide +kernel⟩
  · exact ⟨.inl (by decide +kernel), by simp only [fine], by decide +kernel, by decide +kernel⟩
  · exact ⟨.inl (by decide +kernel), by simp only [fine]; decide +kernel, by decide +kernel, by decide +kernel⟩
  · exact ⟨.inl (by decide +kernel), by simp only [fine]; decide +kernel, by decide +kernel, by decide +kernel⟩
  · exact ⟨.inr ⟨_, rfl, by decide⟩, by simp only [fine]; decide +kernel, by decide +kernel, by decide +kernel⟩
section
variable {K : PySem.W.Frag} {CV CN CM : Addr} {H : Hp} {Q R : VK} {v x : V} {d e : PyData}
theorem jl_bad (hd : Dp K H v d) (he : Dp K H x e) (pb : partsB d = false) (q : ∀ H', Same H H' → Q (.str "valleys") H') : spJL K CV CN [v, x] H R (toE CV CN CM Q) := by
  unfold spJL
  exact ⟨v, x, d, e, rfl, hd, he, fun _ H' s => .inl ⟨rfl, q H' s⟩, (fun z => by rw [pb] at z; cases z), (fun _ z => by rw [pb] at z; cases z), fun Ps c e1 _ ok => by rw [partsB_iff.mpr ⟨Ps, e1, ok⟩] at pb; cases pb⟩
theorem jv_bad (hd : Dp K H v d) (pb : partsB d = false) (q : ∀ H', Same H H' → Q (.str "valleys") H') : spJV K CV CM [v] H R (toE CV CN CM Q) := by
  unfold spJV
  exact ⟨v, d, rfl, hd, fun _ H' s => .inl ⟨rfl, q H' s⟩, fun Ps R e1 ok => by rw [partsB_iff.mpr ⟨Ps, e1, ok⟩] at pb; cases pb⟩
theorem jl_num (hd : Dp K H v d) (he : Dp K H x e) (pb : partsB d = true) (hn : numB e = false ∨ ∃ c, e = .int c ∧ c < 0) (q : ∀ (H' : Hp) (t : Addr), Same H H' → H' t = some (.tup [.str "number", x]) → Q (.ref t) H') : spJL K CV CN [v, x] H R (toE CV CN CM Q) := by
  have bad : badN K CN H (toE CV CN CM Q) x := fun H' dx s hdx => .inr (.inl ⟨dx, x, rfl, rfl, upd_same, fun t ht => q _ t (s.trans ((same_new hdx).trans (same_new ht))) upd_same⟩)
  unfold spJL
  refine ⟨v, x, d, e, rfl, hd, he, (fun z => by rw [pb] at z; cases z), fun _ _ => bad, fun c _ _ _ => bad, fun Ps c _ e2 _ n c0 => ?_⟩
  rcases hn with z | ⟨c', e3, l⟩
  · rw [z] at n
    cases n
  · rw [e2] at e3
    cases e3
    omega
end
theorem cat22 {K : PySem.W.Frag} {H : Hp} {Q : VK} {a b : Addr} {xs ys : List V} (h1 : SqT K H a xs) (h2 : SqT K H b ys) (hz : xs.length + ys.length ≤ sizeLine)
    (h : ∀ (H' : Hp) (t : Addr), Same H H' → SqT K H' t (xs ++ ys) → Q (.ref t) H') : rCatA K (.ref a) (.ref b) H Q := by
  refine ⟨a, b, xs, ys, rfl, rfl, h1, h2, hz, fun z => ?_, fun _ z => ?_, fun _ _ p hp => h _ p (same_new hp) (SqT.of upd_same)⟩
  · subst z
    exact h H b (Same.refl _) h2
  · subst z
    exact h H a (Same.refl _) (by rw [List.append_nil]; exact h1)
theorem noLs_app22 : ∀ {a b : List PyData}, noLs a = true → noLs b = true → noLs (a ++ b) = true
  | [], _, _, h => h
  | x :: a, b, h, k => by
    simp only [noLs, Bool.and_eq_true] at h
    show noLs (x :: (a ++ b)) = true
    simp only [noLs, Bool.and_eq_true]
    exact ⟨h.1, noLs_app22 h.2 k⟩
theorem noLs_take22 : ∀ {a : List PyData} (n : Nat), noLs a = true → noLs (a.take n) = true
  | [], n, _ => by simp [noLs]
  | x :: a, 0, _ => by simp [noLs]
  | x :: a, n + 1, h => by
    simp only [noLs, Bool.and_eq_true] at h
    show noLs (x :: a.take n) = true
    simp only [noLs, Bool.and_eq_true]
    exact ⟨h.1, noLs_take22 n h.2⟩
theorem dpAll_take22 {K : PySem.W.Frag} {H : Hp} : ∀ (n : Nat) {vs : List V} {ds : List PyData}, DpAll K H vs ds → DpAll K H (vs.take n) (ds.take n)
  | 0, _, _, _ => by simpa using .nil
  | n + 1, _, _, .nil => by simpa using .nil
  | n + 1, _, _, .cons h t => .cons h (dpAll_take22 n t)
theorem cut_to {us : List V} {n : Nat} : cutV us none (some (n : Int)) = us.take n := by
  unfold cutV HT.sIx
  simp only [show ¬((n : Int) < 0) by omega, if_false]
  have e : ((n : Int)).toNat = n := rfl
  rw [e]
  simp
theorem Pot.ext {H H' : Hp} {p : Addr} {n : Nat} (h : Pot H p n) (s : LamX.ExtN H H') : Pot H' p n := by
  obtain ⟨a, b, c, h1, h2⟩ := h
  exact ⟨a, b, c, extN_lst s h1, h2⟩
def spER {mg : Str → Option Value} (K : PySem.W.Frag) (T : Txt K mg) : Sp := fun vs H Q _ => ∃ (p : Addr) (m : Nat) (v : V) (Ps : List (List P2)), vs = [.ref p, v] ∧ Pot H p m ∧ m + 3 ≤ 1099511627776 ∧ LamX.Tabs (lamT T) H ∧ Dp K H v (vlsD Ps) ∧ Fw Ps ∧
  ∀ H', SxN p H H' → LamX.Tabs (lamT T) H' → Pot H' p (m + 3) → Q (.bl true) H'
section
variable {P : Program} {w : World} {K : PySem.W.Frag} {mg : Str → Option Value} {base : Heap}
end
/-! block V23j: _law_joint_right, _law_groups_right (behind bV22e, bV20g) -/
theorem rem_zeros {Ps : List (List P2)} : remN Ps (zeros Ps) = ((lenAll Ps : Nat) : Int) := by
  rw [lenAll_sum]
  unfold remN
  refine sumN_congr fun i _ => ?_
  rw [kF_zero]
  simp
theorem vlD_inj_all : ∀ {A B : List (List P2)}, A.map vlD = B.map vlD → A = B
  | [], [], _ => rfl
  | [], _ :: _, h => by cases h
  | _ :: _, [], h => by cases h
  | a :: A, b :: B, h => by
    rw [List.map_cons, List.map_cons] at h
    injection h with h1 h2
    rw [vlD_inj_all h2, vlD_inj h1]
theorem jv_use {K : PySem.W.Frag} {CV CM : Addr} {H : Hp} {Q : VK} {E : XK} {v : V} {Ps : List (List P2)} (hd : Dp K H v (vlsD Ps)) (hok : PartsOk Ps)
    (q : ∀ R, Joint Ps.length (pF Ps) R → R.length + Ps.length ≤ 1 + lenAll Ps → R.length ≤ 400 ∧ ∀ (H' : Hp) (r : V), Same H H' → Dp K H' r (vlD R) → Q r H') : spJV K CV CM [v] H Q E := by
  unfold spJV
  have pb : partsB (vlsD Ps) = true := partsB_iff.mpr ⟨Ps, rfl, hok⟩
  refine ⟨v, _, rfl, hd, (fun z => by rw [pb] at z; cases z), fun Ps' R e1 _ hJ hl => ?_⟩
  injection e1 with e1
  obtain rfl := vlD_inj_all e1
  rw [rem_zeros] at hl
  obtain ⟨h1, h2⟩ := q R hJ (by omega)
  exact ⟨fun _ => h2, fun z => absurd h1 (by omega)⟩
theorem jv_many {K : PySem.W.Frag} {CV CM : Addr} {H : Hp} {Q : VK} {E : XK} {v : V} {Ps : List (List P2)} (hd : Dp K H v (vlsD Ps)) (hok : PartsOk Ps)
    (big : ∀ R, Joint Ps.length (pF Ps) R → 400 < R.length) (q : ∀ (H' : Hp) (dx : Addr), Same H H' → H' dx = none → E (.ref CM) (some dx) (upd H' dx (.xd [("limit", .int 400)]))) : spJV K CV CM [v] H Q E := by
  unfold spJV
  have pb : partsB (vlsD Ps) = true := partsB_iff.mpr ⟨Ps, rfl, hok⟩
  refine ⟨v, _, rfl, hd, (fun z => by rw [pb] at z; cases z), fun Ps' R e1 _ hJ hl => ?_⟩
  injection e1 with e1
  obtain rfl := vlD_inj_all e1
  have := big R hJ
  exact ⟨fun z => absurd z (by omega), fun _ => q⟩
theorem va_use {K : PySem.W.Frag} {CV CN : Addr} {H : Hp} {Q : VK} {E : XK} {v : V} {R : List P2} {c : Int} (hd : Dp K H v (vlD R)) (hv : valB (vlD R) = true) (hn : numB (.int c) = true) (q : ∀ H', Same H H' → Q (repO (valAt c R)) H') : spVA K CV CN [v, .int c] H Q E := by
  unfold spVA
  refine ⟨v, .int c, _, _, rfl, hd, .int c, (fun z => by rw [hv] at z; cases z), (fun _ z => by rw [hn] at z; cases z), fun ps c' e1 e2 _ _ H' s => ?_⟩
  cases e2
  rw [← vlD_inj e1]
  exact q H' s
/-- parts as the law of joint valleys draws them -/
structure Fj (Ps : List (List P2)) : Prop where
  fw : Fw Ps
  len : lenAll Ps ≤ 300
theorem sv_start {R : List P2} (h : Sv R) (hl : R.length ≤ 400) : startB (vlD R) = true := startB_iff.mpr ⟨R, rfl, hl, h⟩
theorem Joint.bd {Ps : List (List P2)} {R : List P2} (fw : Fw Ps) (h : Joint Ps.length (pF Ps) R) : ∀ p ∈ R, 0 ≤ p.1 ∧ p.1 ≤ 2000000000000000000000000000000000000000000000000000000000000 := by
  intro p hp
  refine ⟨?_, h.cap 2000000000000000000000000000000000000000000000000000000000000 (by decide) (fun i hi q hq => ?_) p hp⟩
  · obtain ⟨l, W, e, _⟩ := h.hd
    have st := h.st
    rw [e] at hp st
    rcases List.mem_cons.mp hp with z | z
    · rw [z]
      exact Int.le_refl _
    · have := ((List.pairwise_cons.mp st).1 p z).1
      dsimp only at this
      omega
  · rw [pF_at (List.getElem?_eq_getElem hi)] at hq
    have := (fw.bd _ (List.getElem_mem hi) q hq).1
    omega
theorem pF_app0 {Ps : List (List P2)} {qs : List P2} : pF (Ps ++ [qs]) Ps.length = qs := pF_at (by simp)
theorem pF_appl {Ps : List (List P2)} {qs : List P2} {i : Nat} (h : i < Ps.length) : pF (Ps ++ [qs]) i = pF Ps i := by
  have e : Ps[i]? = some Ps[i] := List.getElem?_eq_getElem h
  rw [pF_at e, pF_at (by rw [List.getElem?_append_left h]; exact e)]
theorem Joint.congrP {n : Nat} {P Q : Nat → List P2} {R : List P2} (h : Joint n P R) (e : ∀ i, i < n → P i = Q i) : Joint n Q R := by
  refine ⟨h.hd, h.st, fun c hc L hL => h.val c hc L (hL.congrP fun i hi => (e i hi).symm), ?_, fun B hB hq => h.cap B hB fun i hi q hq' => hq i hi q (by rw [← e i hi]; exact hq')⟩
  obtain ⟨p, e1, e2⟩ := h.lst
  refine ⟨p, e1, e2.trans (sumN_congr fun i hi => ?_)⟩
  unfold lastF
  rw [e i hi]
theorem sv00 : Sv [((0 : Int), (0 : Int))] := ⟨List.pairwise_singleton .., 0, [], rfl, Int.le_refl _⟩
theorem PartsOk.snoc0 {Ps : List (List P2)} (h : PartsOk Ps) (hn : Ps.length < 400) : PartsOk (Ps ++ [[(0, 0)]]) := by
  refine ⟨by rw [List.length_append, List.length_singleton]; omega, fun ps hp => ?_, fun ps hp => ?_⟩
  · rcases List.mem_append.mp hp with z | z
    · exact h.sv ps z
    · rw [List.mem_singleton.mp z]
      exact sv00
  · rcases List.mem_append.mp hp with z | z
    · exact h.each ps z
    · rw [List.mem_singleton.mp z]
      decide
theorem lenAll_app (A B : List (List P2)) : lenAll (A ++ B) = lenAll A + lenAll B := by simp [lenAll]
theorem lenAll_rev (A : List (List P2)) : lenAll A.reverse = lenAll A := by
  unfold lenAll
  rw [List.map_reverse, List.sum_reverse]
theorem prs_lay23 : ∀ ps : List P2, PyData.canLayAll0 (prDs ps) = true
  | [] => rfl
  | p :: ps => by
    show PyData.canLayAll0 (prD p :: prDs ps) = true
    simp only [PyData.canLayAll0, prD, PyData.canLay0, prs_lay23 ps, Bool.and_self]
theorem shaped_prs23 (ps : List P2) : SeqAt.shaped (vlD ps) = true := by
  have h := depth_prs22 ps
  unfold SeqAt.shaped
  rw [Bool.and_eq_true, decide_eq_true_eq]
  refine ⟨by simp only [PyData.canLay0]; exact prs_lay23 ps, ?_⟩
  simp only [PyData.depth]
  omega
theorem eqv_prs23 : ∀ ps : List P2, PyData.eqvAll (prDs ps) (prDs ps) = true
  | [] => rfl
  | p :: ps => by
    show PyData.eqvAll (prD p :: prDs ps) (prD p :: prDs ps) = true
    simp [PyData.eqvAll, PyData.eqv, eqv_prs23 ps]
theorem eqv_vl23 (ps : List P2) : PyData.eqv (vlD ps) (vlD ps) = true := by simp only [PyData.eqv, eqv_prs23]
def spJR (K : PySem.W.Frag) : Sp := fun vs H Q _ => ∃ (p : Addr) (m : Nat) (v : V) (Ps : List (List P2)), vs = [.ref p, v] ∧ Pot H p m ∧ m + 4 ≤ 1099511627776 ∧ Dp K H v (vlsD Ps) ∧ Fj Ps ∧
  ∀ H', Sx p H H' → Pot H' p (m + 4) → Q (.bl true) H'
section
variable {P : Program} {w : World} {K : PySem.W.Frag} {mg : Str → Option Value} {base : Heap}
theorem ok_jr (T : Txt K mg) : FnOk P w K mg base CX0 8 T.f__law_joint_right T.d__law_joint_right ["_law_source_here", "_law_parts"] (spJR K) := by
  have g__law_draw := ok_take (P := P) (w := w) (base := base) T
  have g_joint_lows := ok_jl (P := P) (w := w) (base := base) T
  have g_joint_valleys := ok_jv (P := P) (w := w) (base := base) T
  have g_is_start_valleys := ok_iss (P := P) (w := w) (base := base) T
  have g_valley_at := ok_vla (P := P) (w := w) (base := base) T
  refine T.F__law_joint_right.ok sc__law_joint_right (fun vs H Q E h => ?_) (fun cdv A outer s H vs Q E hr h => ?_)
  · obtain ⟨p, m, v, Ps, rfl, _⟩ := h
    rfl
  obtain ⟨p, m, v, Ps, rfl, hp, hm, hd, fj, q⟩ := h
  refine ⟨_, (pss_cons (ps_set (i := 2) sc__law_joint_right.nd rfl (Or.inl rfl) (pe_call g_joint_valleys (hr.mono (by omega)) rfl T.m_joint_valleys T.F_joint_valleys.kp T.b_joint_valleys .nil passN (pa_cons (pv 1) pa_nil)))
      (pss_cons (ps_if (PW.pt (pw_or (pt_cmpR op_notBl (pe_call g_is_start_valleys (hr.mono (by omega)) rfl T.m_is_start_valleys T.F_is_start_valleys.kp T.b_is_start_valleys .nil pass0 (pa_cons (pv 2) pa_nil)) pe_bl (nomark _)) (pw_or1 (pt_cmpR (r := rNeD K) (op_neD hr.units) (pe_ix (r := rIxT K) ix_tup (pe_ix (r := rIxT K) ix_tup (pv 2) (pe_un un_neg pe_int) (fun _ _ => rfl)) pe_int (fun _ _ => rfl)) (pe_callB (r := rSum K) (cr_sum rfl) (by rfl) T.n_sum (by decide +kernel) (pa_cons (pe_lc (own := [("_law_part", 5)]) (g := (gName 5)) (by rfl) sc__law_joint_right.nd (pi_tup (pv 1)) (blkOk_by (N := N__law_joint_right) (sc := (defScope s__law_joint_right)) (by decide +kernel)) (fun _ _ _ _ _ => (pg_name (i := 5) sc__law_joint_right.nd rfl (Or.inl rfl))) (fun _ _ _ _ _ => pts_nil) (fun _ _ _ _ _ => (pe_ix (r := rIxT K) ix_tup (pe_ix (r := rIxT K) ix_tup (pv 5) (pe_un un_neg pe_int) (fun _ _ => rfl)) pe_int (fun _ _ => rfl)))) pa_nil)) (nomark _))))) (pss_one (ps_ret pe_bl)) pss_nil)
      (pss_cons (ps_set (i := 3) sc__law_joint_right.nd rfl (Or.inl rfl) (pe_op op_cat (pe_op op_cat (pe_lst (pa_cons pe_int pa_nil)) (pe_lc (own := [("_law_pair", 6)]) (g := (gName 6)) (by rfl) sc__law_joint_right.nd (pi_tup (pv 2)) (blkOk_by (N := N__law_joint_right) (sc := (defScope s__law_joint_right)) (by decide +kernel)) (fun _ _ _ _ _ => (pg_name (i := 6) sc__law_joint_right.nd rfl (Or.inl rfl))) (fun _ _ _ _ _ => pts_nil) (fun _ _ _ _ _ => (pe_ix (r := rIxT K) ix_tup (pv 6) pe_int (fun _ _ => rfl))))) (pe_lc (own := [("_law_pair", 6)]) (g := (gName 6)) (by rfl) sc__law_joint_right.nd (pi_tup (pe_slice (r := rSlA K) sl_tupA (pv 2) (po_some pe_int) po_none)) (blkOk_by (N := N__law_joint_right) (sc := (defScope s__law_joint_right)) (by decide +kernel)) (fun _ _ _ _ _ => (pg_name (i := 6) sc__law_joint_right.nd rfl (Or.inl rfl))) (fun _ _ _ _ _ => pts_nil) (fun _ _ _ _ _ => (pe_op op_sub (pe_ix (r := rIxT K) ix_tup (pv 6) pe_int (fun _ _ => rfl)) pe_int)))))
      (pss_cons (ps_set (i := 3) sc__law_joint_right.nd rfl (Or.inl rfl) (pe_op op_cat (pv 3) (pe_lc (own := [("_law_turn", 7)]) (g := (gName 7)) (by rfl) sc__law_joint_right.nd (pi_range1 rfl T.n_range (pa_cons pe_int pa_nil)) (blkOk_by (N := N__law_joint_right) (sc := (defScope s__law_joint_right)) (by decide +kernel)) (fun _ _ _ _ _ => (pg_name (i := 7) sc__law_joint_right.nd rfl (Or.inl rfl))) (fun _ _ _ _ _ => pts_nil) (fun _ _ _ _ _ => (pe_call g__law_draw (hr.mono (by omega)) rfl T.m__law_draw T.F__law_draw.kp T.b__law_draw .nil pass0 (pa_cons (pv 0) (pa_cons pe_int pa_nil)))))))
      (pss_cons (ps_for PassesOwn.never rfl (pi_list (pv 3)) (pg_name (i := 4) sc__law_joint_right.nd rfl (Or.inl rfl))
        (pss_one (ps_if (pt_cmpR (r := rNeD K) (op_neD hr.units) (pe_call g_valley_at (hr.mono (by omega)) rfl T.m_valley_at T.F_valley_at.kp T.b_valley_at .nil passN (pa_cons (pv 2) (pa_cons (pv 4) pa_nil))) (pe_callB (r := rSumT K) (cr_sumT rfl) (by rfl) T.n_sum (by decide +kernel) (pa_cons (pe_call g_joint_lows (hr.mono (by omega)) rfl T.m_joint_lows T.F_joint_lows.kp T.b_joint_lows .nil passN (pa_cons (pv 1) (pa_cons (pv 4) pa_nil))) pa_nil)) (nomark _)) (pss_one (ps_ret pe_bl)) pss_nil)))
      (pss_one (ps_ret (pe_and (pe_cmpR (r := rEqD K) (op_eqD hr.units) (pe_call g_joint_valleys (hr.mono (by omega)) rfl T.m_joint_valleys T.F_joint_valleys.kp T.b_joint_valleys .nil passN (pa_cons (pe_revT (pv 1)) pa_nil)) (pv 2) (nomark _)) (pe_one (pe_cmpR (r := rEqD K) (op_eqD hr.units) (pe_call g_joint_valleys (hr.mono (by omega)) rfl T.m_joint_valleys T.F_joint_valleys.kp T.b_joint_valleys .nil passN (pa_cons (pe_op (r := rCatA K) op_catA (pv 1) (pe_tup (pa_cons (pe_tup (pa_cons (pe_tup (pa_cons pe_int (pa_cons pe_int pa_nil))) pa_nil)) pa_nil))) pa_nil)) (pv 2) (nomark _))))))))))), ?_⟩
  have fw := fj.fw
  have l300 := fj.len
  have n100 := fw.n
  obtain ⟨l0, hl0⟩ := hp.lst
  have hPt := fw.ok.sv.parts
  refine ⟨_, rfl, jv_use hd fw.ok fun R hJ hlR => ⟨by omega, fun H1 f s1 df => ?_⟩⟩
  have R400 : R.length ≤ 400 := by omega
  have hsb := sv_start hJ.sv R400
  refine ⟨_, rfl, f, _, rfl, df, fun H2 s2 => ?_⟩
  rw [hsb]
  refine ⟨_, _, rfl, rfl, _, rfl, iteF ?_⟩
  -- the last usages
  have df2 := dp_same s2 df
  have s02 := s1.trans s2
  have hd2 := dp_same s02 hd
  obtain ⟨fa, xF, rfl, hsF, hallF⟩ := dp_tup_inv df2
  obtain ⟨pl, ePl, eSum⟩ := hJ.lst
  obtain ⟨A0, eA0⟩ := List.getLast?_eq_some_iff.mp ePl
  have lastv : ∀ {H : Hp} {xs : List V} {ps : List P2} {p : P2}, DpAll K H xs (prDs ps) → ps.getLast? = some p → ∃ t, atI xs (-1) = some (.ref t) ∧ SqT K H t [.int p.1, .int p.2] := by
    intro H xs ps p h e
    obtain ⟨A, rfl⟩ := List.getLast?_eq_some_iff.mp e
    have hl : xs.length = A.length + 1 := by rw [dpAll_length h, prDs, List.length_map, List.length_append]; rfl
    obtain ⟨ys, y, rfl⟩ := list_snoc (l := xs) (fun z => by rw [z] at hl; simp at hl)
    have ly : ys.length = A.length := by simpa using hl
    obtain ⟨p', ep, hy⟩ := prs_at h (i := ys.length) (x := y) (by simp)
    rw [ly] at ep
    have : p' = p := by simpa using ep.symm
    subst this
    obtain ⟨t, rfl, k⟩ := pr_inv hy
    exact ⟨t, L2.atI_last _ _, k⟩
  obtain ⟨tl, el1, el2⟩ := lastv hallF ePl
  obtain ⟨pa, xP, rfl, hsP, hall⟩ := dp_tup_inv hd2
  have hlP : xP.length = Ps.length := by rw [dpAll_length hall, List.length_map]
  refine ⟨_, rfl, _, rfl, _, _, _, _, rfl, rfl, hsF, el1, _, _, _, _, rfl, rfl, el2, atI_at (j := 1) rfl rfl, ?_⟩
  refine ⟨_, rfl, pa, rfl, ⟨xP, hsP⟩, fun D hD => ?_⟩
  refine lc_tup (K := K) (a := pa) (xs := xP) (fun i G => Same H2 G ∧ G D = some (.lst ((((List.range Ps.length).map (lastF (pF Ps))).take i).map V.int))) ⟨same_new hD, upd_same⟩ (fun i G _ ⟨s, _⟩ => same_sqT s hsP) ?_ ?_
  · rintro i y G hi ⟨s4, eD⟩
    obtain ⟨d, ed, hdy⟩ := dpAll_get hall hi
    rw [List.getElem?_map] at ed
    obtain ⟨ps, eps, rfl⟩ := Option.map_eq_some_iff.mp ed
    obtain ⟨ty, ys, rfl, hty, hys⟩ := dp_tup_inv hdy
    have hi2 := (List.getElem?_eq_some_iff.mp eps).1
    obtain ⟨l, W, ew, _⟩ := (fw.ok.sv ps (List.mem_of_getElem? eps)).hd
    obtain ⟨pz, ez⟩ : ∃ pz, ps.getLast? = some pz := ⟨_, List.getLast?_eq_some_getLast (by rw [ew]; simp)⟩
    obtain ⟨tz, ez1, ez2⟩ := lastv hys ez
    refine ⟨rfl, ?_⟩
    unfold tYes
    refine iteT ?_
    refine ⟨_, rfl, _, rfl, _, _, _, _, rfl, rfl, same_sqT s4 hty, ez1, _, _, _, _, rfl, rfl, same_sqT s4 ez2, atI_at (j := 1) rfl rfl, ?_⟩
    refine ⟨_, eD, ?_, ?_, ?_⟩
    · rw [List.length_map, List.length_take, List.length_map, List.length_range]
      exact small1000 (by omega)
    · intro c o hc
      rw [upd_ne (ne_of_none hc hD)]
      exact s4 _ _ hc
    · rw [upd_same, List.take_add_one, List.getElem?_map, List.getElem?_range hi2, List.map_append]
      have : lastF (pF Ps) i = pz.2 := by
        unfold lastF
        rw [pF_at eps, ez]
        rfl
      show some (HO.lst (_ ++ [V.int pz.2])) = some (HO.lst (_ ++ [V.int (lastF (pF Ps) i)]))
      rw [this]
  rintro G ⟨s4, eD⟩
  rw [hlP, List.take_of_length_le (by rw [List.length_map, List.length_range]; omega)] at eD
  have esum : ((List.range Ps.length).map (lastF (pF Ps))).sum = pl.2 := by
    rw [eSum, fI_sum, List.length_map, List.length_range]
    refine sumN_congr fun i hi => fI_at ?_
    rw [List.getElem?_map, List.getElem?_range hi]
    rfl
  refine ⟨D, _, rfl, SqL.of eD, .int pl.2, .int pl.2, .int _, by rw [esum]; exact .int _, by rfl, by rfl, _, rfl, iteFx (by simp [PyData.eqv]) ?_⟩
  have s24 := s02.trans s4
  have hsF4 := same_sqT s4 hsF
  have hallF4 := dpAll_same s4 hallF
  clear eD el1 el2 hD
  have xlF : xF.length = R.length := by rw [dpAll_length hallF, prDs, List.length_map]
  -- capacities
  refine ⟨(by show 1 ≤ sizeLine; decide), fun q1 hq1 => ?_⟩
  have n1 : Same G (upd G q1 (.lst [.int 0])) := same_new hq1
  have g1 : (upd G q1 (.lst [.int 0])) q1 = some (.lst (([0] : List Int).map V.int)) := upd_same
  generalize (upd G q1 (.lst [.int 0])) = G1 at n1 g1 ⊢
  refine ⟨_, rfl, fa, rfl, ⟨xF, same_sqT n1 hsF4⟩, fun D1 hD1 => ?_⟩
  refine lc_tup (K := K) (a := fa) (xs := xF) (fun i F => Same G1 F ∧ F D1 = some (.lst (((R.map (fun p : P2 => p.1)).take i).map V.int))) ⟨same_new hD1, upd_same⟩ (fun i F _ ⟨s, _⟩ => same_sqT (n1.trans s) hsF4) ?_ ?_
  · rintro i y F hi ⟨s5, eD⟩
    obtain ⟨r, er, hy⟩ := prs_at hallF4 hi
    obtain ⟨t, rfl, k⟩ := pr_inv hy
    have hi2 := (List.getElem?_eq_some_iff.mp er).1
    refine ⟨rfl, ?_⟩
    unfold tYes
    refine iteT ?_
    refine ⟨_, rfl, _, _, _, _, rfl, rfl, same_sqT (n1.trans s5) k, atI_at (j := 0) rfl rfl, _, eD, ?_, fun c o hc => ?_, ?_⟩
    · rw [List.length_map, List.length_take, List.length_map]
      exact small1000 (by omega)
    · rw [upd_ne (ne_of_none hc hD1)]
      exact s5 _ _ hc
    · rw [upd_same, List.take_add_one, List.getElem?_map, er, List.map_append]
      rfl
  rintro F1 ⟨s5, eD1⟩
  rw [xlF, List.take_of_length_le (by rw [List.length_map]; omega)] at eD1
  refine ⟨q1, D1, _, _, rfl, rfl, s5 _ _ g1, eD1, (by rw [List.length_map, List.length_map, List.length_map, sizeLine_eq]; simp only [List.length_cons, List.length_nil]; omega), fun q2 hq2 => ?_⟩
  rw [← List.map_append]
  have n2 : Same F1 (upd F1 q2 (.lst ((([0] : List Int) ++ R.map (fun p : P2 => p.1)).map V.int))) := same_new hq2
  have g2 : (upd F1 q2 (.lst ((([0] : List Int) ++ R.map (fun p : P2 => p.1)).map V.int))) q2 = some (.lst ((([0] : List Int) ++ R.map (fun p : P2 => p.1)).map V.int)) := upd_same
  generalize (upd F1 q2 (.lst ((([0] : List Int) ++ R.map (fun p : P2 => p.1)).map V.int))) = F2 at n2 g2 ⊢
  have sG2 := n1.trans (s5.trans n2)
  clear hq1 hq2 hD1 eD1 g1 s5 n1 n2
  -- and one below each
  refine ⟨_, rfl, _, rfl, ?_⟩
  unfold tNoPart
  dsimp only
  refine slT (same_sqT sG2 hsF4) fun F3 b n3 hb => ?_
  rw [cut_1] at hb
  refine ⟨b, rfl, ⟨_, hb⟩, fun D2 hD2 => ?_⟩
  have sG3 := sG2.trans n3
  refine lc_tup (K := K) (a := b) (xs := xF.drop 1) (fun i F => Same F3 F ∧ F D2 = some (.lst ((((R.drop 1).map fun p : P2 => p.1 - 1).take i).map V.int))) ⟨same_new hD2, upd_same⟩ (fun i F _ ⟨s, _⟩ => same_sqT s hb) ?_ ?_
  · rintro i y F hi ⟨s5, eD⟩
    rw [List.getElem?_drop] at hi
    obtain ⟨r, er, hy⟩ := prs_at hallF4 hi
    obtain ⟨t, rfl, k⟩ := pr_inv hy
    have hi2 := (List.getElem?_eq_some_iff.mp er).1
    refine ⟨rfl, ?_⟩
    unfold tYes
    refine iteT ?_
    refine ⟨_, rfl, _, _, _, _, rfl, rfl, same_sqT (sG3.trans s5) k, atI_at (j := 0) rfl rfl, _, _, rfl, rfl, _, eD, ?_, fun c o hc => ?_, ?_⟩
    · rw [List.length_map, List.length_take, List.length_map, List.length_drop]
      exact small1000 (by omega)
    · rw [upd_ne (ne_of_none hc hD2)]
      exact s5 _ _ hc
    · rw [upd_same, List.take_add_one, List.getElem?_map, List.getElem?_drop, er, List.map_append]
      rfl
  rintro F4 ⟨s5, eD2⟩
  rw [List.take_of_length_le (by rw [List.length_map, List.length_drop, List.length_drop]; omega)] at eD2
  refine ⟨q2, D2, _, _, rfl, rfl, s5 _ _ (n3 _ _ g2), eD2, (by rw [List.length_map, List.length_map, List.length_map, List.length_append, List.length_map, List.length_drop, sizeLine_eq]; simp only [List.length_cons, List.length_nil]; omega), fun q3 hq3 => ?_⟩
  rw [← List.map_append]
  have bsb : ∀ x ∈ (([0] : List Int) ++ R.map (fun p : P2 => p.1)) ++ (R.drop 1).map (fun p : P2 => p.1 - 1), 0 ≤ x ∧ x ≤ 2000000000000000000000000000000000000000000000000000000000000 := by
    intro x hx
    rcases List.mem_append.mp hx with hx | hx
    · rcases List.mem_append.mp hx with hx | hx
      · rw [List.mem_singleton.mp hx]
        decide
      · obtain ⟨r, hr, rfl⟩ := List.mem_map.mp hx
        exact hJ.bd fw r hr
    · obtain ⟨r, hr, rfl⟩ := List.mem_map.mp hx
      have b1 := hJ.bd fw r (List.mem_of_mem_drop hr)
      have : 1 ≤ r.1 := by
        obtain ⟨l, W, e, _⟩ := hJ.hd
        have st := hJ.st
        rw [e] at hr st
        have := ((List.pairwise_cons.mp st).1 r (by simpa using hr)).1
        dsimp only at this
        omega
      omega
  have bsl : ((([0] : List Int) ++ R.map (fun p : P2 => p.1)) ++ (R.drop 1).map (fun p : P2 => p.1 - 1)).length ≤ 900 := by
    rw [List.length_append, List.length_append, List.length_map, List.length_map, List.length_drop]
    simp only [List.length_cons, List.length_nil]
    omega
  generalize (([0] : List Int) ++ R.map (fun p : P2 => p.1)) ++ (R.drop 1).map (fun p : P2 => p.1 - 1) = bs at bsb bsl ⊢
  have n6 : Same F4 (upd F4 q3 (.lst (bs.map V.int))) := same_new hq3
  have g3 : (upd F4 q3 (.lst (bs.map V.int))) q3 = some (.lst (bs.map V.int)) := upd_same
  have sGF := sG3.trans (s5.trans n6)
  have S5 := s24.trans sGF
  have nq3p : q3 ≠ p := fun z => by
    have := (s24.trans (sG3.trans s5)) _ _ hl0
    rw [← z, hq3] at this
    cases this
  generalize (upd F4 q3 (.lst (bs.map V.int))) = F5 at n6 g3 S5 sGF ⊢
  clear eD2 hD2 hb g2 hq3 n6 s5 sG3 n3 sG2
  -- and four that are drawn
  have hp5 := hp.same S5
  obtain ⟨l5, hl5⟩ := hp5.lst
  have hd5 := dp_same S5 hd
  have df5 : Dp K F5 (.ref fa) (vlD R) := .tup (same_sqT sGF hsF4) (dpAll_same sGF hallF4)
  refine ⟨_, rfl, _, rfl, by decide, by decide, fun D3 hD3 => ?_⟩
  have nD3p : D3 ≠ p := fun z => by rw [z, hl5] at hD3; cases hD3
  have nD3q : D3 ≠ q3 := fun z => by rw [z, g3] at hD3; cases hD3
  refine lc_range (lo := 0) (n := (4 : Int).toNat) (fun j F => Sx p F5 F ∧ Pot F p (m + j) ∧ ∃ ds : List Int, F D3 = some (.lst (ds.map V.int)) ∧ ds.length = j ∧ ∀ x ∈ ds, 0 ≤ x ∧ x < 300) ⟨sx_new hD3, hp5.same (same_new hD3), [], upd_same, rfl, (fun x h => by cases h)⟩ ?_ ?_
  · rintro j F hj ⟨sF, hpF, ds, eD, dl, db⟩
    have hj4 : j < 4 := hj
    refine ⟨rfl, ?_⟩
    unfold tYes
    refine iteT ?_
    refine ⟨_, rfl, p, m + j, 300, rfl, hpF, by omega, by decide, by decide, fun F6 x s6 hp6 x0 x1 => ?_⟩
    refine ⟨_, s6 D3 _ nD3p eD, ?_, fun b o nb hb => ?_, ?_, ds ++ [x], ?_, by simp [dl], fun y hy => ?_⟩
    · rw [List.length_map]
      exact small1000 (by omega)
    · rw [upd_ne (ne_of_none hb hD3)]
      exact s6 b o nb (sF b o nb hb)
    · obtain ⟨a1, a2, a3, p1, p2⟩ := hp6.mono (show m + j + 1 ≤ m + (j + 1) by omega)
      exact ⟨a1, a2, a3, by rw [upd_ne nD3p.symm]; exact p1, p2⟩
    · rw [upd_same, List.map_append]
      rfl
    · rcases List.mem_append.mp hy with z | z
      · exact db y z
      · rw [List.mem_singleton.mp z]
        exact ⟨x0, x1⟩
  rintro F6 ⟨s6, hp6, ds, eD3, dl, db⟩
  have dl4 : ds.length = 4 := dl
  refine ⟨q3, D3, _, _, rfl, rfl, s6 q3 _ nq3p g3, eD3, (by rw [List.length_map, List.length_map, sizeLine_eq]; omega), fun q4 hq4 => ?_⟩
  rw [← List.map_append]
  have csb : ∀ x ∈ bs ++ ds, 0 ≤ x ∧ x ≤ 2000000000000000000000000000000000000000000000000000000000000 := fun x hx => by
    rcases List.mem_append.mp hx with z | z
    · exact bsb x z
    · have := db x z
      omega
  have csl : (bs ++ ds).length ≤ 1000 := by rw [List.length_append]; omega
  generalize bs ++ ds = cs at csb csl ⊢
  have n7 : Same F6 (upd F6 q4 (.lst (cs.map V.int))) := same_new hq4
  have g4 : (upd F6 q4 (.lst (cs.map V.int))) q4 = some (.lst (cs.map V.int)) := upd_same
  have S7 : Sx p H (upd F6 q4 (.lst (cs.map V.int))) := (Same.sx S5).trans (s6.trans (Same.sx n7))
  have d7 : Dp K (upd F6 q4 (.lst (cs.map V.int))) (.ref pa) (vlsD Ps) := dp_same n7 (s6.dp hl5 (noL_vls Ps) hd5)
  have df7 : Dp K (upd F6 q4 (.lst (cs.map V.int))) (.ref fa) (vlD R) := dp_same n7 (s6.dp hl5 (by simp only [noL]; exact noLs_prV _) df5)
  have hp7 : Pot (upd F6 q4 (.lst (cs.map V.int))) p (m + 4) := (hp6.same n7).mono (by show m + 4 ≤ m + 4; omega)
  generalize (upd F6 q4 (.lst (cs.map V.int))) = F7 at n7 g4 S7 d7 df7 hp7 ⊢
  clear n7 hq4 eD3 dl db s6 hp6 dl4 nD3q nD3p hD3 g3 hp5 hd5 df5 hl5 S5 sGF
  show tSeq _ _ _ [some (.ref p), some (.ref pa), some (.ref fa), some (.ref q4), none, none, none, none] F7
  have hv := (valB_iff (d := vlD R)).mpr ⟨R, rfl, by obtain ⟨l, W, e, _⟩ := hJ.hd; rw [e]; simp, R400, hJ.st⟩
  refine ⟨_, rfl, q4, rfl, ⟨_, SqL.of g4⟩, ?_⟩
  refine for_list (K := K) (a := q4) (xs := cs.map V.int) (fun i σ F => ∃ y4 y5 y6 y7 : Option V, σ = [some (.ref p), some (.ref pa), some (.ref fa), some (.ref q4), y4, y5, y6, y7] ∧ Same F7 F) ⟨none, none, none, none, rfl, Same.refl _⟩ (fun i σ F _ ⟨_, _, _, _, _, s⟩ => SqL.of (s _ _ g4)) ?_ ?_
  · rintro i y σ F hi ⟨y4, y5, y6, y7, rfl, s8⟩
    rw [List.getElem?_map] at hi
    obtain ⟨x, ex, rfl⟩ := Option.map_eq_some_iff.mp hi
    obtain ⟨x0, x1⟩ := csb x (List.mem_of_getElem? ex)
    have hn : numB (.int x) = true := by
      rw [numB_int, decide_eq_true (by unfold N61; omega), decide_eq_true (by unfold N61; omega)]
      rfl
    refine ⟨_, rfl, _, rfl, va_use (dp_same s8 df7) hv hn fun F8 s9 => ?_⟩
    refine ⟨_, rfl, _, rfl, jl_use (dp_same (s8.trans s9) d7) fw.ok x0 hn fun F9 rl L s10 dL hL low => ?_⟩
    obtain ⟨la, xL, rfl, hsL, hallL⟩ := dp_tup_inv dL
    obtain rfl := pv_ints hallL
    have ev : valAt x R = some L.sum := by
      rw [valAt_vlF, hJ.val x x0 (fI L) low, fI_sum, hL]
    refine ⟨la, L, rfl, hsL, .int L.sum, .int L.sum, by rw [ev]; exact .int _, .int _, by rfl, by rfl, _, rfl, iteFx (by simp [PyData.eqv]) ?_⟩
    exact ⟨_, _, _, _, rfl, s8.trans (s9.trans s10)⟩
  · rintro σ F ⟨y4, y5, y6, y7, rfl, s8⟩
    have d8 := dp_same s8 d7
    have df8 := dp_same s8 df7
    obtain ⟨pa', xP', e', hsP8, hall8⟩ := dp_tup_inv d8
    cases e'
    have hlP8 : xP'.length = Ps.length := by rw [dpAll_length hall8, List.length_map]
    refine ⟨_, rfl, pa, xP', rfl, hsP8, fun t ht => ?_⟩
    have s9 : Same F (upd F t (.tup xP'.reverse)) := same_new ht
    have d9 : Dp K (upd F t (.tup xP'.reverse)) (.ref t) (vlsD Ps.reverse) := by
      refine .tup (SqT.of upd_same) ?_
      rw [List.map_reverse]
      exact dpAll_rev (dpAll_same s9 hall8)
    generalize (upd F t (.tup xP'.reverse)) = F9 at s9 d9 ⊢
    refine jv_use d9 fw.ok.rev fun S hS hlS => ⟨by rw [lenAll_rev] at hlS; omega, fun F10 r s10 dS => ?_⟩
    rw [List.length_reverse] at hS
    have eS : S = R := hJ.rev hPt (fun i hi => pF_rev hi) hS
    subst eS
    refine ⟨_, rfl, _, _, dS, dp_same (s9.trans s10) df8, shaped_prs23 _, shaped_prs23 _, _, rfl, iteTx (eqv_vl23 _) ?_⟩
    have s810 := s9.trans s10
    -- a part that adds nothing
    refine ⟨_, rfl, (by show 2 ≤ sizeLine; decide), fun t1 ht1 => ⟨(by show 1 ≤ sizeLine; decide), fun t2 ht2 => ⟨(by show 1 ≤ sizeLine; decide), fun t3 ht3 => ?_⟩⟩⟩
    have n1 : Same F10 (upd F10 t1 (.tup [.int 0, .int 0])) := same_new ht1
    have k1 : Dp K (upd F10 t1 (.tup [.int 0, .int 0])) (.ref t1) (prD (0, 0)) := .tup (SqT.of upd_same) (.cons (.int _) (.cons (.int _) .nil))
    generalize (upd F10 t1 (.tup [.int 0, .int 0])) = F11 at n1 k1 ht2 ht3 ⊢
    have n2 : Same F11 (upd F11 t2 (.tup [.ref t1])) := same_new ht2
    have k2 : Dp K (upd F11 t2 (.tup [.ref t1])) (.ref t2) (vlD [(0, 0)]) := .tup (SqT.of upd_same) (.cons (dp_same n2 k1) .nil)
    generalize (upd F11 t2 (.tup [.ref t1])) = F12 at n2 k2 ht3 ⊢
    have n3 : Same F12 (upd F12 t3 (.tup [.ref t2])) := same_new ht3
    have k3 : SqT K (upd F12 t3 (.tup [.ref t2])) t3 [.ref t2] := SqT.of upd_same
    have k2' := dp_same n3 k2
    generalize (upd F12 t3 (.tup [.ref t2])) = F13 at n3 k3 k2' ⊢
    have s813 := s810.trans (n1.trans (n2.trans n3))
    refine cat22 (same_sqT s813 hsP8) k3 (by rw [List.length_singleton, sizeLine_eq]; omega) fun F14 t4 n4 k4 => ?_
    have d14 : Dp K F14 (.ref t4) (vlsD (Ps ++ [[(0, 0)]])) := by
      refine .tup k4 ?_
      rw [List.map_append]
      exact dpAll_append (dpAll_same (s813.trans n4) hall8) (.cons (dp_same n4 k2') .nil)
    have ok1 : PartsOk (Ps ++ [[(0, 0)]]) := fw.ok.snoc0 (by omega)
    refine jv_use d14 ok1 fun S2 hS2 hlS2 => ⟨by rw [lenAll_app, List.length_append] at hlS2; simp only [lenAll, List.length_singleton, List.map_cons, List.map_nil, List.sum_cons, List.sum_nil] at hlS2 l300; omega, fun F15 r2 s15 dS2 => ?_⟩
    rw [List.length_append, List.length_singleton] at hS2
    have hP1 : Parts Ps.length (pF (Ps ++ [[(0, 0)]])) := fun i hi => by rw [pF_appl hi]; exact hPt i hi
    have eS2 : S2 = S := Joint.zero hP1 (hJ.congrP fun i hi => (pF_appl hi).symm) pF_app0 hS2
    subst eS2
    refine ⟨_, rfl, _, _, dS2, dp_same (s813.trans (n4.trans s15)) df8, shaped_prs23 _, shaped_prs23 _, ?_⟩
    rw [eqv_vl23]
    have sEnd := s8.trans (s813.trans (n4.trans s15))
    exact q _ (S7.trans (Same.sx sEnd)) (hp7.same sEnd)
theorem cut_from {us : List V} {k : Nat} (h : k ≤ us.length) : cutV us (some (k : Int)) none = us.drop k := by
  unfold cutV HT.sIx
  simp only [show ¬((k : Int) < 0) by omega, if_false]
  have e : ((k : Int)).toNat = k := rfl
  rw [e, Nat.min_eq_left h]
  exact List.take_of_length_le (by rw [List.length_drop]; omega)
theorem pF_left {A B : List (List P2)} {i : Nat} (h : i < A.length) : pF (A ++ B) i = pF A i := by
  have e : A[i]? = some A[i] := List.getElem?_eq_getElem h
  rw [pF_at e, pF_at (by rw [List.getElem?_append_left h]; exact e)]
theorem pF_right {A B : List (List P2)} {i : Nat} (h : i < B.length) : pF (A ++ B) (A.length + i) = pF B i := by
  have e : B[i]? = some B[i] := List.getElem?_eq_getElem h
  rw [pF_at e, pF_at (by rw [List.getElem?_append_right (by omega), show A.length + i - A.length = i by omega]; exact e)]
theorem PartsOk.sub {Ps Qs : List (List P2)} (h : PartsOk Ps) (hl : Qs.length ≤ Ps.length) (s : ∀ q ∈ Qs, q ∈ Ps) : PartsOk Qs := ⟨Nat.le_trans hl h.len, fun q hq => h.sv q (s q hq), fun q hq => h.each q (s q hq)⟩
theorem dpAll_drop23 {K : PySem.W.Frag} {H : Hp} : ∀ (n : Nat) {vs : List V} {ds : List PyData}, DpAll K H vs ds → DpAll K H (vs.drop n) (ds.drop n)
  | 0, _, _, h => by simpa using h
  | n + 1, _, _, .nil => by simpa using .nil
  | n + 1, _, _, .cons h t => dpAll_drop23 n t
def spGR (K : PySem.W.Frag) : Sp := fun vs H Q _ => ∃ (p : Addr) (m : Nat) (v : V) (Ps : List (List P2)), vs = [.ref p, v] ∧ Pot H p m ∧ m + 1 ≤ 1099511627776 ∧ Dp K H v (vlsD Ps) ∧ Fj Ps ∧
  ∀ H', Sx p H H' → Pot H' p (m + 1) → Q (.bl true) H'
theorem ok_gr (T : Txt K mg) : FnOk P w K mg base CX0 8 T.f__law_groups_right T.d__law_groups_right ["_law_source_here", "_law_parts"] (spGR K) := by
  have g__law_draw := ok_take (P := P) (w := w) (base := base) T
  have g_joint_valleys := ok_jv (P := P) (w := w) (base := base) T
  refine T.F__law_groups_right.ok sc__law_groups_right (fun vs H Q E h => ?_) (fun cdv A outer s H vs Q E hr h => ?_)
  · obtain ⟨p, m, v, Ps, rfl, _⟩ := h
    rfl
  obtain ⟨p, m, v, Ps, rfl, hp, hm, hd, fj, q⟩ := h
  refine ⟨_, (pss_cons (ps_set (i := 2) sc__law_groups_right.nd rfl (Or.inl rfl) (pe_call g__law_draw (hr.mono (by omega)) rfl T.m__law_draw T.F__law_draw.kp T.b__law_draw .nil pass0 (pa_cons (pv 0) (pa_cons (pe_op op_add (pe_callB (r := rLenS K) call_lenS (by rfl) T.n_len (by decide +kernel) (pa_cons (pv 1) pa_nil)) pe_int) pa_nil))))
      (pss_cons (ps_par (i := 3) (j := 4) (by rfl) sc__law_groups_right.nd rfl rfl (by decide) rfl rfl (pa_cons (pe_call g_joint_valleys (hr.mono (by omega)) rfl T.m_joint_valleys T.F_joint_valleys.kp T.b_joint_valleys .nil passN (pa_cons (pe_slice (r := rSlA K) sl_tupA (pv 1) po_none (po_some (pv 2))) pa_nil)) (pa_cons (pe_call g_joint_valleys (hr.mono (by omega)) rfl T.m_joint_valleys T.F_joint_valleys.kp T.b_joint_valleys .nil passN (pa_cons (pe_slice (r := rSlA K) sl_tupA (pv 1) (po_some (pv 2)) po_none) pa_nil)) pa_nil)) (by rfl))
      (pss_one (ps_ret (pe_cmpR (r := rEqD K) (op_eqD hr.units) (pe_call g_joint_valleys (hr.mono (by omega)) rfl T.m_joint_valleys T.F_joint_valleys.kp T.b_joint_valleys .nil passN (pa_cons (pe_tup (pa_cons (pv 3) (pa_cons (pv 4) pa_nil))) pa_nil)) (pe_call g_joint_valleys (hr.mono (by omega)) rfl T.m_joint_valleys T.F_joint_valleys.kp T.b_joint_valleys .nil passN (pa_cons (pv 1) pa_nil)) (nomark _)))))), ?_⟩
  have fw := fj.fw
  have l300 := fj.len
  have n100 := fw.n
  obtain ⟨l0, hl0⟩ := hp.lst
  obtain ⟨pa, xP, rfl, hsP, hall⟩ := dp_tup_inv hd
  have hlP : xP.length = Ps.length := by rw [dpAll_length hall, List.length_map]
  refine ⟨_, rfl, _, rfl, pa, _, rfl, .inr hsP, _, _, rfl, rfl, p, m, _, rfl, hp, by omega, by omega, Nat.lt_of_le_of_lt (show (((xP.length : Nat) : Int) + 1).natAbs ≤ 101 by omega) (by decide), fun H1 kk s1 hp1 k0 k1 => ?_⟩
  obtain ⟨k, rfl⟩ : ∃ k : Nat, kk = (k : Int) := ⟨kk.toNat, by omega⟩
  have kl : k ≤ Ps.length := by omega
  have hs1 := s1.sqT hl0 hsP
  have hall1 := dpAll_keep (fun b zs h => s1.sqT hl0 h) (noLs_vls _) hall
  have hd1 : Dp K H1 (.ref pa) (vlsD Ps) := .tup hs1 hall1
  refine ⟨_, rfl, ?_⟩
  unfold tNoPart
  dsimp only
  refine ⟨_, rfl, _, rfl, slT hs1 fun H2 ta s2 ea => ?_⟩
  rw [cut_to] at ea
  have okA : PartsOk (Ps.take k) := fw.ok.sub (by rw [List.length_take]; omega) fun q hq => List.mem_of_mem_take hq
  have okB : PartsOk (Ps.drop k) := fw.ok.sub (by rw [List.length_drop]; omega) fun q hq => List.mem_of_mem_drop hq
  have lA : (Ps.take k).length = k := by rw [List.length_take]; omega
  have lB : (Ps.drop k).length = Ps.length - k := by rw [List.length_drop]
  have eAB : Ps.take k ++ Ps.drop k = Ps := List.take_append_drop k Ps
  have lenAB : lenAll (Ps.take k) + lenAll (Ps.drop k) = lenAll Ps := by rw [← lenAll_app, eAB]
  have dA : Dp K H2 (.ref ta) (vlsD (Ps.take k)) := .tup ea (by rw [List.map_take]; exact dpAll_take22 k (dpAll_same s2 hall1))
  refine jv_use dA okA fun R1 hR1 hl1 => ⟨by omega, fun H3 f1 s3 df1 => ?_⟩
  have hs3 := same_sqT (s2.trans s3) hs1
  refine ⟨_, rfl, _, rfl, _, rfl, slT hs3 fun H4 tb s4 eb => ?_⟩
  rw [cut_from (by omega)] at eb
  have dB : Dp K H4 (.ref tb) (vlsD (Ps.drop k)) := .tup eb (by rw [List.map_drop]; exact dpAll_drop23 k (dpAll_same ((s2.trans s3).trans s4) hall1))
  refine jv_use dB okB fun R2 hR2 hl2 => ⟨by omega, fun H5 f2 s5 df2 => ?_⟩
  refine ⟨_, _, rfl, ?_⟩
  refine ⟨_, rfl, _, rfl, (by show 2 ≤ sizeLine; decide), fun t ht => ?_⟩
  have s6 : Same H5 (upd H5 t (.tup [f1, f2])) := same_new ht
  have d6 : Dp K (upd H5 t (.tup [f1, f2])) (.ref t) (vlsD [R1, R2]) := .tup (SqT.of upd_same) (.cons (dp_same ((s4.trans s5).trans s6) df1) (.cons (dp_same s6 df2) .nil))
  generalize (upd H5 t (.tup [f1, f2])) = H6 at s6 d6 ⊢
  have ok2 : PartsOk [R1, R2] := by
    refine ⟨(by show 2 ≤ 400; decide), fun ps hp => ?_, fun ps hp => ?_⟩
    · simp only [List.mem_cons, List.not_mem_nil, or_false] at hp
      rcases hp with rfl | rfl
      · exact hR1.sv
      · exact hR2.sv
    · simp only [List.mem_cons, List.not_mem_nil, or_false] at hp
      rcases hp with rfl | rfl <;> omega
  have l2 : lenAll [R1, R2] = R1.length + R2.length := by simp [lenAll]
  refine jv_use d6 ok2 fun S hS hlS => ⟨by rw [l2] at hlS; simp only [List.length_cons, List.length_nil] at hlS; omega, fun H7 r s7 dS => ?_⟩
  have sAll := s2.trans (s3.trans (s4.trans (s5.trans (s6.trans s7))))
  refine ⟨_, rfl, jv_use (dp_same sAll hd1) fw.ok fun W hW hlW => ⟨by omega, fun H8 r2 s8 dW => ?_⟩⟩
  have eP : Parts (k + (Ps.length - k)) (pF Ps) := fun i hi => fw.ok.sv.parts i (by omega)
  have eS : S = W := by
    refine Joint.groups (a := k) (b := Ps.length - k) (P := pF Ps) (R := R1) (S := R2) eP ?_ ?_ ?_ ?_
    · rw [lA] at hR1
      refine hR1.congrP fun i hi => ?_
      have := pF_left (A := Ps.take k) (B := Ps.drop k) (i := i) (by omega)
      rw [eAB] at this
      exact this.symm
    · rw [lB] at hR2
      refine hR2.congrP fun i hi => ?_
      have := pF_right (A := Ps.take k) (B := Ps.drop k) (i := i) (by omega)
      rw [eAB, lA] at this
      exact this.symm
    · refine hS.congrP fun i hi => ?_
      rcases (show i = 0 ∨ i = 1 by simp only [List.length_cons, List.length_nil] at hi; omega) with rfl | rfl <;> rfl
    · rw [show k + (Ps.length - k) = Ps.length by omega]
      exact hW
  subst eS
  refine ⟨_, _, dp_same s8 dS, dW, shaped_prs23 _, shaped_prs23 _, ?_⟩
  rw [eqv_vl23]
  exact q _ (s1.trans (Same.sx (sAll.trans s8))) (hp1.same (sAll.trans s8))
end
/-! block V23m: joint valleys of staircases (behind bV23j) -/
theorem vlF_idx {S : List P2} {i : Nat} {p : P2} {c : Int} (st : Strict S) (e : S[i]? = some p) (hp : p.1 ≤ c) (nx : ∀ q, S[i + 1]? = some q → c < q.1) : vlF c none S = some p.2 := by
  obtain ⟨hi, ei⟩ := List.getElem?_eq_some_iff.mp e
  have es : S = S.take i ++ p :: S.drop (i + 1) := by rw [← ei, ← List.drop_eq_getElem_cons hi, List.take_append_drop]
  rw [es]
  refine vlF_split hp fun q hq => ?_
  obtain ⟨j, hj, rfl⟩ := List.getElem_of_mem hq
  rw [List.length_drop] at hj
  have h1 : i + 1 < S.length := by omega
  have n1 := nx _ (List.getElem?_eq_getElem h1)
  rw [List.getElem_drop]
  by_cases z : j = 0
  · subst z
    simpa using n1
  · have := ((List.pairwise_iff_getElem.mp st) (i + 1) (i + 1 + j) h1 (by omega) (by omega)).1
    omega
theorem Dn.congr {n : Nat} {P : Nat → List P2} {c : Int} {k m : Nat → Nat} (h : Dn n P c k) (e : ∀ i, i < n → k i = m i) : Dn n P c m := by
  have el : ∀ i, i < n → lowF P k i = lowF P m i := fun i hi => by
    unfold lowF
    rw [e i hi]
  have et : totF n P k = totF n P m := sumN_congr el
  refine ⟨fun i hi => ?_, fun M hM i hi => by rw [← el i hi]; exact h.great M hM i hi⟩
  obtain ⟨p, e1, e2⟩ := h.ent i hi
  exact ⟨p, by rw [← e i hi]; exact e1, by rw [← et]; exact e2⟩
/-- a staircase -/
def stair (st : Int) (h : Nat) : List P2 := (List.range h).map fun j : Nat => (st * (j : Int), 0 - (j : Int))
theorem stair_at {st : Int} {h j : Nat} (hj : j < h) : (stair st h)[j]? = some (st * (j : Int), 0 - (j : Int)) := by
  unfold stair
  rw [List.getElem?_map, List.getElem?_range hj]
  rfl
theorem stair_no {st : Int} {h j : Nat} (hj : ¬ j < h) : (stair st h)[j]? = none := List.getElem?_eq_none (by unfold stair; rw [List.length_map, List.length_range]; omega)
theorem stair_len {st : Int} {h : Nat} : (stair st h).length = h := by unfold stair; rw [List.length_map, List.length_range]
theorem stair_sv {st : Int} {h : Nat} (h1 : 1 ≤ st) (hh : 1 ≤ h) : Sv (stair st h) := by
  refine ⟨List.pairwise_iff_getElem.mpr fun i j hi hj hij => ?_, ?_⟩
  · rw [stair_len] at hi hj
    have ei := stair_at (st := st) hi
    have ej := stair_at (st := st) hj
    rw [(List.getElem?_eq_some_iff.mp ei).2, (List.getElem?_eq_some_iff.mp ej).2]
    have : st * (i : Int) < st * (j : Int) := Int.mul_lt_mul_of_pos_left (by omega) (by omega)
    exact ⟨this, by dsimp only; omega⟩
  · obtain ⟨g, rfl⟩ : ∃ g, h = g + 1 := ⟨h - 1, by omega⟩
    refine ⟨0, (List.range g).map fun j : Nat => (st * ((j + 1 : Nat) : Int), 0 - ((j + 1 : Nat) : Int)), ?_, Int.le_refl _⟩
    unfold stair
    rw [List.range_succ_eq_map, List.map_cons, List.map_map]
    simp
theorem stair_take {st : Int} {h n : Nat} (hn : n ≤ h) : (stair st h).take n = stair st n := by
  unfold stair
  rw [← List.map_take, List.take_range, Nat.min_eq_left hn]
/-- two equal staircases side by side -/
def twL (st : Int) (h : Nat) : List P2 := (0, 0) :: (List.range (h - 1)).map fun j : Nat => ((st - 1) * ((j : Int) + 1) + 1, -2 * ((j : Int) + 1))
theorem twL_at {st : Int} {h k : Nat} (hk : k < h) : (twL st h)[k]? = some (if k = 0 then 0 else (st - 1) * (k : Int) + 1, -2 * (k : Int)) := by
  unfold twL
  cases k with
  | zero => rfl
  | succ j =>
    rw [List.getElem?_cons_succ, List.getElem?_map, List.getElem?_range (by omega)]
    simp
theorem twL_len {st : Int} {h : Nat} (hh : 1 ≤ h) : (twL st h).length = h := by unfold twL; rw [List.length_cons, List.length_map, List.length_range]; omega
theorem twL_sv {st : Int} {h : Nat} (h2 : 2 ≤ st) (hh : 1 ≤ h) : Sv (twL st h) := by
  refine ⟨List.pairwise_iff_getElem.mpr fun i j hi hj hij => ?_, 0, _, rfl, Int.le_refl _⟩
  rw [twL_len hh] at hi hj
  have ei := twL_at (st := st) hi
  have ej := twL_at (st := st) hj
  rw [(List.getElem?_eq_some_iff.mp ei).2, (List.getElem?_eq_some_iff.mp ej).2]
  have m : (st - 1) * (i : Int) < (st - 1) * (j : Int) := Int.mul_lt_mul_of_pos_left (by omega) (by omega)
  have m0 : 0 ≤ (st - 1) * (i : Int) := Int.mul_nonneg (by omega) (by omega)
  refine ⟨?_, by dsimp only; omega⟩
  dsimp only
  rw [if_neg (show ¬ j = 0 by omega)]
  split <;> omega
/-- how far c lets them go -/
theorem far_ex (f : Nat → Int) (c : Int) : ∀ h : Nat, 1 ≤ h → ∃ k, k < h ∧ (k = 0 ∨ f k ≤ c) ∧ (k + 1 < h → c < f (k + 1))
  | 0, z => absurd z (by omega)
  | 1, _ => ⟨0, by omega, .inl rfl, fun z => absurd z (by omega)⟩
  | h + 2, _ => by
    by_cases e : f (h + 1) ≤ c
    · exact ⟨h + 1, by omega, .inr e, fun z => absurd z (by omega)⟩
    · obtain ⟨k, k1, k2, k3⟩ := far_ex f c (h + 1) (by omega)
      refine ⟨k, by omega, k2, fun z => ?_⟩
      by_cases y : k + 1 < h + 1
      · exact k3 y
      · rw [show k + 1 = h + 1 by omega]
        omega
theorem tot2 {P : Nat → List P2} {k : Nat → Nat} : totF 2 P k = lowF P k 0 + lowF P k 1 := by
  show 0 + lowF P k 0 + lowF P k 1 = _
  omega
theorem joint_tw {st : Int} {h : Nat} {P : Nat → List P2} {R : List P2} (h2 : 2 ≤ st) (hh : 1 ≤ h) (e0 : P 0 = stair st h) (e1 : P 1 = stair st h) (hJ : Joint 2 P R) : R = twL st h := by
  have hP : Parts 2 P := fun i hi => by
    rcases (show i = 0 ∨ i = 1 by omega) with rfl | rfl
    · rw [e0]; exact stair_sv (by omega) hh
    · rw [e1]; exact stair_sv (by omega) hh
  refine hJ.eq_of (twL_sv h2 hh) fun c hc => ?_
  obtain ⟨k, kh, k1, k2⟩ := far_ex (fun k => (st - 1) * (k : Int) + 1) c h hh
  have mono : ∀ j : Nat, j + 1 ≤ k → (st - 1) * ((j : Int) + 1) + 1 ≤ c := fun j hj => by
    rcases k1 with z | z
    · omega
    · have : (st - 1) * ((j : Int) + 1) ≤ (st - 1) * (k : Int) := Int.mul_le_mul_of_nonneg_left (by omega) (by omega)
      omega
  have split : ∀ x : Int, st * x = (st - 1) * x + x := fun x => by rw [Int.sub_mul]; omega
  have dn : ∀ j : Nat, j ≤ k → Dn 2 P c (fun _ => j) := by
    intro j
    induction j with
    | zero => exact fun _ => Dn.start hP hc
    | succ j ih =>
      intro hj
      have d0 := ih (by omega)
      have m := mono j hj
      have s1 := split ((j : Int) + 1)
      have a0 : (P 0)[j]? = some (st * (j : Int), 0 - (j : Int)) := by rw [e0]; exact stair_at (by omega)
      have a1 : (P 1)[j]? = some (st * (j : Int), 0 - (j : Int)) := by rw [e1]; exact stair_at (by omega)
      have b0 : (P 0)[j + 1]? = some (st * ((j + 1 : Nat) : Int), 0 - ((j + 1 : Nat) : Int)) := by rw [e0]; exact stair_at (by omega)
      have b1 : (P 1)[j + 1]? = some (st * ((j + 1 : Nat) : Int), 0 - ((j + 1 : Nat) : Int)) := by rw [e1]; exact stair_at (by omega)
      have t0 : totF 2 P (fun _ => j) = -2 * (j : Int) := by
        rw [tot2, lowF_at (k := fun _ => j) a0, lowF_at (k := fun _ => j) a1]
        dsimp only
        omega
      have ec : (((j + 1 : Nat) : Int)) = (j : Int) + 1 := by omega
      obtain ⟨d1, t1, _⟩ := d0.step hP (i := 0) (by omega) a0 b0 (by rw [t0, ec]; dsimp only; omega)
      obtain ⟨d2, _, _⟩ := d1.step hP (i := 1) (p := (st * (j : Int), 0 - (j : Int))) (by omega) (by rw [upF_ne (by decide)]; exact a1) (by rw [upF_ne (by decide)]; exact b1) (by rw [t1, t0, ec]; dsimp only; omega)
      refine d2.congr fun i hi => ?_
      rcases (show i = 0 ∨ i = 1 by omega) with rfl | rfl <;> rfl
  have sk : Stuck 2 P c (fun _ => k) := by
    intro i p q hi ep eq
    have tt : totF 2 P (fun _ => k) = -2 * (k : Int) := by
      have a0 : (P 0)[k]? = some (st * (k : Int), 0 - (k : Int)) := by rw [e0]; exact stair_at kh
      have a1 : (P 1)[k]? = some (st * (k : Int), 0 - (k : Int)) := by rw [e1]; exact stair_at kh
      rw [tot2, lowF_at (k := fun _ => k) a0, lowF_at (k := fun _ => k) a1]
      dsimp only
      omega
    have ePi : P i = stair st h := by rcases (show i = 0 ∨ i = 1 by omega) with rfl | rfl <;> assumption
    rw [ePi] at ep eq
    have kl : k + 1 < h := by
      apply Classical.byContradiction
      intro z
      rw [stair_no z] at eq
      cases eq
    rw [stair_at kh] at ep
    rw [stair_at kl] at eq
    cases ep
    cases eq
    have := k2 kl
    have ec : (((k + 1 : Nat) : Int)) = (k : Int) + 1 := by omega
    have s1 := split ((k : Int) + 1)
    rw [ec] at this ⊢
    rw [tt]
    dsimp only at this ⊢
    omega
  refine ⟨_, (dn k (Nat.le_refl _)).low hP sk, ?_⟩
  have a0 : (P 0)[k]? = some (st * (k : Int), 0 - (k : Int)) := by rw [e0]; exact stair_at kh
  have a1 : (P 1)[k]? = some (st * (k : Int), 0 - (k : Int)) := by rw [e1]; exact stair_at kh
  have es : sumN 2 (lowF P fun _ => k) = -2 * (k : Int) := by
    show totF 2 P (fun _ => k) = _
    rw [tot2, lowF_at (k := fun _ => k) a0, lowF_at (k := fun _ => k) a1]
    dsimp only
    omega
  rw [es]
  refine vlF_idx (twL_sv h2 hh).st (twL_at kh) ?_ fun q hq => ?_
  · dsimp only
    split
    · omega
    · exact k1.resolve_left (by assumption)
  · have kl : k + 1 < h := by
      have := (List.getElem?_eq_some_iff.mp hq).1
      rw [twL_len hh] at this
      exact this
    rw [twL_at kl] at hq
    cases hq
    dsimp only
    rw [if_neg (by omega)]
    exact k2 kl
/-- a staircase of 400 beside one that goes down once -/
def mnL (st : Int) : List P2 := (0, 0) :: (1, -1) :: (List.range 399).map fun j : Nat => (st * ((j : Int) + 1) - 1, -2 - (j : Int))
theorem mnL_at {st : Int} {k : Nat} (hk : k < 400) : (mnL st)[k + 1]? = some (if k = 0 then 1 else st * (k : Int) - 1, -1 - (k : Int)) := by
  unfold mnL
  rw [List.getElem?_cons_succ]
  cases k with
  | zero => rfl
  | succ j =>
    rw [List.getElem?_cons_succ, List.getElem?_map, List.getElem?_range (by omega)]
    simp
    omega
theorem mnL_len {st : Int} : (mnL st).length = 401 := by unfold mnL; rw [List.length_cons, List.length_cons, List.length_map, List.length_range]
theorem mnL_sv {st : Int} (h3 : 3 ≤ st) : Sv (mnL st) := by
  have val : ∀ i : Nat, i < 401 → (mnL st)[i]? = some (if i = 0 then 0 else if i = 1 then 1 else st * ((i : Int) - 1) - 1, 0 - (i : Int)) := fun i hi => by
    cases i with
    | zero => rfl
    | succ k =>
      rw [mnL_at (by omega)]
      by_cases z : k = 0
      · subst z
        rfl
      · have ec : (((k + 1 : Nat) : Int)) - 1 = (k : Int) := by omega
        rw [if_neg z, if_neg (by omega), if_neg (by omega), ec]
        congr 2
        omega
  refine ⟨List.pairwise_iff_getElem.mpr fun i j hi hj hij => ?_, 0, _, rfl, Int.le_refl _⟩
  rw [mnL_len] at hi hj
  rw [(List.getElem?_eq_some_iff.mp (val i hi)).2, (List.getElem?_eq_some_iff.mp (val j hj)).2]
  refine ⟨?_, by dsimp only; omega⟩
  dsimp only
  have m1 : st * 1 ≤ st * ((j : Int) - 1) ∨ j ≤ 1 := by
    by_cases z : j ≤ 1
    · exact .inr z
    · exact .inl (Int.mul_le_mul_of_nonneg_left (by omega) (by omega))
  have m2 : st * ((i : Int) - 1) < st * ((j : Int) - 1) := Int.mul_lt_mul_of_pos_left (by omega) (by omega)
  split
  · split
    · omega
    · split <;> omega
  · split
    · split
      · omega
      · split <;> omega
    · split
      · omega
      · split <;> omega
theorem joint_mn {st : Int} {P : Nat → List P2} {R : List P2} (h3 : 3 ≤ st) (e0 : P 0 = stair st 400) (e1 : P 1 = [(0, 0), (1, -1)]) (hJ : Joint 2 P R) : R = mnL st := by
  have sv1 : Sv [((0 : Int), (0 : Int)), (1, -1)] := ⟨by decide, 0, [(1, -1)], rfl, Int.le_refl _⟩
  have hP : Parts 2 P := fun i hi => by
    rcases (show i = 0 ∨ i = 1 by omega) with rfl | rfl
    · rw [e0]; exact stair_sv (by omega) (by decide)
    · rw [e1]; exact sv1
  refine hJ.eq_of (mnL_sv h3) fun c hc => ?_
  have z0 : (P 0)[0]? = some (0, 0) := by rw [e0, stair_at (by decide)]; simp
  have z1 : (P 1)[0]? = some (0, 0) := by rw [e1]; rfl
  have y1 : (P 1)[1]? = some (1, -1) := by rw [e1]; rfl
  have t00 : totF 2 P (fun _ => 0) = 0 := by rw [tot2, lowF_at (k := fun _ => 0) z0, lowF_at (k := fun _ => 0) z1]; rfl
  have d00 : Dn 2 P c (fun _ => 0) := Dn.start hP hc
  by_cases c1 : c < 1
  · have sk : Stuck 2 P c (fun _ => 0) := by
      intro i p q hi ep eq
      rw [t00]
      rcases (show i = 0 ∨ i = 1 by omega) with rfl | rfl
      · rw [z0] at ep
        cases ep
        rw [e0, stair_at (by decide)] at eq
        cases eq
        dsimp only
        simp only [Nat.zero_add, Int.natCast_one, Int.mul_one]
        omega
      · rw [z1] at ep
        cases ep
        have : (P 1)[0 + 1]? = some (1, -1) := y1
        rw [this] at eq
        cases eq
        dsimp only
        omega
    refine ⟨_, d00.low hP sk, ?_⟩
    show _ = some (totF 2 P fun _ => 0)
    rw [t00]
    exact vlF_idx (i := 0) (mnL_sv h3).st rfl hc fun q hq => by cases hq; dsimp only; omega
  · obtain ⟨d1, t1, _⟩ := d00.step hP (i := 1) (by omega) z1 y1 (by rw [t00]; dsimp only; omega)
    obtain ⟨k, kh, k1, k2⟩ := far_ex (fun k => st * (k : Int) - 1) c 400 (by decide)
    have a0 : ∀ j : Nat, j < 400 → (P 0)[j]? = some (st * (j : Int), 0 - (j : Int)) := fun j hj => by rw [e0]; exact stair_at hj
    have tt : ∀ j : Nat, j < 400 → totF 2 P (fun i => if i = 0 then j else 1) = -1 - (j : Int) := fun j hj => by
      rw [tot2, lowF_at (k := fun i => if i = 0 then j else 1) (p := (st * (j : Int), 0 - (j : Int))) (a0 j hj), lowF_at (k := fun i => if i = 0 then j else 1) (p := (1, -1)) y1]
      dsimp only
      omega
    have dn : ∀ j : Nat, j ≤ k → Dn 2 P c (fun i => if i = 0 then j else 1) := by
      intro j
      induction j with
      | zero =>
        refine fun _ => d1.congr fun i hi => ?_
        rcases (show i = 0 ∨ i = 1 by omega) with rfl | rfl <;> rfl
      | succ j ih =>
        intro hj
        have m : st * ((j : Int) + 1) - 1 ≤ c := by
          rcases k1 with z | z
          · omega
          · have : st * ((j : Int) + 1) ≤ st * (k : Int) := Int.mul_le_mul_of_nonneg_left (by omega) (by omega)
            omega
        have ec : (((j + 1 : Nat) : Int)) = (j : Int) + 1 := by omega
        obtain ⟨d2, _, _⟩ := (ih (by omega)).step hP (i := 0) (p := (st * (j : Int), 0 - (j : Int))) (q := (st * ((j + 1 : Nat) : Int), 0 - ((j + 1 : Nat) : Int))) (by omega) (a0 j (by omega)) (a0 (j + 1) (by omega)) (by rw [tt j (by omega), ec]; dsimp only; omega)
        refine d2.congr fun i hi => ?_
        rcases (show i = 0 ∨ i = 1 by omega) with rfl | rfl <;> rfl
    have sk : Stuck 2 P c (fun i => if i = 0 then k else 1) := by
      intro i p q hi ep eq
      rw [tt k kh]
      rcases (show i = 0 ∨ i = 1 by omega) with rfl | rfl
      · have kl : k + 1 < 400 := by
          apply Classical.byContradiction
          intro z
          have : (P 0)[k + 1]? = none := by rw [e0]; exact stair_no z
          have eq' : (P 0)[k + 1]? = some q := eq
          rw [this] at eq'
          cases eq'
        have ep' : (P 0)[k]? = some p := ep
        have eq' : (P 0)[k + 1]? = some q := eq
        rw [a0 k kh] at ep'
        rw [a0 (k + 1) kl] at eq'
        cases ep'
        cases eq'
        have := k2 kl
        have ec : (((k + 1 : Nat) : Int)) = (k : Int) + 1 := by omega
        rw [ec] at this ⊢
        dsimp only at this ⊢
        omega
      · have eq' : (P 1)[1 + 1]? = some q := eq
        rw [e1] at eq'
        cases eq'
    refine ⟨_, (dn k (Nat.le_refl _)).low hP sk, ?_⟩
    show _ = some (totF 2 P fun i => if i = 0 then k else 1)
    rw [tt k kh]
    refine vlF_idx (i := k + 1) (mnL_sv h3).st (mnL_at kh) ?_ fun q hq => ?_
    · dsimp only
      split
      · omega
      · exact k1.resolve_left (by assumption)
    · have kl : k + 1 < 400 := by
        have := (List.getElem?_eq_some_iff.mp hq).1
        rw [mnL_len] at this
        omega
      rw [mnL_at kl] at hq
      cases hq
      dsimp only
      rw [if_neg (by omega)]
      exact k2 kl
/-- many that go down once, all at 59 -/
theorem joint_59 {P : Nat → List P2} {R : List P2} (e : ∀ i, i < 400 → P i = [(0, 0), (59, -1)]) (hJ : Joint 400 P R) : R = [(0, 0), (59, -400)] := by
  have sv1 : Sv [((0 : Int), (0 : Int)), (59, -1)] := ⟨by decide, 0, [(59, -1)], rfl, Int.le_refl _⟩
  have hP : Parts 400 P := fun i hi => by rw [e i hi]; exact sv1
  have svR : Sv [((0 : Int), (0 : Int)), (59, -400)] := ⟨by decide, 0, [(59, -400)], rfl, Int.le_refl _⟩
  have low : ∀ (m : Nat) (i : Nat), i < 400 → lowF P (fun j => if j < m then 1 else 0) i = if i < m then -1 else 0 := fun m i hi => by
    by_cases z : i < m
    · rw [if_pos z, lowF_at (p := (59, -1)) (by rw [e i hi, if_pos z]; rfl)]
    · rw [if_neg z, lowF_at (p := (0, 0)) (by rw [e i hi, if_neg z]; rfl)]
  have tot : ∀ m : Nat, m ≤ 400 → totF 400 P (fun j => if j < m then 1 else 0) = 0 - (m : Int) := fun m hm => by
    have : ∀ n : Nat, n ≤ 400 → sumN n (lowF P fun j => if j < m then 1 else 0) = 0 - ((min n m : Nat) : Int) := by
      intro n
      induction n with
      | zero => intro _; simp [sumN]
      | succ n ih =>
        intro hn
        show sumN n _ + lowF P _ n = _
        rw [ih (by omega), low m n (by omega)]
        split <;> omega
    show sumN 400 _ = _
    rw [this 400 (Nat.le_refl _), Nat.min_eq_right hm]
  refine hJ.eq_of svR fun c hc => ?_
  have d0 : Dn 400 P c (fun j => if j < 0 then 1 else 0) := (Dn.start hP hc).congr fun i _ => rfl
  by_cases c1 : c < 59
  · have sk : Stuck 400 P c (fun j => if j < 0 then 1 else 0) := by
      intro i p q hi ep eq
      rw [tot 0 (by decide)]
      have ep' : (P i)[0]? = some p := ep
      have eq' : (P i)[0 + 1]? = some q := eq
      rw [e i hi] at ep' eq'
      cases ep'
      cases eq'
      dsimp only
      omega
    refine ⟨_, d0.low hP sk, ?_⟩
    show _ = some (totF 400 P _)
    rw [tot 0 (by decide)]
    exact vlF_idx (i := 0) svR.st rfl hc fun q hq => by cases hq; exact c1
  · have dn : ∀ m : Nat, m ≤ 400 → Dn 400 P c (fun j => if j < m then 1 else 0) := by
      intro m
      induction m with
      | zero => exact fun _ => d0
      | succ m ih =>
        intro hm
        have dm := ih (by omega)
        have k0 : (if m < m then 1 else 0 : Nat) = 0 := if_neg (Nat.lt_irrefl _)
        obtain ⟨d2, _, _⟩ := dm.step hP (i := m) (p := (0, 0)) (q := (59, -1)) (by omega) (by show (P m)[(if m < m then 1 else 0)]? = _; rw [k0, e m (by omega)]; rfl) (by show (P m)[(if m < m then 1 else 0) + 1]? = _; rw [k0, e m (by omega)]; rfl) (by rw [tot m (by omega)]; dsimp only; omega)
        refine d2.congr fun i hi => ?_
        by_cases z : i = m
        · subst z
          rw [upF_same]
          show (if i < i then 1 else 0) + 1 = _
          rw [if_neg (Nat.lt_irrefl _), if_pos (by omega)]
        · rw [upF_ne z]
          by_cases y : i < m
          · rw [if_pos y, if_pos (by omega)]
          · rw [if_neg y, if_neg (by omega)]
    have sk : Stuck 400 P c (fun j => if j < 400 then 1 else 0) := by
      intro i p q hi ep eq
      have eq' : (P i)[(if i < 400 then 1 else 0) + 1]? = some q := eq
      rw [if_pos hi, e i hi] at eq'
      cases eq'
    refine ⟨_, (dn 400 (Nat.le_refl _)).low hP sk, ?_⟩
    show _ = some (totF 400 P _)
    rw [tot 400 (Nat.le_refl _)]
    exact vlF_idx (i := 1) (p := (59, -400)) svR.st rfl (by dsimp only; omega) fun q hq => by cases hq
theorem joint_none {P : Nat → List P2} {R : List P2} (hJ : Joint 0 P R) : R = [(0, 0)] :=
  hJ.eq_of sv00 fun c hc => ⟨fun _ => 0, ⟨fun i hi => absurd hi (Nat.not_lt_zero _), fun M _ i hi => absurd hi (Nat.not_lt_zero _)⟩, vlF_idx (i := 0) sv00.st rfl hc fun q hq => by cases hq⟩
/-! block V23b: _law_bounds_right (behind bV23m) -/
theorem cut_hd23 {us : List V} {j : Int} (h : 0 ≤ j) : cutV us none (some j) = us.take j.toNat := by
  unfold cutV HT.sIx
  simp only [show ¬(j < 0) by omega, if_false, List.drop_zero, Nat.sub_zero]
  rcases Nat.le_total j.toNat us.length with z | z
  · simp [Nat.min_eq_left z]
  · simp [Nat.min_eq_right z, List.take_of_length_le z]
theorem stair_succ {st : Int} {n : Nat} : stair st (n + 1) = stair st n ++ [(st * (n : Int), 0 - (n : Int))] := by simp [stair, List.range_succ]
def twI (st : Int) (n : Nat) : List P2 := (List.range n).map fun j : Nat => ((st - 1) * ((j : Int) + 1) + 1, -2 * ((j : Int) + 1))
theorem twI_succ {st : Int} {n : Nat} : twI st (n + 1) = twI st n ++ [((st - 1) * ((n : Int) + 1) + 1, -2 * ((n : Int) + 1))] := by simp [twI, List.range_succ]
theorem twI_len {st : Int} {n : Nat} : (twI st n).length = n := by simp [twI]
theorem ok23 {Ps : List (List P2)} (h : Ps.length ≤ 400) (e : ∀ ps ∈ Ps, Sv ps ∧ ps.length ≤ 400) : PartsOk Ps := ⟨h, fun ps hp => (e ps hp).1, fun ps hp => (e ps hp).2⟩
def spBR (K : PySem.W.Frag) (ps : List (Addr × Str)) : Sp := fun vs H Q _ => ∃ (p : Addr) (m : Nat), vs = [.ref p] ∧ Pot H p m ∧ m + 2 ≤ 1099511627776 ∧ LamX.Tabs ps H ∧
  ∀ H', SxN p H H' → LamX.Tabs ps H' → Pot H' p (m + 2) → Q (.bl true) H'
section
variable {P : Program} {w : World} {K : PySem.W.Frag} {mg : Str → Option Value} {base : Heap}
theorem ok_br (T : Txt K mg) (TB__law_bounds_right : LamX.TabB base mg T.cc__law_bounds_right T.ct__law_bounds_right) : FnOk P w K mg base CX0 12 T.f__law_bounds_right T.d__law_bounds_right ["_law_source_here"] (spBR K (lamT T)) := by
  have g__law_draw := ok_take (P := P) (w := w) (base := base) T
  have g_joint_valleys := ok_jv (P := P) (w := w) (base := base) T
  refine okC T.F__law_bounds_right T.hc__law_bounds_right sc__law_bounds_right (fun vs H Q E h => ?_) (fun A outer s H vs Q E hr h => ?_)
  · obtain ⟨p, m, rfl, _⟩ := h
    rfl
  obtain ⟨p, m, rfl, hp, hm, hT, q⟩ := h
  refine ⟨_, (pss_cons (ps_set (i := 1) sc__law_bounds_right.nd rfl (Or.inr rfl) (pe_op op_add pe_int (pe_call g__law_draw (hr.mono (by omega)) rfl T.m__law_draw T.F__law_draw.kp T.b__law_draw .nil pass0 (pa_cons (pv 0) (pa_cons pe_int pa_nil)))))
      (pss_cons (ps_set (i := 2) sc__law_bounds_right.nd rfl (Or.inr rfl) (pe_callTy (r := rTupS K) call_tupS (by rfl) T.n_tuple (by decide +kernel) (pa_cons (pe_lc (own := [("_law_number", 5)]) (g := (gName 5)) (by rfl) sc__law_bounds_right.nd (pi_range1 rfl T.n_range (pa_cons pe_int pa_nil)) (blkOk_by (N := N__law_bounds_right) (sc := (defScope s__law_bounds_right)) (by decide +kernel)) (fun _ _ _ _ _ => (pg_name (i := 5) sc__law_bounds_right.nd rfl (Or.inl rfl))) (fun _ _ _ _ _ => pts_nil) (fun _ _ _ _ _ => (pe_tup (pa_cons (pe_op op_mulW (pv 1) (pv 5)) (pa_cons (pe_op op_sub pe_int (pv 5)) pa_nil))))) pa_nil)))
      (pss_cons (ps_set (i := 3) sc__law_bounds_right.nd rfl (Or.inl rfl) (pe_slice (r := rSlA K) sl_tupA (pv 2) po_none (po_some (pe_op op_add pe_int (pe_call g__law_draw (hr.mono (by omega)) rfl T.m__law_draw T.F__law_draw.kp T.b__law_draw .nil pass0 (pa_cons (pv 0) (pa_cons pe_int pa_nil)))))))
      (pss_cons (ps_setLc (i := 4) (own := [("_law_number", 5)]) (g := (gName 5)) (by rfl) sc__law_bounds_right.nd rfl rfl (sw_true rfl rfl rfl (by decide +kernel)) (pi_range2 rfl T.n_range (pa_cons pe_int (pa_cons (pe_callB (r := rLenS K) call_lenS (by rfl) T.n_len (by decide +kernel) (pa_cons (pv 3) pa_nil)) pa_nil))) (blkOk_by (N := N__law_bounds_right) (sc := (defScope s__law_bounds_right)) (by decide +kernel)) (fun _ _ _ _ _ => (pg_name (i := 5) sc__law_bounds_right.nd rfl (Or.inl rfl))) (fun _ _ _ _ _ => pts_nil) (fun _ _ _ _ _ => (pe_tup (pa_cons (pe_op op_add (pe_op op_mulW (pe_op op_sub (pv 1) pe_int) (pv 5)) pe_int) (pa_cons (pe_op op_mulW (pe_un un_neg pe_int) (pv 5)) pa_nil)))))
      (pss_cons (ps_if (pt_cmpR (r := rNeD K) (op_neD hr.units) (pe_call g_joint_valleys (hr.mono (by omega)) rfl T.m_joint_valleys T.F_joint_valleys.kp T.b_joint_valleys .nil passN (pa_cons (pe_tup (pa_cons (pv 3) (pa_cons (pv 3) pa_nil))) pa_nil)) (pe_op (r := rCatA K) op_catA (pw_tup (pws_cons (pw_tup (pws_cons (pw_int (E := []) (n := 0) pe_int (by decide +kernel) (fun σ H Q q => q)) (pws_cons (pw_int (E := []) (n := 0) pe_int (by decide +kernel) (fun σ H Q q => q)) (pws_nil (E := [])))) (by decide)) (pws_nil (E := []))) (by decide)) (pe_callTy (r := rTupS K) call_tupS (by rfl) T.n_tuple (by decide +kernel) (pa_cons (pv 4) pa_nil))) (nomark _)) (pss_one (ps_ret pe_bl)) pss_nil)
      (pss_cons (ps_if (PW.pt (pw_or (pt_cmpR (r := rNeD K) (op_neD hr.units) (pe_call g_joint_valleys (hr.mono (by omega)) rfl T.m_joint_valleys T.F_joint_valleys.kp T.b_joint_valleys .nil passN (pa_cons (pe_tup (pa_cons (pv 2) pa_nil)) pa_nil)) (pv 2) (nomark _)) (pw_or1 (pt_cmpR (r := rNeD K) (op_neD hr.units) (pe_call g_joint_valleys (hr.mono (by omega)) rfl T.m_joint_valleys T.F_joint_valleys.kp T.b_joint_valleys .nil passN (pa_cons (pe_tup (pa_cons (pv 2) (pa_cons (pw_tup (pws_cons (pw_tup (pws_cons (pw_int (E := []) (n := 0) pe_int (by decide +kernel) (fun σ H Q q => q)) (pws_cons (pw_int (E := []) (n := 0) pe_int (by decide +kernel) (fun σ H Q q => q)) (pws_nil (E := [])))) (by decide)) (pws_nil (E := []))) (by decide)) pa_nil))) pa_nil)) (pv 2) (nomark _))))) (pss_one (ps_ret pe_bl)) pss_nil)
      (pss_cons (ps_if (pt_cmpR (r := rNeD K) (op_neD hr.units) (pe_lamF (T := lamT T) (k := 8) (c := T.cc__law_bounds_right) (P := T.ct__law_bounds_right) T.F__law_valley_outcome T.b__law_valley_outcome rfl T.m__law_valley_outcome sc__law_valley_outcome rfl (.inl rfl) (fun cdv => gives__law_valley_outcome T _ rfl rfl) TB__law_bounds_right rfl (.head _) (lamU__law_bounds_right T) (hr.mono (by omega)) (LamX.lamS_by (sc := defScope s__law_bounds_right) (by decide +kernel)) rfl (fun _ _ _ _ _ => rfl) (fun A outer s H E f c hr => (pe_call (E := E) g_joint_valleys (hr.mono (by omega)) rfl T.m_joint_valleys T.F_joint_valleys.kp T.b_joint_valleys .nil (passes_call (takes_of rfl rfl rfl rfl) (fun _ _ _ _ h => h)) (pa_cons (pe_tup (pa_cons (pv 2) (pa_cons (pe_tup (pa_cons (pe_tup (pa_cons pe_int (pa_cons pe_int pa_nil))) (pa_cons (pe_tup (pa_cons pe_int (pa_cons (pe_un un_neg pe_int) pa_nil))) pa_nil))) pa_nil))) pa_nil)))) (pw_tup (pws_cons (pw_str (E := [])) (pws_cons (pw_int (E := []) (n := 400) pe_int (by decide +kernel) (fun σ H Q q => q)) (pws_nil (E := [])))) (by decide)) (nomark _)) (pss_one (ps_ret pe_bl)) pss_nil)
      (pss_one (ps_ret (pe_cmpR (r := rEqD K) (op_eqD hr.units) (pe_call g_joint_valleys (hr.mono (by omega)) rfl T.m_joint_valleys T.F_joint_valleys.kp T.b_joint_valleys .nil passN (pa_cons (pe_tup (pa_cons (pv 3) (pa_cons (pw_tup (pws_cons (pw_tup (pws_cons (pw_int (E := []) (n := 0) pe_int (by decide +kernel) (fun σ H Q q => q)) (pws_cons (pw_int (E := []) (n := -5) (pe_op op_sub pe_int pe_int) (by decide +kernel) (fun σ H Q q => ⟨_, _, rfl, rfl, q⟩)) (pws_nil (E := [])))) (by decide)) (pws_nil (E := []))) (by decide)) pa_nil))) pa_nil)) (pe_call g_joint_valleys (hr.mono (by omega)) rfl T.m_joint_valleys T.F_joint_valleys.kp T.b_joint_valleys .nil passN (pa_cons (pe_tup (pa_cons (pw_tup (pws_cons (pw_tup (pws_cons (pw_int (E := []) (n := 0) pe_int (by decide +kernel) (fun σ H Q q => q)) (pws_cons (pw_int (E := []) (n := -5) (pe_op op_sub pe_int pe_int) (by decide +kernel) (fun σ H Q q => ⟨_, _, rfl, rfl, q⟩)) (pws_nil (E := [])))) (by decide)) (pws_nil (E := []))) (by decide)) (pa_cons (pv 3) pa_nil))) pa_nil)) (nomark _))))))))))), ?_⟩
  obtain ⟨l0, hl0⟩ := hp.lst
  refine ⟨_, rfl, p, m, 50, rfl, hp, by omega, by decide, by decide, fun G0 r S0 hp0 r0 r1 => ⟨_, _, rfl, rfl, ?_⟩⟩
  obtain ⟨st, est⟩ : ∃ st : Int, 3 + r = st := ⟨_, rfl⟩
  show tSeq _ _ _ [some (.ref p), some (.int (3 + r)), none, none, none, none] G0
  rw [est]
  have st1 : 3 ≤ st ∧ st ≤ 52 := by omega
  clear est r0 r1
  have mul : ∀ (a b : Int), -52 ≤ a → a ≤ 52 → -400 ≤ b → b ≤ 400 → CMulW a b := fun a b h1 h2 h3 h4 => wide_mul (a := 64) (b := 512) (by omega) (by omega) (by decide) (by decide) (by decide)
  -- a long one
  refine ⟨_, rfl, by decide, by decide, fun D hD => ?_⟩
  refine lc_range (lo := 0) (n := (400 : Int).toNat) (fun i F => Same G0 F ∧ ∃ ws, F D = some (.lst ws) ∧ DpAll K F ws (prDs (stair st i))) ⟨same_new hD, [], upd_same, .nil⟩ ?_ ?_
  · rintro i F hi ⟨s4, ws, eD, hw⟩
    have hi' : i < 400 := hi
    have wl : ws.length = i := by rw [dpAll_length hw, prDs, List.length_map, stair_len]
    have e0 : (0 : Int) + (i : Int) = (i : Int) := by omega
    rw [e0]
    refine ⟨rfl, ?_⟩
    unfold tYes
    refine iteT ?_
    refine ⟨_, rfl, _, rfl, _, _, rfl, rfl, mul _ _ (by omega) (by omega) (by omega) (by omega), _, rfl, _, _, rfl, rfl, (by show 2 ≤ sizeLine; decide), fun y hy => ?_⟩
    have s5 : Same F (upd F y (.tup [.int (st * (i : Int)), .int (0 - (i : Int))])) := same_new hy
    have dy : Dp K (upd F y (.tup [.int (st * (i : Int)), .int (0 - (i : Int))])) (.ref y) (prD (st * (i : Int), 0 - (i : Int))) := .tup (SqT.of upd_same) (.cons (.int _) (.cons (.int _) .nil))
    have eD5 := s5 _ _ eD
    generalize (upd F y (.tup [.int (st * (i : Int)), .int (0 - (i : Int))])) = F2 at s5 dy eD5 ⊢
    have kk : ∀ b zs, SqT K F2 b zs → SqT K (upd F2 D (.lst (ws ++ [.ref y]))) b zs := fun b zs h => (sx_upd (p := D)).sqT eD5 h
    refine ⟨ws, eD5, small1000 (by omega), fun b o e => by rw [upd_ne (ne_of_none e hD)]; exact s5 _ _ (s4 _ _ e), _, upd_same, ?_⟩
    rw [stair_succ, prDs, List.map_append]
    exact dpAll_append (dpAll_keep kk (noLs_prV _) (dpAll_same s5 hw)) (.cons (dp_keep kk (noLs_one _) dy) .nil)
  rintro F ⟨s4, ws, eD, hw⟩
  have hw : DpAll K F ws (prDs (stair st 400)) := hw
  refine ⟨D, ws, rfl, .inl ⟨SqL.of eD, fun a2 ha => ?_⟩⟩
  have q2 : SqT K (upd F a2 (.tup ws)) a2 ws := SqT.of upd_same
  have w2 := dpAll_same (same_new (o := .tup ws) ha) hw
  have s1 : Same G0 (upd F a2 (.tup ws)) := s4.trans (same_new ha)
  generalize (upd F a2 (.tup ws)) = G1 at q2 w2 s1 ⊢
  clear hw eD s4 ha hD
  have hp1 := hp0.same s1
  show tSeq _ _ _ [some (.ref p), some (.int st), some (.ref a2), none, none, none] G1
  obtain ⟨l1, hl1⟩ := hp1.lst
  -- its first steps
  refine ⟨_, rfl, ?_⟩
  unfold tNoPart
  dsimp only
  refine ⟨_, rfl, p, m + 1, 150, rfl, hp1, by omega, by decide, by decide, fun G2 r2 t2 hp2 k0 k1 => ⟨_, _, rfl, rfl, ?_⟩⟩
  obtain ⟨n, en⟩ : ∃ n : Nat, 250 + r2 = (n : Int) := ⟨(250 + r2).toNat, by omega⟩
  have n1 : 250 ≤ n ∧ n ≤ 399 := by omega
  dsimp only
  rw [en]
  have S02 : Sx p H G2 := S0.trans ((Same.sx s1).trans t2)
  have q22 := t2.sqT hl1 q2
  have w22 := dpAll_keep (fun b zs h => t2.sqT hl1 h) (noLs_prV _) w2
  have T2 := tabs_sx hT S02 hl0
  clear q2 w2 s1 hp0 hp1 k0 k1 en t2 S0
  refine ⟨_, rfl, slT q22 fun G3 a3 s3 q3 => ?_⟩
  rw [cut_hd23 (by omega), Int.toNat_natCast] at q3
  have w3 : DpAll K G3 (ws.take n) (prDs (stair st n)) := by
    rw [← stair_take (st := st) (h := 400) (n := n) (by omega), prDs, List.map_take]
    exact dpAll_take22 n (dpAll_same s3 w22)
  have d2 : Dp K G3 (.ref a2) (vlD (stair st 400)) := .tup (same_sqT s3 q22) (dpAll_same s3 w22)
  have d3 : Dp K G3 (.ref a3) (vlD (stair st n)) := .tup q3 w3
  have l3 : (ws.take n).length = n := by rw [dpAll_length w3, prDs, List.length_map, stair_len]
  have hp3 := hp2.same s3
  have T3 := tabs_same T2 s3
  have S3 := S02.trans (Same.sx s3)
  obtain ⟨lp3, hl3⟩ := hp3.lst
  clear q22 w22 T2 S02 hp2 w3 s3
  show tSeq _ _ _ [some (.ref p), some (.int st), some (.ref a2), some (.ref a3), none, none] G3
  -- what two of them give
  refine ⟨_, rfl, a3, _, rfl, .inr q3, ?_⟩
  rw [l3]
  refine ⟨_, _, rfl, ⟨by omega, by omega, by omega, by omega⟩, fun D hD => ?_⟩
  refine lc_range (lo := 1) (n := ((n : Int) - 1).toNat) (fun i F => Same G3 F ∧ ∃ ws, F D = some (.lst ws) ∧ DpAll K F ws (prDs (twI st i))) ⟨same_new hD, [], upd_same, .nil⟩ ?_ ?_
  · rintro i F hi ⟨s4, us, eD, hw⟩
    have hi' : i < 400 := by omega
    have wl : us.length = i := by rw [dpAll_length hw, prDs, List.length_map, twI_len]
    have e0 : (1 : Int) + (i : Int) = (i : Int) + 1 := by omega
    rw [e0]
    refine ⟨rfl, ?_⟩
    unfold tYes
    refine iteT ?_
    refine ⟨_, rfl, _, _, rfl, rfl, _, rfl, _, _, rfl, rfl, mul _ _ (by omega) (by omega) (by omega) (by omega), _, _, rfl, rfl, _, rfl, _, rfl, _, _, rfl, rfl, mul _ _ (by omega) (by omega) (by omega) (by omega), (by show 2 ≤ sizeLine; decide), fun y hy => ?_⟩
    have s5 : Same F (upd F y (.tup [.int ((st - 1) * ((i : Int) + 1) + 1), .int (-2 * ((i : Int) + 1))])) := same_new hy
    have dy : Dp K (upd F y (.tup [.int ((st - 1) * ((i : Int) + 1) + 1), .int (-2 * ((i : Int) + 1))])) (.ref y) (prD ((st - 1) * ((i : Int) + 1) + 1, -2 * ((i : Int) + 1))) := .tup (SqT.of upd_same) (.cons (.int _) (.cons (.int _) .nil))
    have eD5 := s5 _ _ eD
    generalize (upd F y (.tup [.int ((st - 1) * ((i : Int) + 1) + 1), .int (-2 * ((i : Int) + 1))])) = F2 at s5 dy eD5 ⊢
    have kk : ∀ b zs, SqT K F2 b zs → SqT K (upd F2 D (.lst (us ++ [.ref y]))) b zs := fun b zs h => (sx_upd (p := D)).sqT eD5 h
    refine ⟨us, eD5, small1000 (by omega), fun b o e => by rw [upd_ne (ne_of_none e hD)]; exact s5 _ _ (s4 _ _ e), _, upd_same, ?_⟩
    rw [twI_succ, prDs, List.map_append]
    exact dpAll_append (dpAll_keep kk (noLs_prV _) (dpAll_same s5 hw)) (.cons (dp_keep kk (noLs_one _) dy) .nil)
  rintro F ⟨s4, us, eD, hw⟩
  rw [show ((n : Int) - 1).toNat = n - 1 by omega] at hw
  have ul : us.length = n - 1 := by rw [dpAll_length hw, prDs, List.length_map, twI_len]
  have S4 := S3.trans (Same.sx s4)
  have T4 := tabs_same T3 s4
  have hp4 := hp3.same s4
  have e2 := dp_same s4 d2
  have e3 := dp_same s4 d3
  clear d2 d3 S3 T3 hp3 s4 q3 hD
  have sv3 : Sv (stair st n) := stair_sv (by omega) (by omega)
  have sv2 : Sv (stair st 400) := stair_sv (by omega) (by decide)
  have l3' : (stair st n).length = n := stair_len
  have l2' : (stair st 400).length = 400 := stair_len
  show tSeq _ _ _ [some (.ref p), some (.int st), some (.ref a2), some (.ref a3), some (.ref D), none] F
  refine ⟨_, rfl, _, rfl, (by show 2 ≤ sizeLine; decide), fun t ht => ?_⟩
  have s5 : Same F (upd F t (.tup [.ref a3, .ref a3])) := same_new ht
  have d5 : Dp K (upd F t (.tup [.ref a3, .ref a3])) (.ref t) (vlsD [stair st n, stair st n]) := .tup (SqT.of upd_same) (.cons (dp_same s5 e3) (.cons (dp_same s5 e3) .nil))
  generalize (upd F t (.tup [.ref a3, .ref a3])) = F2 at s5 d5 ⊢
  refine jv_use d5 (ok23 (by show 2 ≤ 400; decide) fun ps hp => ?_) fun R hJ hl => ?_
  · simp only [List.mem_cons, List.not_mem_nil, or_false, or_self] at hp
    subst hp
    exact ⟨sv3, by omega⟩
  have eR : R = twL st n := joint_tw (by omega) (by omega) rfl rfl hJ
  subst eR
  refine ⟨by rw [twL_len (by omega)]; omega, fun F3 r3 s6 d6 => ?_⟩
  refine ⟨Ns.nil, fun F4 v s7 d7 => ⟨_, rfl, D, us, rfl, .inl ⟨SqL.of ((s5.trans (s6.trans s7)) _ _ eD), fun u hu => ?_⟩⟩⟩
  obtain ⟨b7, xs7, rfl, q7, h7⟩ := dp_tup_inv d7
  have l7 : xs7.length = 1 := dpAll_length h7
  have su : Same F4 (upd F4 u (.tup us)) := same_new hu
  refine cat22 (same_sqT su q7) (SqT.of upd_same) (by rw [l7, ul, sizeLine_eq]; omega) fun F5 c s8 q8 => ?_
  have S8 := s5.trans (s6.trans (s7.trans (su.trans s8)))
  have d8 : Dp K F5 (.ref c) (vlD (twL st n)) := .tup q8 (dpAll_append (dpAll_same (su.trans s8) h7) (dpAll_same (s5.trans (s6.trans (s7.trans (su.trans s8)))) hw))
  refine ⟨_, _, dp_same (s7.trans (su.trans s8)) d6, d8, shaped_prs23 _, shaped_prs23 _, _, rfl, iteFx (by rw [eqv_vl23]; rfl) ?_⟩
  have S5 := S4.trans (Same.sx S8)
  have T5 := tabs_same T4 S8
  have hp5 := hp4.same S8
  have f2 := dp_same S8 e2
  have f3 := dp_same S8 e3
  clear d8 q8 s8 S8 su hu l7 h7 q7 d7 s7 d6 s6 hl hJ d5 s5 ht e2 e3 hp4 T4 S4 hw eD
  show tSeq _ _ _ [some (.ref p), some (.int st), some (.ref a2), some (.ref a3), some (.ref D), none] F5
  refine ⟨_, rfl, (by show 1 ≤ sizeLine; decide), fun t ht => ?_⟩
  have s5 : Same F5 (upd F5 t (.tup [.ref a2])) := same_new ht
  have d5 : Dp K (upd F5 t (.tup [.ref a2])) (.ref t) (vlsD [stair st 400]) := .tup (SqT.of upd_same) (.cons (dp_same s5 f2) .nil)
  generalize (upd F5 t (.tup [.ref a2])) = F6 at s5 d5 ⊢
  refine jv_use d5 (ok23 (by show 1 ≤ 400; decide) fun ps hp => ?_) fun R hJ hl => ?_
  · obtain rfl := List.mem_singleton.mp hp
    exact ⟨sv2, by omega⟩
  have eR : R = stair st 400 := Joint.single sv2 rfl hJ
  subst eR
  refine ⟨by omega, fun F7 r7 s7 d7 => ⟨_, rfl, _, _, d7, dp_same (s5.trans s7) f2, shaped_prs23 _, shaped_prs23 _, _, rfl, iteFx (by rw [eqv_vl23]; rfl) ?_⟩⟩
  have S7 := s5.trans s7
  have g2 := dp_same S7 f2
  have hJ1 := hJ
  clear d7 hl hJ d5 s5 s7 ht
  refine ⟨_, rfl, Ns.nil, fun F8 v s8 d8 => ⟨(by show 2 ≤ sizeLine; decide), fun t ht => ?_⟩⟩
  have s9 : Same F8 (upd F8 t (.tup [.ref a2, v])) := same_new ht
  have d9 : Dp K (upd F8 t (.tup [.ref a2, v])) (.ref t) (vlsD [stair st 400, [(0, 0)]]) := .tup (SqT.of upd_same) (.cons (dp_same (s8.trans s9) g2) (.cons (dp_same s9 d8) .nil))
  generalize (upd F8 t (.tup [.ref a2, v])) = F9 at s9 d9 ⊢
  refine jv_use d9 (ok23 (by show 2 ≤ 400; decide) fun ps hp => ?_) fun R hJ hl => ?_
  · simp only [List.mem_cons, List.not_mem_nil, or_false] at hp
    rcases hp with rfl | rfl
    · exact ⟨sv2, by omega⟩
    · exact ⟨sv00, by decide⟩
  have eR : R = stair st 400 := by
    refine Joint.zero (n := 1) (P := pF [stair st 400, [(0, 0)]]) (fun i hi => ?_) ?_ rfl hJ
    · obtain rfl : i = 0 := by omega
      exact sv2
    · exact hJ1.congrP fun i hi => by
        obtain rfl : i = 0 := by
          have : i < 1 := hi
          omega
        rfl
  subst eR
  refine ⟨by omega, fun F10 r10 s10 d10 => ⟨_, rfl, _, _, d10, dp_same (s8.trans (s9.trans s10)) g2, shaped_prs23 _, shaped_prs23 _, _, rfl, iteFx (by rw [eqv_vl23]; rfl) ?_⟩⟩
  have S10 := S7.trans (s8.trans (s9.trans s10))
  have S6 := S5.trans (Same.sx S10)
  have T6 := tabs_same T5 S10
  have hp6 := hp5.same S10
  have h2 := dp_same S10 f2
  have h3 := dp_same S10 f3
  clear d10 s10 hl hJ1 hJ d9 s9 ht s8 d8 g2 S7 S10 f2 f3 hp5 T5 S5
  show tSeq _ _ _ [some (.ref p), some (.int st), some (.ref a2), some (.ref a3), some (.ref D), none] F10
  -- one more step than there may be
  refine ⟨T6, fun K1 x1 T1 => ?_⟩
  refine ⟨_, rfl, ?_⟩
  have x2 := dp_ext x1 h2
  refine ⟨(by show 2 ≤ sizeLine; decide), fun y1 k1 => ⟨_, rfl, (by show 2 ≤ sizeLine; decide), fun y2 k2 => ⟨(by show 2 ≤ sizeLine; decide), fun y3 k3 => ⟨(by show 2 ≤ sizeLine; decide), fun y4 k4 => ?_⟩⟩⟩⟩
  have b1 : Same K1 (upd K1 y1 (.tup [.int 0, .int 0])) := same_new k1
  have c1 : SqT K (upd K1 y1 (.tup [.int 0, .int 0])) y1 [.int 0, .int 0] := SqT.of upd_same
  generalize (upd K1 y1 (.tup [.int 0, .int 0])) = J1 at b1 c1 k2 k3 k4 ⊢
  have b2 : Same J1 (upd J1 y2 (.tup [.int 1, .int (-1)])) := same_new k2
  have c2 : SqT K (upd J1 y2 (.tup [.int 1, .int (-1)])) y2 [.int 1, .int (-1)] := SqT.of upd_same
  generalize (upd J1 y2 (.tup [.int 1, .int (-1)])) = J2 at b2 c2 k3 k4 ⊢
  have b3 : Same J2 (upd J2 y3 (.tup [.ref y1, .ref y2])) := same_new k3
  have c3 : SqT K (upd J2 y3 (.tup [.ref y1, .ref y2])) y3 [.ref y1, .ref y2] := SqT.of upd_same
  generalize (upd J2 y3 (.tup [.ref y1, .ref y2])) = J3 at b3 c3 k4 ⊢
  have b4 : Same J3 (upd J3 y4 (.tup [.ref a2, .ref y3])) := same_new k4
  have c4 : SqT K (upd J3 y4 (.tup [.ref a2, .ref y3])) y4 [.ref a2, .ref y3] := SqT.of upd_same
  generalize (upd J3 y4 (.tup [.ref a2, .ref y3])) = J4 at b4 c4 ⊢
  have f4 : Dp K J4 (.ref y4) (vlsD [stair st 400, [(0, 0), (1, -1)]]) := .tup c4 (.cons (dp_same (b1.trans (b2.trans (b3.trans b4))) x2) (.cons (.tup (same_sqT b4 c3)
    (.cons (.tup (same_sqT (b2.trans (b3.trans b4)) c1) (.cons (.int _) (.cons (.int _) .nil))) (.cons (.tup (same_sqT (b3.trans b4) c2) (.cons (.int _) (.cons (.int _) .nil))) .nil))) .nil))
  have sv11 : Sv [((0 : Int), (0 : Int)), (1, -1)] := ⟨by decide, 0, [(1, -1)], rfl, Int.le_refl _⟩
  have dmk : ∀ {G : Hp} {t : Addr}, G t = some (.tup [.str "many", .int 400]) → Dp K G (.ref t) (.tuple [.str "many", .int 400]) := fun e => .tup (SqT.of e) (.cons (.str _) (.cons (.int _) .nil))
  have shm : SeqAt.shaped (.tuple [.str "many", .int 400]) = true := by decide +kernel
  have eqm : PyData.eqv (.tuple [.str "many", .int 400]) (.tuple [.str "many", .int 400]) = true := by simp [PyData.eqv, PyData.eqvAll]
  refine jv_many f4 (ok23 (by show 2 ≤ 400; decide) fun ps hp => ?_) (fun R hJ => by rw [joint_mn st1.1 rfl rfl hJ, mnL_len]; decide) fun K2 dx s2 hdx => .inr (.inr ⟨dx, _, rfl, rfl, upd_same, fun t2 ht2 => ?_⟩)
  · simp only [List.mem_cons, List.not_mem_nil, or_false] at hp
    rcases hp with rfl | rfl
    · exact ⟨sv2, by omega⟩
    · exact ⟨sv11, by decide⟩
  have S2 := b1.trans (b2.trans (b3.trans (b4.trans (s2.trans ((same_new (o := .xd [("limit", .int 400)]) hdx).trans (same_new (o := .tup [.str "many", .int 400]) ht2))))))
  have dt := dmk (G := upd (upd K2 dx (.xd [("limit", .int 400)])) t2 (.tup [.str "many", .int 400])) upd_same
  generalize (upd (upd K2 dx (.xd [("limit", .int 400)])) t2 (.tup [.str "many", .int 400])) = K3 at S2 dt ⊢
  refine ⟨Ns.nil, fun K4 v' s4 d' => ⟨_, _, dp_same s4 dt, d', shm, shm, _, rfl, iteFx (by rw [eqm]; rfl) ?_⟩⟩
  have x4 := x1.trans (extN_same (S2.trans s4))
  have T7 := tabs_same T1 (S2.trans s4)
  have h3 := dp_ext x4 h3
  have S7 := (SxN.of S6).trans (SxN.ext x4)
  have hp7 := hp6.ext x4
  clear x4 T1 S2 dt d' s4 hdx ht2 s2 f4 b1 b2 b3 b4 c1 c2 c3 c4 k1 k2 k3 k4 x2 x1 h2 T6 S6 hp6
  -- the order
  have sv5 : Sv [((0 : Int), (-5 : Int))] := ⟨List.pairwise_singleton .., _, _, rfl, by decide⟩
  refine ⟨_, rfl, Ns.nil, fun M1 w1 m1 dw1 => ⟨(by show 2 ≤ sizeLine; decide), fun t ht => ?_⟩⟩
  have m2 : Same M1 (upd M1 t (.tup [.ref a3, w1])) := same_new ht
  have d1 : Dp K (upd M1 t (.tup [.ref a3, w1])) (.ref t) (vlsD [stair st n, [(0, -5)]]) := .tup (SqT.of upd_same) (.cons (dp_same (m1.trans m2) h3) (.cons (dp_same m2 dw1) .nil))
  generalize (upd M1 t (.tup [.ref a3, w1])) = M2 at m2 d1 ⊢
  refine jv_use d1 (ok23 (by show 2 ≤ 400; decide) fun ps hp => ?_) fun R hJ hl => ?_
  · simp only [List.mem_cons, List.not_mem_nil, or_false] at hp
    rcases hp with rfl | rfl
    · exact ⟨sv3, by omega⟩
    · exact ⟨sv5, by decide⟩
  have lR : R.length ≤ 400 := by
    have e1 : lenAll [stair st n, [(0, -5)]] = (stair st n).length + 1 := by simp [lenAll]
    have e2 : [stair st n, [(0, -5)]].length = 2 := rfl
    omega
  refine ⟨lR, fun M3 r1 m3 dr1 => ⟨Ns.nil, fun M4 w2 m4 dw2 => ⟨_, rfl, (by show 2 ≤ sizeLine; decide), fun t' ht' => ?_⟩⟩⟩
  have m5 : Same M4 (upd M4 t' (.tup [w2, .ref a3])) := same_new ht'
  have S15 := m1.trans (m2.trans (m3.trans (m4.trans m5)))
  have d2 : Dp K (upd M4 t' (.tup [w2, .ref a3])) (.ref t') (vlsD [[(0, -5)], stair st n]) := .tup (SqT.of upd_same) (.cons (dp_same m5 dw2) (.cons (dp_same S15 h3) .nil))
  generalize (upd M4 t' (.tup [w2, .ref a3])) = M5 at m5 S15 d2 ⊢
  refine jv_use d2 (ok23 (by show 2 ≤ 400; decide) fun ps hp => ?_) fun R2 hJ2 hl2 => ?_
  · simp only [List.mem_cons, List.not_mem_nil, or_false] at hp
    rcases hp with rfl | rfl
    · exact ⟨sv5, by decide⟩
    · exact ⟨sv3, by omega⟩
  have eR : R2 = R := by
    refine Joint.rev (n := 2) (fun i hi => ?_) hJ (fun i hi => ?_) hJ2
    · rcases (show i = 0 ∨ i = 1 by omega) with rfl | rfl
      · exact sv3
      · exact sv5
    · rcases (show i = 0 ∨ i = 1 by omega) with rfl | rfl <;> rfl
  subst eR
  refine ⟨lR, fun M6 r2 m6 dr2 => ⟨_, _, dp_same (m4.trans (m5.trans m6)) dr1, dr2, shaped_prs23 _, shaped_prs23 _, ?_⟩⟩
  rw [eqv_vl23]
  have S16 := S15.trans m6
  exact q _ (S7.trans (SxN.of (Same.sx S16))) (tabs_same T7 S16) (hp7.same S16)
end
/-! block bLaw23: the law (behind bV23b) -/
def spLaw (K : PySem.W.Frag) (cs : List (Addr × Addr)) : Sp := fun vs H Q _ => ∃ (a : Addr) (ns : List Int), vs = [.ref a] ∧ (∀ p ∈ cs, H p.2 = some (.tbl #[])) ∧ SqL K H a (ns.map V.int) ∧ ns.length ≤ 63 ∧ ∀ H', Q (.bl true) H'
theorem tabs_start {mg : Str → Option Value} {K : PySem.W.Frag} {T : Txt K mg} {H : Hp} (h : ∀ p ∈ [(T.cc__law_bounds_right, T.ct__law_bounds_right)], H p.2 = some (.tbl #[])) : LamX.Tabs (lamT T) H := by
  intro q hq
  simp only [lamT, List.mem_singleton] at hq
  subst hq
  exact LamX.TabS.nil (h (T.cc__law_bounds_right, T.ct__law_bounds_right) (by simp))
theorem ext_free {H H1 H2 : Hp} {p : Addr} (s : LamX.ExtN H H1) (h : H1 p = none) (t : SxN p H1 H2) : LamX.ExtN H H2 := fun b o e z => by
  have e1 := s b o e z
  exact t b o (fun y => by rw [y, h] at e1; cases e1) e1 z
/-- start valleys drawn into a list -/
structure DrS (K : PySem.W.Frag) (F : Hp) (D : Addr) (most i : Nat) (Ps : List (List P2)) : Prop where
  ex : ∃ ws, F D = some (.lst ws) ∧ DpAll K F ws (Ps.map vlD) ∧ ws.length = i
  len : Ps.length = i
  each : ∀ ps ∈ Ps, Rv most ps ∧ Sv ps
theorem drs_step {K : PySem.W.Frag} {F F1 : Hp} {p D : Addr} {most i : Nat} {Ps : List (List P2)} {l : List V} {r : V} {ps : List P2} (h : DrS K F D most i Ps) (hp : F p = some (.lst l)) (nD : D ≠ p) (s : Sx p F F1) (d : Dp K F1 r (.tuple (prDs ps))) (rv : Rv most ps) (sv : Sv ps) (hi : i ≤ 900) :
    ∃ acc, F1 D = some (.lst acc) ∧ acc.length < sizeLine ∧ DrS K (upd F1 D (.lst (acc ++ [r]))) D most (i + 1) (Ps ++ [ps]) := by
  obtain ⟨⟨ws, eD, hw, wl⟩, hl, he⟩ := h
  have eD1 := s D _ nD eD
  have hw1 := dpAll_keep (fun b zs h => s.sqT hp h) (noLs_vls _) hw
  have kk : ∀ b zs, SqT K F1 b zs → SqT K (upd F1 D (.lst (ws ++ [r]))) b zs := fun b zs h => (sx_upd (p := D)).sqT eD1 h
  refine ⟨ws, eD1, small1000 (by omega), ⟨_, upd_same, ?_, by simp [wl]⟩, by simp [hl], fun q hq => ?_⟩
  · rw [List.map_append]
    exact dpAll_append (dpAll_keep kk (noLs_vls _) hw1) (.cons (dp_keep kk (by simp only [noL]; exact noLs_prV _) d) .nil)
  · rcases List.mem_append.mp hq with z | z
    · exact he q z
    · rw [List.mem_singleton.mp z]
      exact ⟨rv, sv⟩
theorem lenAll_le {most : Nat} : ∀ {Ps : List (List P2)}, (∀ ps ∈ Ps, Rv most ps ∧ Sv ps) → lenAll Ps ≤ most * Ps.length
  | [], _ => by simp [lenAll]
  | q :: Ps, h => by
    have ih := lenAll_le (Ps := Ps) fun ps hp => h ps (List.mem_cons_of_mem _ hp)
    have h0 := (h q (List.mem_cons_self ..)).1.len
    have e : lenAll (q :: Ps) = q.length + lenAll Ps := by simp [lenAll]
    rw [e, List.length_cons, Nat.mul_succ]
    omega
theorem fw_of {most : Nat} {Ps : List (List P2)} (h : ∀ ps ∈ Ps, Rv most ps ∧ Sv ps) (hm : most ≤ 20) (hn : Ps.length ≤ 100) : Fw Ps := by
  refine ⟨⟨by omega, fun ps hp => (h ps hp).2, fun ps hp => by have := (h ps hp).1.len; omega⟩, hn, ?_, fun ps hp q hq => ?_⟩
  · have := lenAll_le h
    have : most * Ps.length ≤ 20 * 100 := Nat.mul_le_mul hm hn
    omega
  · have := (h ps hp).1.bd q hq
    omega
theorem by_rest {R M : Hp → Prop} {G : Prop} (use : (∀ F, M F → R F) → G) (rest : ∀ F, M F → R F) : G := use rest
theorem sv01_59 : Sv [((0 : Int), (0 : Int)), (59, -1)] := ⟨by decide, 0, [(59, -1)], rfl, Int.le_refl _⟩
theorem flat_rep23 {α : Type} (n : Nat) (x : α) : (List.replicate n [x]).flatten = List.replicate n x := by
  induction n with
  | zero => rfl
  | succ n ih => rw [List.replicate_succ, List.flatten_cons, ih, List.replicate_succ]; rfl
def p59 : List (List P2) := List.replicate 400 [(0, 0), (59, -1)]
theorem many_d : PyData.tuple (List.replicate 400 [PyData.tuple [PyData.tuple [PyData.int 0, PyData.int 0], PyData.tuple [PyData.int 59, PyData.int (-1)]]]).flatten = vlsD p59 := by
  rw [flat_rep23]
  show _ = PyData.tuple ((List.replicate 400 [(0, 0), (59, -1)]).map vlD)
  rw [List.map_replicate]
  rfl
section
variable {P : Program} {w : World} {K : PySem.W.Frag} {mg : Str → Option Value} {base : Heap}
theorem ok_law {f : Addr} {fd : FuncData} (F : Fun K "law" "law" s_law f fd) (T : Txt K mg) (TB__law_bounds_right : LamX.TabB base mg T.cc__law_bounds_right T.ct__law_bounds_right) :
    FnG P w K mg base CX0 60 f fd ["_law_script"] (spLaw K [(T.cc__law_bounds_right, T.ct__law_bounds_right)]) := by
  have g__law_source := ok_source (P := P) (w := w) (base := base) T
  have g__law_random_start := ok_rst (P := P) (w := w) (base := base) T
  have g__law_draw := ok_take (P := P) (w := w) (base := base) T
  have g__law_bounds_right := ok_br (P := P) (w := w) (base := base) T TB__law_bounds_right
  have g__law_joint_right := ok_jr (P := P) (w := w) (base := base) T
  have g__law_groups_right := ok_gr (P := P) (w := w) (base := base) T
  have g_joint_valleys := ok_jv (P := P) (w := w) (base := base) T
  refine okG F sc_law (fun vs H Q E h => ?_) (fun cdv A outer s H vs Q E hr gd h => ?_)
  · obtain ⟨a, ns, rfl, _⟩ := h
    rfl
  obtain ⟨a, ns, rfl, hT0, hS, hlen, q⟩ := h
  have hT := tabs_start (T := T) hT0
  refine ⟨_, (pss_cons (ps_for PassesOwn.never rfl (pi_range1 rfl T.n_range (pa_cons (pe_callB (call_max2 rfl) (by rfl) T.n_max (by decide +kernel) (pa_cons pe_int (pa_cons (pe_callB (call_min2 rfl) (by rfl) T.n_min (by decide +kernel) (pa_cons pe_int (pa_cons (pe_callB (r := rLenS K) call_lenS (by rfl) T.n_len (by decide +kernel) (pa_cons (pv 0) pa_nil)) pa_nil))) pa_nil))) pa_nil)) (pg_name (i := 1) sc_law.nd rfl (Or.inl rfl))
        (pss_cons (ps_set (i := 2) sc_law.nd rfl (Or.inr rfl) (pe_call g__law_source (hr.mono (by omega)) rfl T.m__law_source T.F__law_source.kp T.b__law_source .nil pass0 (pa_cons (pv 0) (pa_cons (pv 1) pa_nil))))
        (pss_cons (ps_set (i := 3) sc_law.nd rfl (Or.inl rfl) (pe_callTy (r := rTupS K) call_tupS (by rfl) T.n_tuple (by decide +kernel) (pa_cons (pe_lc (own := [("_law_turn", 5)]) (g := (gName 5)) (by rfl) sc_law.nd (pi_range1 rfl T.n_range (pa_cons (pe_ix (r := rIxL K) ix_list (pe_lst (pa_cons pe_int (pa_cons pe_int (pa_cons pe_int (pa_cons pe_int (pa_cons pe_int (pa_cons pe_int pa_nil))))))) (pe_call g__law_draw (hr.mono (by omega)) rfl T.m__law_draw T.F__law_draw.kp T.b__law_draw .nil pass0 (pa_cons (pv 2) (pa_cons pe_int pa_nil))) (fun _ _ => rfl)) pa_nil)) (blkOk_by (N := N_law) (sc := (defScope s_law)) (by decide +kernel)) (fun _ _ _ _ _ => (pg_name (i := 5) sc_law.nd rfl (Or.inl rfl))) (fun _ _ _ _ _ => pts_nil) (fun _ _ _ _ _ => (pe_call g__law_random_start (hr.mono (by omega)) rfl T.m__law_random_start T.F__law_random_start.kp T.b__law_random_start .nil pass0 (pa_cons (pv 2) (pa_cons pe_int pa_nil))))) pa_nil)))
        (pss_cons (ps_set (i := 3) sc_law.nd rfl (Or.inl rfl) (pe_op (r := rCatA K) op_catA (pv 3) (pe_slice (r := rSlA K) sl_tupA (pv 3) po_none (po_some (pe_call g__law_draw (hr.mono (by omega)) rfl T.m__law_draw T.F__law_draw.kp T.b__law_draw .nil pass0 (pa_cons (pv 2) (pa_cons pe_int pa_nil)))))))
        (pss_cons (ps_if (PW.pt (pw_and (pt_cmpR op_eq (pv 1) pe_int (nomark _)) (pw_and1 (pt_not (pt_val (pe_call g__law_bounds_right (hr.mono (by omega)) rfl T.m__law_bounds_right T.F__law_bounds_right.kp T.b__law_bounds_right .nil pass0 (pa_cons (pv 2) pa_nil))))))) (pss_one (ps_ret pe_bl)) pss_nil)
        (pss_one (ps_if (PW.pt (pw_or (pt_not (pt_val (pe_call g__law_joint_right (hr.mono (by omega)) rfl T.m__law_joint_right T.F__law_joint_right.kp T.b__law_joint_right .nil pass0 (pa_cons (pv 2) (pa_cons (pv 3) pa_nil))))) (pw_or1 (pt_not (pt_val (pe_call g__law_groups_right (hr.mono (by omega)) rfl T.m__law_groups_right T.F__law_groups_right.kp T.b__law_groups_right .nil pass0 (pa_cons (pv 2) (pa_cons (pv 3) pa_nil)))))))) (pss_one (ps_ret pe_bl)) pss_nil)))))))
      (pss_cons (ps_set (i := 4) sc_law.nd rfl (Or.inl rfl) (pe_call g_joint_valleys (hr.mono (by omega)) rfl T.m_joint_valleys T.F_joint_valleys.kp T.b_joint_valleys .nil passN (pa_cons (pw_rep (k := 400) (pw_tup (pws_cons (pw_tup (pws_cons (pw_tup (pws_cons (pw_int (E := []) (n := 0) pe_int (by decide +kernel) (fun σ H Q q => q)) (pws_cons (pw_int (E := []) (n := 0) pe_int (by decide +kernel) (fun σ H Q q => q)) (pws_nil (E := [])))) (by decide)) (pws_cons (pw_tup (pws_cons (pw_int (E := []) (n := 59) pe_int (by decide +kernel) (fun σ H Q q => q)) (pws_cons (pw_int (E := []) (n := -1) (pe_un un_neg pe_int) (by decide +kernel) (fun σ H Q q => ⟨_, rfl, q⟩)) (pws_nil (E := [])))) (by decide)) (pws_nil (E := [])))) (by decide)) (pws_nil (E := []))) (by decide)) pe_int (by decide) (by decide) (fun z => by cases z) (by decide)) pa_nil)))
      (pss_one (ps_ret (pe_and (pe_cmpR (r := rEqD K) (op_eqD hr.units) (pe_call g_joint_valleys (hr.mono (by omega)) rfl T.m_joint_valleys T.F_joint_valleys.kp T.b_joint_valleys .nil passN (pa_cons (pw_tup (pws_nil (E := [])) (by decide)) pa_nil)) (pw_tup (pws_cons (pw_tup (pws_cons (pw_int (E := []) (n := 0) pe_int (by decide +kernel) (fun σ H Q q => q)) (pws_cons (pw_int (E := []) (n := 0) pe_int (by decide +kernel) (fun σ H Q q => q)) (pws_nil (E := [])))) (by decide)) (pws_nil (E := []))) (by decide)) (nomark _)) (pe_one (pe_cmpR (r := rEqD K) (op_eqD hr.units) (pv 4) (pw_tup (pws_cons (pw_tup (pws_cons (pw_int (E := []) (n := 0) pe_int (by decide +kernel) (fun σ H Q q => q)) (pws_cons (pw_int (E := []) (n := 0) pe_int (by decide +kernel) (fun σ H Q q => q)) (pws_nil (E := [])))) (by decide)) (pws_cons (pw_tup (pws_cons (pw_int (E := []) (n := 59) pe_int (by decide +kernel) (fun σ H Q q => q)) (pws_cons (pw_int (E := []) (n := -400) (pe_un un_neg pe_int) (by decide +kernel) (fun σ H Q q => ⟨_, rfl, q⟩)) (pws_nil (E := [])))) (by decide)) (pws_nil (E := [])))) (by decide)) (nomark _)))))))), ?_⟩
  refine ⟨_, rfl, a, _, rfl, .inl hS, _, _, rfl, _, _, rfl, _, rfl, ?_, ?_, ?_⟩
  · show -(2 ^ 62) ≤ (if (if (((ns.map V.int).length : Nat) : Int) < 8 then (((ns.map V.int).length : Nat) : Int) else 8) > 1 then (if (((ns.map V.int).length : Nat) : Int) < 8 then (((ns.map V.int).length : Nat) : Int) else 8) else 1)
    split <;> (try split) <;> omega
  · show (if (if (((ns.map V.int).length : Nat) : Int) < 8 then (((ns.map V.int).length : Nat) : Int) else 8) > 1 then (if (((ns.map V.int).length : Nat) : Int) < 8 then (((ns.map V.int).length : Nat) : Int) else 8) else 1) < 2 ^ 62
    split <;> (try split) <;> omega
  have hturns : (if (if (((ns.map V.int).length : Nat) : Int) < 8 then (((ns.map V.int).length : Nat) : Int) else 8) > 1 then (if (((ns.map V.int).length : Nat) : Int) < 8 then (((ns.map V.int).length : Nat) : Int) else 8) else 1).toNat ≤ 10 := by
    split <;> (try split) <;> omega
  generalize (if (if (((ns.map V.int).length : Nat) : Int) < 8 then (((ns.map V.int).length : Nat) : Int) else 8) > 1 then (if (((ns.map V.int).length : Nat) : Int) < 8 then (((ns.map V.int).length : Nat) : Int) else 8) else 1) = turns at hturns ⊢
  refine for_range (lo := 0) (n := turns.toNat) (fun i σ G => ∃ y1 y2 y3 y4 y5 : Option V, σ = [some (.ref a), y1, y2, y3, y4, y5] ∧ LamX.ExtN H G ∧ LamX.Tabs (lamT T) G) ⟨none, none, none, none, none, rfl, LamX.ExtN.refl _, hT⟩ ?_ ?_
  · rintro i σ G hi ⟨y1, y2, y3, y4, y5, rfl, xG, tG⟩
    refine ⟨_, rfl, _, rfl, a, ns, 0 + (i : Int), rfl, extN_L xG hS, by omega, by omega, by omega, fun G1 p s1 hpn hp => ?_⟩
    obtain ⟨l1, hl1⟩ := hp.lst
    -- how many parts
    refine ⟨(by show 6 ≤ sizeLine; decide), fun u hu => ?_⟩
    have nup : u ≠ p := fun z => by rw [z, hl1] at hu; cases hu
    refine ⟨_, rfl, p, 0, 6, rfl, hp.same (same_new hu), by decide, by decide, by decide, fun G2 k s2 hp2 k0 k1 => ?_⟩
    obtain ⟨z, hz, ez⟩ := atI_int (ns := [2, 3, 1, 0, 4, 5]) k0 k1
    have z1 : 0 ≤ z ∧ z ≤ 5 := by
      simp only [List.mem_cons, List.not_mem_nil, or_false] at hz
      omega
    refine ⟨u, _, _, _, rfl, rfl, SqL.of (s2 u _ nup upd_same), ez, _, rfl, by omega, by omega, fun D hD => ?_⟩
    have S2 : Sx p G G2 := (Same.sx s1).trans ((sx_new hu).trans s2)
    obtain ⟨l2, hl2⟩ := hp2.lst
    have nDp : D ≠ p := fun z => by rw [z, hl2] at hD; cases hD
    have tG2 := tabs_sx (tabs_same tG (s1.trans (same_new (o := .lst ([2, 3, 1, 0, 4, 5].map V.int)) hu))) s2 (by rw [upd_ne nup.symm]; exact hl1)
    clear ez hz s2 hu nup k0 k1 s1
    refine lc_range (lo := 0) (n := z.toNat) (fun j F => Sx p G2 F ∧ Pot F p (1 + 38 * j) ∧ ∃ Ps, DrS K F D 7 j Ps) ⟨sx_new hD, hp2.same (same_new hD), [], ⟨[], upd_same, .nil, rfl⟩, rfl, fun ps h => by cases h⟩ ?_ ?_
    · rintro j F hj ⟨sF, hpF, Ps, dr⟩
      obtain ⟨lF, hlF⟩ := hpF.lst
      refine ⟨rfl, ?_⟩
      unfold tYes
      refine iteT ?_
      refine ⟨_, rfl, p, 1 + 38 * j, 7, rfl, hpF, by omega, by decide, by decide, fun F1 r ps s3 hp3 d3 rv sv => ?_⟩
      obtain ⟨acc, e1, e2, e3⟩ := drs_step dr hlF nDp s3 d3 rv sv (by omega)
      refine ⟨acc, e1, e2, fun b o nb hb => ?_, ?_, _, e3⟩
      · rw [upd_ne (ne_of_none hb hD)]
        exact s3 b o nb (sF b o nb hb)
      · obtain ⟨a1, a2, a3, p1, p2⟩ := hp3.mono (show 1 + 38 * j + 4 * 7 + 10 ≤ 1 + 38 * (j + 1) by omega)
        exact ⟨a1, a2, a3, by rw [upd_ne nDp.symm]; exact p1, p2⟩
    rintro F ⟨sF, hpF, Ps, ⟨ws, eD, hw, wl⟩, hPl, hPe⟩
    have hz6 : z.toNat ≤ 5 := by omega
    refine ⟨D, ws, rfl, .inl ⟨SqL.of eD, fun t1 ht1 => ?_⟩⟩
    have s3 : Same F (upd F t1 (.tup ws)) := same_new ht1
    have e1 : SqT K (upd F t1 (.tup ws)) t1 ws := SqT.of upd_same
    have hw1 := dpAll_same s3 hw
    have hp3 := (hpF.same s3).mono (show 1 + 38 * z.toNat ≤ 300 by omega)
    have S3 := S2.trans (sF.trans (Same.sx s3))
    have tG3 := tabs_sx tG2 (sF.trans (Same.sx s3)) hl2
    generalize (upd F t1 (.tup ws)) = F1 at e1 hw1 hp3 S3 tG3 ⊢
    clear s3 hpF hw eD ht1 sF tG2 hl2 S2 hp2 hD nDp
    show tSeq _ _ _ [some (.ref a), some (.int (0 + (i : Int))), some (.ref p), some (.ref t1), y4, y5] F1
    generalize (0 + (i : Int)) = n0
    obtain ⟨l3, hl3⟩ := hp3.lst
    -- some of them twice
    refine ⟨_, rfl, _, rfl, ?_⟩
    unfold tNoPart
    dsimp only
    refine ⟨_, rfl, p, 300, 2, rfl, hp3, by decide, by decide, by decide, fun F2 k2 s4 hp4 k0 k1 => ?_⟩
    obtain ⟨kn, rfl⟩ : ∃ kn : Nat, k2 = (kn : Int) := ⟨k2.toNat, by omega⟩
    have e2 := s4.sqT hl3 e1
    have hw2 := dpAll_keep (fun b zs h => s4.sqT hl3 h) (noLs_vls _) hw1
    refine ⟨_, rfl, slT e2 fun F3 t2 s5 e5 => ?_⟩
    rw [cut_to] at e5
    have lt : (ws.take kn).length ≤ ws.length := by rw [List.length_take]; omega
    refine cat22 (same_sqT s5 e2) e5 (by rw [sizeLine_eq]; omega) fun F4 t3 s6 e6 => ?_
    have s56 := s5.trans s6
    have tG4 := tabs_same (tabs_sx tG3 s4 hl3) s56
    have S4 := S3.trans (s4.trans (Same.sx s56))
    have hp5 := hp4.same s56
    have d6 : Dp K F4 (.ref t3) (vlsD (Ps ++ Ps.take kn)) := by
      refine .tup e6 ?_
      rw [List.map_append, List.map_take]
      exact dpAll_append (dpAll_same s56 hw2) (dpAll_take22 kn (dpAll_same s56 hw2))
    have hall : ∀ ps ∈ Ps ++ Ps.take kn, Rv 7 ps ∧ Sv ps := fun ps hp => by
      rcases List.mem_append.mp hp with y | y
      · exact hPe ps y
      · exact hPe ps (List.mem_of_mem_take y)
    have hln : (Ps ++ Ps.take kn).length ≤ 10 := by rw [List.length_append, List.length_take]; omega
    have fw : Fw (Ps ++ Ps.take kn) := fw_of (most := 7) hall (by decide) (by omega)
    have fj : Fj (Ps ++ Ps.take kn) := ⟨fw, Nat.le_trans (lenAll_le (most := 7) hall) (by omega)⟩
    clear hall hln fw
    generalize Ps ++ Ps.take kn = Qs at d6 fj
    clear e6 e5 lt s56 s6 s5 hw2 e2 s4 hp4 S3 tG3 hl3 hp3 hw1 e1 hPe hPl wl k0 k1
    obtain ⟨l5, hl5⟩ := hp5.lst
    show tSeq _ _ _ [some (.ref a), some (.int n0), some (.ref p), some (.ref t3), y4, y5] F4
    refine ⟨_, rfl, rfl, _, rfl, ?_⟩
    apply by_rest (M := fun F' => SxN p F4 F' ∧ LamX.Tabs (lamT T) F' ∧ Pot F' p 400)
    · intro rest
      refine ite2 (fun g => ?_) (fun g => ?_)
      · refine ⟨_, rfl, p, 301, rfl, hp5, by decide, tG4, fun F5 x5 tG5 hp6 => ⟨_, rfl, iteF ?_⟩⟩
        exact rest F5 ⟨x5, tG5, hp6.mono (by decide)⟩
      · exact rest F4 ⟨SxN.of Sx.refl, tG4, hp5.mono (by decide)⟩
    rintro F5 ⟨x5, tG5, hp6⟩
    have d7 : Dp K F5 (.ref t3) (vlsD Qs) := x5.dp hl5 (noL_vls Qs) d6
    obtain ⟨l6, hl6⟩ := hp6.lst
    refine ⟨_, rfl, _, rfl, p, 400, .ref t3, Qs, rfl, hp6, by decide, d7, fj, fun F6 s6 hp7 => ⟨_, rfl, iteF ?_⟩⟩
    refine ⟨_, rfl, _, rfl, p, 404, .ref t3, Qs, rfl, hp7, by decide, s6.dp hl6 (noL_vls Qs) d7, fj, fun F7 s7 hp8 => ⟨_, rfl, iteF ?_⟩⟩
    have s67 := s6.trans s7
    exact ⟨_, _, _, _, _, rfl, ext_free xG hpn ((SxN.of S4).trans (x5.trans (SxN.of s67))), tabs_sx tG5 s67 hl6⟩
  · rintro σ G ⟨y1, y2, y3, y4, y5, rfl, xG, tG⟩
    -- 400 equal parts
    refine ⟨Ns.nil, fun G1 v1 s1 d1 => ?_⟩
    rw [many_d] at d1
    refine jv_use (Ps := p59) d1 (ok23 (by simp [p59]) fun ps hp => ?_) fun R hJ _ => ?_
    · rw [(List.mem_replicate.mp hp).2]
      exact ⟨sv01_59, by decide⟩
    have h4 : p59.length = 400 := by simp [p59]
    rw [h4] at hJ
    have eR : R = [(0, 0), (59, -400)] := joint_59 (fun i hi => pF_at (by show (List.replicate 400 [((0 : Int), (0 : Int)), (59, -1)])[i]? = _; rw [List.getElem?_replicate, if_pos hi])) hJ
    subst eR
    refine ⟨by decide, fun G2 r2 s2 d2 => ?_⟩
    -- no parts
    refine ⟨Ns.nil, fun G3 v3 s3 d3 => ?_⟩
    refine jv_use (Ps := []) d3 (ok23 (by decide) (fun _ h => by cases h)) fun R hJ _ => ?_
    have eR : R = [(0, 0)] := joint_none hJ
    subst eR
    refine ⟨by decide, fun G4 r4 s4 d4 => ⟨Ns.nil, fun G5 v5 s5 d5 => ⟨_, _, dp_same s5 d4, d5, shaped_prs23 _, shaped_prs23 [(0, 0)], ?_⟩⟩⟩
    have e1 : PyData.eqv (vlD [(0, 0)]) (.tuple [.tuple [.int 0, .int 0]]) = true := eqv_vl23 [(0, 0)]
    rw [e1]
    refine ⟨_, rfl, ?_⟩
    refine iteTx rfl ?_
    refine ⟨_, rfl, Ns.nil, fun G6 v6 s6 d6 => ⟨_, _, dp_same (s3.trans (s4.trans (s5.trans s6))) d2, d6, shaped_prs23 _, shaped_prs23 [(0, 0), (59, -400)], ?_⟩⟩
    have e2 : PyData.eqv (vlD [(0, 0), (59, -400)]) (.tuple [.tuple [.int 0, .int 0], .tuple [.int 59, .int (-400)]]) = true := eqv_vl23 [(0, 0), (59, -400)]
    rw [e2]
    exact q _
end
/-- where the table of a def's lambdas lies -/
theorem tabIn_of {K : PySem.W.Frag} {x : Str} {f c P : Addr} {cl1 cl2 : Value} {z1 z2 : Option Addr} {b1 b2 : Array (Option Value)} {fd : FuncData} {vs : Array Value} (h1 : PySem.W.nsIn K mainGlobals x = some (some (.ref f))) (h2 : K.lookup f = some ⟨cl1, z1, .func fd, b1⟩)
    (h3 : fd.code = .ref c) (h4 : K.lookup c = some ⟨cl2, z2, .fields vs, b2⟩) (h5 : (vs[11]? : Option Value) = some (.ref P)) : PySem.W.tabIn K x = some (c, P) := by
  unfold PySem.W.tabIn
  rw [h1]
  dsimp only
  rw [h2]
  dsimp only
  rw [h3]
  dsimp only
  rw [h4]
  dsimp only
  rw [h5]
theorem all_mk {l : PySem.W.OpenLaw} {w : World} {K : PySem.W.Frag} {h : Heap} {mg : Str → Option Value} {fa : Addr} (X : K.In h) (G : h.Ns mainGlobals mg) (hfa : mg "law" = some (.ref fa))
    {od0 an0 : Option Addr} {sl0 : Array (Option Value)} {oc0 kV0 dc0 pm0 cd0 ct0 : Value} {f0 : Addr}
    {od1 an1 : Option Addr} {sl1 : Array (Option Value)} {oc1 kV1 dc1 pm1 cd1 ct1 : Value} {f1 : Addr}
    {od2 an2 : Option Addr} {sl2 : Array (Option Value)} {oc2 kV2 dc2 pm2 cd2 ct2 : Value} {f2 : Addr}
    {od3 an3 : Option Addr} {sl3 : Array (Option Value)} {oc3 kV3 dc3 pm3 cd3 ct3 : Value} {f3 : Addr}
    {od4 an4 : Option Addr} {sl4 : Array (Option Value)} {oc4 kV4 dc4 pm4 cd4 ct4 : Value} {f4 : Addr}
    {od5 an5 : Option Addr} {sl5 : Array (Option Value)} {oc5 kV5 dc5 pm5 cd5 ct5 : Value} {f5 : Addr}
    {od6 an6 : Option Addr} {sl6 : Array (Option Value)} {oc6 kV6 dc6 pm6 cd6 ct6 : Value} {f6 : Addr}
    {od7 an7 : Option Addr} {sl7 : Array (Option Value)} {oc7 kV7 dc7 pm7 cd7 ct7 : Value} {f7 : Addr}
    {od8 an8 : Option Addr} {sl8 : Array (Option Value)} {oc8 kV8 dc8 pm8 cd8 ct8 : Value} {f8 : Addr}
    {od9 an9 : Option Addr} {sl9 : Array (Option Value)} {oc9 kV9 dc9 pm9 cd9 ct9 : Value} {f9 : Addr}
    {od10 an10 : Option Addr} {sl10 : Array (Option Value)} {oc10 kV10 dc10 pm10 cd10 ct10 : Value} {f10 : Addr}
    {od11 an11 : Option Addr} {sl11 : Array (Option Value)} {oc11 kV11 dc11 pm11 cd11 ct11 : Value} {f11 : Addr}
    {od12 an12 : Option Addr} {sl12 : Array (Option Value)} {oc12 kV12 dc12 pm12 cd12 ct12 : Value} {f12 : Addr}
    {od13 an13 : Option Addr} {sl13 : Array (Option Value)} {oc13 kV13 dc13 pm13 cd13 ct13 : Value} {f13 : Addr}
    {od14 an14 : Option Addr} {sl14 : Array (Option Value)} {oc14 kV14 dc14 pm14 cd14 ct14 : Value} {f14 : Addr}
    {od15 an15 : Option Addr} {sl15 : Array (Option Value)} {oc15 kV15 dc15 pm15 cd15 ct15 : Value} {f15 : Addr}
    {od16 an16 : Option Addr} {sl16 : Array (Option Value)} {oc16 kV16 dc16 pm16 cd16 ct16 : Value} {f16 : Addr}
    {od17 an17 : Option Addr} {sl17 : Array (Option Value)} {oc17 kV17 dc17 pm17 cd17 ct17 : Value} {f17 : Addr}
    {od18 an18 : Option Addr} {sl18 : Array (Option Value)} {oc18 kV18 dc18 pm18 cd18 ct18 : Value} {f18 : Addr}
    {od19 an19 : Option Addr} {sl19 : Array (Option Value)} {oc19 kV19 dc19 pm19 cd19 ct19 : Value} {f19 : Addr}
    {od20 an20 : Option Addr} {sl20 : Array (Option Value)} {oc20 kV20 dc20 pm20 cd20 ct20 : Value} {f20 : Addr}
    {od21 an21 : Option Addr} {sl21 : Array (Option Value)} {oc21 kV21 dc21 pm21 cd21 ct21 : Value} {f21 : Addr}
    {od22 an22 : Option Addr} {sl22 : Array (Option Value)} {oc22 kV22 dc22 pm22 cd22 ct22 : Value} {f22 : Addr}
    {od23 an23 : Option Addr} {sl23 : Array (Option Value)} {oc23 kV23 dc23 pm23 cd23 ct23 : Value} {f23 : Addr}
    {od24 an24 : Option Addr} {sl24 : Array (Option Value)} {oc24 kV24 dc24 pm24 cd24 ct24 : Value} {f24 : Addr}
    {od25 an25 : Option Addr} {sl25 : Array (Option Value)} {oc25 kV25 dc25 pm25 cd25 ct25 : Value} {f25 : Addr}
    {od26 an26 : Option Addr} {sl26 : Array (Option Value)} {oc26 kV26 dc26 pm26 cd26 ct26 : Value} {f26 : Addr}
    {od27 an27 : Option Addr} {sl27 : Array (Option Value)} {oc27 kV27 dc27 pm27 cd27 ct27 : Value} {f27 : Addr}
    {od28 an28 : Option Addr} {sl28 : Array (Option Value)} {oc28 kV28 dc28 pm28 cd28 ct28 : Value} {f28 : Addr}
    {od29 an29 : Option Addr} {sl29 : Array (Option Value)} {oc29 kV29 dc29 pm29 cd29 ct29 : Value} {f29 : Addr}
    {w0c : Addr}
    {u0c : Addr}
    {u1c : Addr}
    {tk0 : Tok}
    {tk1 : Tok}
    {tk2 : Tok}
    {x0c : Addr}
    {lc0 lt0 : Addr}
    (a0 : PySem.W.nsIn K mainGlobals "is_integer" = some (some (.ref f0)))
    (l0 : K.lookup f0 = some ⟨oc0, od0, .func (PySem.W.fnOf "is_integer" "is_integer" (defArgs s_is_integer) (defBody s_is_integer) (defScope s_is_integer) .none kV0 dc0 pm0 an0 cd0 ct0), sl0⟩)
    (c0 : PySem.W.codeIn K cd0 "is_integer" = true) (k0 : PySem.W.keepIn K (.ref f0) = true)
    (a1 : PySem.W.nsIn K mainGlobals "is_short_integer" = some (some (.ref f1)))
    (l1 : K.lookup f1 = some ⟨oc1, od1, .func (PySem.W.fnOf "is_short_integer" "is_short_integer" (defArgs s_is_short_integer) (defBody s_is_short_integer) (defScope s_is_short_integer) .none kV1 dc1 pm1 an1 cd1 ct1), sl1⟩)
    (c1 : PySem.W.codeIn K cd1 "is_short_integer" = true) (k1 : PySem.W.keepIn K (.ref f1) = true)
    (a2 : PySem.W.nsIn K mainGlobals "check_number" = some (some (.ref f2)))
    (l2 : K.lookup f2 = some ⟨oc2, od2, .func (PySem.W.fnOf "check_number" "check_number" (defArgs s_check_number) (defBody s_check_number) (defScope s_check_number) .none kV2 dc2 pm2 an2 cd2 ct2), sl2⟩)
    (c2 : PySem.W.codeIn K cd2 "check_number" = true) (k2 : PySem.W.keepIn K (.ref f2) = true)
    (a3 : PySem.W.nsIn K mainGlobals "joint_pairs" = some (some (.ref f3)))
    (l3 : K.lookup f3 = some ⟨oc3, od3, .func (PySem.W.fnOf "joint_pairs" "joint_pairs" (defArgs s_joint_pairs) (defBody s_joint_pairs) (defScope s_joint_pairs) .none kV3 dc3 pm3 an3 cd3 ct3), sl3⟩)
    (c3 : PySem.W.codeIn K cd3 "joint_pairs" = true) (k3 : PySem.W.keepIn K (.ref f3) = true)
    (a4 : PySem.W.nsIn K mainGlobals "is_valleys" = some (some (.ref f4)))
    (l4 : K.lookup f4 = some ⟨oc4, od4, .func (PySem.W.fnOf "is_valleys" "is_valleys" (defArgs s_is_valleys) (defBody s_is_valleys) (defScope s_is_valleys) .none kV4 dc4 pm4 an4 cd4 ct4), sl4⟩)
    (c4 : PySem.W.codeIn K cd4 "is_valleys" = true) (k4 : PySem.W.keepIn K (.ref f4) = true)
    (a5 : PySem.W.nsIn K mainGlobals "is_start_valleys" = some (some (.ref f5)))
    (l5 : K.lookup f5 = some ⟨oc5, od5, .func (PySem.W.fnOf "is_start_valleys" "is_start_valleys" (defArgs s_is_start_valleys) (defBody s_is_start_valleys) (defScope s_is_start_valleys) .none kV5 dc5 pm5 an5 cd5 ct5), sl5⟩)
    (c5 : PySem.W.codeIn K cd5 "is_start_valleys" = true) (k5 : PySem.W.keepIn K (.ref f5) = true)
    (a6 : PySem.W.nsIn K mainGlobals "valley_at" = some (some (.ref f6)))
    (l6 : K.lookup f6 = some ⟨oc6, od6, .func (PySem.W.fnOf "valley_at" "valley_at" (defArgs s_valley_at) (defBody s_valley_at) (defScope s_valley_at) .none kV6 dc6 pm6 an6 cd6 ct6), sl6⟩)
    (c6 : PySem.W.codeIn K cd6 "valley_at" = true) (k6 : PySem.W.keepIn K (.ref f6) = true)
    (a7 : PySem.W.nsIn K mainGlobals "joint_lows" = some (some (.ref f7)))
    (l7 : K.lookup f7 = some ⟨oc7, od7, .func (PySem.W.fnOf "joint_lows" "joint_lows" (defArgs s_joint_lows) (defBody s_joint_lows) (defScope s_joint_lows) .none kV7 dc7 pm7 an7 cd7 ct7), sl7⟩)
    (c7 : PySem.W.codeIn K cd7 "joint_lows" = true) (k7 : PySem.W.keepIn K (.ref f7) = true)
    (a8 : PySem.W.nsIn K mainGlobals "joint_valleys" = some (some (.ref f8)))
    (l8 : K.lookup f8 = some ⟨oc8, od8, .func (PySem.W.fnOf "joint_valleys" "joint_valleys" (defArgs s_joint_valleys) (defBody s_joint_valleys) (defScope s_joint_valleys) .none kV8 dc8 pm8 an8 cd8 ct8), sl8⟩)
    (c8 : PySem.W.codeIn K cd8 "joint_valleys" = true) (k8 : PySem.W.keepIn K (.ref f8) = true)
    (a9 : PySem.W.nsIn K mainGlobals "value_at" = some (some (.ref f9)))
    (l9 : K.lookup f9 = some ⟨oc9, od9, .func (PySem.W.fnOf "value_at" "value_at" (defArgs s_value_at) (defBody s_value_at) (defScope s_value_at) .none kV9 dc9 pm9 an9 cd9 ct9), sl9⟩)
    (c9 : PySem.W.codeIn K cd9 "value_at" = true) (k9 : PySem.W.keepIn K (.ref f9) = true)
    (a10 : PySem.W.nsIn K mainGlobals "checked_length" = some (some (.ref f10)))
    (l10 : K.lookup f10 = some ⟨oc10, od10, .func (PySem.W.fnOf "checked_length" "checked_length" (defArgs s_checked_length) (defBody s_checked_length) (defScope s_checked_length) .none kV10 dc10 pm10 an10 cd10 ct10), sl10⟩)
    (c10 : PySem.W.codeIn K cd10 "checked_length" = true) (k10 : PySem.W.keepIn K (.ref f10) = true)
    (a11 : PySem.W.nsIn K mainGlobals "_is_pair" = some (some (.ref f11)))
    (l11 : K.lookup f11 = some ⟨oc11, od11, .func (PySem.W.fnOf "_is_pair" "_is_pair" (defArgs s__is_pair) (defBody s__is_pair) (defScope s__is_pair) .none kV11 dc11 pm11 an11 cd11 ct11), sl11⟩)
    (c11 : PySem.W.codeIn K cd11 "_is_pair" = true) (k11 : PySem.W.keepIn K (.ref f11) = true)
    (a12 : PySem.W.nsIn K mainGlobals "_check_valleys" = some (some (.ref f12)))
    (l12 : K.lookup f12 = some ⟨oc12, od12, .func (PySem.W.fnOf "_check_valleys" "_check_valleys" (defArgs s__check_valleys) (defBody s__check_valleys) (defScope s__check_valleys) .none kV12 dc12 pm12 an12 cd12 ct12), sl12⟩)
    (c12 : PySem.W.codeIn K cd12 "_check_valleys" = true) (k12 : PySem.W.keepIn K (.ref f12) = true)
    (a13 : PySem.W.nsIn K mainGlobals "_check_parts" = some (some (.ref f13)))
    (l13 : K.lookup f13 = some ⟨oc13, od13, .func (PySem.W.fnOf "_check_parts" "_check_parts" (defArgs s__check_parts) (defBody s__check_parts) (defScope s__check_parts) .none kV13 dc13 pm13 an13 cd13 ct13), sl13⟩)
    (c13 : PySem.W.codeIn K cd13 "_check_parts" = true) (k13 : PySem.W.keepIn K (.ref f13) = true)
    (a14 : PySem.W.nsIn K mainGlobals "_law_source" = some (some (.ref f14)))
    (l14 : K.lookup f14 = some ⟨oc14, od14, .func (PySem.W.fnOf "_law_source" "_law_source" (defArgs s__law_source) (defBody s__law_source) (defScope s__law_source) .none kV14 dc14 pm14 an14 cd14 ct14), sl14⟩)
    (c14 : PySem.W.codeIn K cd14 "_law_source" = true) (k14 : PySem.W.keepIn K (.ref f14) = true)
    (a15 : PySem.W.nsIn K mainGlobals "_law_draw" = some (some (.ref f15)))
    (l15 : K.lookup f15 = some ⟨oc15, od15, .func (PySem.W.fnOf "_law_draw" "_law_draw" (defArgs s__law_draw) (defBody s__law_draw) (defScope s__law_draw) .none kV15 dc15 pm15 an15 cd15 ct15), sl15⟩)
    (c15 : PySem.W.codeIn K cd15 "_law_draw" = true) (k15 : PySem.W.keepIn K (.ref f15) = true)
    (a16 : PySem.W.nsIn K mainGlobals "_law_gaps" = some (some (.ref f16)))
    (l16 : K.lookup f16 = some ⟨oc16, od16, .func (PySem.W.fnOf "_law_gaps" "_law_gaps" (defArgs s__law_gaps) (defBody s__law_gaps) (defScope s__law_gaps) .none kV16 dc16 pm16 an16 cd16 ct16), sl16⟩)
    (c16 : PySem.W.codeIn K cd16 "_law_gaps" = true) (k16 : PySem.W.keepIn K (.ref f16) = true)
    (a17 : PySem.W.nsIn K mainGlobals "_law_random_start" = some (some (.ref f17)))
    (l17 : K.lookup f17 = some ⟨oc17, od17, .func (PySem.W.fnOf "_law_random_start" "_law_random_start" (defArgs s__law_random_start) (defBody s__law_random_start) (defScope s__law_random_start) .none kV17 dc17 pm17 an17 cd17 ct17), sl17⟩)
    (c17 : PySem.W.codeIn K cd17 "_law_random_start" = true) (k17 : PySem.W.keepIn K (.ref f17) = true)
    (a18 : PySem.W.nsIn K mainGlobals "_law_valley_outcome" = some (some (.ref f18)))
    (l18 : K.lookup f18 = some ⟨oc18, od18, .func (PySem.W.fnOf "_law_valley_outcome" "_law_valley_outcome" (defArgs s__law_valley_outcome) (defBody s__law_valley_outcome) (defScope s__law_valley_outcome) .none kV18 dc18 pm18 an18 cd18 ct18), sl18⟩)
    (c18 : PySem.W.codeIn K cd18 "_law_valley_outcome" = true) (k18 : PySem.W.keepIn K (.ref f18) = true)
    (a19 : PySem.W.nsIn K mainGlobals "_law_joint_right" = some (some (.ref f19)))
    (l19 : K.lookup f19 = some ⟨oc19, od19, .func (PySem.W.fnOf "_law_joint_right" "_law_joint_right" (defArgs s__law_joint_right) (defBody s__law_joint_right) (defScope s__law_joint_right) .none kV19 dc19 pm19 an19 cd19 ct19), sl19⟩)
    (c19 : PySem.W.codeIn K cd19 "_law_joint_right" = true) (k19 : PySem.W.keepIn K (.ref f19) = true)
    (a20 : PySem.W.nsIn K mainGlobals "_law_groups_right" = some (some (.ref f20)))
    (l20 : K.lookup f20 = some ⟨oc20, od20, .func (PySem.W.fnOf "_law_groups_right" "_law_groups_right" (defArgs s__law_groups_right) (defBody s__law_groups_right) (defScope s__law_groups_right) .none kV20 dc20 pm20 an20 cd20 ct20), sl20⟩)
    (c20 : PySem.W.codeIn K cd20 "_law_groups_right" = true) (k20 : PySem.W.keepIn K (.ref f20) = true)
    (a21 : PySem.W.nsIn K mainGlobals "_law_bounds_right" = some (some (.ref f21)))
    (l21 : K.lookup f21 = some ⟨oc21, od21, .func (PySem.W.fnOf "_law_bounds_right" "_law_bounds_right" (defArgs s__law_bounds_right) (defBody s__law_bounds_right) (defScope s__law_bounds_right) .none kV21 dc21 pm21 an21 cd21 ct21), sl21⟩)
    (c21 : PySem.W.codeIn K cd21 "_law_bounds_right" = true) (k21 : PySem.W.keepIn K (.ref f21) = true)
    (a29 : PySem.W.nsIn K mainGlobals "law" = some (some (.ref f29)))
    (l29 : K.lookup f29 = some ⟨oc29, od29, .func (PySem.W.fnOf "law" "law" (defArgs s_law) (defBody s_law) (defScope s_law) .none kV29 dc29 pm29 an29 cd29 ct29), sl29⟩)
    (c29 : PySem.W.codeIn K cd29 "law" = true) (k29 : PySem.W.keepIn K (.ref f29) = true)
    (w0g : PySem.W.nsIn K mainGlobals "Descent" = some (some (.ref w0c))) (w0p : PySem.W.plainGet K w0c Str.empty = true) (w0d : PySem.W.hasDictIn K w0c = true) (w0o : PySem.W.plainOver K w0c = true) (w0s : PySem.W.findIn K (.ref w0c) "__setattr__" = some (some (.builtin "object.__setattr__"))) (w0m : PySem.W.makesIn K w0c = true) (w0k : PySem.W.keepIn K (.ref w0c) = true)
    (w0n0 : PySem.W.findIn K (.ref w0c) "parts" = some none)
    (w0n1 : PySem.W.findIn K (.ref w0c) "places" = some none)
    (w0n2 : PySem.W.findIn K (.ref w0c) "total" = some none)
    (w0n3 : PySem.W.findIn K (.ref w0c) "climbs" = some none)
    (a22 : PySem.W.findIn K (.ref w0c) "__init__" = some (some (.ref f22))) (i22 : PySem.W.isFn K (.ref f22) = true)
    (l22 : K.lookup f22 = some ⟨oc22, od22, .func (PySem.W.fnOf "__init__" "Descent.__init__" (defArgs s_Descent_init) (defBody s_Descent_init) (defScope s_Descent_init) .none kV22 dc22 pm22 an22 cd22 ct22), sl22⟩)
    (c22 : PySem.W.codeIn K cd22 "Descent.__init__" = true) (k22 : PySem.W.keepIn K (.ref f22) = true)
    (a23 : PySem.W.findIn K (.ref w0c) "queue_climb" = some (some (.ref f23))) (i23 : PySem.W.isFn K (.ref f23) = true)
    (l23 : K.lookup f23 = some ⟨oc23, od23, .func (PySem.W.fnOf "queue_climb" "Descent.queue_climb" (defArgs s_Descent_queue_climb) (defBody s_Descent_queue_climb) (defScope s_Descent_queue_climb) .none kV23 dc23 pm23 an23 cd23 ct23), sl23⟩)
    (c23 : PySem.W.codeIn K cd23 "Descent.queue_climb" = true) (k23 : PySem.W.keepIn K (.ref f23) = true)
    (a24 : PySem.W.findIn K (.ref w0c) "next_capacity" = some (some (.ref f24))) (i24 : PySem.W.isFn K (.ref f24) = true)
    (l24 : K.lookup f24 = some ⟨oc24, od24, .func (PySem.W.fnOf "next_capacity" "Descent.next_capacity" (defArgs s_Descent_next_capacity) (defBody s_Descent_next_capacity) (defScope s_Descent_next_capacity) .none kV24 dc24 pm24 an24 cd24 ct24), sl24⟩)
    (c24 : PySem.W.codeIn K cd24 "Descent.next_capacity" = true) (k24 : PySem.W.keepIn K (.ref f24) = true)
    (a25 : PySem.W.findIn K (.ref w0c) "go_down" = some (some (.ref f25))) (i25 : PySem.W.isFn K (.ref f25) = true)
    (l25 : K.lookup f25 = some ⟨oc25, od25, .func (PySem.W.fnOf "go_down" "Descent.go_down" (defArgs s_Descent_go_down) (defBody s_Descent_go_down) (defScope s_Descent_go_down) .none kV25 dc25 pm25 an25 cd25 ct25), sl25⟩)
    (c25 : PySem.W.codeIn K cd25 "Descent.go_down" = true) (k25 : PySem.W.keepIn K (.ref f25) = true)
    (a26 : PySem.W.findIn K (.ref w0c) "lows" = some (some (.ref f26))) (i26 : PySem.W.isFn K (.ref f26) = true)
    (l26 : K.lookup f26 = some ⟨oc26, od26, .func (PySem.W.fnOf "lows" "Descent.lows" (defArgs s_Descent_lows) (defBody s_Descent_lows) (defScope s_Descent_lows) .none kV26 dc26 pm26 an26 cd26 ct26), sl26⟩)
    (c26 : PySem.W.codeIn K cd26 "Descent.lows" = true) (k26 : PySem.W.keepIn K (.ref f26) = true)
    (u0g : PySem.W.nsIn K mainGlobals "InvalidNumber" = some (some (.ref u0c))) (u0q : PySem.W.excInitIn K u0c [.type "IndexError", .type "LookupError", .type "Exception", .type "BaseException", .type "object"] "IndexError.__new__" = true) (u0o : PySem.W.excOver K u0c [.type "IndexError", .type "LookupError", .type "Exception", .type "BaseException", .type "object"] = true) (u0d : PySem.W.hasDictIn K u0c = true) (u0s : PySem.W.findIn K (.ref u0c) "__setattr__" = some (some (.builtin "object.__setattr__"))) (u0b : PySem.W.subIn K (.ref u0c) (.type "BaseException") = some true) (u0t : PySem.W.typeIn K (.ref u0c) = some (.type "type")) (u0k : PySem.W.keepIn K (.ref u0c) = true) (u0i : PySem.W.findIn K (.ref u0c) "__init__" = some (some (.ref f27))) (u0f : PySem.W.typeIn K (.ref f27) = some (.type "function")) (u0n : PySem.W.findIn K (.ref u0c) "value" = some none) (u0ga : PySem.W.findIn K (.ref u0c) "__getattribute__" = some (some (.builtin "BaseException.__getattribute__"))) (u0gg : PySem.W.findIn K (.ref u0c) "__getattr__" = some none) (u0cl : PySem.W.isClsIn K u0c = true) (u0ss : PySem.W.subIn K (.ref u0c) (.ref u0c) = some true) (u0ha : PySem.W.findIn K (.ref u0c) "__class__" = some (some (.builtin "object.__class__"))) (u0hn : PySem.W.specialIn K (.builtin "object.__class__") "__get__" = some (some (.builtin "getset_descriptor.__get__"))) (u0ht : PySem.W.takesIn K (.builtin "object.__class__") = some true) (u0hm : PySem.W.mroIn K u0c (.type "object") = some true)
    (l27 : K.lookup f27 = some ⟨oc27, od27, .func (PySem.W.fnOf "__init__" "InvalidNumber.__init__" (defArgs s_InvalidNumber_init) (defBody s_InvalidNumber_init) (defScope s_InvalidNumber_init) .none kV27 dc27 pm27 an27 cd27 ct27), sl27⟩)
    (c27 : PySem.W.codeIn K cd27 "InvalidNumber.__init__" = true) (k27 : PySem.W.keepIn K (.ref f27) = true)
    (u1g : PySem.W.nsIn K mainGlobals "TooMany" = some (some (.ref u1c))) (u1q : PySem.W.excInitIn K u1c [.type "OverflowError", .type "ArithmeticError", .type "Exception", .type "BaseException", .type "object"] "OverflowError.__new__" = true) (u1o : PySem.W.excOver K u1c [.type "OverflowError", .type "ArithmeticError", .type "Exception", .type "BaseException", .type "object"] = true) (u1d : PySem.W.hasDictIn K u1c = true) (u1s : PySem.W.findIn K (.ref u1c) "__setattr__" = some (some (.builtin "object.__setattr__"))) (u1b : PySem.W.subIn K (.ref u1c) (.type "BaseException") = some true) (u1t : PySem.W.typeIn K (.ref u1c) = some (.type "type")) (u1k : PySem.W.keepIn K (.ref u1c) = true) (u1i : PySem.W.findIn K (.ref u1c) "__init__" = some (some (.ref f28))) (u1f : PySem.W.typeIn K (.ref f28) = some (.type "function")) (u1n : PySem.W.findIn K (.ref u1c) "limit" = some none) (u1ga : PySem.W.findIn K (.ref u1c) "__getattribute__" = some (some (.builtin "BaseException.__getattribute__"))) (u1gg : PySem.W.findIn K (.ref u1c) "__getattr__" = some none) (u1cl : PySem.W.isClsIn K u1c = true) (u1ss : PySem.W.subIn K (.ref u1c) (.ref u1c) = some true) (u1ha : PySem.W.findIn K (.ref u1c) "__class__" = some (some (.builtin "object.__class__"))) (u1hn : PySem.W.specialIn K (.builtin "object.__class__") "__get__" = some (some (.builtin "getset_descriptor.__get__"))) (u1ht : PySem.W.takesIn K (.builtin "object.__class__") = some true) (u1hm : PySem.W.mroIn K u1c (.type "object") = some true)
    (l28 : K.lookup f28 = some ⟨oc28, od28, .func (PySem.W.fnOf "__init__" "TooMany.__init__" (defArgs s_TooMany_init) (defBody s_TooMany_init) (defScope s_TooMany_init) .none kV28 dc28 pm28 an28 cd28 ct28), sl28⟩)
    (c28 : PySem.W.codeIn K cd28 "TooMany.__init__" = true) (k28 : PySem.W.keepIn K (.ref f28) = true)
    (gc0 : PySem.W.nsIn K mainGlobals "NUMBER_END" = some (some (.int 10000000000000000000000000000000000000000000000000000000000000 tk0)))
    (gc1 : PySem.W.nsIn K mainGlobals "MAX_VALLEYS" = some (some (.int 400 tk1)))
    (gc2 : PySem.W.nsIn K mainGlobals "MAX_JOINED" = some (some (.int 400 tk2)))
    (x0g : PySem.W.nsIn K mainGlobals "InvalidValleys" = some (some (.ref x0c))) (x0x : PySem.W.excIn K x0c [.type "ValueError", .type "Exception", .type "BaseException", .type "object"] "ValueError.__new__" = true) (x0k : PySem.W.keepIn K (.ref x0c) = true) (x0b : PySem.W.subIn K (.ref x0c) (.type "BaseException") = some true) (x0t : PySem.W.typeIn K (.ref x0c) = some (.type "type")) (x0i : PySem.W.isClsIn K x0c = true)
    (ye0 : PySem.W.subIn K (.ref x0c) (.ref x0c) = some true)
    (ye1 : PySem.W.subIn K (.ref u0c) (.ref x0c) = some false)
    (ye2 : PySem.W.subIn K (.ref u1c) (.ref x0c) = some false)
    (ye3 : PySem.W.subIn K (.ref u1c) (.ref u0c) = some false)
    (lt0i : PySem.W.tabIn K "_law_bounds_right" = some (lc0, lt0)) (ln0 : K.lookup lt0 = none)
    (bh0 : PySem.W.nsIn K mainGlobals "heappush" = some (some (.builtin "_heapq.heappush")))
    (bh1 : PySem.W.nsIn K mainGlobals "heappop" = some (some (.builtin "_heapq.heappop")))
    (z0 : PySem.W.nsIn K mainGlobals "abs" = some none)
    (z1 : PySem.W.nsIn K mainGlobals "all" = some none)
    (z2 : PySem.W.nsIn K mainGlobals "bool" = some none)
    (z3 : PySem.W.nsIn K mainGlobals "int" = some none)
    (z4 : PySem.W.nsIn K mainGlobals "isinstance" = some none)
    (z5 : PySem.W.nsIn K mainGlobals "len" = some none)
    (z6 : PySem.W.nsIn K mainGlobals "max" = some none)
    (z7 : PySem.W.nsIn K mainGlobals "min" = some none)
    (z8 : PySem.W.nsIn K mainGlobals "range" = some none)
    (z9 : PySem.W.nsIn K mainGlobals "sum" = some none)
    (z10 : PySem.W.nsIn K mainGlobals "tuple" = some none)
    (z11 : PySem.W.nsIn K mainGlobals "zip" = some none) :
    ∃ (cs : List (Addr × Addr)) (fd : FuncData), (∀ p ∈ cs, ∃ y ∈ Lw.lamNames, PySem.W.tabIn K y = some p) ∧ (∀ p ∈ cs, K.lookup p.2 = none) ∧ (∀ (s : Shared) (v : Value), BindsTo s fd ⟨[v], []⟩ [("_law_script", v)]) ∧ ∀ base : Heap, K.In base → base.Ns mainGlobals mg → (∀ p ∈ cs, LamX.TabB base mg p.1 p.2) → FnG l.prog w K mg base CX0 60 fa fd ["_law_script"] (spLaw K cs) := by
  have e := hfa.symm.trans (PySem.W.mg_of X G a29)
  cases e
  obtain ⟨T, te0⟩ : ∃ T : Txt K mg, (T.cc__law_bounds_right, T.ct__law_bounds_right) = (lc0, lt0) := by
    have F0 := fun_mk (st := s_is_integer) l0 c0 k0
    have F1 := fun_mk (st := s_is_short_integer) l1 c1 k1
    have F2 := fun_mk (st := s_check_number) l2 c2 k2
    have F3 := fun_mk (st := s_joint_pairs) l3 c3 k3
    have F4 := fun_mk (st := s_is_valleys) l4 c4 k4
    have F5 := fun_mk (st := s_is_start_valleys) l5 c5 k5
    have F6 := fun_mk (st := s_valley_at) l6 c6 k6
    have F7 := fun_mk (st := s_joint_lows) l7 c7 k7
    have F8 := fun_mk (st := s_joint_valleys) l8 c8 k8
    have F9 := fun_mk (st := s_value_at) l9 c9 k9
    have F10 := fun_mk (st := s_checked_length) l10 c10 k10
    have F11 := fun_mk (st := s__is_pair) l11 c11 k11
    have F12 := fun_mk (st := s__check_valleys) l12 c12 k12
    have F13 := fun_mk (st := s__check_parts) l13 c13 k13
    have F14 := fun_mk (st := s__law_source) l14 c14 k14
    have F15 := fun_mk (st := s__law_draw) l15 c15 k15
    have F16 := fun_mk (st := s__law_gaps) l16 c16 k16
    have F17 := fun_mk (st := s__law_random_start) l17 c17 k17
    have F18 := fun_mk (st := s__law_valley_outcome) l18 c18 k18
    have F19 := fun_mk (st := s__law_joint_right) l19 c19 k19
    have F20 := fun_mk (st := s__law_groups_right) l20 c20 k20
    have F21 := fun_mk (st := s__law_bounds_right) l21 c21 k21
    have F22 := fun_mk (st := s_Descent_init) l22 c22 k22
    have F23 := fun_mk (st := s_Descent_queue_climb) l23 c23 k23
    have F24 := fun_mk (st := s_Descent_next_capacity) l24 c24 k24
    have F25 := fun_mk (st := s_Descent_go_down) l25 c25 k25
    have F26 := fun_mk (st := s_Descent_lows) l26 c26 k26
    have F27 := fun_mk (st := s_InvalidNumber_init) l27 c27 k27
    have F28 := fun_mk (st := s_TooMany_init) l28 c28 k28
    have B0 := F0.binds (ps := ["value"]) fun _ _ _ _ _ _ us hl => match us, hl with | [_], _ => rfl
    have B1 := F1.binds (ps := ["value"]) fun _ _ _ _ _ _ us hl => match us, hl with | [_], _ => rfl
    have B2 := F2.binds (ps := ["value"]) fun _ _ _ _ _ _ us hl => match us, hl with | [_], _ => rfl
    have B3 := F3.binds (ps := ["parts"]) fun _ _ _ _ _ _ us hl => match us, hl with | [_], _ => rfl
    have B4 := F4.binds (ps := ["value"]) fun _ _ _ _ _ _ us hl => match us, hl with | [_], _ => rfl
    have B5 := F5.binds (ps := ["value"]) fun _ _ _ _ _ _ us hl => match us, hl with | [_], _ => rfl
    have B6 := F6.binds (ps := ["valleys", "capacity"]) fun _ _ _ _ _ _ us hl => match us, hl with | [_, _], _ => rfl
    have B7 := F7.binds (ps := ["parts", "capacity"]) fun _ _ _ _ _ _ us hl => match us, hl with | [_, _], _ => rfl
    have B8 := F8.binds (ps := ["parts"]) fun _ _ _ _ _ _ us hl => match us, hl with | [_], _ => rfl
    have B9 := F9.binds (ps := ["pairs", "capacity"]) fun _ _ _ _ _ _ us hl => match us, hl with | [_, _], _ => rfl
    have B10 := F10.binds (ps := ["pairs"]) fun _ _ _ _ _ _ us hl => match us, hl with | [_], _ => rfl
    have B11 := F11.binds (ps := ["value"]) fun _ _ _ _ _ _ us hl => match us, hl with | [_], _ => rfl
    have B12 := F12.binds (ps := ["value"]) fun _ _ _ _ _ _ us hl => match us, hl with | [_], _ => rfl
    have B13 := F13.binds (ps := ["parts"]) fun _ _ _ _ _ _ us hl => match us, hl with | [_], _ => rfl
    have B14 := F14.binds (ps := ["_law_script", "_law_at"]) fun _ _ _ _ _ _ us hl => match us, hl with | [_, _], _ => rfl
    have B15 := F15.binds (ps := ["_law_source_here", "_law_many"]) fun _ _ _ _ _ _ us hl => match us, hl with | [_, _], _ => rfl
    have B16 := F16.binds (ps := ["_law_source_here", "_law_total"]) fun _ _ _ _ _ _ us hl => match us, hl with | [_, _], _ => rfl
    have B17 := F17.binds (ps := ["_law_source_here", "_law_most"]) fun _ _ _ _ _ _ us hl => match us, hl with | [_, _], _ => rfl
    have B18 := F18.binds (ps := ["_law_call"]) fun _ _ _ _ _ _ us hl => match us, hl with | [_], _ => rfl
    have B19 := F19.binds (ps := ["_law_source_here", "_law_parts"]) fun _ _ _ _ _ _ us hl => match us, hl with | [_, _], _ => rfl
    have B20 := F20.binds (ps := ["_law_source_here", "_law_parts"]) fun _ _ _ _ _ _ us hl => match us, hl with | [_, _], _ => rfl
    have B21 := F21.binds (ps := ["_law_source_here"]) fun _ _ _ _ _ _ us hl => match us, hl with | [_], _ => rfl
    have B22 := F22.binds (ps := ["self", "parts"]) fun _ _ _ _ _ _ us hl => match us, hl with | [_, _], _ => rfl
    have B23 := F23.binds (ps := ["self", "index"]) fun _ _ _ _ _ _ us hl => match us, hl with | [_, _], _ => rfl
    have B24 := F24.binds (ps := ["self"]) fun _ _ _ _ _ _ us hl => match us, hl with | [_], _ => rfl
    have B25 := F25.binds (ps := ["self", "capacity"]) fun _ _ _ _ _ _ us hl => match us, hl with | [_, _], _ => rfl
    have B26 := F26.binds (ps := ["self"]) fun _ _ _ _ _ _ us hl => match us, hl with | [_], _ => rfl
    have B27 := F27.binds (ps := ["self", "value"]) fun _ _ _ _ _ _ us hl => match us, hl with | [_, _], _ => rfl
    have B28 := F28.binds (ps := ["self", "limit"]) fun _ _ _ _ _ _ us hl => match us, hl with | [_, _], _ => rfl
    exact ⟨{
      f_is_integer := f0, d_is_integer := _, F_is_integer := F0, b_is_integer := B0, m_is_integer := PySem.W.mg_of X G a0,
      f_is_short_integer := f1, d_is_short_integer := _, F_is_short_integer := F1, b_is_short_integer := B1, m_is_short_integer := PySem.W.mg_of X G a1,
      f_check_number := f2, d_check_number := _, F_check_number := F2, b_check_number := B2, m_check_number := PySem.W.mg_of X G a2,
      f_joint_pairs := f3, d_joint_pairs := _, F_joint_pairs := F3, b_joint_pairs := B3, m_joint_pairs := PySem.W.mg_of X G a3,
      f_is_valleys := f4, d_is_valleys := _, F_is_valleys := F4, b_is_valleys := B4, m_is_valleys := PySem.W.mg_of X G a4,
      f_is_start_valleys := f5, d_is_start_valleys := _, F_is_start_valleys := F5, b_is_start_valleys := B5, m_is_start_valleys := PySem.W.mg_of X G a5,
      f_valley_at := f6, d_valley_at := _, F_valley_at := F6, b_valley_at := B6, m_valley_at := PySem.W.mg_of X G a6,
      f_joint_lows := f7, d_joint_lows := _, F_joint_lows := F7, b_joint_lows := B7, m_joint_lows := PySem.W.mg_of X G a7,
      f_joint_valleys := f8, d_joint_valleys := _, F_joint_valleys := F8, b_joint_valleys := B8, m_joint_valleys := PySem.W.mg_of X G a8,
      f_value_at := f9, d_value_at := _, F_value_at := F9, b_value_at := B9, m_value_at := PySem.W.mg_of X G a9,
      f_checked_length := f10, d_checked_length := _, F_checked_length := F10, b_checked_length := B10, m_checked_length := PySem.W.mg_of X G a10,
      f__is_pair := f11, d__is_pair := _, F__is_pair := F11, b__is_pair := B11, m__is_pair := PySem.W.mg_of X G a11,
      f__check_valleys := f12, d__check_valleys := _, F__check_valleys := F12, b__check_valleys := B12, m__check_valleys := PySem.W.mg_of X G a12,
      f__check_parts := f13, d__check_parts := _, F__check_parts := F13, b__check_parts := B13, m__check_parts := PySem.W.mg_of X G a13,
      f__law_source := f14, d__law_source := _, F__law_source := F14, b__law_source := B14, m__law_source := PySem.W.mg_of X G a14,
      f__law_draw := f15, d__law_draw := _, F__law_draw := F15, b__law_draw := B15, m__law_draw := PySem.W.mg_of X G a15,
      f__law_gaps := f16, d__law_gaps := _, F__law_gaps := F16, b__law_gaps := B16, m__law_gaps := PySem.W.mg_of X G a16,
      f__law_random_start := f17, d__law_random_start := _, F__law_random_start := F17, b__law_random_start := B17, m__law_random_start := PySem.W.mg_of X G a17,
      f__law_valley_outcome := f18, d__law_valley_outcome := _, F__law_valley_outcome := F18, b__law_valley_outcome := B18, m__law_valley_outcome := PySem.W.mg_of X G a18,
      f__law_joint_right := f19, d__law_joint_right := _, F__law_joint_right := F19, b__law_joint_right := B19, m__law_joint_right := PySem.W.mg_of X G a19,
      f__law_groups_right := f20, d__law_groups_right := _, F__law_groups_right := F20, b__law_groups_right := B20, m__law_groups_right := PySem.W.mg_of X G a20,
      f__law_bounds_right := f21, d__law_bounds_right := _, F__law_bounds_right := F21, b__law_bounds_right := B21, m__law_bounds_right := PySem.W.mg_of X G a21, cc__law_bounds_right := lc0, ct__law_bounds_right := lt0, hc__law_bounds_right := Rp.code_is a21 lt0i,
      f_Descent_init := f22, d_Descent_init := _, F_Descent_init := F22, b_Descent_init := B22, mk_Descent := ⟨w0m, a22, i22, w0k⟩,
      f_Descent_queue_climb := f23, d_Descent_queue_climb := _, F_Descent_queue_climb := F23, b_Descent_queue_climb := B23, mt_Descent_queue_climb := ⟨a23, i23, k23⟩,
      f_Descent_next_capacity := f24, d_Descent_next_capacity := _, F_Descent_next_capacity := F24, b_Descent_next_capacity := B24, mt_Descent_next_capacity := ⟨a24, i24, k24⟩,
      f_Descent_go_down := f25, d_Descent_go_down := _, F_Descent_go_down := F25, b_Descent_go_down := B25, mt_Descent_go_down := ⟨a25, i25, k25⟩,
      f_Descent_lows := f26, d_Descent_lows := _, F_Descent_lows := F26, b_Descent_lows := B26, mt_Descent_lows := ⟨a26, i26, k26⟩,
      c_InvalidNumber := u0c, g_InvalidNumber := PySem.W.mg_of X G u0g, f_InvalidNumber_init := f27, d_InvalidNumber_init := _, F_InvalidNumber_init := F27, b_InvalidNumber_init := B27, ox_InvalidNumber := ⟨⟨_, _, _, _, PySem.F.excBase_IndexError, PySem.F.store_IndexError, u0q, u0o⟩, u0d, u0s, u0b, u0t, u0k⟩, iC_InvalidNumber := u0i, tI_InvalidNumber := u0f, no_InvalidNumber := u0n, xf_InvalidNumber := ⟨u0ga, u0gg, u0b, u0d⟩, xc_InvalidNumber := ⟨u0ga, u0gg, u0b, u0d, u0ha, u0hn, u0ht, u0hm⟩, e_InvalidNumber_InvalidNumber := exm_sub u0b u0cl u0t u0ss,
      c_TooMany := u1c, g_TooMany := PySem.W.mg_of X G u1g, f_TooMany_init := f28, d_TooMany_init := _, F_TooMany_init := F28, b_TooMany_init := B28, ox_TooMany := ⟨⟨_, _, _, _, PySem.F.excBase_OverflowError, PySem.F.store_OverflowError, u1q, u1o⟩, u1d, u1s, u1b, u1t, u1k⟩, iC_TooMany := u1i, tI_TooMany := u1f, no_TooMany := u1n, xf_TooMany := ⟨u1ga, u1gg, u1b, u1d⟩, xc_TooMany := ⟨u1ga, u1gg, u1b, u1d, u1ha, u1hn, u1ht, u1hm⟩, e_TooMany_TooMany := exm_sub u1b u1cl u1t u1ss,
      e_InvalidValleys_InvalidValleys := exm_sub x0b x0i x0t ye0,
      e_InvalidNumber_InvalidValleys := exm_sub x0b x0i x0t ye1,
      e_TooMany_InvalidValleys := exm_sub x0b x0i x0t ye2,
      e_TooMany_InvalidNumber := exm_sub u0b u0cl u0t ye3,
      c_Descent := w0c, g_Descent := PySem.W.mg_of X G w0g, cl_Descent := ⟨w0p, w0d, w0o, w0s⟩, na_Descent_parts := w0n0, na_Descent_places := w0n1, na_Descent_total := w0n2, na_Descent_climbs := w0n3,
      t_NUMBER_END := tk0, g_NUMBER_END := PySem.W.mg_of X G gc0,
      t_MAX_VALLEYS := tk1, g_MAX_VALLEYS := PySem.W.mg_of X G gc1,
      t_MAX_JOINED := tk2, g_MAX_JOINED := PySem.W.mg_of X G gc2,
      c_InvalidValleys := x0c, g_InvalidValleys := PySem.W.mg_of X G x0g, x_InvalidValleys := x0x, k_InvalidValleys := x0k, bb_InvalidValleys := x0b, tt_InvalidValleys := x0t,
      n_heappush := PySem.W.mg_of X G bh0,
      n_heappop := PySem.W.mg_of X G bh1,
      n_abs := PySem.W.mg_none_of X G z0,
      n_all := PySem.W.mg_none_of X G z1,
      n_bool := PySem.W.mg_none_of X G z2,
      n_int := PySem.W.mg_none_of X G z3,
      n_isinstance := PySem.W.mg_none_of X G z4,
      n_len := PySem.W.mg_none_of X G z5,
      n_max := PySem.W.mg_none_of X G z6,
      n_min := PySem.W.mg_none_of X G z7,
      n_range := PySem.W.mg_none_of X G z8,
      n_sum := PySem.W.mg_none_of X G z9,
      n_tuple := PySem.W.mg_none_of X G z10,
      n_zip := PySem.W.mg_none_of X G z11 }, rfl⟩
  refine ⟨[(T.cc__law_bounds_right, T.ct__law_bounds_right)], PySem.W.fnOf "law" "law" (defArgs s_law) (defBody s_law) (defScope s_law) .none kV29 dc29 pm29 an29 cd29 ct29, ?_, ?_, fun s v => .of_eq rfl, fun base _ _ TB => ok_law (fun_mk (st := s_law) l29 c29 k29) T (TB (T.cc__law_bounds_right, T.ct__law_bounds_right) (by simp))⟩
  · intro p hp
    simp only [List.mem_cons, List.not_mem_nil, or_false] at hp
    rcases hp with rfl
    · exact ⟨"_law_bounds_right", by decide, te0 ▸ lt0i⟩
  · intro p hp
    simp only [List.mem_cons, List.not_mem_nil, or_false] at hp
    rcases hp with rfl
    · rw [te0]; exact ln0
end Lw

open PySem PySem.W PyProof.Rows
set_option maxRecDepth 100000 in
set_option maxHeartbeats 0 in
theorem PySem.Challenge.cw_roomprofile_k23_joint_valleys_complete_holds : PySem.Challenge.rw_roomprofile_k23_joint_valleys_complete.Holds := by
  w_on; o_law; k_head; (case hw => w_witness2)
  k_fill
  refine Rp.law_endT (l := PySem.Challenge.rw_roomprofile_k23_joint_valleys_complete) (n := 63) (k := 60) (x := "_law_script") (sp := Lw.spLaw) (nms := Lw.lamNames) rfl (by decide) rfl ⟨rfl, by decide, by decide⟩ (by decide +kernel) (fun w h Y => PySem.W.km_in_of Y) ?F (fun K cs H a ns hl hT hS => ⟨a, ns, rfl, hT, hS, hl, fun _ => rfl⟩)
  case F =>
    intro w mg fa h KX G hmg
    refine' Lw.all_mk KX G hmg ?a0 ?l0 ?c0 ?k0 ?a1 ?l1 ?c1 ?k1 ?a2 ?l2 ?c2 ?k2 ?a3 ?l3 ?c3 ?k3 ?a4 ?l4 ?c4 ?k4 ?a5 ?l5 ?c5 ?k5 ?a6 ?l6 ?c6 ?k6 ?a7 ?l7 ?c7 ?k7 ?a8 ?l8 ?c8 ?k8 ?a9 ?l9 ?c9 ?k9 ?a10 ?l10 ?c10 ?k10 ?a11 ?l11 ?c11 ?k11 ?a12 ?l12 ?c12 ?k12 ?a13 ?l13 ?c13 ?k13 ?a14 ?l14 ?c14 ?k14 ?a15 ?l15 ?c15 ?k15 ?a16 ?l16 ?c16 ?k16 ?a17 ?l17 ?c17 ?k17 ?a18 ?l18 ?c18 ?k18 ?a19 ?l19 ?c19 ?k19 ?a20 ?l20 ?c20 ?k20 ?a21 ?l21 ?c21 ?k21 ?a29 ?l29 ?c29 ?k29 ?w0g ?w0p ?w0d ?w0o ?w0s ?w0m ?w0k ?w0n0 ?w0n1 ?w0n2 ?w0n3 ?a22 ?i22 ?l22 ?c22 ?k22 ?a23 ?i23 ?l23 ?c23 ?k23 ?a24 ?i24 ?l24 ?c24 ?k24 ?a25 ?i25 ?l25 ?c25 ?k25 ?a26 ?i26 ?l26 ?c26 ?k26 ?u0g ?u0q ?u0o ?u0d ?u0s ?u0b ?u0t ?u0k ?u0i ?u0f ?u0n ?u0ga ?u0gg ?u0cl ?u0ss ?u0ha ?u0hn ?u0ht ?u0hm ?l27 ?c27 ?k27 ?u1g ?u1q ?u1o ?u1d ?u1s ?u1b ?u1t ?u1k ?u1i ?u1f ?u1n ?u1ga ?u1gg ?u1cl ?u1ss ?u1ha ?u1hn ?u1ht ?u1hm ?l28 ?c28 ?k28 ?gc0 ?gc1 ?gc2 ?x0g ?x0x ?x0k ?x0b ?x0t ?x0i ?ye0 ?ye1 ?ye2 ?ye3 ?lt0i ?ln0 ?bh0 ?bh1 ?z0 ?z1 ?z2 ?z3 ?z4 ?z5 ?z6 ?z7 ?z8 ?z9 ?z10 ?z11
    (case a0 => k_is)
    (case l0 => k_is)
    (case c0 => k_is)
    (case k0 => k_is)
    (case a1 => k_is)
    (case l1 => k_is)
    (case c1 => k_is)
    (case k1 => k_is)
    (case a2 => k_is)
    (case l2 => k_is)
    (case c2 => k_is)
    (case k2 => k_is)
    (case a3 => k_is)
    (case l3 => k_is)
    (case c3 => k_is)
    (case k3 => k_is)
    (case a4 => k_is)
    (case l4 => k_is)
    (case c4 => k_is)
    (case k4 => k_is)
    (case a5 => k_is)
    (case l5 => k_is)
    (case c5 => k_is)
    (case k5 => k_is)
    (case a6 => k_is)
    (case l6 => k_is)
    (case c6 => k_is)
    (case k6 => k_is)
    (case a7 => k_is)
    (case l7 => k_is)
    (case c7 => k_is)
    (case k7 => k_is)
    (case a8 => k_is)
    (case l8 => k_is)
    (case c8 => k_is)
    (case k8 => k_is)
    (case a9 => k_is)
    (case l9 => k_is)
    (case c9 => k_is)
    (case k9 => k_is)
    (case a10 => k_is)
    (case l10 => k_is)
    (case c10 => k_is)
    (case k10 => k_is)
    (case a11 => k_is)
    (case l11 => k_is)
    (case c11 => k_is)
    (case k11 => k_is)
    (case a12 => k_is)
    (case l12 => k_is)
    (case c12 => k_is)
    (case k12 => k_is)
    (case a13 => k_is)
    (case l13 => k_is)
    (case c13 => k_is)
    (case k13 => k_is)
    (case a14 => k_is)
    (case l14 => k_is)
    (case c14 => k_is)
    (case k14 => k_is)
    (case a15 => k_is)
    (case l15 => k_is)
    (case c15 => k_is)
    (case k15 => k_is)
    (case a16 => k_is)
    (case l16 => k_is)
    (case c16 => k_is)
    (case k16 => k_is)
    (case a17 => k_is)
    (case l17 => k_is)
    (case c17 => k_is)
    (case k17 => k_is)
    (case a18 => k_is)
    (case l18 => k_is)
    (case c18 => k_is)
    (case k18 => k_is)
    (case a19 => k_is)
    (case l19 => k_is)
    (case c19 => k_is)
    (case k19 => k_is)
    (case a20 => k_is)
    (case l20 => k_is)
    (case c20 => k_is)
    (case k20 => k_is)
    (case a21 => k_is)
    (case l21 => k_is)
    (case c21 => k_is)
    (case k21 => k_is)
    (case a29 => k_is)
    (case l29 => k_is)
    (case c29 => k_is)
    (case k29 => k_is)
    (case w0g => k_is)
    (case w0p => k_is)
    (case w0d => k_is)
    (case w0o => k_is)
    (case w0s => k_is)
    (case w0m => k_is)
    (case w0k => k_is)
    (case w0n0 => k_is)
    (case w0n1 => k_is)
    (case w0n2 => k_is)
    (case w0n3 => k_is)
    (case a22 => k_is)
    (case i22 => k_is)
    (case l22 => k_is)
    (case c22 => k_is)
    (case k22 => k_is)
    (case a23 => k_is)
    (case i23 => k_is)
    (case l23 => k_is)
    (case c23 => k_is)
    (case k23 => k_is)
    (case a24 => k_is)
    (case i24 => k_is)
    (case l24 => k_is)
    (case c24 => k_is)
    (case k24 => k_is)
    (case a25 => k_is)
    (case i25 => k_is)
    (case l25 => k_is)
    (case c25 => k_is)
    (case k25 => k_is)
    (case a26 => k_is)
    (case i26 => k_is)
    (case l26 => k_is)
    (case c26 => k_is)
    (case k26 => k_is)
    (case u0g => k_is)
    (case u0q => kx_is)
    (case u0o => kx_is)
    (case u0d => k_is)
    (case u0s => k_is)
    (case u0b => k_is)
    (case u0t => k_is)
    (case u0k => k_is)
    (case u0i => k_is)
    (case u0f => k_is)
    (case u0n => k_is)
    (case u0ga => k_is)
    (case u0gg => k_is)
    (case u0cl => k_is)
    (case u0ss => k_is)
    (case u0ha => k_is)
    (case u0hn => k_is)
    (case u0ht => k_is)
    (case u0hm => k_is)
    (case l27 => k_is)
    (case c27 => k_is)
    (case k27 => k_is)
    (case u1g => k_is)
    (case u1q => kx_is)
    (case u1o => kx_is)
    (case u1d => k_is)
    (case u1s => k_is)
    (case u1b => k_is)
    (case u1t => k_is)
    (case u1k => k_is)
    (case u1i => k_is)
    (case u1f => k_is)
    (case u1n => k_is)
    (case u1ga => k_is)
    (case u1gg => k_is)
    (case u1cl => k_is)
    (case u1ss => k_is)
    (case u1ha => k_is)
    (case u1hn => k_is)
    (case u1ht => k_is)
    (case u1hm => k_is)
    (case l28 => k_is)
    (case c28 => k_is)
    (case k28 => k_is)
    (case gc0 => k_is)
    (case gc1 => k_is)
    (case gc2 => k_is)
    (case x0g => k_is)
    (case x0x => k_exc)
    (case x0k => k_is)
    (case x0b => k_is)
    (case x0t => k_is)
    (case x0i => k_is)
    (case ye0 => first | rfl | k_is)
    (case ye1 => first | rfl | k_is)
    (case ye2 => first | rfl | k_is)
    (case ye3 => first | rfl | k_is)
    (case lt0i => refine' Lw.tabIn_of ?h1 ?h2 ?h3 ?h4 ?h5; (case h1 => k_is); (case h2 => k_is); (case h3 => rfl); (case h4 => k_is); (case h5 => rfl))
    (case ln0 => kernel_rfl)
    (case bh0 => k_is)
    (case bh1 => k_is)
    (case z0 => k_is)
    (case z1 => k_is)
    (case z2 => k_is)
    (case z3 => k_is)
    (case z4 => k_is)
    (case z5 => k_is)
    (case z6 => k_is)
    (case z7 => k_is)
    (case z8 => k_is)
    (case z9 => k_is)
    (case z10 => k_is)
    (case z11 => k_is)
