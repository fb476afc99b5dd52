import PyProof.Rows.All
import Wide.All
import OpenK.AllK
import Wide.FinOn
import HandS.ForMost
import HandS.IsInst
import HandS.TupAny
import HandS.Wide
import HandS.Codes
import HandS.Style
import PyProof.ReprRoads
import PyProof.ReprLen
import PyProof.ReprBulk
import PyProof.FitsInt
import HandS.Defaults
import HandS.MakeKwOnly
import HandS.TryOnly
import HandS.ForExc
import HandS.TryMany
import HandS.Zip
import HandS.Walk
import HandS.TupSets
import HandS.NamedTupSort
import HandS.SortOrd
import HandS.SortRule
import HandS.DictComp
import PyProof.MaxThree
import HandS.Rev
import HandS.DictTup
import PyProof.TupleOfSeq
import KE.KDictPairs
import KE.KDictKeyed
import KE.KDictCopyH
import PyProof.Rows.SeqRoads
import HandS.TupMul
import KE.DataMinMax
import HandS.Deep
import HandS.CallLocal
import PySem.Challenge.RW_roomprofile_k18_whole_runs_in_parts
set_option Elab.async false
set_option linter.all false
set_option maxRecDepth 100000
set_option maxHeartbeats 4000000
/-! Rp: what the proofs of the laws over roomprofile share: powers, data, repr, isinstance, heaps. -/
namespace Rp
open PySem L2

/-! ### powers of great ints -/
def CPowW (i j : Int) : Prop := 0 ≤ j ∧ (Builtin.Int.intBits i : Int) * j ≤ 2 ^ 27
theorem bits_le {i : Int} {b : Nat} (hi : i.natAbs < 2 ^ b) : Builtin.Int.intBits i ≤ b := by
  unfold Builtin.Int.intBits
  split
  · exact Nat.zero_le _
  · rename_i hne
    have h0 : i.natAbs ≠ 0 := by
      intro z
      apply hne
      have : i = 0 := by omega
      subst this
      rfl
    have := (Nat.log2_lt h0).mpr hi
    omega
theorem powW_of {i j : Int} (b : Nat) (h0 : 0 ≤ j) (hi : i.natAbs < 2 ^ b) (hb : (b : Int) * j ≤ 2 ^ 27) : CPowW i j := by
  refine ⟨h0, Int.le_trans ?_ hb⟩
  have := bits_le hi
  exact Int.mul_le_mul_of_nonneg_right (by omega) h0
section
variable {X : Cx}
theorem op_powW : OpR X (binaryOp .Pow) (rI CPowW fun i j => .int (i ^ j.toNat)) := opI fun _ _ _ _ _ _ _ hc q => PyProof.Rows.pow_int hc.1 hc.2 q
end

/-! ### data -/
def tyN : PyData → String
  | .none => "NoneType"
  | .bool _ => "bool"
  | .int _ => "int"
  | .str _ => "str"
  | .list _ => "list"
  | .tuple _ => "tuple"
  | .dict _ => "dict"
theorem dp_ty {K : PySem.W.Frag} {H : Hp} {v : V} {d : PyData} (h : Dp K H v d) : TyX K H v (.type (tyN d)) := by
  cases h with
  | non => exact .base .non
  | bl b => exact .base (.bl b)
  | int i => exact .base (.int i)
  | str x => exact .base (.str x)
  | lst hs ha =>
    rcases hs with (e | ⟨o, e⟩) | ⟨o, its, n, hk, hc, _⟩
    · exact .base (.lst e)
    · exact .base (.frz e)
    · exact .kList hk hc
  | tup hs ha =>
    rcases hs with (e | ⟨o, e⟩) | ⟨o, its, n, hk, hc, _⟩
    · exact .base (.tup e)
    · exact .fTuple e
    · exact .kTuple hk hc
def isInt : PyData → Bool
  | .int _ => true
  | .bool _ => true
  | _ => false
def isBoo : PyData → Bool
  | .bool _ => true
  | _ => false
def isTup : PyData → Bool
  | .tuple _ => true
  | _ => false
def isStr : PyData → Bool
  | .str _ => true
  | _ => false
def isLst : PyData → Bool
  | .list _ => true
  | _ => false
theorem kit_int (d : PyData) : kitB (tyN d) "int" = some (isInt d) := by cases d <;> (simp only [tyN, isInt]; decide +kernel)
theorem kit_bool (d : PyData) : kitB (tyN d) "bool" = some (isBoo d) := by cases d <;> (simp only [tyN, isBoo]; decide +kernel)
theorem kit_tuple (d : PyData) : kitB (tyN d) "tuple" = some (isTup d) := by cases d <;> (simp only [tyN, isTup]; decide +kernel)
theorem kit_str (d : PyData) : kitB (tyN d) "str" = some (isStr d) := by cases d <;> (simp only [tyN, isStr]; decide +kernel)
theorem kit_list (d : PyData) : kitB (tyN d) "list" = some (isLst d) := by cases d <;> (simp only [tyN, isLst]; decide +kernel)
section
variable {X : Cx}
def rIsD (K : PySem.W.Frag) : List V → Hp → VK → Prop := fun xs H Q => ∃ (v : V) (n : String) (d : PyData) (b : Bool), xs = [v, .ty n] ∧ Dp K H v d ∧ kitB (tyN d) n = some b ∧ Q (.bl b) H
theorem call_isD : CallR X (.builtin "isinstance") (rIsD X.K) := by
  intro pins s σ H xs us Q I r h
  obtain ⟨v, n, d, b, e, hd, hk, q⟩ := h
  exact call_isi pins s σ H xs us Q I r ⟨v, .ty n, _, _, _, e, .ty n, dp_ty hd, kit_ty hk, q⟩
end

/-! ### len, list(..), tuple(..) by names -/
section
variable {X : Cx}
def rLenS (K : PySem.W.Frag) : List V → Hp → VK → Prop := fun xs H Q => ∃ (p : Addr) (ys : List V), xs = [.ref p] ∧ (SqL K H p ys ∨ SqT K H p ys) ∧ Q (.int ys.length) H
theorem call_lenS : CallR X (.builtin "len") (rLenS X.K) := call_len_seq
def rListS (K : PySem.W.Frag) : List V → Hp → VK → Prop := fun xs H Q => ∃ (p : Addr) (ys : List V), xs = [.ref p] ∧ (SqL K H p ys ∨ SqT K H p ys) ∧ ∀ l, H l = none → Q (.ref l) (upd H l (.lst ys))
theorem call_listS : CallR X (.type "list") (rListS X.K) := call_list_of
def rTupS (K : PySem.W.Frag) : List V → Hp → VK → Prop := fun xs H Q => ∃ (p : Addr) (ys : List V), xs = [.ref p] ∧ ((SqL K H p ys ∧ ∀ l, H l = none → Q (.ref l) (upd H l (.tup ys))) ∨ (SqT K H p ys ∧ Q (.ref p) H))
theorem call_tupS : CallR X (.type "tuple") (rTupS X.K) := call_tuple_of
end

/-! ### repr of data -/
mutual
/-- data whose text is made without trouble: no dicts, ints of at most 180 digits, signs below 16 ^ 8 -/
def fine : PyData → Prop
  | .int i => i.natAbs < 10 ^ 180
  | .str x => (x.cps.toList.all fun c => decide (c < 16 ^ 8)) = true
  | .list xs => fines xs
  | .tuple xs => fines xs
  | .dict _ => False
  | _ => True
def fines : List PyData → Prop
  | [] => True
  | x :: xs => fine x ∧ fines xs
end
theorem int_log {i : Int} (h : i.natAbs < 10 ^ 180) : i.natAbs.log2 < 1920 := by
  by_cases z : i.natAbs = 0
  · rw [z]
    decide
  · exact (Nat.log2_lt z).mpr (Nat.lt_trans h (by decide +kernel))
theorem shown_int {i : Int} (h : i.natAbs < 10 ^ 180) : (PyData.shown (.int i)).length ≤ 200 := by
  have e := int_text_length_le10 (k := 180) (by decide) h
  show (Str.ofString (toString i)).length ≤ 200
  rw [ofString_length]
  omega
mutual
theorem fine_ok : ∀ d : PyData, fine d → d.showable = true ∧ d.leavesShort 200 = true ∧ d.hasDict = false
  | .none, _ => by simp [PyData.showable, PyData.leavesShort, PyData.hasDict]
  | .bool _, _ => by simp [PyData.showable, PyData.leavesShort, PyData.hasDict]
  | .int i, h => by
    simp only [fine] at h
    simp only [PyData.showable, PyData.leavesShort, PyData.hasDict, decide_eq_true_eq, and_true]
    exact ⟨int_log h, shown_int h⟩
  | .str x, h => by
    simp only [fine] at h
    simp only [PyData.showable, PyData.leavesShort, PyData.hasDict, and_true, true_and]
    exact h
  | .list xs, h => by
    simp only [fine] at h
    simp only [PyData.showable, PyData.leavesShort, PyData.hasDict]
    exact fines_ok xs h
  | .tuple xs, h => by
    simp only [fine] at h
    simp only [PyData.showable, PyData.leavesShort, PyData.hasDict]
    exact fines_ok xs h
  | .dict _, h => by simp only [fine] at h
theorem fines_ok : ∀ xs : List PyData, fines xs → PyData.showableAll xs = true ∧ PyData.leavesShortAll 200 xs = true ∧ PyData.hasDictAll xs = false
  | [], _ => by simp [PyData.showableAll, PyData.leavesShortAll, PyData.hasDictAll]
  | x :: xs, h => by
    simp only [fines] at h
    obtain ⟨a1, a2, a3⟩ := fine_ok x h.1
    obtain ⟨b1, b2, b3⟩ := fines_ok xs h.2
    simp only [PyData.showableAll, PyData.leavesShortAll, PyData.hasDictAll, a1, a2, a3, b1, b2, b3, Bool.and_self, Bool.or_self, and_self]
end
section
variable {X : Cx}
def rRepr (K : PySem.W.Frag) : List V → Hp → VK → Prop := fun xs H Q => ∃ (v : V) (d : PyData), xs = [v] ∧ Dp K H v d ∧ fine d ∧ d.depth ≤ 64 ∧ d.bulk ≤ 80000 ∧ Q (.str d.shown) H
theorem call_reprD (hg : X.A.guards = some []) (hu : X.A.units + 66 < cLine) : CallR X (.builtin "repr") (rRepr X.K) := by
  intro pins s σ H xs us Q I r h
  obtain ⟨v, d, rfl, hd, hf, hdep, hw, q⟩ := h
  obtain ⟨hs, hl, hnd⟩ := fine_ok d hf
  have hz : d.shown.length ≤ sizeLine := by
    have := PyData.shown_le_bulk 200 (by decide) d hl
    rw [sizeLine_eq]
    omega
  obtain ⟨u, rfl, ru⟩ := vals1 r
  have hsm : ∀ as : List Addr, d.hasDict = true → sysModules ∉ as := fun as => PyData.noDict_hsm hnd
  obtain ⟨as, hr⟩ := Dp.reads I d v u hd ru
  cases hr with
  | none => exact P.repr_of_none ⟨.str _, H, I.tok _, ⟨_, rfl⟩, q⟩
  | bool b => exact P.repr_of_bool ⟨.str _, H, I.tok _, ⟨_, rfl⟩, q⟩
  | int i t => exact P.repr_of_int (by simpa [PyData.showable] using hs) ⟨.str _, H, I.tok _, ⟨_, rfl⟩, q⟩
  | str x t => exact P.repr_of_str ⟨.str _, H, I.tok _, ⟨_, rfl⟩, q⟩ (by simpa only [PyData.shown] using hz)
  | list h1 h2 h3 h4 =>
    refine repr_of_reads' (h₀ := s.heap) (.list h1 h2 h3 h4) hs (hsm _) hg (by omega) (fun _ _ e => e) (fun h' u' tk hk => ?_) hz
    exact ⟨.str _, H, I.kept hk, ⟨_, rfl⟩, q⟩
  | tuple h1 h2 h3 h4 =>
    refine repr_of_reads' (h₀ := s.heap) (.tuple h1 h2 h3 h4) hs (hsm _) hg (by omega) (fun _ _ e => e) (fun h' u' tk hk => ?_) hz
    exact ⟨.str _, H, I.kept hk, ⟨_, rfl⟩, q⟩
  | dict _ _ _ _ _ => exact absurd hnd (by simp [PyData.hasDict])
end

/-! ### what stays of the heap -/
theorem same_sqT {K : PySem.W.Frag} {H H' : Hp} {a : Addr} {xs : List V} (s : Same H H') (h : SqT K H a xs) : SqT K H' a xs := by
  rcases h with (h | ⟨o, h⟩) | h
  · exact .inl (.inl (s _ _ h))
  · exact .inl (.inr ⟨o, s _ _ h⟩)
  · exact .inr h
theorem same_new {H : Hp} {p : Addr} {o : HO} (h : H p = none) : Same H (upd H p o) := fun b u q => by rw [upd_ne (ne_of_none q h)]; exact q
mutual
theorem dp_same {K : PySem.W.Frag} {H H' : Hp} (s : Same H H') : ∀ {d : PyData} {v : V}, Dp K H v d → Dp K H' v d
  | .none, _, h => by cases h; exact .non
  | .bool _, _, h => by cases h; exact .bl _
  | .int _, _, h => by cases h; exact .int _
  | .str _, _, h => by cases h; exact .str _
  | .list ds, _, h => by
    cases h with
    | lst hs ha => exact .lst (s.seq hs) (dpAll_same s ha)
  | .tuple ds, _, h => by
    cases h with
    | tup hs ha => exact .tup (same_sqT s hs) (dpAll_same s ha)
  | .dict _, _, h => by cases h
theorem dpAll_same {K : PySem.W.Frag} {H H' : Hp} (s : Same H H') : ∀ {ds : List PyData} {vs : List V}, DpAll K H vs ds → DpAll K H' vs ds
  | [], _, h => by cases h; exact .nil
  | d :: ds, _, h => by
    cases h with
    | cons h1 h2 => exact .cons (dp_same s h1) (dpAll_same s h2)
end
/-- all but p stays -/
def Sx (p : Addr) (H H' : Hp) : Prop := ∀ b o, b ≠ p → H b = some o → H' b = some o
theorem Sx.refl {p : Addr} {H : Hp} : Sx p H H := fun _ _ _ h => h
theorem Sx.trans {p : Addr} {H H1 H2 : Hp} (a : Sx p H H1) (b : Sx p H1 H2) : Sx p H H2 := fun c o n h => b c o n (a c o n h)
theorem Same.sx {p : Addr} {H H' : Hp} (s : Same H H') : Sx p H H' := fun b o _ h => s b o h
theorem sx_upd {p : Addr} {H : Hp} {o : HO} : Sx p H (upd H p o) := fun b u n h => by rw [upd_ne n]; exact h
theorem sx_new {p q : Addr} {H : Hp} {o : HO} (h : H q = none) : Sx p H (upd H q o) := fun b u _ q => same_new h b u q
/-! data without lists and dicts -/
mutual
def noL : PyData → Bool
  | .list _ => false
  | .dict _ => false
  | .tuple ds => noLs ds
  | _ => true
def noLs : List PyData → Bool
  | [] => true
  | d :: ds => noL d && noLs ds
end
theorem Sx.sqT {K : PySem.W.Frag} {p a : Addr} {H H' : Hp} {l xs : List V} (s : Sx p H H') (hp : H p = some (.lst l)) (h : SqT K H a xs) : SqT K H' a xs := by
  rcases h with (h | ⟨o, h⟩) | h
  · exact .inl (.inl (s _ _ (ne_of h hp (by intro z; cases z)) h))
  · exact .inl (.inr ⟨o, s _ _ (ne_of h hp (by intro z; cases z)) h⟩)
  · exact .inr h
mutual
theorem dp_keep {K : PySem.W.Frag} {H H' : Hp} (s : ∀ a xs, SqT K H a xs → SqT K H' a xs) : ∀ {d : PyData} {v : V}, noL d = true → Dp K H v d → Dp K H' v d
  | .none, _, _, h => by cases h; exact .non
  | .bool _, _, _, h => by cases h; exact .bl _
  | .int _, _, _, h => by cases h; exact .int _
  | .str _, _, _, h => by cases h; exact .str _
  | .list ds, _, n, h => by simp [noL] at n
  | .tuple ds, _, n, h => by
    cases h with
    | tup hs ha => exact .tup (s _ _ hs) (dpAll_keep s (by simpa [noL] using n) ha)
  | .dict _, _, _, h => by cases h
theorem dpAll_keep {K : PySem.W.Frag} {H H' : Hp} (s : ∀ a xs, SqT K H a xs → SqT K H' a xs) : ∀ {ds : List PyData} {vs : List V}, noLs ds = true → DpAll K H vs ds → DpAll K H' vs ds
  | [], _, _, h => by cases h; exact .nil
  | d :: ds, _, n, h => by
    cases h with
    | cons h1 h2 =>
      have n' : noL d = true ∧ noLs ds = true := by simpa [noLs] using n
      exact .cons (dp_keep s n'.1 h1) (dpAll_keep s n'.2 h2)
end
theorem Sx.dp {K : PySem.W.Frag} {p : Addr} {H H' : Hp} {l : List V} {d : PyData} {v : V} (s : Sx p H H') (hp : H p = some (.lst l)) (n : noL d = true) (h : Dp K H v d) : Dp K H' v d :=
  dp_keep (fun _ _ z => s.sqT hp z) n h
theorem dpAll_length {K : PySem.W.Frag} {H : Hp} : ∀ {vs : List V} {ds : List PyData}, DpAll K H vs ds → vs.length = ds.length
  | _, _, .nil => rfl
  | _, _, .cons _ h => congrArg (· + 1) (dpAll_length h)
theorem dpAll_get {K : PySem.W.Frag} {H : Hp} : ∀ {vs : List V} {ds : List PyData} {i : Nat} {v : V}, DpAll K H vs ds → vs[i]? = some v → ∃ d, ds[i]? = some d ∧ Dp K H v d
  | _, _, _, _, .nil, e => by simp at e
  | _, _, 0, _, .cons h _, e => by
    simp at e
    subst e
    exact ⟨_, rfl, h⟩
  | _, _, i + 1, _, .cons _ t, e => by
    obtain ⟨d, e1, e2⟩ := dpAll_get (i := i) t (by simpa using e)
    exact ⟨d, by simpa using e1, e2⟩
theorem dpAll_append {K : PySem.W.Frag} {H : Hp} : ∀ {vs ws : List V} {ds es : List PyData}, DpAll K H vs ds → DpAll K H ws es → DpAll K H (vs ++ ws) (ds ++ es)
  | _, _, _, _, .nil, h => h
  | _, _, _, _, .cons h t, h' => .cons h (dpAll_append t h')
theorem dpAll_one {K : PySem.W.Frag} {H : Hp} {v : V} {d : PyData} (h : Dp K H v d) : DpAll K H [v] [d] := .cons h .nil
theorem dpAll_rev {K : PySem.W.Frag} {H : Hp} : ∀ {vs : List V} {ds : List PyData}, DpAll K H vs ds → DpAll K H vs.reverse ds.reverse
  | _, _, .nil => .nil
  | _, _, .cons h t => by
    rw [List.reverse_cons, List.reverse_cons]
    exact dpAll_append (dpAll_rev t) (.cons h .nil)
theorem dp_int_inv {K : PySem.W.Frag} {H : Hp} {v : V} {i : Int} (h : Dp K H v (.int i)) : v = .int i := by cases h; rfl
theorem dp_str_inv {K : PySem.W.Frag} {H : Hp} {v : V} {x : Str} (h : Dp K H v (.str x)) : v = .str x := by cases h; rfl
theorem dp_none_inv {K : PySem.W.Frag} {H : Hp} {v : V} (h : Dp K H v .none) : v = .non := by cases h; rfl
theorem dp_bool_inv {K : PySem.W.Frag} {H : Hp} {v : V} {b : Bool} (h : Dp K H v (.bool b)) : v = .bl b := by cases h; rfl
theorem dp_tup_inv {K : PySem.W.Frag} {H : Hp} {v : V} {ds : List PyData} (h : Dp K H v (.tuple ds)) : ∃ a xs, v = .ref a ∧ SqT K H a xs ∧ DpAll K H xs ds := by
  cases h with
  | tup h1 h2 => exact ⟨_, _, rfl, h1, h2⟩
theorem dp_lst_inv {K : PySem.W.Frag} {H : Hp} {v : V} {ds : List PyData} (h : Dp K H v (.list ds)) : ∃ a xs, v = .ref a ∧ SqL K H a xs ∧ DpAll K H xs ds := by
  cases h with
  | lst h1 h2 => exact ⟨_, _, rfl, h1, h2⟩
theorem tup_fresh {K : PySem.W.Frag} {H : Hp} {p : Addr} {xs : List V} {ds : List PyData} (hp : H p = none) (h : DpAll K H xs ds) : Same H (upd H p (.tup xs)) ∧ Dp K (upd H p (.tup xs)) (.ref p) (.tuple ds) :=
  ⟨same_new hp, .tup (.inl (.inl upd_same)) (dpAll_same (same_new hp) h)⟩
theorem lst_fresh {K : PySem.W.Frag} {H : Hp} {p : Addr} {xs : List V} {ds : List PyData} (hp : H p = none) (h : DpAll K H xs ds) : Same H (upd H p (.lst xs)) ∧ Dp K (upd H p (.lst xs)) (.ref p) (.list ds) :=
  ⟨same_new hp, .lst (.inl (.inl upd_same)) (dpAll_same (same_new hp) h)⟩
theorem Same.sx_free {H H1 H2 : Hp} {p : Addr} (s : Same H H1) (h : H p = none) (t : Sx p H1 H2) : Same H H2 := fun b o e =>
  t b o (ne_of_none e h) (s b o e)
theorem small {n : Nat} (h : n ≤ 1000) : n ≤ sizeLine := Nat.le_of_lt (small1000 h)
theorem small' {n : Nat} (h : n ≤ 1000000) : n ≤ sizeLine := by rw [sizeLine_eq]; omega

theorem atI_at {α : Type} {xs : List α} {k : Int} {j : Nat} {v : α} (e : k = (j : Int)) (h : xs[j]? = some v) : atI xs k = some v := by
  subst e
  exact atI_nat h
theorem atI_int {ns : List Int} {k : Int} (h0 : 0 ≤ k) (h : k < (ns.length : Int)) : ∃ z, z ∈ ns ∧ atI (ns.map V.int) k = some (.int z) := by
  have hk : k.toNat < ns.length := by omega
  refine ⟨ns[k.toNat], List.getElem_mem hk, atI_at (j := k.toNat) (by omega) ?_⟩
  rw [List.getElem?_map, List.getElem?_eq_getElem hk]
  rfl

/-! ### the script as the law gets it: it never changes -/
def Scr (K : PySem.W.Frag) (H : Hp) (a : Addr) (ns : List Int) : Prop := (∃ o, H a = some (.frz o (.lst (ns.map V.int)))) ∨
  ∃ (o : Obj) (its : Array Value) (n : Nat), K.lookup a = some o ∧ o.cls = .type "list" ∧ o.dict = none ∧ o.data = .seq its n ∧ its.size ≤ sizeLine ∧ Vals (ns.map V.int) its.toList
theorem Scr.sq {K : PySem.W.Frag} {H : Hp} {a : Addr} {ns : List Int} (h : Scr K H a ns) : SqL K H a (ns.map V.int) := by
  rcases h with ⟨o, h⟩ | h
  · exact .inl (.inr ⟨o, h⟩)
  · exact .inr h
theorem Scr.of {K : PySem.W.Frag} {H : Hp} {a : Addr} {ns : List Int} (hO : Only H) (h : SqL K H a (ns.map V.int)) : Scr K H a ns := by
  rcases h with (h | h) | h
  · rcases hO a with z | ⟨o, xs, z⟩
    · rw [h] at z; cases z
    · rw [h] at z; cases z
  · exact .inl h
  · exact .inr h
theorem Scr.same {K : PySem.W.Frag} {H H' : Hp} {a : Addr} {ns : List Int} (s : Same H H') (h : Scr K H a ns) : Scr K H' a ns := by
  rcases h with ⟨o, h⟩ | h
  · exact .inl ⟨o, s _ _ h⟩
  · exact .inr h
theorem Scr.sx {K : PySem.W.Frag} {H H' : Hp} {a p : Addr} {ns : List Int} {l : List V} (s : Sx p H H') (hp : H p = some (.lst l)) (h : Scr K H a ns) : Scr K H' a ns := by
  rcases h with ⟨o, h⟩ | h
  · exact .inl ⟨o, s _ _ (ne_of h hp (by intro z; cases z)) h⟩
  · exact .inr h
end Rp
/-! RpG: defs that say repr of made data: the layer's judgements where no repr is under way (guards known), and the law's end over them. -/
namespace Rp
open PySem L2 PyProof.Rows

structure FnG (P : Program) (w : World) (K : PySem.W.Frag) (mg : Str → Option Value) (base : Heap) (CX : CXT) (k : Nat) (f : Addr) (fd : FuncData) (ps : List Str) (sp : Sp) : Prop where
  len : ∀ vs H Q E, sp vs H Q E → vs.length = ps.length
  run : ∀ (A : Around) (outer : List Env) (s : Shared) (H : Hp) (args : Args) (us : List Value) (vs : List V) (Q : VK) (E : XK), Room k A → A.guards = some [] →
    Env0 P w K mg base A outer s H → BindsTo s fd args (ps.zip us) → Vals vs us → sp vs H Q E → codeAny (model P w) A (.call (.ref f) args) (CR CX outer P w H s Q E) s

theorem room66 {k : Nat} {A : Around} (hr : Room k A) : A.units + 66 < cLine := by
  have := hr.un
  omega
section
variable {P : Program} {w : World} {K : PySem.W.Frag} {mg : Str → Option Value} {base : Heap}
theorem okG {name qual : Str} {st : Stmt} {f : Addr} {fd : FuncData} {N ps : List Str} {k : Nat} {sp : Sp} (F : Fun K name qual st f fd) (S : FnScope N ps (defScope st))
    (hlen : ∀ vs H Q E, sp vs H Q E → vs.length = ps.length)
    (hb : ∀ (cdv : Value) (A : Around) (outer : List Env) (s : Shared) (H : Hp) (vs : List V) (Q : VK) (E : XK),
      Room k (A.deeper (envOfC qual (defScope st) s.heap.objs.size f cdv)) → A.guards = some [] → sp vs H Q E →
      ∃ t, PSs (cxOf CX0 P w K mg base N qual (defScope st) f cdv A outer s H E).nox (defBody st) t ∧
        t { nx := fun _ H' => Q .non H', rt := Q } (start N vs) H) : FnG P w K mg base CX0 (k + 1) f fd ps sp := by
  obtain ⟨oc, od, kV, doc, pm, an, cdv, ct, osl, rfl, lk, hcd⟩ := F.ex
  refine ⟨hlen, fun A outer s H args us vs Q E room gd en bd rv want => ?_⟩
  have kin : K.In s.heap := en.mod.kin.keeps fun b o z => (en.bs b o z).1
  have nolim : s.heap.NoLimit := en.mod.nolimit.keeps fun b o z => (en.bs b o z).1
  have hl := hlen _ _ _ _ want
  refine Att.call_fn kin nolim lk hcd room.depth bd ?_ (fun s1 ic => ?_) S.co S.gen S.kind
  · refine List.all_eq_true.mpr fun y hy => ?_
    obtain ⟨a, b⟩ := y
    rcases S.par a (List.of_mem_zip hy).1 with z | z
    · simp [z]
    · simp [z]
  · obtain ⟨t, ht, hq⟩ := hb cdv A outer s H vs Q E (room.deeper _) gd want
    have I := inv_start (CX := CX0) (P := P) (w := w) (K := K) (mg := mg) (base := base) (E := E) S room.hd en hl rv ic
    refine wpAny_mono (ht.nox.run [] s1 (start N vs) H _ I hq) (fun fl s' hs => ?_) (fun e s' hs => hs)
    cases fl with
    | ret u =>
      obtain ⟨v, σ', H', J, rr, q⟩ := hs
      exact ⟨v, H', J.os, J.bare, J.base, J.hok, rr, q⟩
    | next =>
      obtain ⟨σ', H', J, q⟩ := hs
      exact ⟨V.non, H', J.os, J.bare, J.base, J.hok, rfl, q⟩
    | brk =>
      obtain ⟨_, _, _, q⟩ := hs
      exact False.elim q
    | cont =>
      obtain ⟨_, _, _, q⟩ := hs
      exact False.elim q
end
section
variable {X : Cx} {k : Nat} {f : Addr} {fd : FuncData} {ps : List Str} {sp : Sp} {dvs : List V} {ds : List Value} {x : Str} {p pos : Pos} {e : Expr} {es : List Expr} {t : TA}
theorem runG {pins : List (Addr × Obj)} {σ : L2.St} {H : Hp} {s : Shared} {Q : VK} {us : List Value} {vs : List V} (F : FnG X.prog X.w X.K X.mg X.base CX0 k f fd ps sp) (room : Room k X.A) (gd : X.A.guards = some [])
    (bd : Binds X.K fd ps ds) (dv : Vals dvs ds) (I : Inv X pins σ H s) (rv : Vals vs us) (want : sp (vs ++ dvs) H Q E0) : wpAny (model X.prog X.w) X.A (call (.ref f) us) (EP X pins σ Q) X.xe s := by
  have rv2 : Vals (vs ++ dvs) (us ++ ds) := rv.append dv
  have hl : (us ++ ds).length = ps.length := by
    rw [← rv2.length]
    exact F.len _ _ _ _ want
  refine wpAny_call (codeAny_mono (F.run X.A X.stack s H ⟨us, []⟩ (us ++ ds) (vs ++ dvs) Q E0 room gd I.env0 (bd s us I.kIn hl) rv2 want) fun r s' hq => ?_)
  cases r with
  | error e => exact False.elim hq
  | ok fl =>
    cases fl with
    | ret u => exact I.after hq
    | next => exact False.elim hq
    | brk => exact False.elim hq
    | cont => exact False.elim hq
theorem pe_callG (F : FnG X.prog X.w X.K X.mg X.base CX0 k f fd ps sp) (room : Room k X.A) (gd : X.A.guards = some []) (gl : Gl X x) (hm : X.mg x = some (.ref f)) (kp : PySem.W.keepIn X.K (.ref f) = true)
    (bd : Binds X.K fd ps ds) (dv : Vals dvs ds) (ha : PA X (e :: es) t) (nodbg : (x == ("__debug__" : Str)) = false := by decide)
    (he : starEach (e :: es) X.env = (false, eval e X.env) :: starEach es X.env := by rfl) (hpl : (backTo pos (starEach es X.env)).any (·.1) = false := by rfl) :
    PE X (.Call (.Name x p) (e :: es) [] pos) (tCall sp dvs E0 t) := by
  constructor
  intro pins s σ H Q I want
  refine wpAny_Call_Name_kw (ld_glob I gl hm (PySem.W.callWith_K (h₀ := X.base) I.ok.mod.kin kp (thn (ha.run pos pins s σ H _ I want) ?_) he hpl) nodbg)
  rintro us s1 ⟨vs, H1, I1, rv, q⟩
  exact ⟨I1.kIn, runG F room gd bd dv I1 rv q⟩
theorem pe_callG0 (F : FnG X.prog X.w X.K X.mg X.base CX0 k f fd ps sp) (room : Room k X.A) (gd : X.A.guards = some []) (gl : Gl X x) (hm : X.mg x = some (.ref f)) (kp : PySem.W.keepIn X.K (.ref f) = true)
    (bd : Binds X.K fd ps ds) (dv : Vals dvs ds) (nodbg : (x == ("__debug__" : Str)) = false := by decide) : PE X (.Call (.Name x p) [] [] pos) (tCall sp dvs E0 tNil) := by
  constructor
  intro pins s σ H Q I want
  exact wpAny_Call_Name_kw (ld_glob I gl hm (PySem.W.callWith_K0 I.kIn kp (runG (us := []) F room gd bd dv I .nil want)) nodbg)
end

/-! ### the law's end -/
/-- a heap that tells of the script alone -/
theorem script_heap {P : Program} {w : World} {K : PySem.W.Frag} {h : Heap} {a : Addr} {vs : List Value} {ns : List Int} (kin : K.In h) (ha : h.get? a = some { cls := .type "list", data := .seq vs.toArray })
    (hi : IntsAre vs ns) (hl : ns.length ≤ sizeLine) :
    ∃ H : Hp, Only H ∧ SqL K H a (ns.map V.int) ∧ HOk P w H h ∧ (∀ b, H b ≠ none → b = a) ∧ (∀ b o, K.lookup b = some o → H b = none) := by
  have rv := vals_ints hi
  have len := hi.length
  cases hk : K.lookup a with
  | some o =>
    have eo := kin a o hk
    rw [ha] at eo
    cases eo
    refine ⟨fun _ => none, fun _ => .inl rfl, .inr ⟨_, vs.toArray, _, hk, rfl, rfl, rfl, ?_, by simpa using rv⟩, (fun b u z => nomatch z), (fun b z => absurd rfl z), fun _ _ _ => rfl⟩
    rw [List.size_toArray, len]
    exact hl
  | none =>
    let H : Hp := fun b => if b = a then some (.frz { cls := .type "list", data := .seq vs.toArray } (.lst (ns.map V.int))) else none
    have at_a : H a = some (.frz { cls := .type "list", data := .seq vs.toArray } (.lst (ns.map V.int))) := if_pos rfl
    have off : ∀ b, b ≠ a → H b = none := fun b z => if_neg z
    refine ⟨H, fun b => ?_, .inl (.inr ⟨_, at_a⟩), fun b u z => ?_, fun b z => ?_, fun b o z => off b ?_⟩
    · by_cases c : b = a
      · exact .inr ⟨_, _, c ▸ at_a⟩
      · exact .inl (off b c)
    · by_cases c : b = a
      · subst c
        rw [at_a] at z
        cases z
        refine ⟨ha, ?_, vs, _, rv, ha⟩
        rw [List.length_map]
        exact hl
      · rw [off b c] at z
        cases z
    · by_cases c : b = a
      · exact c
      · exact absurd (off b c) z
    · intro c
      rw [c, hk] at z
      cases z

theorem law_end {l : PySem.W.OpenLaw} {n k : Nat} {q : Program} {loose : List Str} {XP : (Str → Option Value) → Heap → Prop} {YP : World → Heap → Prop} {d : DefRec} {K : Params → PySem.W.Frag} {sp : PySem.W.Frag → Sp} {x : Str}
    (hn : l.most = some n) (hn2 : n ≤ sizeLine) (hdf : d.params.defaults = []) (hr : Room k callerA)
    (hY : ∀ (w : World) (h : Heap), YP w h → (K w.params).In h)
    (F : ∀ (w : World) (mg : Str → Option Value) (fa : Addr) (h : Heap), (K w.params).In h → h.Ns mainGlobals mg → mg d.name = some (.ref fa) →
      ∃ fd : FuncData, (∀ (s : Shared) (u : Value), BindsTo s fd ⟨[u], []⟩ [(x, u)]) ∧
        ∀ base : Heap, (K w.params).In base → base.Ns mainGlobals mg → FnG l.prog w (K w.params) mg base CX0 k fa fd [x] (sp (K w.params)))
    (hsp : ∀ (K : PySem.W.Frag) (H : Hp) (a : Addr) (ns : List Int), ns.length ≤ n → Only H → SqL K H a (ns.map V.int) → sp K [.ref a] H (fun v _ => v = .bl true) fun _ _ _ => False) :
    PySem.W.WalkO q loose XP YP l.row.toRowW d [] (fun f vs => PySem.call f vs) := by
  refine Att.attach_call hn hdf fun w s₀ s₁ mg mb fa o pm cd doc a vs ns G Y ho hd hcd hmg hobj hints hlen hgens => ?_
  have kin := hY w _ Y
  obtain ⟨fd, bd, FF⟩ := F w mg fa _ kin G.T.g hmg
  obtain ⟨H, hO, hS, hok, only, notK⟩ := script_heap (P := l.prog) (w := w) kin hobj hints (Nat.le_trans hlen hn2)
  have free : ∀ {b : Addr} {ob : Obj} {es : Array DictEntry} {ep : Nat}, s₁.heap.get? b = some ob → ob.data = .dict es ep → H b = none := by
    intro b ob es ep h1 h2
    cases c : H b with
    | none => rfl
    | some u =>
      have e : b = a := only b (by rw [c]; exact fun z => nomatch z)
      rw [e, hobj] at h1
      have h3 := congrArg Obj.data (Option.some.inj h1)
      rw [h2] at h3
      exact nomatch h3
  have ns' : ∀ {b : Addr} {m : Str → Option Value}, s₁.heap.Ns b m → (hidT s₁.heap H).Ns b m := by
    rintro b m ⟨ob, es, ep, h1, h2, h3⟩
    exact ⟨ob, es, ep, hidT_get h1 (free h1 h2), h2, h3⟩
  have kinB : (K w.params).In (hidT s₁.heap H) := fun b ob e => hidT_get (kin b ob e) (notK b ob e)
  have lim : (hidT s₁.heap H).NoLimit := by
    obtain ⟨mc, h1, h2⟩ := G.T.nolimit
    exact ⟨mc, ns' h1, h2⟩
  have en : Env0 l.prog w (K w.params) mg (hidT s₁.heap H) callerA [] s₁ H :=
    ⟨rfl, ⟨kinB, ns' G.T.g, ⟨mb, ns' G.T.b, G.T.builtins⟩, lim⟩, fun b ob e => of_hidT e, Nat.le_of_eq (hidT_size _ _), trivial, (fun b z => nomatch z), hok, .of_eq hgens⟩
  refine codeAny_mono ((FF _ kinB (ns' G.T.g)).run callerA [] s₁ H ⟨[.ref a], []⟩ [.ref a] [.ref a] _ _ hr rfl en (bd s₁ (.ref a)) (.cons rfl .nil) (hsp _ H a ns hlen hO hS)) fun r s' z => ?_
  cases r with
  | error e => exact False.elim z
  | ok fl =>
    cases fl with
    | next => exact False.elim z
    | brk => exact False.elim z
    | cont => exact False.elim z
    | ret u =>
      obtain ⟨v, H', os, bare, un, hok', rr, e⟩ := z
      have e' : v = .bl true := e
      subst e'
      obtain rfl : u = Value.bool true := rr
      refine ⟨rfl, OldK.of_keep fun b ob hb => ?_, os, bare⟩
      cases c : H b with
      | none => exact un.keep b ob hb c (fun z => nomatch z) (fun z => nomatch z)
      | some u =>
        rcases hO b with z | ⟨ox, xs, z⟩
        · rw [c] at z
          cases z
        · obtain ⟨e1, _⟩ := hok b _ z
          obtain ⟨e2, _⟩ := hok' b _ (un.frzs b ox _ z)
          rw [hb] at e1
          cases e1
          exact e2
end Rp
/-! Kw: a def with one keyword-only parameter whose default is None. -/
namespace Rp
open PySem L2
theorem kw_one {K : PySem.W.Frag} {x qual m : Str} {st : Stmt} {f D : Addr} {oc : Value} {od an : Option Addr} {osl : Array (Option Value)} {doc pm cdv ct : Value}
    (l : K.lookup f = some ⟨oc, od, .func (PySem.W.fnOf x qual (defArgs st) (defBody st) (defScope st) .none (.ref D) doc pm an cdv ct), osl⟩) (c : PySem.W.codeIn K cdv qual = true) (k : PySem.W.keepIn K (.ref f) = true)
    (hn : PySem.W.nsIn K D m = some (some .none)) : FunD K x qual (defArgs st) (defBody st) (defScope st) [] [(m, .non)] f (PySem.W.fnOf x qual (defArgs st) (defBody st) (defScope st) .none (.ref D) doc pm an cdv ct) :=
  ⟨⟨oc, od, .none, .ref D, doc, pm, an, cdv, ct, osl, rfl, l, c, .inl ⟨rfl, rfl⟩, .inr ⟨D, rfl, fun q hq => by
    rw [List.mem_singleton.mp hq]
    exact ⟨.none, hn, rfl⟩⟩⟩, k⟩
end Rp
namespace Rp
open PySem L2
theorem kw_ref {K : PySem.W.Frag} {x qual m : Str} {st : Stmt} {f D A : Addr} {oc : Value} {od an : Option Addr} {osl : Array (Option Value)} {doc pm cdv ct : Value}
    (l : K.lookup f = some ⟨oc, od, .func (PySem.W.fnOf x qual (defArgs st) (defBody st) (defScope st) .none (.ref D) doc pm an cdv ct), osl⟩) (c : PySem.W.codeIn K cdv qual = true) (k : PySem.W.keepIn K (.ref f) = true)
    (hn : PySem.W.nsIn K D m = some (some (.ref A))) : FunD K x qual (defArgs st) (defBody st) (defScope st) [] [(m, .ref A)] f (PySem.W.fnOf x qual (defArgs st) (defBody st) (defScope st) .none (.ref D) doc pm an cdv ct) :=
  ⟨⟨oc, od, .none, .ref D, doc, pm, an, cdv, ct, osl, rfl, l, c, .inl ⟨rfl, rfl⟩, .inr ⟨D, rfl, fun q hq => by
    rw [List.mem_singleton.mp hq]
    exact ⟨.ref A, hn, rfl⟩⟩⟩, k⟩
end Rp
/-! Jm: jobs as a type of trees, their data, sizes; what the pot holds. No Python here. -/
namespace Lw
open PySem L2 Rp

abbrev M30 : Int := 1000000000000000000000000000000
inductive J where
  | st (i : Int)
  | ps (par : Bool) (xs : List J)
  | rn (cop : Bool) (n : Int) (x : J)
def kwP (b : Bool) : Str := if b then "par" else "seq"
def kwR (b : Bool) : Str := if b then "copies" else "repeat"
mutual
def J.toD : J → PyData
  | .st i => .int i
  | .ps k xs => .tuple [.str (kwP k), .tuple (J.toDs xs)]
  | .rn k n x => .tuple [.str (kwR k), .int n, x.toD]
def J.toDs : List J → List PyData
  | [] => []
  | x :: xs => x.toD :: J.toDs xs
end
mutual
theorem J.noL : ∀ j : J, noL j.toD = true
  | .st _ => rfl
  | .ps _ xs => by
    have h := J.noLs xs
    simp [J.toD, Rp.noL, Rp.noLs, h]
  | .rn _ _ x => by
    have h := J.noL x
    simp [J.toD, Rp.noL, Rp.noLs, h]
theorem J.noLs : ∀ js : List J, noLs (J.toDs js) = true
  | [] => rfl
  | x :: xs => by
    have h1 := J.noL x
    have h2 := J.noLs xs
    simp [J.toDs, Rp.noLs, h1, h2]
end
theorem J.toDs_eq : ∀ xs : List J, J.toDs xs = xs.map J.toD
  | [] => rfl
  | x :: xs => by rw [J.toDs, J.toDs_eq xs]; rfl

/-! sizes as the program finds them -/
def within (nodes steps : Int) : Option (Int × Int) := if steps ≤ M30 then some (nodes, steps) else none
mutual
def szJ : J → Int → Int → Option (Int × Int)
  | .st i, room, lv => if room < 1 ∨ lv < 1 then none else if -M30 ≤ i ∧ i ≤ M30 then some (1, 1) else none
  | .ps _ xs, room, lv => if room < 1 ∨ lv < 1 then none else if (xs.length : Int) > 400 then none else szJs xs 1 0 room lv
  | .rn _ n x, room, lv => if room < 1 ∨ lv < 1 then none else if ¬ (0 ≤ n ∧ n ≤ M30) then none else
      match szJ x (room - 1) (lv - 1) with
      | none => none
      | some (a, b) => within (a + 1) (b * n)
def szJs : List J → Int → Int → Int → Int → Option (Int × Int)
  | [], nodes, steps, _, _ => within nodes steps
  | x :: xs, nodes, steps, room, lv =>
      match szJ x (room - nodes) (lv - 1) with
      | none => none
      | some (a, b) => szJs xs (nodes + a) (steps + b) room lv
end
mutual
def J.nodes : J → Int
  | .st _ => 1
  | .ps _ xs => 1 + J.nodesL xs
  | .rn _ _ x => x.nodes + 1
def J.nodesL : List J → Int
  | [] => 0
  | x :: xs => x.nodes + J.nodesL xs
end
mutual
def J.steps : J → Int
  | .st _ => 1
  | .ps _ xs => J.stepsL xs
  | .rn _ n x => x.steps * n
def J.stepsL : List J → Int
  | [] => 0
  | x :: xs => x.steps + J.stepsL xs
end
mutual
def J.deep : J → Nat
  | .st _ => 1
  | .ps _ xs => J.deepL xs + 1
  | .rn _ _ x => x.deep + 1
def J.deepL : List J → Nat
  | [] => 0
  | x :: xs => max x.deep (J.deepL xs)
end
mutual
/-- a job but for nodes and nesting -/
def J.ok : J → Prop
  | .st i => -M30 ≤ i ∧ i ≤ M30
  | .ps _ xs => (xs.length : Int) ≤ 400 ∧ J.okL xs ∧ J.stepsL xs ≤ M30
  | .rn _ n x => (0 ≤ n ∧ n ≤ M30) ∧ x.ok ∧ x.steps * n ≤ M30
def J.okL : List J → Prop
  | [] => True
  | x :: xs => x.ok ∧ J.okL xs
end
mutual
theorem J.nodes_pos : ∀ j : J, 1 ≤ j.nodes
  | .st _ => by simp [J.nodes]
  | .ps _ xs => by have := J.nodesL_pos xs; simp only [J.nodes]; omega
  | .rn _ _ x => by have := J.nodes_pos x; simp only [J.nodes]; omega
theorem J.nodesL_pos : ∀ xs : List J, 0 ≤ J.nodesL xs
  | [] => by simp [J.nodesL]
  | x :: xs => by have := J.nodes_pos x; have := J.nodesL_pos xs; simp only [J.nodesL]; omega
end
theorem J.deep_pos : ∀ j : J, 1 ≤ j.deep
  | .st _ => by simp [J.deep]
  | .ps _ xs => by simp only [J.deep]; omega
  | .rn _ _ x => by simp only [J.deep]; omega
mutual
theorem J.steps_nn : ∀ j : J, j.ok → 0 ≤ j.steps
  | .st _, _ => by simp [J.steps]
  | .ps _ xs, h => by
    simp only [J.ok] at h
    simp only [J.steps]
    exact J.stepsL_nn xs h.2.1
  | .rn _ n x, h => by
    simp only [J.ok] at h
    simp only [J.steps]
    exact Int.mul_nonneg (J.steps_nn x h.2.1) h.1.1
theorem J.stepsL_nn : ∀ xs : List J, J.okL xs → 0 ≤ J.stepsL xs
  | [], _ => by simp [J.stepsL]
  | x :: xs, h => by
    simp only [J.okL] at h
    have := J.steps_nn x h.1
    have := J.stepsL_nn xs h.2
    simp only [J.stepsL]
    omega
end
theorem J.steps_le (j : J) (h : j.ok) : j.steps ≤ M30 := by
  cases j with
  | st i => simp only [J.steps]; decide
  | ps k xs => simp only [J.ok] at h; simp only [J.steps]; exact h.2.2
  | rn k n x => simp only [J.ok] at h; simp only [J.steps]; exact h.2.2
/-! the closed form: is a job within room and levels, and then its sizes -/
mutual
theorem szJ_some : ∀ (j : J) (room lv : Int), j.ok → j.nodes ≤ room → (j.deep : Int) ≤ lv → szJ j room lv = some (j.nodes, j.steps)
  | .st i, room, lv, h, h1, h2 => by
    simp only [J.ok] at h
    simp only [J.nodes, J.deep] at h1 h2
    simp only [szJ, J.nodes, J.steps]
    rw [if_neg (by omega), if_pos h]
  | .ps k xs, room, lv, h, h1, h2 => by
    simp only [J.ok] at h
    simp only [J.nodes, J.deep] at h1 h2
    have hn := J.nodesL_pos xs
    simp only [szJ, J.nodes, J.steps]
    rw [if_neg (by omega), if_neg (by omega)]
    have := szJs_some xs 1 0 room lv h.2.1 (by omega) (by omega) (by omega) (by omega)
    rw [this, Int.zero_add]
  | .rn k n x, room, lv, h, h1, h2 => by
    simp only [J.ok] at h
    simp only [J.nodes, J.deep] at h1 h2
    have hn := J.nodes_pos x
    simp only [szJ, J.nodes, J.steps]
    rw [if_neg (by omega), if_neg (by omega), szJ_some x (room - 1) (lv - 1) h.2.1 (by omega) (by omega)]
    simp only [within]
    rw [if_pos h.2.2]
theorem szJs_some : ∀ (xs : List J) (nodes steps room lv : Int), J.okL xs → 1 ≤ nodes → nodes + J.nodesL xs ≤ room → (J.deepL xs : Int) ≤ lv - 1 → steps + J.stepsL xs ≤ M30 → szJs xs nodes steps room lv = some (nodes + J.nodesL xs, steps + J.stepsL xs)
  | [], nodes, steps, room, lv, _, _, _, _, h => by
    simp only [J.nodesL, J.stepsL, szJs, within, Int.add_zero] at *
    rw [if_pos h]
  | x :: xs, nodes, steps, room, lv, h, h0, h1, h2, h3 => by
    simp only [J.okL] at h
    simp only [J.nodesL, J.stepsL, J.deepL] at *
    have p1 := J.nodes_pos x
    have p2 := J.nodesL_pos xs
    have p3 := J.stepsL_nn xs h.2
    simp only [szJs]
    rw [szJ_some x (room - nodes) (lv - 1) h.1 (by omega) (by omega)]
    simp only
    rw [szJs_some xs (nodes + x.nodes) (steps + x.steps) room lv h.2 (by omega) (by omega) (by omega) (by omega)]
    rw [Int.add_assoc, Int.add_assoc]
end
mutual
theorem szJ_inv : ∀ (j : J) (room lv a b : Int), szJ j room lv = some (a, b) → j.ok ∧ j.nodes ≤ room ∧ (j.deep : Int) ≤ lv ∧ a = j.nodes ∧ b = j.steps
  | .st i, room, lv, a, b, h => by
    simp only [szJ] at h
    split at h
    · cases h
    · split at h
      · rename_i h1 h2
        cases h
        simp only [J.ok, J.nodes, J.deep, J.steps]
        refine ⟨h2, by omega, by omega, ?_, ?_⟩ <;> trivial
      · cases h
  | .ps k xs, room, lv, a, b, h => by
    simp only [szJ] at h
    split at h
    · cases h
    · split at h
      · cases h
      · rename_i h1 h2
        obtain ⟨q1, q2, q3, q4, q5, q6⟩ := szJs_inv xs 1 0 room lv a b h (by omega)
        simp only [J.ok, J.nodes, J.deep, J.steps]
        have q3' : (J.deepL xs : Int) ≤ lv - 1 := by
          rcases q3 with q3 | q3
          · exact q3
          · subst q3
            simp only [J.deepL]
            omega
        refine ⟨⟨by omega, q1, by omega⟩, by omega, by omega, by omega, by omega⟩
  | .rn k n x, room, lv, a, b, h => by
    simp only [szJ] at h
    split at h
    · cases h
    · split at h
      · cases h
      · rename_i h1 h2
        split at h
        · cases h
        · rename_i a1 b1 h3
          obtain ⟨q1, q2, q3, q4, q5⟩ := szJ_inv x (room - 1) (lv - 1) a1 b1 h3
          simp only [within] at h
          split at h
          · rename_i h4
            cases h
            subst q4 q5
            simp only [J.ok, J.nodes, J.deep, J.steps]
            refine ⟨⟨Decidable.not_not.mp h2, q1, h4⟩, by omega, by omega, ?_, ?_⟩ <;> trivial
          · cases h
theorem szJs_inv : ∀ (xs : List J) (nodes steps room lv a b : Int), szJs xs nodes steps room lv = some (a, b) → nodes ≤ room → J.okL xs ∧ nodes + J.nodesL xs ≤ room ∧ ((J.deepL xs : Int) ≤ lv - 1 ∨ xs = []) ∧ steps + J.stepsL xs ≤ M30 ∧ a = nodes + J.nodesL xs ∧ b = steps + J.stepsL xs
  | [], nodes, steps, room, lv, a, b, h, h0 => by
    simp only [szJs, within] at h
    split at h
    · rename_i h1
      cases h
      simp only [J.okL, J.nodesL, J.stepsL, Int.add_zero]
      refine ⟨trivial, h0, .inr ?_, h1, ?_, ?_⟩ <;> trivial
    · cases h
  | x :: xs, nodes, steps, room, lv, a, b, h, h0 => by
    simp only [szJs] at h
    split at h
    · cases h
    · rename_i a1 b1 h3
      obtain ⟨q1, q2, q3, q4, q5⟩ := szJ_inv x (room - nodes) (lv - 1) a1 b1 h3
      subst q4 q5
      obtain ⟨r1, r2, r3, r4, r5, r6⟩ := szJs_inv xs (nodes + x.nodes) (steps + x.steps) room lv a b h (by omega)
      have dp := J.deep_pos x
      simp only [J.okL, J.nodesL, J.stepsL, J.deepL]
      refine ⟨⟨q1, r1⟩, by omega, .inl ?_, by omega, by omega, by omega⟩
      rcases r3 with r3 | r3
      · omega
      · subst r3
        simp only [J.deepL]
        omega
end
end Lw
/-! Jn: nets, lowest usages and mirrors of jobs. No Python here. -/
namespace Lw
open PySem L2 Rp
mutual
def J.net : J → Int
  | .st i => i
  | .ps _ xs => J.netL xs
  | .rn _ n x => n * x.net
def J.netL : List J → Int
  | [] => 0
  | x :: xs => x.net + J.netL xs
end
mutual
def J.low : J → Int
  | .st i => min 0 i
  | .ps false xs => J.lowS xs
  | .ps true xs => J.lowL xs
  | .rn true n x => n * x.low
  | .rn false n x => if n = 0 then 0 else x.low + (n - 1) * min 0 x.net
/-- in sequence -/
def J.lowS : List J → Int
  | [] => 0
  | x :: xs => min x.low (x.net + J.lowS xs)
/-- side by side -/
def J.lowL : List J → Int
  | [] => 0
  | x :: xs => x.low + J.lowL xs
end
theorem mul_min_nonneg {a b : Int} (h : 0 ≤ a) : a * min 0 b ≤ 0 ∧ a * min 0 b ≤ a * b := by
  constructor
  · have : 0 ≤ a * (- min 0 b) := Int.mul_nonneg h (by omega)
    rw [Int.mul_neg] at this
    omega
  · exact Int.mul_le_mul_of_nonneg_left (by omega) h
mutual
/-- the lowest usage is at most 0 and at most the net -/
theorem J.low_le : ∀ j : J, j.ok → j.low ≤ 0 ∧ j.low ≤ j.net
  | .st i, _ => by simp only [J.low, J.net]; omega
  | .ps false xs, h => by
    simp only [J.ok] at h
    simp only [J.low, J.net]
    exact J.lowS_le xs h.2.1
  | .ps true xs, h => by
    simp only [J.ok] at h
    simp only [J.low, J.net]
    exact J.lowL_le xs h.2.1
  | .rn true n x, h => by
    simp only [J.ok] at h
    have ih := J.low_le x h.2.1
    simp only [J.low, J.net]
    constructor
    · have : 0 ≤ n * (- x.low) := Int.mul_nonneg h.1.1 (by omega)
      rw [Int.mul_neg] at this
      omega
    · exact Int.mul_le_mul_of_nonneg_left ih.2 h.1.1
  | .rn false n x, h => by
    simp only [J.ok] at h
    have ih := J.low_le x h.2.1
    simp only [J.low, J.net]
    split
    · rename_i e
      subst e
      omega
    · have p := mul_min_nonneg (a := n - 1) (b := x.net) (by omega)
      have e : n * x.net = (n - 1) * x.net + x.net := by rw [Int.sub_mul, Int.one_mul]; omega
      omega
theorem J.lowS_le : ∀ xs : List J, J.okL xs → J.lowS xs ≤ 0 ∧ J.lowS xs ≤ J.netL xs
  | [], _ => by simp only [J.lowS, J.netL]; omega
  | x :: xs, h => by
    simp only [J.okL] at h
    have h1 := J.low_le x h.1
    have h2 := J.lowS_le xs h.2
    simp only [J.lowS, J.netL]
    omega
theorem J.lowL_le : ∀ xs : List J, J.okL xs → J.lowL xs ≤ 0 ∧ J.lowL xs ≤ J.netL xs
  | [], _ => by simp only [J.lowL, J.netL]; omega
  | x :: xs, h => by
    simp only [J.okL] at h
    have h1 := J.low_le x h.1
    have h2 := J.lowL_le xs h.2
    simp only [J.lowL, J.netL]
    omega
end
/-! sizes: at most the steps times a step's greatest -/
theorem mul_natAbs_le {n b c : Int} (h0 : 0 ≤ n) (h : b.natAbs ≤ c.natAbs) : (n * b).natAbs ≤ (n * c).natAbs := by
  rw [Int.natAbs_mul, Int.natAbs_mul]
  exact Nat.mul_le_mul_left _ h
mutual
theorem J.net_big : ∀ j : J, j.ok → -(j.steps * M30) ≤ j.net ∧ j.net ≤ j.steps * M30
  | .st i, h => by
    simp only [J.ok, M30] at h
    simp only [J.net, J.steps, M30]
    omega
  | .ps _ xs, h => by
    simp only [J.ok] at h
    simp only [J.net, J.steps]
    exact J.netL_big xs h.2.1
  | .rn _ n x, h => by
    simp only [J.ok] at h
    have ih := J.net_big x h.2.1
    simp only [J.net, J.steps]
    have e : x.steps * n * M30 = n * (x.steps * M30) := by rw [Int.mul_comm x.steps n, Int.mul_assoc]
    rw [e]
    constructor
    · rw [← Int.mul_neg]
      exact Int.mul_le_mul_of_nonneg_left ih.1 h.1.1
    · exact Int.mul_le_mul_of_nonneg_left ih.2 h.1.1
theorem J.netL_big : ∀ xs : List J, J.okL xs → -(J.stepsL xs * M30) ≤ J.netL xs ∧ J.netL xs ≤ J.stepsL xs * M30
  | [], _ => by simp only [J.netL, J.stepsL]; omega
  | x :: xs, h => by
    simp only [J.okL] at h
    have h1 := J.net_big x h.1
    have h2 := J.netL_big xs h.2
    simp only [J.netL, J.stepsL, M30] at *
    omega
end
mutual
theorem J.low_big : ∀ j : J, j.ok → -(j.steps * M30) ≤ j.low
  | .st i, h => by
    simp only [J.ok, M30] at h
    simp only [J.low, J.steps, M30]
    omega
  | .ps false xs, h => by
    simp only [J.ok] at h
    simp only [J.low, J.steps]
    exact J.lowS_big xs h.2.1
  | .ps true xs, h => by
    simp only [J.ok] at h
    simp only [J.low, J.steps]
    exact J.lowL_big xs h.2.1
  | .rn true n x, h => by
    simp only [J.ok] at h
    have ih := J.low_big x h.2.1
    simp only [J.low, J.steps]
    have e : x.steps * n * M30 = n * (x.steps * M30) := by rw [Int.mul_comm x.steps n, Int.mul_assoc]
    rw [e, ← Int.mul_neg]
    exact Int.mul_le_mul_of_nonneg_left ih h.1.1
  | .rn false n x, h => by
    simp only [J.ok] at h
    have ih := J.low_big x h.2.1
    have ih2 := J.net_big x h.2.1
    have nn := J.steps_nn x h.2.1
    simp only [J.low, J.steps]
    have e : x.steps * n * M30 = n * (x.steps * M30) := by rw [Int.mul_comm x.steps n, Int.mul_assoc]
    rw [e]
    split
    · rename_i z
      subst z
      omega
    · have hm : -(x.steps * M30) ≤ min 0 x.net := by
        have : 0 ≤ x.steps * M30 := Int.mul_nonneg nn (by decide)
        omega
      have p : (n - 1) * (-(x.steps * M30)) ≤ (n - 1) * min 0 x.net := Int.mul_le_mul_of_nonneg_left hm (by omega)
      have e2 : (n - 1) * (-(x.steps * M30)) = -(n * (x.steps * M30)) + x.steps * M30 := by rw [Int.mul_neg, Int.sub_mul, Int.one_mul]; omega
      omega
theorem J.lowS_big : ∀ xs : List J, J.okL xs → -(J.stepsL xs * M30) ≤ J.lowS xs
  | [], _ => by simp only [J.lowS, J.stepsL]; omega
  | x :: xs, h => by
    simp only [J.okL] at h
    have h1 := J.low_big x h.1
    have h2 := J.lowS_big xs h.2
    have h3 := J.net_big x h.1
    have n1 := J.steps_nn x h.1
    have n2 := J.stepsL_nn xs h.2
    simp only [J.lowS, J.stepsL, M30] at *
    omega
theorem J.lowL_big : ∀ xs : List J, J.okL xs → -(J.stepsL xs * M30) ≤ J.lowL xs
  | [], _ => by simp only [J.lowL, J.stepsL]; omega
  | x :: xs, h => by
    simp only [J.okL] at h
    have h1 := J.low_big x h.1
    have h2 := J.lowL_big xs h.2
    simp only [J.lowL, J.stepsL, M30] at *
    omega
end
abbrev M60 : Int := 1000000000000000000000000000000000000000000000000000000000000
theorem J.net_60 (j : J) (h : j.ok) : -M60 ≤ j.net ∧ j.net ≤ M60 := by
  have h1 := J.net_big j h
  have h2 := J.steps_le j h
  simp only [M30, M60] at *
  omega
theorem J.low_60 (j : J) (h : j.ok) : -M60 ≤ j.low ∧ j.low ≤ 0 := by
  have h1 := J.low_big j h
  have h2 := J.steps_le j h
  have h3 := (J.low_le j h).1
  simp only [M30, M60] at *
  omega
/-! the mirror -/
mutual
def J.mir : J → J
  | .st i => .st (-i)
  | .ps false xs => .ps false (J.mirL xs).reverse
  | .ps true xs => .ps true (J.mirL xs)
  | .rn k n x => .rn k n x.mir
def J.mirL : List J → List J
  | [] => []
  | x :: xs => x.mir :: J.mirL xs
end
theorem J.mirL_eq : ∀ xs : List J, J.mirL xs = xs.map J.mir
  | [] => rfl
  | x :: xs => by rw [J.mirL, J.mirL_eq xs]; rfl
theorem J.mirL_rev (xs : List J) : J.mirL xs.reverse = (J.mirL xs).reverse := by rw [J.mirL_eq, J.mirL_eq, List.map_reverse]
mutual
theorem J.mir_mir : ∀ j : J, j.mir.mir = j
  | .st i => by simp [J.mir]
  | .ps false xs => by simp only [J.mir, J.mirL_rev, List.reverse_reverse, J.mirL_mirL xs]
  | .ps true xs => by simp only [J.mir, J.mirL_mirL xs]
  | .rn k n x => by simp only [J.mir, J.mir_mir x]
theorem J.mirL_mirL : ∀ xs : List J, J.mirL (J.mirL xs) = xs
  | [] => rfl
  | x :: xs => by simp only [J.mirL, J.mir_mir x, J.mirL_mirL xs]
end
theorem J.nodesL_rev (xs : List J) : J.nodesL xs.reverse = J.nodesL xs := by
  induction xs with
  | nil => rfl
  | cons x xs ih =>
    have app : ∀ xs ys : List J, J.nodesL (xs ++ ys) = J.nodesL xs + J.nodesL ys := by
      intro xs ys
      induction xs with
      | nil => simp [J.nodesL]
      | cons a l ih => simp only [List.cons_append, J.nodesL, ih]; omega
    rw [List.reverse_cons, app, ih]
    simp only [J.nodesL]
    omega
theorem J.stepsL_app (xs ys : List J) : J.stepsL (xs ++ ys) = J.stepsL xs + J.stepsL ys := by
  induction xs with
  | nil => simp [J.stepsL]
  | cons a l ih => simp only [List.cons_append, J.stepsL, ih]; omega
theorem J.stepsL_rev (xs : List J) : J.stepsL xs.reverse = J.stepsL xs := by
  induction xs with
  | nil => rfl
  | cons x xs ih =>
    rw [List.reverse_cons, J.stepsL_app, ih]
    simp only [J.stepsL]
    omega
theorem J.netL_app (xs ys : List J) : J.netL (xs ++ ys) = J.netL xs + J.netL ys := by
  induction xs with
  | nil => simp [J.netL]
  | cons a l ih => simp only [List.cons_append, J.netL, ih]; omega
theorem J.netL_rev (xs : List J) : J.netL xs.reverse = J.netL xs := by
  induction xs with
  | nil => rfl
  | cons x xs ih =>
    rw [List.reverse_cons, J.netL_app, ih]
    simp only [J.netL]
    omega
theorem J.deepL_rev (xs : List J) : J.deepL xs.reverse = J.deepL xs := by
  induction xs with
  | nil => rfl
  | cons x xs ih =>
    have app : ∀ xs ys : List J, J.deepL (xs ++ ys) = max (J.deepL xs) (J.deepL ys) := by
      intro xs ys
      induction xs with
      | nil => simp [J.deepL]
      | cons a l ih => simp only [List.cons_append, J.deepL, ih]; omega
    rw [List.reverse_cons, app, ih]
    simp only [J.deepL]
    omega
theorem J.okL_iff : ∀ xs : List J, J.okL xs ↔ ∀ x ∈ xs, x.ok
  | [] => by simp [J.okL]
  | x :: xs => by simp only [J.okL, J.okL_iff xs, List.forall_mem_cons]
theorem J.okL_rev (xs : List J) : J.okL xs.reverse ↔ J.okL xs := by
  rw [J.okL_iff, J.okL_iff]
  simp
theorem J.mirL_len (xs : List J) : (J.mirL xs).length = xs.length := by rw [J.mirL_eq, List.length_map]
mutual
theorem J.mir_same : ∀ j : J, j.mir.nodes = j.nodes ∧ j.mir.steps = j.steps ∧ j.mir.deep = j.deep ∧ j.mir.net = -j.net ∧ (j.ok → j.mir.ok)
  | .st i => by
    simp only [J.mir, J.nodes, J.steps, J.deep, J.net, J.ok, true_and]
    omega
  | .ps false xs => by
    obtain ⟨h1, h2, h3, h4, h5⟩ := J.mirL_same xs
    simp only [J.mir, J.nodes, J.steps, J.deep, J.net, J.ok, J.nodesL_rev, J.stepsL_rev, J.deepL_rev, J.netL_rev, J.okL_rev, List.length_reverse, J.mirL_len, h1, h2, h3, h4, true_and]
    exact fun z => ⟨z.1, h5 z.2.1, z.2.2⟩
  | .ps true xs => by
    obtain ⟨h1, h2, h3, h4, h5⟩ := J.mirL_same xs
    simp only [J.mir, J.nodes, J.steps, J.deep, J.net, J.ok, J.mirL_len, h1, h2, h3, h4, true_and]
    exact fun z => ⟨z.1, h5 z.2.1, z.2.2⟩
  | .rn k n x => by
    obtain ⟨h1, h2, h3, h4, h5⟩ := J.mir_same x
    simp only [J.mir, J.nodes, J.steps, J.deep, J.net, J.ok, h1, h2, h3, h4, true_and, Int.mul_neg]
    exact fun z => ⟨z.1, h5 z.2.1, z.2.2⟩
theorem J.mirL_same : ∀ xs : List J, J.nodesL (J.mirL xs) = J.nodesL xs ∧ J.stepsL (J.mirL xs) = J.stepsL xs ∧ J.deepL (J.mirL xs) = J.deepL xs ∧ J.netL (J.mirL xs) = -J.netL xs ∧ (J.okL xs → J.okL (J.mirL xs))
  | [] => by simp [J.mirL, J.nodesL, J.stepsL, J.deepL, J.netL, J.okL]
  | x :: xs => by
    obtain ⟨h1, h2, h3, h4, h5⟩ := J.mir_same x
    obtain ⟨k1, k2, k3, k4, k5⟩ := J.mirL_same xs
    simp only [J.mirL, J.nodesL, J.stepsL, J.deepL, J.netL, J.okL, h1, h2, h3, h4, k1, k2, k3, k4, true_and]
    refine ⟨by omega, fun z => ⟨h5 z.1, k5 z.2⟩⟩
end
theorem J.lowS_app (xs : List J) (y : J) (hy : y.ok) (hx : J.okL xs) : J.lowS (xs ++ [y]) = min (J.lowS xs) (J.netL xs + y.low) := by
  induction xs with
  | nil =>
    have := J.low_le y hy
    simp only [List.nil_append, J.lowS, J.netL]
    omega
  | cons x xs ih =>
    simp only [J.okL] at hx
    simp only [List.cons_append, J.lowS, J.netL, ih hx.2]
    omega
mutual
theorem J.mir_low : ∀ j : J, j.ok → j.mir.low = j.low - j.net
  | .st i, _ => by simp only [J.mir, J.low, J.net]; omega
  | .ps false xs, h => by
    simp only [J.ok] at h
    simp only [J.mir, J.low, J.net]
    exact J.mirL_lowS xs h.2.1
  | .ps true xs, h => by
    simp only [J.ok] at h
    simp only [J.mir, J.low, J.net]
    exact J.mirL_lowL xs h.2.1
  | .rn true n x, h => by
    simp only [J.ok] at h
    simp only [J.mir, J.low, J.net, J.mir_low x h.2.1, Int.mul_sub]
  | .rn false n x, h => by
    simp only [J.ok] at h
    obtain ⟨_, _, _, hn, _⟩ := J.mir_same x
    simp only [J.mir, J.low, J.net, J.mir_low x h.2.1, hn]
    split
    · rename_i e
      subst e
      omega
    · have e : min 0 (-x.net) = min 0 x.net - x.net := by omega
      have e1 : (n - 1) * (min 0 x.net - x.net) = (n - 1) * min 0 x.net - (n - 1) * x.net := Int.mul_sub _ _ _
      have e2 : (n - 1) * x.net = n * x.net - x.net := by rw [Int.sub_mul, Int.one_mul]
      rw [e, e1]
      omega
theorem J.mirL_lowS : ∀ xs : List J, J.okL xs → J.lowS (J.mirL xs).reverse = J.lowS xs - J.netL xs
  | [], _ => by simp only [J.mirL, List.reverse_nil, J.lowS, J.netL]; omega
  | x :: xs, h => by
    simp only [J.okL] at h
    obtain ⟨_, _, _, _, ho⟩ := J.mir_same x
    obtain ⟨_, _, _, hn, hos⟩ := J.mirL_same xs
    simp only [J.mirL, List.reverse_cons]
    rw [J.lowS_app _ _ (ho h.1) ((J.okL_rev _).mpr (hos h.2)), J.mirL_lowS xs h.2, J.mir_low x h.1, J.netL_rev, hn]
    simp only [J.lowS, J.netL]
    omega
theorem J.mirL_lowL : ∀ xs : List J, J.okL xs → J.lowL (J.mirL xs) = J.lowL xs - J.netL xs
  | [], _ => by simp only [J.mirL, J.lowL, J.netL]; omega
  | x :: xs, h => by
    simp only [J.okL] at h
    simp only [J.mirL, J.lowL, J.netL, J.mirL_lowL xs h.2, J.mir_low x h.1]
    omega
end
/-! a job's data at hand -/
theorem ps_inv {K : PySem.W.Frag} {H : Hp} {v : V} {k : Bool} {xs : List J} (h : Dp K H v (J.ps k xs).toD) : ∃ a b vs, v = .ref a ∧ SqT K H a [.str (kwP k), .ref b] ∧ SqT K H b vs ∧ DpAll K H vs (J.toDs xs) := by
  rw [J.toD] at h
  obtain ⟨a, ys, rfl, hys, hall⟩ := dp_tup_inv h
  cases hall with
  | cons e1 hall =>
    obtain rfl := dp_str_inv e1
    cases hall with
    | cons e2 hall =>
      cases hall
      obtain ⟨b, vs, rfl, hvs, hall2⟩ := dp_tup_inv e2
      exact ⟨a, b, vs, rfl, hys, hvs, hall2⟩
theorem rn_inv {K : PySem.W.Frag} {H : Hp} {v : V} {k : Bool} {n : Int} {x : J} (h : Dp K H v (J.rn k n x).toD) : ∃ a w, v = .ref a ∧ SqT K H a [.str (kwR k), .int n, w] ∧ Dp K H w x.toD := by
  rw [J.toD] at h
  obtain ⟨a, ys, rfl, hys, hall⟩ := dp_tup_inv h
  cases hall with
  | cons e1 hall =>
    obtain rfl := dp_str_inv e1
    cases hall with
    | cons e2 hall =>
      obtain rfl := dp_int_inv e2
      cases hall with
      | cons e3 hall =>
        cases hall
        exact ⟨a, _, rfl, hys, e3⟩
theorem parts_at {K : PySem.W.Frag} {H : Hp} {xs : List J} {vs : List V} {i : Nat} {x : V} (hall : DpAll K H vs (J.toDs xs)) (hi : vs[i]? = some x) : ∃ j, xs[i]? = some j ∧ j ∈ xs ∧ Dp K H x j.toD := by
  obtain ⟨d, ed, hd⟩ := dpAll_get hall hi
  rw [J.toDs_eq, List.getElem?_map] at ed
  cases e : xs[i]? with
  | none =>
    rw [e] at ed
    cases ed
  | some j =>
    rw [e] at ed
    obtain rfl := (Option.some.inj ed).symm
    exact ⟨j, rfl, List.mem_of_getElem? e, hd⟩
theorem parts_len {K : PySem.W.Frag} {H : Hp} {xs : List J} {vs : List V} (hall : DpAll K H vs (J.toDs xs)) : vs.length = xs.length := by
  rw [dpAll_length hall, J.toDs_eq, List.length_map]
theorem deep_mem : ∀ {l : List J} {y : J}, y ∈ l → y.deep ≤ J.deepL l
  | z :: r, y, h => by
    simp only [J.deepL]
    rcases List.mem_cons.mp h with rfl | h
    · omega
    · have := deep_mem h
      omega
theorem ok_mem {l : List J} {y : J} (o : J.okL l) (h : y ∈ l) : y.ok := (J.okL_iff l).mp o y h
theorem take_step {α β : Type} {xs : List α} {i : Nat} {j : α} (f : α → β) (e : xs[i]? = some j) : (xs.take (i + 1)).map f = (xs.take i).map f ++ [f j] := by
  rw [List.take_add_one, e, List.map_append]
  rfl
/-! words -/
theorem w_in_parts (k : Bool) : inV (.str (kwP k)) [.str "seq", .str "par"] = true := by cases k <;> decide +kernel
theorem w_in_parts_no (k : Bool) : inV (.str (kwR k)) [.str "seq", .str "par"] = false := by cases k <;> decide +kernel
theorem w_in_rounds (k : Bool) : inV (.str (kwR k)) [.str "repeat", .str "copies"] = true := by cases k <;> decide +kernel
theorem w_in_rounds_no (k : Bool) : inV (.str (kwP k)) [.str "repeat", .str "copies"] = false := by cases k <;> decide +kernel
theorem w_seq (k : Bool) : decide (V.str (kwP k) = V.str "seq") = !k := by cases k <;> decide +kernel
theorem w_par (k : Bool) : decide (V.str (kwP k) = V.str "par") = k := by cases k <;> decide +kernel
theorem w_seq_no (k : Bool) : decide (V.str (kwR k) = V.str "seq") = false := by cases k <;> decide +kernel
theorem w_par_no (k : Bool) : decide (V.str (kwR k) = V.str "par") = false := by cases k <;> decide +kernel
theorem w_copies (k : Bool) : decide (V.str (kwR k) = V.str "copies") = k := by cases k <;> decide +kernel
theorem w_dec_int {a b : Int} : decide (V.int a = V.int b) = decide (a = b) := by
  by_cases h : a = b
  · subst h
    simp
  · rw [decide_eq_false h, decide_eq_false (fun z => h (V.int.inj z))]
/-! the data of a job: fine to be shown, comparable -/
theorem kwP_fine (k : Bool) : fine (.str (kwP k)) := by cases k <;> (simp only [fine]; decide +kernel)
theorem kwR_fine (k : Bool) : fine (.str (kwR k)) := by cases k <;> (simp only [fine]; decide +kernel)
theorem kwP_bulk (k : Bool) : (PyData.str (kwP k)).bulk ≤ 10 := by cases k <;> (simp only [PyData.bulk]; decide +kernel)
theorem kwR_bulk (k : Bool) : (PyData.str (kwR k)).bulk ≤ 10 := by cases k <;> (simp only [PyData.bulk]; decide +kernel)
theorem lt180 {i : Int} (h0 : -M60 ≤ i) (h : i ≤ M60) : i.natAbs < 10 ^ 180 := by
  simp only [M60] at h0 h
  exact Nat.lt_of_le_of_lt (show i.natAbs ≤ 1000000000000000000000000000000000000000000000000000000000000 by omega) (by decide +kernel)
mutual
theorem J.fine : ∀ j : J, j.ok → fine j.toD
  | .st i, h => by
    simp only [J.ok, M30] at h
    simp only [J.toD, Rp.fine]
    exact lt180 (by simp only [M60]; omega) (by simp only [M60]; omega)
  | .ps k xs, h => by
    simp only [J.ok] at h
    have h1 := J.fines xs h.2.1
    have h2 := kwP_fine k
    simp only [J.toD, Rp.fine, fines] at *
    exact ⟨h2, h1, trivial⟩
  | .rn k n x, h => by
    simp only [J.ok, M30] at h
    have h1 := J.fine x h.2.1
    have h2 := kwR_fine k
    simp only [J.toD, Rp.fine, fines] at *
    exact ⟨h2, lt180 (by simp only [M60]; omega) (by simp only [M60]; omega), h1, trivial⟩
theorem J.fines : ∀ xs : List J, J.okL xs → fines (J.toDs xs)
  | [], _ => by simp [J.toDs, Rp.fines]
  | x :: xs, h => by
    simp only [J.okL] at h
    simp only [J.toDs, Rp.fines]
    exact ⟨J.fine x h.1, J.fines xs h.2⟩
end
mutual
theorem J.bulk : ∀ j : J, (j.toD.bulk : Int) ≤ 20 * j.nodes - 5
  | .st i => by simp only [J.toD, PyData.bulk, J.nodes]; omega
  | .ps k xs => by
    have h1 := J.bulks xs
    have h2 := kwP_bulk k
    simp only [J.toD, PyData.bulk, PyData.bulkAll, J.nodes] at *
    omega
  | .rn k n x => by
    have h1 := J.bulk x
    have h2 := kwR_bulk k
    simp only [J.toD, PyData.bulk, PyData.bulkAll, J.nodes] at *
    omega
theorem J.bulks : ∀ xs : List J, (PyData.bulkAll (J.toDs xs) : Int) ≤ 20 * J.nodesL xs
  | [] => by simp [J.toDs, PyData.bulkAll, J.nodesL]
  | x :: xs => by
    have h1 := J.bulk x
    have h2 := J.bulks xs
    simp only [J.toDs, PyData.bulkAll, J.nodesL, List.length_cons] at *
    omega
end
mutual
theorem J.depth : ∀ j : J, j.toD.depth ≤ 2 * j.deep
  | .st i => by simp [J.toD, PyData.depth]
  | .ps k xs => by
    have h1 := J.depths xs
    simp only [J.toD, PyData.depth, PyData.depthAll, J.deep]
    omega
  | .rn k n x => by
    have h1 := J.depth x
    simp only [J.toD, PyData.depth, PyData.depthAll, J.deep]
    omega
theorem J.depths : ∀ xs : List J, PyData.depthAll (J.toDs xs) ≤ 2 * J.deepL xs
  | [] => by simp [J.toDs, PyData.depthAll, J.deepL]
  | x :: xs => by
    have h1 := J.depth x
    have h2 := J.depths xs
    simp only [J.toDs, PyData.depthAll, J.deepL]
    omega
end
theorem kwP_strOk (k : Bool) : PyData.canLay0 (.str (kwP k)) = true := by cases k <;> (simp only [PyData.canLay0]; decide +kernel)
theorem kwR_strOk (k : Bool) : PyData.canLay0 (.str (kwR k)) = true := by cases k <;> (simp only [PyData.canLay0]; decide +kernel)
mutual
theorem J.canLay : ∀ j : J, j.toD.canLay0 = true
  | .st i => by simp [J.toD, PyData.canLay0]
  | .ps k xs => by
    have h1 := J.canLays xs
    have h2 := kwP_strOk k
    simp only [J.toD, PyData.canLay0, PyData.canLayAll0, h1, Bool.and_true, Bool.true_and] at *
    exact h2
  | .rn k n x => by
    have h1 := J.canLay x
    have h2 := kwR_strOk k
    simp only [J.toD, PyData.canLay0, PyData.canLayAll0, h1, Bool.and_true, Bool.true_and] at *
    exact h2
theorem J.canLays : ∀ xs : List J, PyData.canLayAll0 (J.toDs xs) = true
  | [] => rfl
  | x :: xs => by
    have h1 := J.canLay x
    have h2 := J.canLays xs
    simp only [J.toDs, PyData.canLayAll0, h1, h2, Bool.and_self]
end
theorem J.shaped (j : J) (h : j.deep ≤ 30) : SeqAt.shaped j.toD = true := by
  have h1 := J.canLay j
  have h2 := J.depth j
  unfold SeqAt.shaped
  rw [h1, decide_eq_true (by omega)]
  rfl
theorem J.eqv (j : J) : PyData.eqv j.toD j.toD = true := SeqAt.eqv_refl _ (J.canLay j)
end Lw
/-! Rq: data of any kind (lists that nobody changes, dicts), beside a pot at p: isinstance, in, repr. -/
namespace Rp
open PySem L2 PyProof.Rows

theorem str_eq_dict (b : Str) (u : Tok) (a : Addr) : Meets (Builtin.«str.__eq__» { pos := [Value.str b u, Value.ref a] }) fun _ R s => (∃ o es n, s.heap.get? a = some o ∧ o.data = Data.dict es n) ∧ R (.ok (.ret Value.notImplemented)) s := by
  rintro prog w A R s ⟨⟨o, es, n, h, hd⟩, q⟩
  have e : Builtin.«str.__eq__» { pos := [Value.str b u, Value.ref a] } = (do
      let o ← asStr? (Value.ref a)
      match o with
      | some o => ret (Value.bool (b.cps.toList == o.cps.toList))
      | none => do
          rule (toString "str." ++ toString "__eq__" ++ toString ".not-a-str")
          ret Value.notImplemented) := rfl
  rw [e]
  refine wpAny_bind ?_
  unfold asStr?
  refine wpAny_bind (wpAny_load h ?_)
  rw [hd]
  refine wpAny_pure ?_
  refine wpAny_bind (wpAny_rule ?_)
  exact wpAny_pure q
theorem dict_eq_str (b : Str) (u : Tok) (a : Addr) : Meets (Builtin.«dict.__eq__» { pos := [Value.ref a, Value.str b u] }) fun _ R s => R (.ok (.ret Value.notImplemented)) s := by
  rintro prog w A R s q
  have e : Builtin.«dict.__eq__» { pos := [Value.ref a, Value.str b u] } = (do
      let x ← isInstance (Value.str b u) (Value.type "dict")
      if (!x) = true then do
          rule (toString "dict." ++ toString "__eq__" ++ toString ".not-a-dict")
          ret Value.notImplemented
        else do
          let p ← Builtin.Dict.addrOf (Value.ref a)
          let q ← Builtin.Dict.addrOf (Value.str b u)
          let z ← Builtin.Dict.samePairs (toString "dict." ++ toString "__eq__") p q
          ret (Value.bool (z == true))) := rfl
  rw [e]
  refine wpAny_bind (wpAny_isInstance_val (b := false) (T := "str") rfl (by rfl) ?_)
  refine wpAny_bind (wpAny_rule ?_)
  exact wpAny_pure q
theorem rc_str_dict {A : Around} {s : Shared} {a : Addr} {o : Obj} {es : Array DictEntry} {n : Nat} (b : Str) (u : Tok) (h : s.heap.get? a = some o) (hc : o.cls = .type "dict") (hd : o.data = .dict es n) (room : A.units < cLine) : SeqAt.RcAt A s (.str b u) (.ref a) false := by
  intro prog w E Q q
  have ta : s.TypeIs (.str b u) "str" := by rfl
  have tb : s.TypeIs (.ref a) "dict" := ⟨o, h, hc⟩
  have e1 : ∀ Q' : Value → Shared → Prop, Q' Value.notImplemented s → wpAny (model prog w) A (call (Value.builtin "str.__eq__") [.str b u, .ref a]) Q' E s := fun Q' z =>
    call_meets PyProof.Rows.slot_str_eq ta F.entry_str_eq (F.args_str_eq_2 _ _) (str_eq_dict b u a) ⟨⟨o, es, n, h, hd⟩, z⟩
  have e2 : ∀ Q' : Value → Shared → Prop, Q' Value.notImplemented s → wpAny (model prog w) A (call (Value.builtin "dict.__eq__") [.ref a, .str b u]) Q' E s := fun Q' z =>
    call_meets F.slot_dict_eq tb F.entry_dict_eq (F.args_dict_eq_2 _ _) (dict_eq_str b u a) z
  exact SeqAt.rc_eq_decline_or (Ta := "str") (Tb := "dict") (k := false) ta tb (by decide) (by rfl) PyProof.Rows.slot_str_eq F.slot_dict_eq_refl e1 e2 (fun Q' z => wpAny_pure z) (.inr room) q
theorem eq_str_dict {A : Around} {s : Shared} {a : Addr} {o : Obj} {es : Array DictEntry} {n : Nat} (b : Str) (u : Tok) (h : s.heap.get? a = some o) (hc : o.cls = .type "dict") (hd : o.data = .dict es n) (room : A.units < cLine) : SeqAt.EqAt A s (.str b u) (.ref a) false := by
  intro prog w E Q q
  unfold eqBool
  refine wpAny_holding ?_
  have e : (Value.str b u == Value.ref a) = false := rfl
  simp only [e, Bool.false_eq_true, if_false]
  refine wpAny_bind (rc_str_dict b u h hc hd room prog w E _ ?_)
  exact wpAny_truthy_bool q

mutual
inductive Dq (K : PySem.W.Frag) (p : Addr) (H : Hp) : V → PyData → Prop
  | non : Dq K p H .non .none
  | bl (b : Bool) : Dq K p H (.bl b) (.bool b)
  | int (i : Int) : Dq K p H (.int i) (.int i)
  | str (x : Str) : Dq K p H (.str x) (.str x)
  | lst {a : Addr} {xs : List V} {ds : List PyData} : a ≠ p → H a = some (.lst xs) → DqAll K p H xs ds → Dq K p H (.ref a) (.list ds)
  | tup {a : Addr} {xs : List V} {ds : List PyData} : SqT K H a xs → DqAll K p H xs ds → Dq K p H (.ref a) (.tuple ds)
  | dct {a : Addr} {kvs : List (Key × V)} {ds : List (PyData × PyData)} : a ≠ p → H a = some (.dK kvs) → (ds = [] → kvs = []) → Dq K p H (.ref a) (.dict ds)
inductive DqAll (K : PySem.W.Frag) (p : Addr) (H : Hp) : List V → List PyData → Prop
  | nil : DqAll K p H [] []
  | cons {v : V} {d : PyData} {vs : List V} {ds : List PyData} : Dq K p H v d → DqAll K p H vs ds → DqAll K p H (v :: vs) (d :: ds)
end
mutual
theorem dq_of {K : PySem.W.Frag} {p : Addr} {H : Hp} : ∀ {d : PyData} {v : V}, noL d = true → Dp K H v d → Dq K p H v d
  | .none, _, _, h => by cases h; exact .non
  | .bool _, _, _, h => by cases h; exact .bl _
  | .int _, _, _, h => by cases h; exact .int _
  | .str _, _, _, h => by cases h; exact .str _
  | .list _, _, n, _ => by simp [noL] at n
  | .tuple ds, _, n, h => by
    cases h with
    | tup hs ha => exact .tup hs (dqAll_of (by simpa [noL] using n) ha)
  | .dict _, _, _, h => by cases h
theorem dqAll_of {K : PySem.W.Frag} {p : Addr} {H : Hp} : ∀ {ds : List PyData} {vs : List V}, noLs ds = true → DpAll K H vs ds → DqAll K p H vs ds
  | [], _, _, h => by cases h; exact .nil
  | d :: ds, _, n, h => by
    cases h with
    | cons h1 h2 =>
      have n' : noL d = true ∧ noLs ds = true := by simpa [noLs] using n
      exact .cons (dq_of n'.1 h1) (dqAll_of n'.2 h2)
end
/-- what keeps such data: tuples, and all but p -/
structure Kp (K : PySem.W.Frag) (p : Addr) (H H' : Hp) : Prop where
  sx : Sx p H H'
  tp : ∀ a xs, SqT K H a xs → SqT K H' a xs
theorem Kp.refl {K : PySem.W.Frag} {p : Addr} {H : Hp} : Kp K p H H := ⟨Sx.refl, fun _ _ h => h⟩
theorem Kp.trans {K : PySem.W.Frag} {p : Addr} {H H1 H2 : Hp} (a : Kp K p H H1) (b : Kp K p H1 H2) : Kp K p H H2 := ⟨a.sx.trans b.sx, fun x xs h => b.tp x xs (a.tp x xs h)⟩
theorem Same.kp {K : PySem.W.Frag} {p : Addr} {H H' : Hp} (s : Same H H') : Kp K p H H' := ⟨Same.sx s, fun _ _ h => same_sqT s h⟩
theorem Sx.kp {K : PySem.W.Frag} {p : Addr} {H H' : Hp} {l : List V} (s : Sx p H H') (hp : H p = some (.lst l)) : Kp K p H H' := ⟨s, fun _ _ h => s.sqT hp h⟩
mutual
theorem Dq.keep {K : PySem.W.Frag} {p : Addr} {H H' : Hp} (s : Kp K p H H') : ∀ {d : PyData} {v : V}, Dq K p H v d → Dq K p H' v d
  | .none, _, h => by cases h; exact .non
  | .bool _, _, h => by cases h; exact .bl _
  | .int _, _, h => by cases h; exact .int _
  | .str _, _, h => by cases h; exact .str _
  | .list ds, _, h => by
    cases h with
    | lst n e ha => exact .lst n (s.sx _ _ n e) (DqAll.keep s ha)
  | .tuple ds, _, h => by
    cases h with
    | tup hs ha => exact .tup (s.tp _ _ hs) (DqAll.keep s ha)
  | .dict _, _, h => by
    cases h with
    | dct n e z => exact .dct n (s.sx _ _ n e) z
theorem DqAll.keep {K : PySem.W.Frag} {p : Addr} {H H' : Hp} (s : Kp K p H H') : ∀ {ds : List PyData} {vs : List V}, DqAll K p H vs ds → DqAll K p H' vs ds
  | [], _, h => by cases h; exact .nil
  | d :: ds, _, h => by
    cases h with
    | cons h1 h2 => exact .cons (Dq.keep s h1) (DqAll.keep s h2)
end
theorem dqAll_length {K : PySem.W.Frag} {p : Addr} {H : Hp} : ∀ {vs : List V} {ds : List PyData}, DqAll K p H vs ds → vs.length = ds.length
  | _, _, .nil => rfl
  | _, _, .cons _ h => congrArg (· + 1) (dqAll_length h)
theorem dqAll_get {K : PySem.W.Frag} {p : Addr} {H : Hp} : ∀ {vs : List V} {ds : List PyData} {i : Nat} {v : V}, DqAll K p H vs ds → vs[i]? = some v → ∃ d, ds[i]? = some d ∧ Dq K p H v d
  | _, _, _, _, .nil, e => by simp at e
  | _, _, 0, _, .cons h _, e => by
    simp at e
    subst e
    exact ⟨_, rfl, h⟩
  | _, _, i + 1, _, .cons _ t, e => by
    obtain ⟨d, e1, e2⟩ := dqAll_get (i := i) t (by simpa using e)
    exact ⟨d, by simpa using e1, e2⟩
theorem dqAll_append {K : PySem.W.Frag} {p : Addr} {H : Hp} : ∀ {vs ws : List V} {ds es : List PyData}, DqAll K p H vs ds → DqAll K p H ws es → DqAll K p H (vs ++ ws) (ds ++ es)
  | _, _, _, _, .nil, h => h
  | _, _, _, _, .cons h t, h' => .cons h (dqAll_append t h')
theorem dqAll_take {K : PySem.W.Frag} {p : Addr} {H : Hp} : ∀ (n : Nat) {vs : List V} {ds : List PyData}, DqAll K p H vs ds → DqAll K p H (vs.take n) (ds.take n)
  | 0, _, _, _ => by simpa using .nil
  | n + 1, _, _, .nil => by simpa using .nil
  | n + 1, _, _, .cons h t => by simpa using .cons h (dqAll_take n t)
theorem dqAll_drop {K : PySem.W.Frag} {p : Addr} {H : Hp} : ∀ (n : Nat) {vs : List V} {ds : List PyData}, DqAll K p H vs ds → DqAll K p H (vs.drop n) (ds.drop n)
  | 0, _, _, h => by simpa using h
  | n + 1, _, _, .nil => by simpa using .nil
  | n + 1, _, _, .cons h t => by simpa using dqAll_drop n t
theorem dq_int_inv {K : PySem.W.Frag} {p : Addr} {H : Hp} {v : V} {i : Int} (h : Dq K p H v (.int i)) : v = .int i := by cases h; rfl
theorem dq_str_inv {K : PySem.W.Frag} {p : Addr} {H : Hp} {v : V} {x : Str} (h : Dq K p H v (.str x)) : v = .str x := by cases h; rfl
theorem dq_bool_inv {K : PySem.W.Frag} {p : Addr} {H : Hp} {v : V} {b : Bool} (h : Dq K p H v (.bool b)) : v = .bl b := by cases h; rfl
theorem dq_tup_inv {K : PySem.W.Frag} {p : Addr} {H : Hp} {v : V} {ds : List PyData} (h : Dq K p H v (.tuple ds)) : ∃ a xs, v = .ref a ∧ SqT K H a xs ∧ DqAll K p H xs ds := by
  cases h with
  | tup h1 h2 => exact ⟨_, _, rfl, h1, h2⟩
theorem tupq {K : PySem.W.Frag} {p q : Addr} {H : Hp} {xs : List V} {ds : List PyData} (hq : H q = none) (h : DqAll K p H xs ds) : Same H (upd H q (.tup xs)) ∧ Dq K p (upd H q (.tup xs)) (.ref q) (.tuple ds) :=
  ⟨same_new hq, .tup (.inl (.inl upd_same)) (h.keep (Same.kp (same_new hq)))⟩
theorem lstq {K : PySem.W.Frag} {p q : Addr} {H : Hp} {xs : List V} {ds : List PyData} (n : q ≠ p) (hq : H q = none) (h : DqAll K p H xs ds) : Same H (upd H q (.lst xs)) ∧ Dq K p (upd H q (.lst xs)) (.ref q) (.list ds) :=
  ⟨same_new hq, .lst n upd_same (h.keep (Same.kp (same_new hq)))⟩

mutual
def noD : PyData → Bool
  | .list ds => noDs ds
  | .tuple ds => noDs ds
  | .dict _ => false
  | _ => true
def noDs : List PyData → Bool
  | [] => true
  | d :: ds => noD d && noDs ds
end
mutual
theorem Dq.dp {K : PySem.W.Frag} {p : Addr} {H : Hp} : ∀ {d : PyData} {v : V}, noD d = true → Dq K p H v d → Dp K H v d
  | .none, _, _, h => by cases h; exact .non
  | .bool _, _, _, h => by cases h; exact .bl _
  | .int _, _, _, h => by cases h; exact .int _
  | .str _, _, _, h => by cases h; exact .str _
  | .list ds, _, n, h => by
    cases h with
    | lst _ e ha => exact .lst (SqL.of e) (DqAll.dp (by simpa [noD] using n) ha)
  | .tuple ds, _, n, h => by
    cases h with
    | tup hs ha => exact .tup hs (DqAll.dp (by simpa [noD] using n) ha)
  | .dict _, _, n, _ => by simp [noD] at n
theorem DqAll.dp {K : PySem.W.Frag} {p : Addr} {H : Hp} : ∀ {ds : List PyData} {vs : List V}, noDs ds = true → DqAll K p H vs ds → DpAll K H vs ds
  | [], _, _, h => by cases h; exact .nil
  | d :: ds, _, n, h => by
    cases h with
    | cons h1 h2 =>
      have n' : noD d = true ∧ noDs ds = true := by simpa [noDs] using n
      exact .cons (Dq.dp n'.1 h1) (DqAll.dp n'.2 h2)
end
theorem dq_ty {K : PySem.W.Frag} {p : Addr} {H : Hp} {v : V} {d : PyData} (h : Dq K p H v d) : TyX K H v (.type (tyN d)) := by
  cases h with
  | non => exact .base .non
  | bl b => exact .base (.bl b)
  | int i => exact .base (.int i)
  | str x => exact .base (.str x)
  | lst n hs ha => exact .base (.lst hs)
  | tup hs ha =>
    rcases hs with (e | ⟨o, e⟩) | ⟨o, its, n, hk, hc, _⟩
    · exact .base (.tup e)
    · exact .fTuple e
    · exact .kTuple hk hc
  | dct n e z => exact .base (.dK e)
section
variable {X : Cx}
def rIsQ (K : PySem.W.Frag) : List V → Hp → VK → Prop := fun xs H Q => ∃ (v : V) (n : String) (p : Addr) (d : PyData) (b : Bool), xs = [v, .ty n] ∧ Dq K p H v d ∧ kitB (tyN d) n = some b ∧ Q (.bl b) H
theorem call_isQ : CallR X (.builtin "isinstance") (rIsQ X.K) := by
  intro pins s σ H xs us Q I r h
  obtain ⟨v, n, p, d, b, e, hd, hk, q⟩ := h
  exact call_isi pins s σ H xs us Q I r ⟨v, .ty n, _, _, _, e, .ty n, dq_ty hd, kit_ty hk, q⟩
/-- is the data one of these texts -/
def inS (d : PyData) (ss : List Str) : Bool := match d with
  | .str x => ss.any (· == x)
  | _ => false
theorem isTuple_of {pins : List (Addr × Obj)} {σ : L2.St} {H : Hp} {s : Shared} {a : Addr} {xs : List V} (I : Inv X pins σ H s) (h : SqT X.K H a xs) : ∃ its : Array Value, Vals xs its.toList ∧ s.heap.IsTuple a its := by
  rcases h with h | ⟨o, its, n, hk, hc, hd, hz, hv⟩
  · obtain ⟨_, its, hv, ht⟩ := h.ok I.hok
    exact ⟨its.toArray, by simpa using hv, ht⟩
  · exact ⟨its, hv, o, I.kIn _ _ hk, hc, n, hd⟩
theorem vals_strs : ∀ {ss : List Str} {us : List Value}, Vals (ss.map V.str) us → ∃ ts : List (Str × Tok), us = ts.map (fun z => .str z.1 z.2) ∧ ts.map (·.1) = ss
  | [], us, h => by
    generalize e : ([] : List Str).map V.str = vs at h
    cases h with
    | nil => exact ⟨[], rfl, rfl⟩
    | cons r h => cases e
  | x :: ss, us, h => by
    generalize e : (x :: ss).map V.str = vs at h
    cases h with
    | nil => cases e
    | cons r h =>
      obtain ⟨rfl, rfl⟩ := List.cons.inj e
      obtain ⟨ts, rfl, rfl⟩ := vals_strs h
      obtain ⟨t, rfl⟩ := r
      exact ⟨(x, t) :: ts, rfl, rfl⟩
def rInQ (K : PySem.W.Frag) : R2 := fun x y H Q => ∃ (p a : Addr) (ss : List Str) (d : PyData), y = .ref a ∧ SqT K H a (ss.map V.str) ∧ Dq K p H x d ∧ Q (.bl (inS d ss)) H
theorem op_inQ (hu : X.A.units + 66 < cLine) : OpR X (compareOp .In) (rInQ X.K) := by
  rintro pins s σ H x y v u Q I rv ru ⟨p, a, ss, d, rfl, ht, hd, q⟩
  obtain rfl : u = .ref a := ru
  obtain ⟨its, hv, hit⟩ := isTuple_of I ht
  obtain ⟨ts, e1, e2⟩ := vals_strs hv
  have room : X.A.in1.units < cLine := by
    show X.A.units + 1 < cLine
    omega
  refine SeqAt.in_tupleAt (fun y => match y with | .str w _ => inS d [w] | _ => false) hit (fun y hy => ?_) ?_
  · have hy' : y ∈ its.toList := by simpa using hy
    rw [e1] at hy'
    obtain ⟨⟨w, t⟩, _, rfl⟩ := List.mem_map.mp hy'
    show SeqAt.EqAt X.A.in1 s (.str w t) v (inS d [w])
    cases hd with
    | non =>
      obtain rfl : v = .none := rv
      exact SeqAt.EqAt.str_none _ _
    | bl b =>
      obtain rfl : v = .bool b := rv
      exact SeqAt.EqAt.str_bool _ _ _
    | int i =>
      obtain ⟨t', rfl⟩ := rv
      exact SeqAt.EqAt.str_int _ _ _ _
    | str x =>
      obtain ⟨t', rfl⟩ := rv
      have e : inS (.str x) [w] = (w == x) := by simp [inS]
      rw [e]
      exact SeqAt.EqAt.str_str _ _ _ _
    | lst n e ha =>
      rename_i l xs ds
      obtain rfl : v = .ref l := rv
      obtain ⟨_, its', n', hv', ho⟩ := I.hok _ _ e
      exact SeqAt.EqAt.str_list (items := its'.toArray) _ _ ⟨_, ho, rfl, n', rfl⟩ room
    | tup hs ha =>
      rename_i l xs ds
      obtain rfl : v = .ref l := rv
      obtain ⟨its', hv', ho⟩ := isTuple_of I hs
      exact SeqAt.EqAt.str_tuple (items := its') _ _ ho room
    | dct n e z =>
      rename_i l kvs ds
      obtain rfl : v = .ref l := rv
      obtain ⟨_, _, vs, _, o, es, ep, h1, h2, h3, _⟩ := I.hok _ _ e
      exact eq_str_dict _ _ h1 h2.1 h3 room
  · refine ⟨.bl (inS d ss), H, I, ?_, q⟩
    show Value.bool _ = Value.bool _
    congr 1
    rw [← Array.any_toList, e1, ← e2, List.any_map]
    cases d <;> simp [inS, Function.comp_def]

mutual
/-- data whose text is made without trouble: only empty dicts -/
def fineQ : PyData → Prop
  | .int i => i.natAbs < 10 ^ 180
  | .str x => (x.cps.toList.all fun c => decide (c < 16 ^ 8)) = true
  | .list xs => finesQ xs
  | .tuple xs => finesQ xs
  | .dict ds => ds = []
  | _ => True
def finesQ : List PyData → Prop
  | [] => True
  | x :: xs => fineQ x ∧ finesQ xs
end
mutual
theorem fineQ_ok : ∀ d : PyData, fineQ d → d.showable = true ∧ d.leavesShort 200 = true
  | .none, _ => by simp [PyData.showable, PyData.leavesShort]
  | .bool _, _ => by simp [PyData.showable, PyData.leavesShort]
  | .int i, h => by
    simp only [fineQ] at h
    simp only [PyData.showable, PyData.leavesShort, decide_eq_true_eq]
    exact ⟨int_log h, shown_int h⟩
  | .str x, h => by
    simp only [fineQ] at h
    simp only [PyData.showable, PyData.leavesShort, true_and]
    exact h
  | .list xs, h => by
    simp only [fineQ] at h
    simp only [PyData.showable, PyData.leavesShort]
    exact finesQ_ok xs h
  | .tuple xs, h => by
    simp only [fineQ] at h
    simp only [PyData.showable, PyData.leavesShort]
    exact finesQ_ok xs h
  | .dict ds, h => by
    simp only [fineQ] at h
    subst h
    simp [PyData.showable, PyData.showableKv, PyData.leavesShort, PyData.leavesShortKv]
theorem finesQ_ok : ∀ xs : List PyData, finesQ xs → PyData.showableAll xs = true ∧ PyData.leavesShortAll 200 xs = true
  | [], _ => by simp [PyData.showableAll, PyData.leavesShortAll]
  | x :: xs, h => by
    simp only [finesQ] at h
    obtain ⟨a1, a2⟩ := fineQ_ok x h.1
    obtain ⟨b1, b2⟩ := finesQ_ok xs h.2
    simp only [PyData.showableAll, PyData.leavesShortAll, a1, a2, b1, b2, Bool.and_self, and_self]
end
mutual
theorem Dq.reads {p : Addr} {pins : List (Addr × Obj)} {σ : L2.St} {H : Hp} {s : Shared} (I : Inv X pins σ H s) (hs : H sysModules = none) : ∀ (d : PyData) (v : V) (u : Value), fineQ d → Dq X.K p H v d → RelV v u → ∃ as, Reads s.heap u d as ∧ sysModules ∉ as
  | .none, _, u, _, h, r => by
    cases h
    obtain rfl : u = .none := r
    exact ⟨_, .none, by simp⟩
  | .bool b, _, u, _, h, r => by
    cases h
    obtain rfl : u = .bool b := r
    exact ⟨_, .bool b, by simp⟩
  | .int i, _, u, _, h, r => by
    cases h
    obtain ⟨t, rfl⟩ := r
    exact ⟨_, .int i t, by simp⟩
  | .str x, _, u, _, h, r => by
    cases h
    obtain ⟨t, rfl⟩ := r
    exact ⟨_, .str x t, by simp⟩
  | .list ds, _, u, f, h, r => by
    cases h with
    | lst n e ha =>
      rename_i l xs
      obtain rfl : u = .ref l := r
      obtain ⟨_, its', n', hv', ho⟩ := I.hok _ _ e
      obtain ⟨as, ra, na⟩ := DqAll.reads I hs ds xs its' (by simpa only [fineQ] using f) ha hv'
      refine ⟨_, .list ho rfl rfl (by simpa using ra), ?_⟩
      intro z
      rcases List.mem_cons.mp z with z | z
      · rw [z, e] at hs
        cases hs
      · exact na z
  | .tuple ds, _, u, f, h, r => by
    cases h with
    | tup ht ha =>
      rename_i l xs
      obtain rfl : u = .ref l := r
      obtain ⟨its', hv', o, h1, h2, n, h3⟩ := isTuple_of I ht
      obtain ⟨as, ra, na⟩ := DqAll.reads I hs ds xs its'.toList (by simpa only [fineQ] using f) ha hv'
      exact ⟨_, .tuple h1 h2 h3 ra, na⟩
  | .dict ds, _, u, f, h, r => by
    cases h with
    | dct n e z =>
      rename_i l kvs
      obtain rfl : u = .ref l := r
      simp only [fineQ] at f
      subst f
      obtain rfl := z rfl
      obtain ⟨_, _, vs, kv, o, es, ep, h1, h2, h3, _, h4, _⟩ := I.hok _ _ e
      generalize ek : ([] : List (Key × V)) = kk at kv
      cases kv with
      | cons _ _ => cases ek
      | nil =>
        generalize ee : es.toList = el at h4
        cases h4
        have e0 : es = #[] := by
          apply Array.ext'
          simpa using ee
        subst e0
        refine ⟨_, .dict (as := []) (bs := []) h1 h2.1 h3 (by simpa using .nil) (by simpa using .nil), ?_⟩
        intro y
        have y' : sysModules = l := by simpa using y
        rw [y', e] at hs
        cases hs
theorem DqAll.reads {p : Addr} {pins : List (Addr × Obj)} {σ : L2.St} {H : Hp} {s : Shared} (I : Inv X pins σ H s) (hs : H sysModules = none) : ∀ (ds : List PyData) (vs : List V) (us : List Value), finesQ ds → DqAll X.K p H vs ds → Vals vs us → ∃ as, ReadsAll s.heap us ds as ∧ sysModules ∉ as
  | [], _, us, _, h, r => by
    cases h
    generalize e : ([] : List V) = l at r
    cases r with
    | nil => exact ⟨_, .nil, by simp⟩
    | cons _ _ => cases e
  | d :: ds, _, us, f, h, r => by
    cases h with
    | cons h1 h2 =>
      rename_i v vs
      generalize e : v :: vs = l at r
      cases r with
      | nil => cases e
      | cons r1 r2 =>
        obtain ⟨rfl, rfl⟩ := List.cons.inj e
        simp only [finesQ] at f
        obtain ⟨as, ra, na⟩ := Dq.reads I hs d _ _ f.1 h1 r1
        obtain ⟨bs, rb, nb⟩ := DqAll.reads I hs ds _ _ f.2 h2 r2
        exact ⟨_, .cons ra rb, by simp [na, nb]⟩
end
/-- the written part holds the table of modules -/
def Sys (base : Heap) : Prop := ∃ o, base.get? sysModules = some o
theorem Inv.nosys {pins : List (Addr × Obj)} {σ : L2.St} {H : Hp} {s : Shared} (I : Inv X pins σ H s) (hb : Sys X.base) : H sysModules = none := by
  obtain ⟨o, hb⟩ := hb
  obtain ⟨h1, h2⟩ := I.ok.bs _ _ hb
  exact I.base.free _ _ h1 h2 (I.ok.noex _ _ hb)
def rReprQ (K : PySem.W.Frag) : List V → Hp → VK → Prop := fun xs H Q => ∃ (p : Addr) (v : V) (d : PyData), xs = [v] ∧ Dq K p H v d ∧ fineQ d ∧ d.depth ≤ 64 ∧ d.bulk ≤ 80000 ∧ Q (.str d.shown) H
theorem call_reprQ (hb : Sys X.base) (hg : X.A.guards = some []) (hu : X.A.units + 66 < cLine) : CallR X (.builtin "repr") (rReprQ X.K) := by
  intro pins s σ H xs us Q I r h
  obtain ⟨p, v, d, rfl, hd, hf, hdep, hw, q⟩ := h
  obtain ⟨hs, hl⟩ := fineQ_ok d hf
  have hz : d.shown.length ≤ sizeLine := by
    have := PyData.shown_le_bulk 200 (by decide) d hl
    rw [sizeLine_eq]
    omega
  obtain ⟨u, rfl, ru⟩ := vals1 r
  obtain ⟨as, hr, hsm⟩ := Dq.reads I (Inv.nosys I hb) d v u hf hd ru
  cases hr with
  | none => exact P.repr_of_none ⟨.str _, H, I.tok _, ⟨_, rfl⟩, q⟩
  | bool b => exact P.repr_of_bool ⟨.str _, H, I.tok _, ⟨_, rfl⟩, q⟩
  | int i t => exact P.repr_of_int (by simpa [PyData.showable] using hs) ⟨.str _, H, I.tok _, ⟨_, rfl⟩, q⟩
  | str x t => exact P.repr_of_str ⟨.str _, H, I.tok _, ⟨_, rfl⟩, q⟩ (by simpa only [PyData.shown] using hz)
  | list h1 h2 h3 h4 =>
    refine repr_of_reads' (h₀ := s.heap) (.list h1 h2 h3 h4) hs (fun _ => hsm) hg (by omega) (fun _ _ e => e) (fun h' u' tk hk => ?_) hz
    exact ⟨.str _, H, I.kept hk, ⟨_, rfl⟩, q⟩
  | tuple h1 h2 h3 h4 =>
    refine repr_of_reads' (h₀ := s.heap) (.tuple h1 h2 h3 h4) hs (fun _ => hsm) hg (by omega) (fun _ _ e => e) (fun h' u' tk hk => ?_) hz
    exact ⟨.str _, H, I.kept hk, ⟨_, rfl⟩, q⟩
  | dict h1 h2 h3 h4 h5 =>
    refine repr_of_reads' (h₀ := s.heap) (.dict h1 h2 h3 h4 h5) hs (fun _ => hsm) hg (by omega) (fun _ _ e => e) (fun h' u' tk hk => ?_) hz
    exact ⟨.str _, H, I.kept hk, ⟨_, rfl⟩, q⟩

def rInLD (K : PySem.W.Frag) : R2 := fun x y H Q => ∃ (ds : List PyData) (d : PyData), Dp K H y (.list ds) ∧ Dp K H x d ∧ PyData.canLayAll0 ds = true ∧ d.canLay0 = true ∧ d.depth ≤ 60 ∧ Q (.bl (ds.any fun e => e.eqv d)) H
theorem op_inLD (hu : X.A.units + 66 < cLine) : OpR X (compareOp .In) (rInLD X.K) := by
  rintro pins s σ H x y v u Q I rv ru ⟨ds, d, hy, hx, c1, c2, c3, q⟩
  obtain ⟨as, r1⟩ := Dp.reads I _ _ _ hy ru
  obtain ⟨bs, r2⟩ := Dp.reads I _ _ _ hx rv
  refine SeqAt.in_list_reads r1 r2 c1 c2 ?_ ⟨.bl _, H, I, rfl, q⟩
  have : min (PyData.depthAll ds) d.depth ≤ 60 := Nat.le_trans (Nat.min_le_right _ _) c3
  omega

end
end Rp

namespace Rp
open PySem L2 PyProof.Rows
theorem law_endS {l : PySem.W.OpenLaw} {n k : Nat} {q : Program} {loose : List Str} {XP : (Str → Option Value) → Heap → Prop} {YP : World → Heap → Prop} {d : DefRec} {K : Params → PySem.W.Frag} {sp : PySem.W.Frag → Sp} {x : Str}
    (hn : l.most = some n) (hn2 : n ≤ sizeLine) (hdf : d.params.defaults = []) (hr : Room k callerA) (himp : importsNone q = true)
    (hY : ∀ (w : World) (h : Heap), YP w h → (K w.params).In h)
    (F : ∀ (w : World) (mg : Str → Option Value) (fa : Addr) (h : Heap), (K w.params).In h → h.Ns mainGlobals mg → mg d.name = some (.ref fa) →
      ∃ fd : FuncData, (∀ (s : Shared) (u : Value), BindsTo s fd ⟨[u], []⟩ [(x, u)]) ∧
        ∀ base : Heap, (K w.params).In base → base.Ns mainGlobals mg → Sys base → FnG l.prog w (K w.params) mg base CX0 k fa fd [x] (sp (K w.params)))
    (hsp : ∀ (K : PySem.W.Frag) (H : Hp) (a : Addr) (ns : List Int), ns.length ≤ n → Only H → SqL K H a (ns.map V.int) → sp K [.ref a] H (fun v _ => v = .bl true) fun _ _ _ => False) :
    PySem.W.WalkO q loose XP YP l.row.toRowW d [] (fun f vs => PySem.call f vs) := by
  refine Att.attach_call hn hdf fun w s₀ s₁ mg mb fa o pm cd doc a vs ns G Y ho hd hcd hmg hobj hints hlen hgens => ?_
  have kin := hY w _ Y
  obtain ⟨fd, bd, FF⟩ := F w mg fa _ kin G.T.g hmg
  obtain ⟨H, hO, hS, hok, only, notK⟩ := script_heap (P := l.prog) (w := w) kin hobj hints (Nat.le_trans hlen hn2)
  have free : ∀ {b : Addr} {ob : Obj} {es : Array DictEntry} {ep : Nat}, s₁.heap.get? b = some ob → ob.data = .dict es ep → H b = none := by
    intro b ob es ep h1 h2
    cases c : H b with
    | none => rfl
    | some u =>
      have e : b = a := only b (by rw [c]; exact fun z => nomatch z)
      rw [e, hobj] at h1
      have h3 := congrArg Obj.data (Option.some.inj h1)
      rw [h2] at h3
      exact nomatch h3
  have ns' : ∀ {b : Addr} {m : Str → Option Value}, s₁.heap.Ns b m → (hidT s₁.heap H).Ns b m := by
    rintro b m ⟨ob, es, ep, h1, h2, h3⟩
    exact ⟨ob, es, ep, hidT_get h1 (free h1 h2), h2, h3⟩
  have kinB : (K w.params).In (hidT s₁.heap H) := fun b ob e => hidT_get (kin b ob e) (notK b ob e)
  have lim : (hidT s₁.heap H).NoLimit := by
    obtain ⟨mc, h1, h2⟩ := G.T.nolimit
    exact ⟨mc, ns' h1, h2⟩
  have sys : Sys (hidT s₁.heap H) := by
    obtain ⟨mm, hm, _⟩ := (G.T.seer himp).mods
    obtain ⟨ob, es, ep, h1, _⟩ := ns' hm
    exact ⟨ob, h1⟩
  have en : Env0 l.prog w (K w.params) mg (hidT s₁.heap H) callerA [] s₁ H :=
    ⟨rfl, ⟨kinB, ns' G.T.g, ⟨mb, ns' G.T.b, G.T.builtins⟩, lim⟩, fun b ob e => of_hidT e, Nat.le_of_eq (hidT_size _ _), trivial, (fun b z => nomatch z), hok, .of_eq hgens⟩
  refine codeAny_mono ((FF _ kinB (ns' G.T.g) sys).run callerA [] s₁ H ⟨[.ref a], []⟩ [.ref a] [.ref a] _ _ hr rfl en (bd s₁ (.ref a)) (.cons rfl .nil) (hsp _ H a ns hlen hO hS)) fun r s' z => ?_
  cases r with
  | error e => exact False.elim z
  | ok fl =>
    cases fl with
    | next => exact False.elim z
    | brk => exact False.elim z
    | cont => exact False.elim z
    | ret u =>
      obtain ⟨v, H', os, bare, un, hok', rr, e⟩ := z
      have e' : v = .bl true := e
      subst e'
      obtain rfl : u = Value.bool true := rr
      refine ⟨rfl, OldK.of_keep fun b ob hb => ?_, os, bare⟩
      cases c : H b with
      | none => exact un.keep b ob hb c (fun z => nomatch z) (fun z => nomatch z)
      | some u =>
        rcases hO b with z | ⟨ox, xs, z⟩
        · rw [c] at z
          cases z
        · obtain ⟨e1, _⟩ := hok b _ z
          obtain ⟨e2, _⟩ := hok' b _ (un.frzs b ox _ z)
          rw [hb] at e1
          cases e1
          exact e2
end Rp
/-! Ex: errors: what a clause names, calls that raise nothing after all. -/
namespace Rp
open PySem L2 PyProof.Rows
/-- an error of the class S is what «except T» names, when S stands below T -/
theorem exm_sub {K : PySem.W.Frag} {S T : Addr} {b : Bool} (h1 : PySem.W.subIn K (.ref T) (.type "BaseException") = some true) (h2 : PySem.W.isClsIn K T = true) (h3 : PySem.W.typeIn K (.ref T) = some (.type "type")) (h4 : PySem.W.subIn K (.ref S) (.ref T) = some b) :
    PySem.W.exmOne K (.ref S) (.ref T) = some b := by
  have e1 : (PySem.W.subIn K (.ref T) (.type "BaseException") == some true) = true := by rw [h1] <;> rfl
  have e2 : ((PySem.W.clsIn K T).isSome && PySem.W.typeIn K (.ref T) == some (.type "type")) = true := by
    have h2' : (PySem.W.clsIn K T).isSome = true := h2
    rw [h2', h3] <;> rfl
  show (if (PySem.W.subIn K (.ref T) (.type "BaseException") == some true) = true then (if ((PySem.W.clsIn K T).isSome && PySem.W.typeIn K (.ref T) == some (.type "type")) = true then PySem.W.subIn K (.ref S) (.ref T) else none) else none) = some b
  rw [if_pos e1, if_pos e2]
  exact h4
/-- a def that may raise, called where it does not -/
theorem passN {X : Cx} : Passes (L2.CX X.prog X.w) X E0 := by
  rintro pins σ H s e s' _ ⟨_, _, _, _, _, _, _, _, _, _, _, _, h⟩
  exact h.elim
/-- the heap without what stands at L -/
def mask (H : Hp) (L : Addr) : Hp := fun b => if b = L then none else H b
theorem same_mask (H : Hp) (L : Addr) : Same (mask H L) H := fun b o h => by
  unfold mask at h
  split at h
  · cases h
  · exact h
theorem mask_new {H : Hp} {L : Addr} {o : HO} (h : H L = none) : Same H (mask (upd H L o) L) := fun b u e => by
  have n : b ≠ L := fun z => by rw [z, h] at e; cases e
  show (if b = L then none else upd H L o b) = some u
  rw [if_neg n, upd_ne n]
  exact e
theorem mask_upd {H : Hp} {L : Addr} {o : HO} : mask (upd H L o) L = mask H L := by
  funext b
  unfold mask
  split
  · rfl
  · rename_i n
    exact upd_ne n
theorem mask_mono {H H' : Hp} {L : Addr} (s : Same H H') : Same (mask H L) (mask H' L) := fun b o h => by
  unfold mask at h ⊢
  split at h
  · cases h
  · rename_i n
    rw [if_neg n]
    exact s b o h
theorem mask_at {H : Hp} {L b : Addr} {o : HO} (n : b ≠ L) (h : H b = some o) : mask H L b = some o := by
  unfold mask
  rw [if_neg n]
  exact h
theorem mask_none {H : Hp} {L : Addr} : mask H L L = none := by
  unfold mask
  rw [if_pos rfl]
theorem sx_mask {H : Hp} {L : Addr} : Sx L H (mask H L) := fun b o n h => mask_at n h
end Rp
/-! En: enumerate over a tuple. -/
namespace Rp
open PySem L2 PyProof.Rows
theorem both {M : Model} {A : Around} {α : Type} {Q : α → Shared → Prop} {E : Value → Shared → Prop} {s : Shared} {f : Bool → Sem α} {b : Bool} (h : ∀ b, wpAny M A (f b) Q E s) : wpAny M A (f b) Q E s := h b
theorem meets_enumerate_newT (l : Addr) (items : Array Value) : Meets (Builtin.«enumerate.__new__» { pos := [Value.type "enumerate", Value.ref l] }) fun _ R s => s.heap.IsTuple l items ∧
    R (.ok (.ret (.ref (s.heap.push { cls := .type "tuple_iterator", data := .fields #[.ref l, .int 0 0] }).objs.size)))
      { s with heap := (s.heap.push { cls := .type "tuple_iterator", data := .fields #[.ref l, .int 0 0] }).push { cls := .type "enumerate", data := .fields #[.none, .bool false, .ref s.heap.objs.size, rawInt 0, .none, .none] } } := by
  refine Meets.of_wp fun prog w A R s hh => ?_
  obtain ⟨hl, h⟩ := hh
  have hsub := sub_enumerate
  obtain ⟨hp, g, d, tk, os⟩ := s
  refine wpAny_bind ?_
  refine wpAny_bind (wpAny_pure ?_)
  refine wpAny_ite_false rfl ?_
  refine wpAny_bind (wpAny_of_eq hsub ?_)
  refine wpAny_ite_false rfl ?_
  refine wpAny_pure ?_
  refine wpAny_ite_true rfl ?_
  refine wpAny_bind ?_
  refine wpAny_bind (wpAny_stack_any fun st => ?_)
  refine wpAny_pure ?_
  have fin : wpAny (model prog w) A.in1 (do
              let __do_lift ← pyIter (Value.ref l)
              let __do_lift ←
                Builtin.SmallTypes.newRecord (Value.type "enumerate")
                    (Builtin.SmallTypes.ownedTupleFields ++ [__do_lift, rawInt 0, Value.none, Value.none])
              ret __do_lift) (fun fin s' => ∃ v, fin = Fin.done (Flow.ret v) ∧ R (Except.ok (Flow.ret v)) s') (fun e s' => R (Except.error e) s')
    { heap := hp, gens := g, drawn := d, toks := tk, os := os } := by
    refine wpAny_bind (wpAny_pyIter_tuple hl ?_)
    refine wpAny_bind ?_
    unfold Builtin.SmallTypes.newRecord
    refine wpAny_newObj_type ?_ (by show (6 : Nat) ≤ sizeLine + 2; decide)
    exact wpAny_pure ⟨_, rfl, h⟩
  split
  · generalize (_ == Value.type "enumerate") = short
    cases short with
    | true =>
      refine wpAny_ite_true rfl ?_
      refine wpAny_bind (wpAny_pure ?_)
      exact fin
    | false =>
      refine wpAny_ite_false rfl ?_
      refine wpAny_bind (wpAny_pure ?_)
      exact fin
  · refine wpAny_ite_false rfl ?_
    refine wpAny_bind (wpAny_pure ?_)
    exact fin
theorem call_enumerate_tup {prog : Program} {w : World} {A : Around} {E : Value → Shared → Prop} {s : Shared} {l : Addr} {items : Array Value} {Q : Value → Shared → Prop} (hl : s.heap.IsTuple l items)
    (h : ∀ h' : Heap, IsEnum h' (s.heap.objs.size + 1) s.heap.objs.size 0 .none → h'.IsTupleIter s.heap.objs.size l 0 → h'.objs.size = s.heap.objs.size + 2 → (∀ (b : Addr) (o : Obj), s.heap.get? b = some o → h'.get? b = some o) →
      Q (.ref (s.heap.objs.size + 1)) { s with heap := h' }) : wpAny (model prog w) A (call (.type "enumerate") [.ref l]) Q E s := by
  refine callType_new F.called_enumerate (by decide) (F.typeCall_enumerate_1 _) (F.newCall_enumerate_1 _) (fun _ => F.args_object_init_2 _ _) F.entry_enumerate_new (meets_enumerate_newT l items) ?_
  refine ⟨hl, ?_⟩
  have e1 : (s.heap.push { cls := .type "tuple_iterator", data := .fields #[.ref l, .int 0 0] }).objs.size = s.heap.objs.size + 1 := Heap.size_push ..
  have g1 := Heap.get?_push_size s.heap (o := { cls := .type "tuple_iterator", data := .fields #[.ref l, .int 0 0] }) rfl
  have g2 := Heap.get?_push_size (s.heap.push { cls := .type "tuple_iterator", data := .fields #[.ref l, .int 0 0] }) (o := { cls := .type "enumerate", data := .fields #[.none, .bool false, .ref s.heap.objs.size, rawInt 0, .none, .none] }) rfl
  rw [e1] at g2
  rw [e1]
  refine ⟨⟨_, g2, rfl⟩, h _ g2 ⟨_, Heap.get?_push_of_some _ g1, rfl, rfl⟩ ?_ fun b o e => Heap.get?_push_of_some _ (Heap.get?_push_of_some _ e)⟩
  rw [Heap.size_push, Heap.size_push]
theorem draws_tup {prog : Program} {w : World} {A : Around} (hh : A.handled = none) (it t : Addr) (hne : t ≠ it) (items : Array Value) :
    Draws prog w A it [it, t] items.size (fun i v => items[i]? = some v) (fun i h => h.IsTupleIter it t i ∧ h.IsTuple t items) where
  live := fun i h ⟨⟨o, ho, _⟩, _⟩ => ⟨o, ho⟩
  frame := fun i h h' ⟨⟨o, ho, h1⟩, ⟨o2, ho2, h2⟩⟩ k => ⟨⟨o, k it (by simp) o ho, h1⟩, ⟨o2, k t (by simp) o2 ho2, h2⟩⟩
  item := fun i s Q E hi ⟨h1, h2⟩ q => by
    obtain ⟨o2, ho2, h3⟩ := id h2
    refine RZ.nextOf_tuple_item h1 h2 (Array.getElem?_eq_getElem hi) fun h' h4 sb => ?_
    exact q _ h' s.toks (Array.getElem?_eq_getElem hi) ⟨h4, o2, (sb.2 t hne).trans ho2, h3⟩ sb
  done := fun s Q E ⟨h1, h2⟩ q => RZ.nextOf_tuple_end hh h1 h2 (Array.getElem?_eq_none (Nat.le_refl _)) fun h' e x k => q h' e x k
theorem draws_end {prog : Program} {w : World} {A : Around} (hh : A.handled = none) (it t : Addr) (items : Array Value) {i : Nat} (hi : items.size ≤ i) :
    Draws prog w A it [it, t] i (fun _ _ => False) (fun j h => j = i ∧ h.IsTupleIter it t i ∧ h.IsTuple t items) where
  live := fun _ h ⟨_, ⟨o, ho, _⟩, _⟩ => ⟨o, ho⟩
  frame := fun _ h h' ⟨e, ⟨o, ho, h1⟩, ⟨o2, ho2, h2⟩⟩ k => ⟨e, ⟨o, k it (by simp) o ho, h1⟩, ⟨o2, k t (by simp) o2 ho2, h2⟩⟩
  item := fun j s Q E hj ⟨e, _⟩ _ => absurd hj (by omega)
  done := fun s Q E ⟨_, h1, h2⟩ q => RZ.nextOf_tuple_end hh h1 h2 (Array.getElem?_eq_none hi) fun h' e x k => q h' e x k
def IteT (K : PySem.W.Frag) (a : Addr) : It where
  go := fun i H => ∃ xs x, SqT K H a xs ∧ xs[i]? = some x
  yld := fun i H v H' => ∃ T x, v = V.ref T ∧ H T = none ∧ H' = upd H T (.tup [.int (i : Nat), x]) ∧ ∀ xs : List V, SqT K H a xs → xs[i]? = some x
  stop := fun i H => ∃ xs, SqT K H a xs ∧ xs.length ≤ i
theorem turn_enumT {P : Program} {w : World} {K : PySem.W.Frag} {elts : List Expr} {kk : Nat} {tpos : Pos} (a e it : Addr) :
    Turn P w K (.Tuple elts kk tpos) (IteT K a) [e, it] e fun i h => (∃ old, IsEnum h e it (i : Nat) old) ∧ h.IsTupleIter it a i ∧ e ≠ it ∧ a ≠ it ∧ a ≠ e := by
  refine ⟨by simp, ?_, ?_, ?_, ?_, ?_⟩
  · rintro i h ⟨⟨old, he⟩, ⟨o, ho, h1, h2⟩, hne⟩ b hb
    simp only [List.mem_cons, List.not_mem_nil, or_false] at hb
    rcases hb with rfl | rfl
    · exact ⟨_, he, fun v z => by cases z⟩
    · exact ⟨o, ho, fun v z => by rw [h2] at z; cases z⟩
  · rintro i h h' ⟨⟨old, he⟩, ⟨o, ho, h1, h2⟩, hne⟩ k
    exact ⟨⟨old, k e (by simp) _ he⟩, ⟨o, k it (by simp) _ ho, h1, h2⟩, hne⟩
  · rintro X rfl rfl rfl hcalm i pins s σ H E I fp ⟨⟨old, he⟩, hit, hne, ha1, ha2⟩ ⟨xs, x, hx, hxi⟩
    obtain ⟨its, hvals, ht, hz⟩ := I.tuple hx
    have hh : X.A.handled = none := I.ok.hd hcalm
    have W := WalksT.enumerateD (prog := X.prog) (w := X.w) (A := X.A) (draws_tup (A := X.A.in1) hh it a ha1 its.toArray) e hne (by simp [hne, Ne.symm ha2]) (by simp)
    obtain ⟨u, hu, hru⟩ := hvals.get hxi
    have hlt : i < its.length := (List.getElem?_eq_some_iff.mp hu).1
    refine W.item i s _ E (by simpa using hlt) ⟨⟨old, he⟩, hit, ht⟩ (fun T vals h' tk hv hT hTup hMid fr => ⟨_, rfl, ?_⟩)
    refine W.go elts kk tpos i T _ _ E hMid (fun h'' hSt fr2 => ?_)
    obtain ⟨tt, y, hy, rfl⟩ := hv
    have hy' : its[i]? = some y := by simpa using hy
    rw [hu] at hy'
    obtain rfl := Option.some.inj hy'
    have hTn : ¬ T ∈ [e, it] := W.apart i T h' hMid
    obtain ⟨oT, g1, g2, n, g3⟩ := hTup
    have fT : H T = none := I.hok.fresh hT
    refine ⟨.ref T, upd H T (.tup [.int (i : Nat), x]), I.turnedNew (ch := [e, it]) (h' := h'') (fun b o hb ho => fr2 b o hb (fr b o hb ho)) fp hT ?_, rfl, ⟨T, x, rfl, fT, rfl, fun ys hys => by rw [I.tuple_inj hys hx]; exact hxi⟩, ⟨hSt.1, hSt.2.1, hne, ha1, ha2⟩, fun b hb => ?_⟩
    · exact ⟨(by show 2 ≤ sizeLine; decide), [_, _], .cons ⟨_, rfl⟩ (.cons hru .nil), oT, fr2 T oT hTn g1, g2, n, g3⟩
    · have nb : b ≠ T := fun z => hTn (z ▸ hb)
      rw [upd_ne nb]
      exact (fp b hb).1
  · rintro X rfl rfl rfl hcalm i pins s σ H E I fp ⟨⟨old, he⟩, hit, hne, ha1, ha2⟩ ⟨xs, hx, hxi⟩
    obtain ⟨its, hvals, ht, hz⟩ := I.tuple hx
    have hh : X.A.handled = none := I.ok.hd hcalm
    have hl : its.toArray.size ≤ i := by
      rw [List.size_toArray, ← hvals.length]
      exact hxi
    have W := WalksT.enumerateD (prog := X.prog) (w := X.w) (A := X.A) (draws_end (A := X.A.in1) hh it a its.toArray hl) e hne (by simp [hne, Ne.symm ha2]) (by simp)
    exact W.done s _ E ⟨⟨old, he⟩, rfl, hit, ht⟩ (fun h' tk fr => ⟨rfl, I.turnedL (ch := [e, it]) fr fp⟩)
  · rintro A i s Q E ⟨⟨old, he⟩, hit, hne⟩ q
    exact wpAny_pyIter_enum he q
section
variable {X : Cx}
def iEnumT (K : PySem.W.Frag) (ta : TA) : TI := fun σ H R => ta σ H fun vs H1 => ∃ a xs, vs = [V.ref a] ∧ SqT K H1 a xs ∧ R (IteT K a) H1
theorem pi_enumT {e : Expr} {ta : TA} {p pos tpos : Pos} {elts : List Expr} {kk : Nat} (hg : Gl X "enumerate") (hm : X.mg "enumerate" = none) (he : PA X [e] ta)
    (hs : starEach [e] X.env = [(false, eval e X.env)] := by rfl) : PI X (.Tuple elts kk tpos) (.Call (.Name "enumerate" p) [e] [] pos) (iEnumT X.K ta) := by
  refine ⟨fun pins s σ H R I h => ?_⟩
  refine Call_ (ld_blt I hg hm boot_enumerate (callWith_type1 (he := hs) (thn (he.run pos pins s σ H _ I h) fun us s1 x => ?_)))
  obtain ⟨vs, H1, I1, r1, a, xs, rfl, hq, q⟩ := x
  cases r1 with
  | cons r rr =>
  cases rr
  cases r
  obtain ⟨its, rv, p', hz⟩ := I1.tuple hq
  have hlt : a < s1.heap.objs.size := by
    obtain ⟨o, ho, _⟩ := p'
    exact Heap.lt_size ho
  refine call_enumerate_tup p' fun h' he hit hsz hk => wpAny_pyIter_enum he ?_
  have I2 := I1.kept (t' := s1.toks) hk
  refine ⟨s1.heap.objs.size + 1, [s1.heap.objs.size + 1, s1.heap.objs.size], _, IteT X.K a, H1, rfl, I2, turn_enumT a _ _, ⟨⟨_, he⟩, hit, Nat.succ_ne_self _, Nat.ne_of_lt hlt, Nat.ne_of_lt (Nat.lt_succ_of_lt hlt)⟩, fun b hb => ?_, q⟩
  have hb2 : s1.heap.objs.size ≤ b := by
    simp only [List.mem_cons, List.not_mem_nil, or_false] at hb
    rcases hb with rfl | rfl
    · exact Nat.le_succ _
    · exact Nat.le_refl _
  exact I1.fpOk hb2 (I1.hok.fresh hb2)
end
/-- a comprehension, a loop over it -/
theorem walk_enumT {K : PySem.W.Frag} {a : Addr} {xs : List V} : Walk (IteT K a) xs.length (fun H => SqT K H a xs) (YPair (fun i => some (.int (i : Nat))) (fun i => xs[i]?)) := by
  refine ⟨fun i H hi h => ⟨xs, _, h, List.getElem?_eq_getElem hi⟩, fun H h => ⟨xs, h, Nat.le_refl _⟩, fun i H x H' hi h y => ?_⟩
  obtain ⟨T, z, rfl, hT, rfl, f⟩ := y
  exact ⟨T, _, z, rfl, hT, rfl, rfl, f xs h⟩
end Rp
/-! St: sorted of lists of tuples of ints, of any lengths above 0. -/
namespace Rp
open PySem L2 PyProof.Rows
/-- a tuple of these ints -/
def IsTI (h : Heap) (v : Value) (ns : List Int) : Prop := ∃ (a : Addr) (o : Obj) (its : List Value) (n : Nat), v = .ref a ∧ h.get? a = some o ∧ o.cls = .type "tuple" ∧ o.data = .seq its.toArray n ∧ Vals (ns.map V.int) its
theorem lex_go {prog : Program} {w : World} {A : Around} {s : Shared} {fin : Bool} {Q : Bool → Shared → Prop} : ∀ (xs ys : List Int) (us vs : List Value) (i : Nat), Vals (xs.map V.int) us → Vals (ys.map V.int) vs → fin = decide (xs.length < ys.length) → Q (HT.lexLt xs ys) s →
    W.KatLex prog w A true fin Q (us.zip vs) i s
  | [], [], us, vs, i, hu, hv, hf, q => by
    cases hu
    refine W.kat_nil ?_
    rw [hf]
    exact q
  | [], y :: ys, us, vs, i, hu, hv, hf, q => by
    cases hu
    refine W.kat_nil ?_
    rw [hf]
    exact q
  | x :: xs, [], us, vs, i, hu, hv, hf, q => by
    cases hv
    have e : us.zip ([] : List Value) = [] := by simp
    rw [e]
    refine W.kat_nil ?_
    rw [hf]
    exact q
  | x :: xs, y :: ys, us, vs, i, hu, hv, hf, q => by
    cases hu with
    | cons ru hu =>
    cases hv with
    | cons rv hv =>
    obtain ⟨t, rfl⟩ := ru
    obtain ⟨t', rfl⟩ := rv
    rw [List.zip_cons_cons]
    refine W.kat_cons ?_
    refine SeqAt.EqAt.int_int x t y t' prog w _ _ ?_
    refine W.kat_go (fun e => ?_) (fun e => ?_)
    · have exy : x = y := by simpa using e
      refine W.kat_yes (lex_go xs ys _ _ (i + 1) hu hv ?_ ?_)
      · rw [hf]
        simp
      · rw [HT.lexLt_cons, if_pos exy] at q
        exact q
    · have exy : ¬ x = y := by simpa using e
      rw [HT.lexLt_cons, if_neg exy] at q
      refine W.kat_no ?_
      cases i with
      | zero => exact oneLt_int q
      | succ i => exact W.kat_one _ _ (lt_int q)
theorem ti_cmp {prog : Program} {w : World} {A : Around} {s : Shared} {vs : List Value} {k : Value → List Int} (h : ∀ v ∈ vs, IsTI s.heap v (k v)) :
    SrtO.Cmp prog w A s (tuples' true) (fun p => p.fst ∈ vs) (SrtO.lt2 fun v u => HT.lexLt (k v) (k u)) := by
  intro p q hp hq
  obtain ⟨a, o, its, n, e, ho, hc, hd, hv⟩ := h p.fst hp
  obtain ⟨a', o', its', n', e', ho', hc', hd', hv'⟩ := h q.fst hq
  rw [e, e']
  refine W.kat_lt ho hd ho' hd' ?_
  refine lex_go (k p.fst) (k q.fst) _ _ 0 hv hv' ?_ ?_
  · have l1 := hv.length
    have l2 := hv'.length
    rw [List.length_map] at l1 l2
    rw [List.size_toArray, List.size_toArray, ← l1, ← l2]
  · refine ⟨rfl, ?_⟩
    show HT.lexLt (k p.fst) (k q.fst) = HT.lexLt (k p.fst) (k q.fst)
    rfl
theorem ti_tups {h : Heap} : ∀ {vs : List Value} {k : Value → List Int}, (∀ v ∈ vs, IsTI h v (k v) ∧ k v ≠ []) → ∃ fs, W.KatTups h vs fs ∧ fs.length = vs.length ∧ ∀ f ∈ fs, ∃ x t, f = Value.int x t
  | [], _, _ => ⟨[], trivial, rfl, fun f hf => by cases hf⟩
  | v :: vs, k, hh => by
    obtain ⟨fs, h1, h2, h3⟩ := ti_tups (vs := vs) (k := k) fun u hu => hh u (List.mem_cons_of_mem _ hu)
    obtain ⟨⟨a, o, its, n, rfl, ho, hc, hd, hv⟩, hne⟩ := hh v (List.mem_cons_self ..)
    cases ek : k (.ref a) with
    | nil => exact absurd ek hne
    | cons x xs =>
      rw [ek] at hv
      cases hv with
      | cons rx hv =>
      obtain ⟨t, rfl⟩ := rx
      refine ⟨.int x t :: fs, ?_, by rw [List.length_cons, h2, List.length_cons], fun f hf => ?_⟩
      · unfold W.KatTups
        exact ⟨⟨a, o, _, n, rfl, ho, hc, hd, rfl⟩, h1⟩
      · rcases List.mem_cons.mp hf with rfl | hf
        · exact ⟨x, t, rfl⟩
        · exact h3 f hf
theorem ti_keeps {h h' : Heap} {v : Value} {ns : List Int} (x : IsTI h v ns) (k : ∀ (b : Addr) (o : Obj), h.get? b = some o → o.cls = .type "tuple" → h'.get? b = some o) : IsTI h' v ns := by
  obtain ⟨a, o, its, n, rfl, ho, hc, hd, hv⟩ := x
  exact ⟨a, o, its, n, rfl, k a o ho hc, hc, hd, hv⟩
theorem ti_sortable {prog : Program} {w : World} {A : Around} {s : Shared} {a : Addr} {vs : List Value} {k : Value → List Int} (h0 : 0 < vs.length) (hp : ∀ v ∈ vs, IsTI s.heap v (k v) ∧ k v ≠ []) (ha : ∀ o, s.heap.get? a = some o → o.cls ≠ .type "tuple") :
    SrtO.SortableO prog w A s a vs fun v u => HT.lexLt (k v) (k u) := by
  intro h' keep
  have hp' : ∀ v ∈ vs, IsTI h' v (k v) ∧ k v ≠ [] := fun v hv => ⟨ti_keeps (hp v hv).1 fun b o e c => keep b o (fun z => ha o (z ▸ e) c) e, (hp v hv).2⟩
  obtain ⟨fs, h1, h2, h3⟩ := ti_tups hp'
  refine ⟨tuples' true, fun Q E hq => ?_, ti_cmp fun v hv => (hp' v hv).1⟩
  refine W.kat_kind (T := .type "int") h1 (by omega) (fun f hf => ?_) (by decide) ?_
  · obtain ⟨x, t, rfl⟩ := h3 f hf
    exact W.Looks.now
  · have e : (Value.type "int" != Value.type "tuple") = true := by decide
    rw [e]
    exact hq
section
variable {X : Cx}
def rSortTI (K : PySem.W.Frag) : List V → Hp → VK → Prop := fun vs H Q => ∃ (a : Addr) (xs : List V) (k : V → List Int), vs = [V.ref a] ∧ SqL K H a xs ∧ (∀ x ∈ xs, ∃ t, x = V.ref t ∧ SqT K H t ((k x).map V.int) ∧ k x ≠ []) ∧
  ∀ (ys : List V) (p : Addr), SrtO.Srtd (fun x y => HT.lexLt (k x) (k y)) ys → SrtO.Stb (fun x y => HT.lexLt (k x) (k y)) ys xs → H p = none → Q (.ref p) (upd H p (.lst ys))
theorem cr_sortTI : CallR X (.builtin "sorted") (rSortTI X.K) := by
  intro pins s σ H vs us Q I r h
  obtain ⟨a, xs, k, rfl, hs, hx, q⟩ := h
  obtain ⟨its, rv, hl, hz⟩ := I.list hs
  obtain ⟨u, rfl, ru⟩ := vals1 r
  cases ru
  obtain ⟨e1, e2⟩ := refs_back rv fun x m => let ⟨t, e, _⟩ := hx x m; ⟨t, e⟩
  have hlen : xs.length = its.length := rv.length
  have hti : ∀ v ∈ its, IsTI s.heap v (k (backV v)) ∧ k (backV v) ≠ [] := by
    intro v hv
    obtain ⟨t, rfl⟩ := e2 v hv
    have hm : V.ref t ∈ xs := by rw [e1]; exact List.mem_map.mpr ⟨_, hv, rfl⟩
    obtain ⟨t', e, ht, hne⟩ := hx _ hm
    cases e
    obtain ⟨is, rvs, ⟨o, ho, hc, n, hd⟩, _⟩ := I.tuple ht
    exact ⟨⟨t, o, is, n, rfl, ho, hc, hd, rvs⟩, hne⟩
  refine SrtO.sorted_ord (ltv := fun v u => HT.lexLt (k (backV v)) (k (backV u))) (NtL.swo_lexL _) hl.isList (by rw [← hlen]; exact hz) (fun h2 h₁ b hb hk => ?_) (fun out h1 h2 => ?_)
  · refine ti_sortable (by omega) (fun v hv => ⟨ti_keeps (hti v hv).1 fun c o e _ => (hk c o e).2, (hti v hv).2⟩) (fun o ho => ?_)
    rw [hb] at ho
    cases ho
    show (Value.type "list") ≠ Value.type "tuple"
    decide
  · have h3 : ∀ u ∈ out, ∃ t, u = Value.ref t := fun u hu => e2 u (h2.perm.mem_iff.mp hu)
    have hb : SrtO.Stb (fun x y => HT.lexLt (k x) (k y)) (out.map backV) xs := by
      rw [e1]
      exact SrtO.Stb.map (NtL.swo_lexL k) backV h2
    have hd : s.heap.objs.size ≤ s.heap.objs.size + 1 := Nat.le_succ _
    obtain ⟨e, he⟩ := sortedAll_at s.heap its out.toArray
    refine ⟨.ref _, upd H _ (.lst (out.map backV)), I.laid (fun b o hbo => sortedAll_old hbo) hd ?_, rfl, q _ _ (SrtO.srtd_map h1) hb (I.hok.fresh hd)⟩
    exact ⟨by rw [hb.len]; exact hz, out, e, vals_back h3, he⟩
end
end Rp
/-! Su: sorted of a list of non-empty tuples of ints that stand in order already. -/
namespace Rp
open PySem L2 PyProof.Rows
theorem ti_one : ∀ {ns ms : List Int} {its : List Value}, Vals (ns.map V.int) its → Vals (ms.map V.int) its → ns = ms
  | [], [], _, _, _ => rfl
  | [], m :: ms, _, h1, h2 => by
    cases h1
    cases h2
  | n :: ns, [], _, h1, h2 => by
    cases h2
    cases h1
  | n :: ns, m :: ms, _, h1, h2 => by
    cases h1 with
    | cons r1 h1 =>
    cases h2 with
    | cons r2 h2 =>
    obtain ⟨t, rfl⟩ := r1
    obtain ⟨t', e⟩ := r2
    cases e
    rw [ti_one h1 h2]
theorem isTI_one {h : Heap} {v : Value} {ns ms : List Int} (h1 : IsTI h v ns) (h2 : IsTI h v ms) : ns = ms := by
  obtain ⟨a, o, its, n, rfl, ho, _, hd, hv⟩ := h1
  obtain ⟨a', o', its', n', e, ho', _, hd', hv'⟩ := h2
  cases e
  rw [ho] at ho'
  cases ho'
  rw [hd] at hd'
  cases hd'
  exact ti_one hv hv'
open Classical in
/-- the ints of a tuple -/
noncomputable def keyTI (h : Heap) (v : Value) : List Int := if e : ∃ ns, IsTI h v ns then e.choose else []
theorem keyTI_of {h : Heap} {v : Value} {ns : List Int} (e : IsTI h v ns) : keyTI h v = ns := by
  have e' : ∃ ns, IsTI h v ns := ⟨ns, e⟩
  unfold keyTI
  rw [dif_pos e']
  exact isTI_one e'.choose_spec e
inductive KeysT (K : PySem.W.Frag) (H : Hp) : List V → List (List Int) → Prop
  | nil : KeysT K H [] []
  | cons {t : Addr} {ns : List Int} {xs : List V} {ks : List (List Int)} (h : SqT K H t (ns.map V.int)) (ne : ns ≠ []) (r : KeysT K H xs ks) : KeysT K H (.ref t :: xs) (ns :: ks)
section
variable {X : Cx}
def rSortTS (K : PySem.W.Frag) : List V → Hp → VK → Prop := fun vs H Q => ∃ (a : Addr) (xs : List V) (ks : List (List Int)), vs = [V.ref a] ∧ SqL K H a xs ∧ KeysT K H xs ks ∧ ks.Pairwise (fun x y => HT.lexLt y x = false) ∧
  ∀ (p : Addr), H p = none → Q (.ref p) (upd H p (.lst xs))
theorem keysT_vals {pins : List (Addr × Obj)} {σ : L2.St} {H : Hp} {s : Shared} (I : L2.Inv X pins σ H s) : ∀ {xs : List V} {ks : List (List Int)} {its : List Value}, KeysT X.K H xs ks → Vals xs its →
    its.map (keyTI s.heap) = ks ∧ (∀ v ∈ its, IsTI s.heap v (keyTI s.heap v) ∧ keyTI s.heap v ≠ []) ∧ its.map backV = xs ∧ ∀ v ∈ its, ∃ t, v = Value.ref t
  | [], _, _, .nil, .nil => by simp
  | _ :: xs, _ :: ks, _, .cons h ne r, .cons rv rs => by
    cases rv
    obtain ⟨e1, e2, e3, e4⟩ := keysT_vals I r rs
    obtain ⟨is, rvs, ⟨o, ho, hc, n, hd⟩, _⟩ := I.tuple h
    have ti : IsTI s.heap (.ref _) _ := ⟨_, o, is, n, rfl, ho, hc, hd, rvs⟩
    have ek := keyTI_of ti
    refine ⟨by rw [List.map_cons, e1, ek], fun v hv => ?_, by rw [List.map_cons, e3]; rfl, fun v hv => ?_⟩
    · rcases List.mem_cons.mp hv with rfl | hv
      · rw [ek]
        exact ⟨ti, ne⟩
      · exact e2 v hv
    · rcases List.mem_cons.mp hv with rfl | hv
      · exact ⟨_, rfl⟩
      · exact e4 v hv
theorem cr_sortTS : CallR X (.builtin "sorted") (rSortTS X.K) := by
  intro pins s σ H vs us Q I r h
  obtain ⟨a, xs, ks, rfl, hs, hx, hord, q⟩ := h
  obtain ⟨its, rv, hl, hz⟩ := I.list hs
  obtain ⟨u, rfl, ru⟩ := vals1 r
  cases ru
  obtain ⟨ek, hti, e1, e2⟩ := keysT_vals I hx rv
  have hlen : xs.length = its.length := rv.length
  refine SrtO.sorted_ord (ltv := fun v u => HT.lexLt (keyTI s.heap v) (keyTI s.heap u)) (NtL.swo_lexL _) hl.isList (by rw [← hlen]; exact hz) (fun h2 h₁ b hb hk => ?_) (fun out h1 h2 => ?_)
  · refine ti_sortable (by omega) (fun v hv => ⟨ti_keeps (hti v hv).1 fun c o e _ => (hk c o e).2, (hti v hv).2⟩) (fun o ho => ?_)
    rw [hb] at ho
    cases ho
    show (Value.type "list") ≠ Value.type "tuple"
    decide
  · have hso : SrtO.Srtd (fun v u => HT.lexLt (keyTI s.heap v) (keyTI s.heap u)) its := by
      rw [← ek] at hord
      exact List.pairwise_map.mp hord
    have eo : out = its := SrtO.stb_uniq (NtL.swo_lexL (keyTI s.heap)) h1 hso h2
    subst eo
    have hd : s.heap.objs.size ≤ s.heap.objs.size + 1 := Nat.le_succ _
    obtain ⟨e, he⟩ := sortedAll_at s.heap out out.toArray
    refine ⟨.ref _, upd H _ (.lst xs), I.laid (fun b o hbo => sortedAll_old hbo) hd ?_, rfl, q _ (I.hok.fresh hd)⟩
    exact ⟨hz, out, e, rv, he⟩
/-- sorted of a list of non-empty tuples of ints, known by position -/
def rSortTP (K : PySem.W.Frag) : List V → Hp → VK → Prop := fun vs H Q => ∃ (a : Addr) (xs : List V) (ks : List (List Int)), vs = [V.ref a] ∧ SqL K H a xs ∧ KeysT K H xs ks ∧
  ∀ (ys : List V) (ls : List (List Int)) (p : Addr), KeysT K H ys ls → ls.Pairwise (fun x y => HT.lexLt y x = false) → ls.Perm ks → H p = none → Q (.ref p) (upd H p (.lst ys))
theorem cr_sortTP : CallR X (.builtin "sorted") (rSortTP X.K) := by
  intro pins s σ H vs us Q I r h
  obtain ⟨a, xs, ks, rfl, hs, hx, q⟩ := h
  obtain ⟨its, rv, hl, hz⟩ := I.list hs
  obtain ⟨u, rfl, ru⟩ := vals1 r
  cases ru
  obtain ⟨ek, hti, e1, e2⟩ := keysT_vals I hx rv
  have hlen : xs.length = its.length := rv.length
  refine SrtO.sorted_ord (ltv := fun v u => HT.lexLt (keyTI s.heap v) (keyTI s.heap u)) (NtL.swo_lexL _) hl.isList (by rw [← hlen]; exact hz) (fun h2 h₁ b hb hk => ?_) (fun out h1 h2 => ?_)
  · refine ti_sortable (by omega) (fun v hv => ⟨ti_keeps (hti v hv).1 fun c o e _ => (hk c o e).2, (hti v hv).2⟩) (fun o ho => ?_)
    rw [hb] at ho
    cases ho
    show (Value.type "list") ≠ Value.type "tuple"
    decide
  · have h3 : ∀ u ∈ out, ∃ t, u = Value.ref t := fun u hu => e2 u (h2.perm.mem_iff.mp hu)
    have hd : s.heap.objs.size ≤ s.heap.objs.size + 1 := Nat.le_succ _
    obtain ⟨e, he⟩ := sortedAll_at s.heap its out.toArray
    have kk : KeysT X.K H (out.map backV) (out.map (keyTI s.heap)) := by
      have g : ∀ (l m : List Value), (∀ v ∈ l, v ∈ m) → (∀ v ∈ m, ∃ t, v = Value.ref t) → KeysT X.K H (m.map backV) (m.map (keyTI s.heap)) → KeysT X.K H (l.map backV) (l.map (keyTI s.heap)) := by
        intro l m hl hr hk
        have one : ∀ (m : List Value), (∀ v ∈ m, ∃ t, v = Value.ref t) → KeysT X.K H (m.map backV) (m.map (keyTI s.heap)) → ∀ v ∈ m, ∃ t, v = Value.ref t ∧ SqT X.K H t ((keyTI s.heap v).map V.int) ∧ keyTI s.heap v ≠ [] := by
          intro m
          induction m with
          | nil => intro _ _ v hv; cases hv
          | cons u m ih =>
            intro hr hk v hv
            obtain ⟨t, rfl⟩ := hr u (List.mem_cons_self ..)
            rw [List.map_cons, List.map_cons] at hk
            have hk' : KeysT X.K H (V.ref t :: m.map backV) (keyTI s.heap (.ref t) :: m.map (keyTI s.heap)) := hk
            cases hk' with
            | cons hh ne rr =>
              rcases List.mem_cons.mp hv with rfl | hv
              · exact ⟨t, rfl, hh, ne⟩
              · exact ih (fun v hv => hr v (List.mem_cons_of_mem _ hv)) rr v hv
        induction l with
        | nil => exact .nil
        | cons u l ih =>
          obtain ⟨t, rfl, hh, ne⟩ := one m hr hk u (hl u (List.mem_cons_self ..))
          exact .cons hh ne (ih fun v hv => hl v (List.mem_cons_of_mem _ hv))
      refine g out its (fun v hv => h2.perm.mem_iff.mp hv) e2 ?_
      rw [e1, ek]
      exact hx
    refine ⟨.ref _, upd H _ (.lst (out.map backV)), I.laid (fun b o hbo => sortedAll_old hbo) hd ?_, rfl, q _ _ _ kk (List.pairwise_map.mpr h1) ?_ (I.hok.fresh hd)⟩
    · exact ⟨by rw [List.length_map, h2.perm.length_eq, ← hlen]; exact hz, out, e, vals_back h3, he⟩
    · rw [← ek]
      exact h2.perm.map _
end
end Rp
/-! Rv: a tuple read from its end, t[::-1]. -/
namespace Rp
open PySem L2 PyProof.Rows
theorem adjust_back (n : Nat) : Builtin.Slice.sliceAdjust none none (-1) (n : Int) = ((n : Int) - 1, -1) := by
  unfold Builtin.Slice.sliceAdjust
  simp
theorem places_back (n : Nat) : Builtin.Slice.slicePlaces ((n : Int) - 1) (-1) (-1) = n := by
  unfold Builtin.Slice.slicePlaces
  rw [if_neg (by decide)]
  by_cases h : (n : Int) - 1 > -1
  · rw [if_pos h]
    have : (- -1 : Int) = 1 := by decide
    rw [this, Int.ediv_one]
    omega
  · rw [if_neg h]
    omega
theorem sliceApplied_back {prog : Program} {w : World} {A : Around} {E : Value → Shared → Prop} {s : Shared} {sl : Addr} {vs : Value} {n : Nat} {Q : Int × Int × Nat → Shared → Prop}
    (hs : s.heap.IsSliceOf sl .none .none vs) (hv : IsPart vs (some (-1))) (h : Q ((n : Int) - 1, -1, n) s) : wpAny (model prog w) A (Builtin.Slice.sliceApplied (.ref sl) (pure (n : Int))) Q E s := by
  obtain ⟨os, hos, hcs, hds⟩ := hs
  unfold Builtin.Slice.sliceApplied Builtin.Slice.sliceFields
  refine wpAny_bind (wpAny_bind (wpAny_field hos hds rfl (wpAny_bind (wpAny_field hos hds rfl (wpAny_bind (wpAny_field hos hds rfl (wpAny_pure ?_)))))))
  refine wpAny_bind (HT.slicePart_ (o := some (-1)) hv ?_)
  refine wpAny_bind (HT.slicePart_ (o := none) .none ?_)
  refine wpAny_bind (HT.slicePart_ (o := none) .none ?_)
  refine wpAny_bind (wpAny_pure ?_)
  show wpAny _ _ (match Builtin.Slice.sliceAdjust none none (-1) (n : Int) with | (lo, hi) => pure (lo, -1, Builtin.Slice.slicePlaces lo hi (-1))) Q E s
  rw [adjust_back]
  show wpAny _ _ (pure ((n : Int) - 1, -1, Builtin.Slice.slicePlaces ((n : Int) - 1) (-1) (-1))) Q E s
  rw [places_back]
  exact wpAny_pure h
theorem filterMap_at {α : Type} (l : List α) : ∀ k : Nat, (List.range k).filterMap (fun m => l[m]?) = l.take k
  | 0 => by simp
  | k + 1 => by
    rw [List.range_succ, List.filterMap_append, filterMap_at l k, List.take_add_one]
    cases h : l[k]? <;> simp [h]
theorem filterMap_same {α β : Type} {f g : α → Option β} : ∀ {l : List α}, (∀ x ∈ l, f x = g x) → l.filterMap f = l.filterMap g
  | [], _ => rfl
  | x :: l, h => by
    rw [List.filterMap_cons, List.filterMap_cons, h x (List.mem_cons_self ..), filterMap_same fun y hy => h y (List.mem_cons_of_mem _ hy)]
theorem pick_back (xs : Array Value) : (List.filterMap (fun m : Nat => xs[(((xs.size : Int) - 1) + (m : Int) * (-1)).toNat]?) (List.range xs.size)).toArray = xs.toList.reverse.toArray := by
  congr 1
  have e : ∀ m ∈ List.range xs.size, xs[(((xs.size : Int) - 1) + (m : Int) * (-1)).toNat]? = xs.toList.reverse[m]? := by
    intro m hm
    have hm' := List.mem_range.mp hm
    have e1 : (((xs.size : Int) - 1) + (m : Int) * (-1)).toNat = xs.toList.length - 1 - m := by
      rw [Array.length_toList]
      omega
    rw [List.getElem?_reverse (by rw [Array.length_toList]; exact hm'), e1, Array.getElem?_toList]
  rw [filterMap_same e, filterMap_at, List.take_of_length_le]
  rw [List.length_reverse, Array.length_toList]
  exact Nat.le_refl _
theorem getItem_tuple_back {prog : Program} {w : World} {A : Around} {E : Value → Shared → Prop} {s : Shared} {t sl : Addr} {items : Array Value} {vs : Value} {Q : Value → Shared → Prop} (ht : IsTup s.heap t items) (hs : s.heap.IsSliceOf sl .none .none vs) (hv : IsPart vs (some (-1)))
    (h : Q (.ref s.heap.objs.size) { s with heap := s.heap.push { cls := .type "tuple", data := .seq items.toList.reverse.toArray } }) (hz : items.size ≤ sizeLine) : wpAny (model prog w) A (getItem (.ref t) (.ref sl)) Q E s := by
  obtain ⟨os, hos, hcs, hds⟩ := id hs
  have hTs : s.TypeIs (.ref sl) "slice" := ⟨os, hos, hcs⟩
  unfold getItem
  refine wpAny_holding ?_
  refine wpAny_bind (wpAny_sequenceKey ht.typeIs (by decide) ?_)
  refine wpAny_bind (wpAny_callSpecial?_slot ht.typeIs slot_tuple_getitem ?_)
  refine wpAny_call_entry slot_tuple_getitem ht.typeIs entry_tuple_getitem ?_ (args_tuple_getitem _ _)
  show wpAny _ _ (do
      let xs ← Builtin.Tuple.tupleItemsOf (.ref t)
      let __do_lift ← typeOf (.ref sl)
      if (__do_lift == Value.type "slice") = true then do
          let __x ← Builtin.Slice.sliceApplied (.ref sl) (pure ↑xs.size)
          match __x with
            | (lo, step, n) =>
              have __do_jp := fun __r => do
                let __do_lift ←
                  Builtin.Tuple.tupleExact
                      (List.filterMap (fun k => xs[(lo + ↑k * step).toNat]?) (List.range n)).toArray
                ret __do_lift;
              if (lo == 0 && step == 1 && n == xs.size) = true then do
                let __do_lift ← Builtin.Tuple.tupleIsExact (.ref t)
                if __do_lift = true then do
                    rule "tuple.getitem.whole"
                    ret (.ref t)
                  else __do_jp ()
              else __do_jp ()
        else _) _ _ _
  refine wpAny_bind (tupleItemsOf_ ht ?_)
  refine wpAny_bind (wpAny_typeOf hTs ?_)
  rw [if_pos (by decide)]
  refine wpAny_bind (sliceApplied_back hs hv ?_)
  have hno : ¬ ((((items.size : Int) - 1 == 0) && ((-1 : Int) == 1) && (items.size == items.size)) = true) := by
    rw [show ((-1 : Int) == 1) = false by decide, Bool.and_false, Bool.false_and]
    decide
  show wpAny _ _ (if (((items.size : Int) - 1 == 0) && ((-1 : Int) == 1) && (items.size == items.size)) = true then _ else _) _ _ _
  rw [if_neg hno]
  refine wpAny_bind ?_
  unfold Builtin.Tuple.tupleExact
  rw [pick_back]
  refine wpAny_newObj_type ?_ ?_
  · exact wpAny_pure ⟨_, rfl, wpAny_pure h⟩
  · show _ ≤ sizeLine
    rw [List.size_toArray, List.length_reverse, Array.length_toList]
    exact hz
section
variable {X : Cx}
def tRevT (K : PySem.W.Frag) (te : TE) : TE := fun σ H Q => te σ H fun x H1 => ∃ a xs, x = V.ref a ∧ SqT K H1 a xs ∧ ∀ p, H1 p = none → Q (.ref p) (upd H1 p (.tup xs.reverse))
theorem pe_revT {e : Expr} {te : TE} {k : Nat} {p1 p2 p3 pos : Pos} (he : PE X e te) : PE X (.Subscript e (.Slice none none (some (.UnaryOp .USub (.Constant (.int 1) k p1) p2)) p3) pos) (tRevT X.K te) := by
  refine ⟨fun pins s σ H Q I h => ?_⟩
  refine Subscript_ (thn (he.run pins s σ H _ I h) fun v s1 x => ?_)
  obtain ⟨x1, H1, I1, r1, a, xs, rfl, hx, q⟩ := x
  cases r1
  have hst : PO X (some (.UnaryOp .USub (.Constant (.int 1) k p1) p2)) _ := po_some (pe_un un_neg pe_int)
  refine wpAny_Slice (thn ((po_none (X := X)).run pins s1 σ H1 (fun o H2 => o = none ∧ H2 = H1) I1 ⟨rfl, rfl⟩) fun vl s2 x => ?_)
  obtain ⟨l, H2, I2, pl, rfl, rfl⟩ := x
  refine thn ((po_none (X := X)).run pins s2 σ H2 (fun o H3 => o = none ∧ H3 = H2) I2 ⟨rfl, rfl⟩) fun vu s3 x => ?_
  obtain ⟨u, H3, I3, pu, rfl, rfl⟩ := x
  refine thn (hst.run pins s3 σ H3 (fun o H4 => o = some (-1) ∧ H4 = H3) I3 ?_) fun vs s4 x => ?_
  · exact ⟨1, rfl, -1, rfl, rfl, rfl⟩
  obtain ⟨st, H4, I4, pst, rfl, rfl⟩ := x
  cases pl
  cases pu
  have I5 := I4.kept (h' := s4.heap.push { cls := Value.type "slice", data := Data.fields #[Value.none, Value.none, vs] }) (t' := s4.toks) (fun b u h => Heap.get?_push_of_some _ h)
  obtain ⟨its, hvals, ht, hz⟩ := I5.tuple hx
  have hlen : xs.length = its.length := hvals.length
  refine tail_any ht.typeIs slot_tuple_getitem.lookup (getItem_tuple_back ht (Heap.IsSliceOf.new ..) pst ?_ (by rw [List.size_toArray, ← hlen]; exact hz)) rfl
  refine ⟨.ref _, upd H4 _ (.tup xs.reverse), I5.laid (fun b u h => Heap.get?_push_of_some _ h) (Nat.le_refl _) ?_, rfl, q _ (I5.hok.fresh (Nat.le_refl _))⟩
  unfold ObjOk
  exact ⟨by rw [List.length_reverse]; exact hz, its.reverse, hvals.reverse, _, Heap.get?_push_size _ (o := { cls := Value.type "tuple", data := Data.seq its.toArray.toList.reverse.toArray }) rfl, rfl, _, rfl⟩
end
end Rp
/-! Jst: sets of steps that hold, with a step, all that come ahead of it; the least sum over them. No Python here. -/
namespace Lw
abbrev Row1 := List Int × Int
/-- rows of steps and what comes ahead of what -/
structure Sys where
  rows : List Row1
  ahead : List Int → List Int → Bool
def sumD (rows : List Row1) (D : List Int → Bool) : Int := (rows.map fun r => if D r.1 then r.2 else 0).sum
def Sys.net (S : Sys) : Int := (S.rows.map (·.2)).sum
def Sys.Closed (S : Sys) (D : List Int → Bool) : Prop := ∀ a ∈ S.rows, ∀ b ∈ S.rows, S.ahead a.1 b.1 = true → D b.1 = true → D a.1 = true
structure Sys.Low (S : Sys) (l : Int) : Prop where
  le : ∀ D, S.Closed D → l ≤ sumD S.rows D
  at_ : ∃ D, S.Closed D ∧ sumD S.rows D = l
theorem sumD_app (r s : List Row1) (D : List Int → Bool) : sumD (r ++ s) D = sumD r D + sumD s D := by
  unfold sumD
  rw [List.map_append, List.sum_append]
theorem sumD_all {r : List Row1} {D : List Int → Bool} (h : ∀ a ∈ r, D a.1 = true) : sumD r D = (r.map (·.2)).sum := by
  induction r with
  | nil => rfl
  | cons x r ih =>
    have h1 := h x List.mem_cons_self
    have h2 := ih fun a ha => h a (List.mem_cons_of_mem _ ha)
    unfold sumD at h2 ⊢
    simp only [List.map_cons, List.sum_cons, h1, if_true, h2]
theorem sumD_none {r : List Row1} {D : List Int → Bool} (h : ∀ a ∈ r, D a.1 = false) : sumD r D = 0 := by
  induction r with
  | nil => rfl
  | cons x r ih =>
    have h1 := h x List.mem_cons_self
    have h2 := ih fun a ha => h a (List.mem_cons_of_mem _ ha)
    unfold sumD at h2 ⊢
    simp only [List.map_cons, List.sum_cons, h1, Bool.false_eq_true, if_false, h2]
    rfl
theorem sumD_congr {r : List Row1} {D E : List Int → Bool} (h : ∀ a ∈ r, D a.1 = E a.1) : sumD r D = sumD r E := by
  induction r with
  | nil => rfl
  | cons x r ih =>
    have h1 := h x List.mem_cons_self
    have h2 := ih fun a ha => h a (List.mem_cons_of_mem _ ha)
    unfold sumD at h2 ⊢
    simp only [List.map_cons, List.sum_cons, h1, h2]
def pre (i : Int) (r : List Row1) : List Row1 := r.map fun a => (i :: a.1, a.2)
theorem sumD_pre (i : Int) (r : List Row1) (D : List Int → Bool) : sumD (pre i r) D = sumD r (fun a => D (i :: a)) := by
  unfold sumD pre
  rw [List.map_map]
  rfl
theorem net_pre (i : Int) (r : List Row1) : ((pre i r).map (·.2)).sum = (r.map (·.2)).sum := by
  unfold pre
  rw [List.map_map]
  rfl
/-- systems behind their indices -/
def cRows : List Sys → Int → List Row1
  | [], _ => []
  | S :: r, i => pre i S.rows ++ cRows r (i + 1)
def aheadAt : List Sys → Int → Int → List Int → List Int → Bool
  | [], _, _, _, _ => false
  | S :: r, i, k, a, b => if k = i then S.ahead a b else aheadAt r (i + 1) k a b
/-- in a row (sq), or side by side -/
def cAhead (sq : Bool) (Ss : List Sys) (i : Int) : List Int → List Int → Bool
  | k :: a, m :: b => if k ≠ m then sq && decide (k < m) else aheadAt Ss i k a b
  | _, _ => false
def comp (sq : Bool) (Ss : List Sys) (i : Int) : Sys := ⟨cRows Ss i, cAhead sq Ss i⟩
theorem cRows_head : ∀ {Ss : List Sys} {i : Int} {a : Row1}, a ∈ cRows Ss i → ∃ k b, a.1 = k :: b ∧ i ≤ k
  | S :: r, i, a, h => by
    simp only [cRows, List.mem_append, pre, List.mem_map] at h
    rcases h with ⟨b, _, rfl⟩ | h
    · exact ⟨i, b.1, rfl, Int.le_refl _⟩
    · obtain ⟨k, b, h1, h2⟩ := cRows_head h
      exact ⟨k, b, h1, by omega⟩
theorem net_comp (sq : Bool) : ∀ (Ss : List Sys) (i : Int), (comp sq Ss i).net = (Ss.map Sys.net).sum
  | [], i => rfl
  | S :: r, i => by
    have ih := net_comp sq r (i + 1)
    unfold Sys.net comp at ih ⊢
    simp only [cRows, List.map_append, List.sum_append, net_pre, List.map_cons, List.sum_cons, ih]
/-- the first of them alone -/
theorem closed_first {sq : Bool} {S : Sys} {r : List Sys} {i : Int} {D : List Int → Bool} (h : (comp sq (S :: r) i).Closed D) : S.Closed fun a => D (i :: a) := by
  intro a ha b hb hab hD
  refine h (i :: a.1, a.2) ?_ (i :: b.1, b.2) ?_ ?_ hD
  · simp only [comp, cRows, List.mem_append, pre, List.mem_map]
    exact .inl ⟨a, ha, rfl⟩
  · simp only [comp, cRows, List.mem_append, pre, List.mem_map]
    exact .inl ⟨b, hb, rfl⟩
  · simp only [comp, cAhead, aheadAt, ne_eq, not_true_eq_false, if_false, if_true]
    exact hab
theorem closed_rest {sq : Bool} {S : Sys} {r : List Sys} {i : Int} {D : List Int → Bool} (h : (comp sq (S :: r) i).Closed D) : (comp sq r (i + 1)).Closed D := by
  intro a ha b hb hab hD
  obtain ⟨k, a', ea, hk⟩ := cRows_head ha
  obtain ⟨m, b', eb, hm⟩ := cRows_head hb
  refine h a ?_ b ?_ ?_ hD
  · simp only [comp, cRows, List.mem_append]
    exact .inr ha
  · simp only [comp, cRows, List.mem_append]
    exact .inr hb
  · rw [ea, eb] at hab ⊢
    simp only [comp, cAhead] at hab ⊢
    by_cases e : k = m
    · subst e
      simp only [ne_eq, not_true_eq_false, if_false, aheadAt] at hab ⊢
      rw [if_neg (by omega)]
      exact hab
    · simp only [ne_eq, e, not_false_eq_true, if_true] at hab ⊢
      exact hab
/-- all of the first come ahead of what stands behind -/
theorem seq_full {S : Sys} {r : List Sys} {i : Int} {D : List Int → Bool} (h : (comp true (S :: r) i).Closed D) {b : Row1} (hb : b ∈ cRows r (i + 1)) (hD : D b.1 = true) : ∀ a ∈ S.rows, D (i :: a.1) = true := by
  intro a ha
  obtain ⟨m, b', eb, hm⟩ := cRows_head hb
  refine h (i :: a.1, a.2) ?_ b ?_ ?_ hD
  · simp only [comp, cRows, List.mem_append, pre, List.mem_map]
    exact .inl ⟨a, ha, rfl⟩
  · simp only [comp, cRows, List.mem_append]
    exact .inr hb
  · rw [eb]
    simp only [comp, cAhead, ne_eq]
    rw [if_pos (by omega)]
    simp only [Bool.true_and, decide_eq_true_eq]
    omega
abbrev Part := Sys × Int
def sysOf (Ps : List Part) : List Sys := Ps.map (·.1)
def lowSeq : List Part → Int
  | [] => 0
  | p :: r => min p.2 (p.1.net + lowSeq r)
def lowPar : List Part → Int
  | [] => 0
  | p :: r => p.2 + lowPar r
theorem seq_le : ∀ (Ps : List Part) (i : Int), (∀ p ∈ Ps, p.1.Low p.2) → ∀ D, (comp true (sysOf Ps) i).Closed D → lowSeq Ps ≤ sumD (cRows (sysOf Ps) i) D
  | [], i, h, D, hc => Int.le_refl _
  | p :: r, i, h, D, hc => by
    have c1 := (h p List.mem_cons_self).le _ (closed_first hc)
    have c2 := seq_le r (i + 1) (fun q hq => h q (List.mem_cons_of_mem _ hq)) D (closed_rest hc)
    simp only [sysOf, List.map_cons, cRows, sumD_app, sumD_pre, lowSeq] at c2 ⊢
    by_cases e : ∃ b ∈ cRows (sysOf r) (i + 1), D b.1 = true
    · obtain ⟨b, hb, hD⟩ := e
      have full := sumD_all (r := p.1.rows) (D := fun a => D (i :: a)) (seq_full hc hb hD)
      rw [full]
      have : p.1.net = (p.1.rows.map (·.2)).sum := rfl
      omega
    · have none : sumD (cRows (sysOf r) (i + 1)) D = 0 := sumD_none fun a ha => by
        cases ed : D a.1 with
        | false => rfl
        | true => exact absurd ⟨a, ha, ed⟩ e
      simp only [sysOf] at none
      rw [none]
      omega
theorem par_le : ∀ (Ps : List Part) (i : Int), (∀ p ∈ Ps, p.1.Low p.2) → ∀ D, (comp false (sysOf Ps) i).Closed D → lowPar Ps ≤ sumD (cRows (sysOf Ps) i) D
  | [], i, h, D, hc => Int.le_refl _
  | p :: r, i, h, D, hc => by
    have c1 := (h p List.mem_cons_self).le _ (closed_first hc)
    have c2 := par_le r (i + 1) (fun q hq => h q (List.mem_cons_of_mem _ hq)) D (closed_rest hc)
    simp only [sysOf, List.map_cons, cRows, sumD_app, sumD_pre, lowPar] at c2 ⊢
    omega
/-- a set of the first one and one of what stands behind -/
def join (i : Int) (D E : List Int → Bool) : List Int → Bool
  | k :: a => if k = i then D a else E (k :: a)
  | [] => false
theorem join_first {i : Int} {D E : List Int → Bool} {r : List Row1} : sumD (pre i r) (join i D E) = sumD r D := by
  rw [sumD_pre]
  exact sumD_congr fun a _ => by simp only [join, if_true]
theorem join_rest {i : Int} {D E : List Int → Bool} {Ss : List Sys} : sumD (cRows Ss (i + 1)) (join i D E) = sumD (cRows Ss (i + 1)) E := by
  refine sumD_congr fun a ha => ?_
  obtain ⟨k, b, e, hk⟩ := cRows_head ha
  rw [e]
  simp only [join]
  rw [if_neg (by omega)]
theorem join_closed {sq : Bool} {S : Sys} {r : List Sys} {i : Int} {D E : List Int → Bool} (h1 : S.Closed D) (h2 : (comp sq r (i + 1)).Closed E)
    (h3 : sq = true → (∀ b ∈ cRows r (i + 1), E b.1 = true → ∀ a ∈ S.rows, D a.1 = true)) : (comp sq (S :: r) i).Closed (join i D E) := by
  intro a ha b hb hab hD
  simp only [comp, cRows, List.mem_append, pre, List.mem_map] at ha hb
  rcases hb with ⟨b', hb', rfl⟩ | hb
  · simp only [join, if_true] at hD
    rcases ha with ⟨a', ha', rfl⟩ | ha
    · simp only [join, if_true]
      simp only [comp, cAhead, aheadAt, ne_eq, not_true_eq_false, if_false, if_true] at hab
      exact h1 a' ha' b' hb' hab hD
    · exfalso
      obtain ⟨k, a', ea, hk⟩ := cRows_head ha
      rw [ea] at hab
      simp only [comp, cAhead, ne_eq] at hab
      rw [if_pos (by omega)] at hab
      simp only [Bool.and_eq_true, decide_eq_true_eq] at hab
      omega
  · obtain ⟨m, b', eb, hm⟩ := cRows_head hb
    have hE : E b.1 = true := by
      rw [eb] at hD ⊢
      simp only [join] at hD
      rwa [if_neg (by omega)] at hD
    rcases ha with ⟨a', ha', rfl⟩ | ha
    · simp only [join, if_true]
      rw [eb] at hab
      simp only [comp, cAhead, ne_eq] at hab
      rw [if_pos (by omega)] at hab
      simp only [Bool.and_eq_true] at hab
      exact h3 hab.1 b hb hE a' ha'
    · obtain ⟨k, a', ea, hk⟩ := cRows_head ha
      have hE' : E a.1 = true := by
        refine h2 a ha b hb ?_ hE
        rw [ea, eb] at hab ⊢
        simp only [comp, cAhead] at hab ⊢
        by_cases e : k = m
        · subst e
          simp only [ne_eq, not_true_eq_false, if_false, aheadAt] at hab ⊢
          rw [if_neg (by omega)] at hab
          exact hab
        · simp only [ne_eq, e, not_false_eq_true, if_true] at hab ⊢
          exact hab
      rw [ea] at hE' ⊢
      simp only [join]
      rw [if_neg (by omega)]
      exact hE'
theorem seq_at : ∀ (Ps : List Part) (i : Int), (∀ p ∈ Ps, p.1.Low p.2) → ∃ D, (comp true (sysOf Ps) i).Closed D ∧ sumD (cRows (sysOf Ps) i) D = lowSeq Ps
  | [], i, h => ⟨fun _ => false, fun a ha => by simp [comp, sysOf, cRows] at ha, rfl⟩
  | p :: r, i, h => by
    obtain ⟨E, e1, e2⟩ := seq_at r (i + 1) (fun q hq => h q (List.mem_cons_of_mem _ hq))
    obtain ⟨D, d1, d2⟩ := (h p List.mem_cons_self).at_
    by_cases c : p.2 ≤ p.1.net + lowSeq r
    · refine ⟨join i D fun _ => false, join_closed d1 (fun a _ b _ _ hb => by cases hb) (fun _ b _ hb => by cases hb), ?_⟩
      simp only [sysOf, List.map_cons, cRows, sumD_app, lowSeq]
      rw [join_first, join_rest, d2, sumD_none fun _ _ => rfl]
      omega
    · refine ⟨join i (fun _ => true) E, join_closed (fun _ _ _ _ _ _ => rfl) e1 (fun _ _ _ _ _ _ => rfl), ?_⟩
      simp only [sysOf, List.map_cons, cRows, sumD_app, lowSeq] at e2 ⊢
      rw [join_first, join_rest, e2, sumD_all fun _ _ => rfl]
      have : p.1.net = (p.1.rows.map (·.2)).sum := rfl
      omega
theorem par_at : ∀ (Ps : List Part) (i : Int), (∀ p ∈ Ps, p.1.Low p.2) → ∃ D, (comp false (sysOf Ps) i).Closed D ∧ sumD (cRows (sysOf Ps) i) D = lowPar Ps
  | [], i, h => ⟨fun _ => false, fun a ha => by simp [comp, sysOf, cRows] at ha, rfl⟩
  | p :: r, i, h => by
    obtain ⟨E, e1, e2⟩ := par_at r (i + 1) (fun q hq => h q (List.mem_cons_of_mem _ hq))
    obtain ⟨D, d1, d2⟩ := (h p List.mem_cons_self).at_
    refine ⟨join i D E, join_closed d1 e1 (fun z => by cases z), ?_⟩
    simp only [sysOf, List.map_cons, cRows, sumD_app, lowPar] at e2 ⊢
    rw [join_first, join_rest, d2, e2]
theorem low_seq (Ps : List Part) (i : Int) (h : ∀ p ∈ Ps, p.1.Low p.2) : (comp true (sysOf Ps) i).Low (lowSeq Ps) := ⟨seq_le Ps i h, seq_at Ps i h⟩
theorem low_par (Ps : List Part) (i : Int) (h : ∀ p ∈ Ps, p.1.Low p.2) : (comp false (sysOf Ps) i).Low (lowPar Ps) := ⟨par_le Ps i h, par_at Ps i h⟩
end Lw
/-! Dt: dicts whose keys are tuples of ints, wherever these tuples stand. -/
namespace Rp
open PySem PySem.Spec L2 PyProof.Rows
abbrev DRow := List Int × Addr × V
def look (rs : List DRow) (k : List Int) : Option V := (rs.find? fun r => decide (r.1 = k)).map (·.2.2)
def putD (rs : List DRow) (k : List Int) (b : Addr) (v : V) : List DRow :=
  if (look rs k).isSome = true then rs.map (fun r => if r.1 = k then (r.1, r.2.1, v) else r) else rs ++ [(k, b, v)]
abbrev ik (k : List Int) : List Key := k.map Sum.inl
theorem ik_inj : ∀ {a b : List Int}, ik a = ik b → a = b
  | [], [], _ => rfl
  | [], _ :: _, e => by cases e
  | _ :: _, [], e => by cases e
  | x :: a, y :: b, e => by
    have e' : (Sum.inl x : Key) :: ik a = Sum.inl y :: ik b := e
    injection e' with e1 e2
    injection e1 with e1
    rw [e1, ik_inj e2]
theorem ik_kV (k : List Int) : (ik k).map kV = k.map V.int := by
  rw [ik, List.map_map]
  rfl
abbrev RelD : List DRow → List (List Key × Addr × Value) → Prop := Paired fun p q => q.1 = ik p.1 ∧ q.2.1 = p.2.1 ∧ RelV p.2.2 q.2.2
theorem look_cons {r : DRow} {rs : List DRow} {k : List Int} : look (r :: rs) k = if r.1 = k then some r.2.2 else look rs k := by
  unfold look
  by_cases e : r.1 = k
  · simp [List.find?_cons, e]
  · simp [List.find?_cons, e]
theorem atKey_cons {q : List Key × Addr × Value} {xs : List (List Key × Addr × Value)} {k : List Key} : atKey (q :: xs) k = if q.1 = k then some q.2 else atKey xs k := by
  unfold atKey
  by_cases e : q.1 = k
  · simp [List.find?_cons, e]
  · simp [List.find?_cons, e]
theorem RelD.look (k : List Int) {rs : List DRow} {xs : List (List Key × Addr × Value)} (r : RelD rs xs) : RelO (look rs k) ((atKey xs (ik k)).map (·.2)) := by
  induction r with
  | nil => exact True.intro
  | @cons p q ps qs h t ih =>
    obtain ⟨h1, h2, h3⟩ := h
    rw [look_cons, atKey_cons]
    by_cases e : p.1 = k
    · rw [if_pos e, if_pos (by rw [h1, e])]
      exact h3
    · rw [if_neg e, if_neg (fun z => e (ik_inj (h1.symm.trans z)))]
      exact ih
theorem RelD.repl (k : List Int) {y : V} {u : Value} (ry : RelV y u) {rs : List DRow} {xs : List (List Key × Addr × Value)} (r : RelD rs xs) :
    RelD (rs.map fun r => if r.1 = k then (r.1, r.2.1, y) else r) (xs.map (putAt (ik k) u)) := by
  induction r with
  | nil => exact .nil
  | @cons p q ps qs h t ih =>
    rw [List.map_cons, List.map_cons]
    refine .cons ?_ ih
    obtain ⟨h1, h2, h3⟩ := h
    unfold putAt
    by_cases e : p.1 = k
    · rw [if_pos e, if_pos (by rw [h1, e])]
      exact ⟨h1, h2, ry⟩
    · rw [if_neg e, if_neg (fun z => e (ik_inj (h1.symm.trans z)))]
      exact ⟨h1, h2, h3⟩
theorem RelD.put (k : List Int) (b : Addr) {y : V} {u : Value} (ry : RelV y u) {rs : List DRow} {xs : List (List Key × Addr × Value)} (r : RelD rs xs) :
    RelD (putD rs k b y) (storedH xs (ik k) b u) := by
  have e : (Rp.look rs k).isSome = (atKey xs (ik k)).isSome := by rw [(r.look k).isSome_eq, Option.isSome_map]
  unfold putD storedH
  rw [e]
  split
  · exact r.repl k ry
  · exact Paired.snoc r ⟨rfl, rfl, ry⟩
theorem putD_len (rs : List DRow) (k : List Int) (b : Addr) (v : V) : (putD rs k b v).length ≤ rs.length + 1 := by
  unfold putD
  split
  · rw [List.length_map]
    omega
  · rw [List.length_append]
    exact Nat.le_refl _
theorem look_app {rs ss : List DRow} {k : List Int} : look (rs ++ ss) k = (look rs k).or (look ss k) := by
  unfold look
  rw [List.find?_append]
  cases rs.find? fun r => decide (r.1 = k) <;> rfl
theorem look_putD (rs : List DRow) (k j : List Int) (b : Addr) (v : V) : look (putD rs k b v) j = if j = k then some v else look rs j := by
  unfold putD
  split
  · rename_i h
    induction rs with
    | nil => simp [look] at h
    | cons r rs ih =>
      rw [List.map_cons, look_cons, look_cons]
      rw [look_cons] at h
      by_cases e : r.1 = k
      · rw [if_pos e]
        dsimp only
        by_cases ej : r.1 = j
        · rw [if_pos ej, if_pos (ej.symm.trans e)]
        · rw [if_neg ej, if_neg ej, if_neg (fun z => ej (e.trans z.symm))]
          have skip : ∀ l : List DRow, look (l.map fun r => if r.1 = k then (r.1, r.2.1, v) else r) j = look l j := by
            intro l
            induction l with
            | nil => rfl
            | cons x l ih2 =>
              rw [List.map_cons, look_cons, look_cons, ih2]
              by_cases ex : x.1 = k
              · rw [if_pos ex]
                have nx : ¬ x.1 = j := fun z => ej (e.trans (ex.symm.trans z))
                dsimp only
                rw [if_neg nx, if_neg nx]
              · rw [if_neg ex]
          exact skip rs
      · rw [if_neg e]
        rw [if_neg e] at h
        rw [ih h]
        by_cases ej : r.1 = j
        · rw [if_pos ej, if_pos ej, if_neg (fun z => e (ej.trans z))]
        · rw [if_neg ej, if_neg ej]
  · rename_i h
    have hn : look rs k = none := by
      cases q : look rs k with
      | none => rfl
      | some x => rw [q] at h; exact absurd rfl h
    rw [look_app, look_cons]
    by_cases ej : j = k
    · rw [if_pos ej, ej, hn, if_pos rfl]
      rfl
    · rw [if_neg ej, if_neg (fun z => ej z.symm)]
      cases look rs j <;> rfl
theorem putD_new {rs : List DRow} {k : List Int} {b : Addr} {v : V} (h : look rs k = none) : putD rs k b v = rs ++ [(k, b, v)] := by
  unfold putD
  rw [h]
  exact if_neg Bool.false_ne_true
/-- the keys' tuples stand -/
def KeysAt (K : PySem.W.Frag) (H : Hp) (rs : List DRow) : Prop := ∀ r ∈ rs, SqT K H r.2.1 (r.1.map V.int)
theorem KeysAt.nil {K : PySem.W.Frag} {H : Hp} : KeysAt K H [] := fun r h => by cases h
theorem KeysAt.keep {K : PySem.W.Frag} {H H' : Hp} {rs : List DRow} (k : KeysAt K H rs) (t : ∀ a xs, SqT K H a xs → SqT K H' a xs) : KeysAt K H' rs := fun r h => t _ _ (k r h)
theorem KeysAt.put {K : PySem.W.Frag} {H : Hp} {rs : List DRow} (k : KeysAt K H rs) {key : List Int} {b : Addr} {v : V} (hb : SqT K H b (key.map V.int)) : KeysAt K H (putD rs key b v) := by
  intro r h
  unfold putD at h
  split at h
  · obtain ⟨r0, h0, rfl⟩ := List.mem_map.mp h
    have := k r0 h0
    split
    · exact this
    · exact this
  · rcases List.mem_append.mp h with h | h
    · exact k r h
    · rw [List.mem_singleton.mp h]
      exact hb
section
variable (P : Program) (w : World)
/-- what the heap says of a dict at a -/
def DHolds (a : Addr) (rs : List DRow) (h : Heap) : Prop :=
  rs.length ≤ sizeLine ∧ (a == sysModules) = false ∧ ∃ xs : List (List Key × Addr × Value), RelD rs xs ∧ (xs.map (·.1)).Nodup ∧
    ∃ (es : Array DictEntry) (ep : Nat) (o : Obj), h.get? a = some o ∧ o.ExactDict ∧ o.data = .dict es ep ∧ es.toList = xs.map (entryOfKey (tupleKind (mixKind P w)))
def DtO (a : Addr) (rs : List DRow) : HO := .ext (DHolds P w a rs)
end
section
variable {P : Program} {w : World} {H : Hp} {h : Heap} {a : Addr} {rs : List DRow}
theorem dtO_ok (d : DHolds P w a rs h) : ObjOk P w H h a (DtO P w a rs) := by
  refine ⟨d, ?_, fun h1 h2 d1 k => ?_⟩
  · obtain ⟨_, _, _, _, _, _, _, o, e, _⟩ := d
    exact ⟨o, e⟩
  · obtain ⟨z1, z2, xs, z3, z4, es, ep, o, e, z5⟩ := d1
    exact ⟨z1, z2, xs, z3, z4, es, ep, o, k _ e, z5⟩
theorem dtO_tup {xs : List V} : DtO P w a rs ≠ .tup xs := fun z => by cases (show HO.ext _ = HO.tup xs from z)
theorem dtO_lst {xs : List V} : DtO P w a rs ≠ .lst xs := fun z => by cases (show HO.ext _ = HO.lst xs from z)
theorem dtO_ins {C dx : Addr} {fs : List (Str × V)} : DtO P w a rs ≠ .ins C dx fs := fun z => by cases (show HO.ext _ = HO.ins C dx fs from z)
theorem dtO_frz {o : Obj} {u : HO} : DtO P w a rs ≠ .frz o u := fun z => by cases (show HO.ext _ = HO.frz o u from z)
theorem dtO_own {x : Addr} : DtO P w a rs ≠ .own x := fun z => by cases (show HO.ext _ = HO.own x from z)
end
section
variable {X : Cx} {pins : List (Addr × Obj)} {σ : L2.St} {H : Hp} {s : Shared} {a b : Addr} {rs : List DRow} {k : List Int}
theorem key_sq (I : Inv X pins σ H s) (h : SqT X.K H b (k.map V.int)) : (tupleKind (mixKind X.prog X.w)).is s.heap (ik k) b := by
  obtain ⟨its, hv, o, h1, h2, n, h3⟩ := isTuple_of I h
  rw [← ik_kV] at hv
  exact ⟨o, its, n, h1, h2, h3, items_are hv⟩
theorem dt_at (I : Inv X pins σ H s) (e : Rd H a (DtO X.prog X.w a rs)) (hk : KeysAt X.K H rs) :
    rs.length ≤ sizeLine ∧ (a == sysModules) = false ∧ ∃ xs, RelD rs xs ∧ s.heap.DictOfH (tupleKind (mixKind X.prog X.w)) a xs := by
  obtain ⟨⟨z, y, xs, r, nd, es, ep, o, h1, h2, h3, h4⟩, _, _⟩ := (show ObjOk X.prog X.w H s.heap a (.ext (DHolds X.prog X.w a rs)) from e.ok I.hok)
  refine ⟨z, y, xs, r, o, es, ep, h1, h2, h3, h4, ?_, nd⟩
  have all : ∀ {l : List DRow} {m : List (List Key × Addr × Value)}, RelD l m → KeysAt X.K H l → ∀ x ∈ m, (tupleKind (mixKind X.prog X.w)).is s.heap x.1 x.2.1 := by
    intro l m q
    induction q with
    | nil => intro _ x hx; cases hx
    | @cons p q ps qs hq t ih =>
      intro hk x hx
      rcases List.mem_cons.mp hx with rfl | hx
      · rw [hq.1, hq.2.1]
        exact key_sq I (hk p (List.mem_cons_self ..))
      · exact ih (fun r hr => hk r (List.mem_cons_of_mem _ hr)) x hx
  exact all r hk
end
theorem dt_sqT {P : Program} {w : World} {K : PySem.W.Frag} {H : Hp} {p a c : Addr} {rs : List DRow} {z : HO} {xs : List V} (e : H p = some (DtO P w c rs)) (h : SqT K H a xs) : SqT K (upd H p z) a xs := by
  rcases h with (h | ⟨o, h⟩) | h
  · refine .inl (.inl ?_)
    rw [upd_ne (fun q => by rw [q, e] at h; exact dtO_tup (Option.some.inj h))]
    exact h
  · refine .inl (.inr ⟨o, ?_⟩)
    rw [upd_ne (fun q => by rw [q, e] at h; exact dtO_frz (Option.some.inj h))]
    exact h
  · exact .inr h
theorem sx_dt {P : Program} {w : World} {K : PySem.W.Frag} {H G : Hp} {p a c : Addr} {rs : List DRow} {xs : List V} (e : H p = some (DtO P w c rs)) (s : Sx p H G) (h : SqT K H a xs) : SqT K G a xs := by
  rcases h with (h | ⟨o, h⟩) | h
  · exact .inl (.inl (s _ _ (fun q => by rw [q, e] at h; exact dtO_tup (Option.some.inj h)) h))
  · exact .inl (.inr ⟨o, s _ _ (fun q => by rw [q, e] at h; exact dtO_frz (Option.some.inj h)) h⟩)
  · exact .inr h
theorem rd_same {H H' : Hp} {a : Addr} {u : HO} (s : Same H H') (r : Rd H a u) : Rd H' a u := by
  rcases r with r | ⟨o, r⟩
  · exact .inl (s _ _ r)
  · exact .inr ⟨o, s _ _ r⟩
/-! rules -/
/-- the dict at a, asked for the key at y: what is there -/
def DAsk (P : Program) (w : World) (K : PySem.W.Frag) (H : Hp) (x y : V) (r : Option V) : Prop :=
  ∃ (a b : Addr) (rs : List DRow) (k : List Int), x = .ref a ∧ y = .ref b ∧ Rd H a (DtO P w a rs) ∧ KeysAt K H rs ∧ SqT K H b (k.map V.int) ∧ r = look rs k
section
variable {X : Cx} {pins : List (Addr × Obj)} {σ : L2.St} {H : Hp} {s : Shared} {x y v z : V} {u i : Value} {r : Option V} {A : Around} {E : Value → Shared → Prop}
theorem dt_dict (I : Inv X pins σ H s) (g : DAsk X.prog X.w X.K H x y r) (rx : RelV x u) : s.TypeIs u "dict" := by
  obtain ⟨a, b, rs, k, rfl, rfl, e, hk, _, _⟩ := g
  obtain rfl : u = .ref a := rx
  obtain ⟨_, _, xs, _, dd⟩ := dt_at I e hk
  exact dd.typeIs
theorem dt_get {Q : Value → Shared → Prop} (hu : A.units + 1 < cLine) (I : Inv X pins σ H s) (g : DAsk X.prog X.w X.K H x y (some v)) (rx : RelV x u) (ry : RelV y i) (h : ∀ w' s', Inv X pins σ H s' → RelV v w' → Q w' s') :
    wpAny (model X.prog X.w) A (getItem u i) Q E s := by
  obtain ⟨a, b, rs, k, rfl, rfl, e, hk, hb, l⟩ := g
  obtain rfl : u = .ref a := rx
  obtain rfl : i = .ref b := ry
  obtain ⟨_, _, xs, rel, dd⟩ := dt_at I e hk
  obtain ⟨w', hw, rw'⟩ := RelO.some_of (v := v) (o := (atKey xs (ik k)).map (·.2)) (by rw [l]; exact rel.look k)
  obtain ⟨p, hp, rfl⟩ := Option.map_eq_some_iff.mp hw
  exact wpAny_getItem_heap (tupleKind_room_in1 hu) (key_sq I hb) dd hp (h p.2 _ (I.tok _) rw')
theorem dt_in {Q : Value → Shared → Prop} (hu : A.units + 1 < cLine) (I : Inv X pins σ H s) (g : DAsk X.prog X.w X.K H x y r) (rx : RelV x u) (ry : RelV y i) (h : ∀ s', Inv X pins σ H s' → Q (.bool r.isSome) s') :
    wpAny (model X.prog X.w) A (compareOp .In i u) Q E s := by
  obtain ⟨a, b, rs, k, rfl, rfl, e, hk, hb, l⟩ := g
  obtain rfl : u = .ref a := rx
  obtain rfl : i = .ref b := ry
  obtain ⟨_, hd, xs, rel, dd⟩ := dt_at I e hk
  refine wpAny_in_heap (tupleKind_room_in1 hu) (key_sq I hb) hd dd ?_
  have q := (rel.look k).isSome_eq
  rw [Option.isSome_map] at q
  rw [← q, ← l]
  exact h _ (I.tok _)
theorem dt_notIn {Q : Value → Shared → Prop} (hu : A.units + 1 < cLine) (I : Inv X pins σ H s) (g : DAsk X.prog X.w X.K H x y r) (rx : RelV x u) (ry : RelV y i) (h : ∀ s', Inv X pins σ H s' → Q (.bool (!r.isSome)) s') :
    wpAny (model X.prog X.w) A (compareOp .NotIn i u) Q E s := by
  obtain ⟨a, b, rs, k, rfl, rfl, e, hk, hb, l⟩ := g
  obtain rfl : u = .ref a := rx
  obtain rfl : i = .ref b := ry
  obtain ⟨_, hd, xs, rel, dd⟩ := dt_at I e hk
  refine wpAny_notIn_heap (tupleKind_room_in1 hu) (key_sq I hb) hd dd ?_
  have q := (rel.look k).isSome_eq
  rw [Option.isSome_map] at q
  rw [← q, ← l]
  exact h _ (I.tok _)
theorem dt_getD {Q : Value → Shared → Prop} {d : Value} (hu : A.units + 1 < cLine) (I : Inv X pins σ H s) (g : DAsk X.prog X.w X.K H x y r) (rx : RelV x u) (ry : RelV y i) (rz : RelV z d) (h : ∀ w' s', Inv X pins σ H s' → RelV (r.getD z) w' → Q w' s') :
    wpAny (model X.prog X.w) A (call (.builtin "dict.get") [u, i, d]) Q E s := by
  obtain ⟨a, b, rs, k, rfl, rfl, e, hk, hb, l⟩ := g
  obtain rfl : u = .ref a := rx
  obtain rfl : i = .ref b := ry
  obtain ⟨_, hd, xs, rel, dd⟩ := dt_at I e hk
  refine call_meetsIn PySem.F.slot_dict_get dd.typeIs PySem.F.entry_dict_get (PySem.F.args_dict_get_3 _ _ _) (meetsH_dict_get_default (tupleKind (mixKind X.prog X.w)) a b hd d) ⟨tupleKind_room_in1 hu, ik k, xs, key_sq I hb, dd, h _ _ (I.tok _) ?_⟩
  rw [l]
  exact (rel.look k).getD rz
/-- the heap behind x[y] = v -/
def DLay (P : Program) (w : World) (K : PySem.W.Frag) (H : Hp) (x y v : V) (H' : Hp) : Prop :=
  ∃ (a b : Addr) (rs : List DRow) (k : List Int), x = .ref a ∧ y = .ref b ∧ H a = some (DtO P w a rs) ∧ KeysAt K H rs ∧ SqT K H b (k.map V.int) ∧ rs.length < 1000000 ∧ H' = upd H a (DtO P w a (putD rs k b v))
theorem dt_laid {h' : Heap} {a b : Addr} {rs : List DRow} {k : List Int} {xs : List (List Key × Addr × Value)} {t' : Nat} (I : Inv X pins σ H s) (e : H a = some (DtO X.prog X.w a rs)) (hd : (a == sysModules) = false) (l : rs.length < 1000000) (rel : RelD rs xs) (rv : RelV v u)
    (dd' : h'.DictOfH (tupleKind (mixKind X.prog X.w)) a (storedH xs (ik k) b u)) (hs : Heap.SameBut a s.heap h') : Inv X pins σ (upd H a (DtO X.prog X.w a (putD rs k b v))) { s with heap := h', toks := t' } := by
  obtain ⟨q, es, ep, hq, h2, h3, h4, _, h5⟩ := dd'
  have hl : (putD rs k b v).length ≤ sizeLine := by
    have := putD_len rs k b v
    rw [sizeLine_eq]
    omega
  exact d_write I (by rw [e]; exact True.intro) hs ⟨q, hq⟩ (dtO_ok ⟨hl, hd, _, rel.put k b rv, h5, es, ep, q, hq, h2, h3, h4⟩)
theorem dt_set {H' : Hp} {Q : Unit → Shared → Prop} (hu : A.units + 1 < cLine) (I : Inv X pins σ H s) (g : DLay X.prog X.w X.K H x y v H') (rx : RelV x u) (ry : RelV y i) {d : Value} (rv : RelV v d) (h : ∀ s', Inv X pins σ H' s' → Q () s') :
    wpAny (model X.prog X.w) A (setItem u i d) Q E s := by
  obtain ⟨a, b, rs, k, rfl, rfl, e, hk, hb, l, rfl⟩ := g
  obtain rfl : u = .ref a := rx
  obtain rfl : i = .ref b := ry
  obtain ⟨z, hd, xs, rel, dd⟩ := dt_at I (.inl e) hk
  have hz : xs.length ≤ sizeLine := by rw [← Paired.length rel]; exact z
  exact wpAny_setItem_heap (hsz := hz) (tupleKind_room_in1 hu) (key_sq I hb) dd fun h' dd' hs => h _ (dt_laid I e hd l rel rv dd' hs)
theorem dt_compSet {H' : Hp} {Q : Unit → Shared → Prop} (hu : X.A.units + 1 < cLine) (I : Inv X pins σ H s) {D : Addr} (g : DLay X.prog X.w X.K H (.ref D) y v H') (ry : RelV y i) {d : Value} (rv : RelV v d) (h : ∀ s', Inv X pins σ H' s' → Q () s') :
    wpAny (model X.prog X.w) X.A (dictSet D i d) Q E s := by
  obtain ⟨a, b, rs, k, ea, rfl, e, hk, hb, l, rfl⟩ := g
  cases ea
  obtain rfl : i = .ref b := ry
  obtain ⟨z, hd, xs, rel, dd⟩ := dt_at I (.inl e) hk
  have hz : xs.length ≤ sizeLine := by rw [← Paired.length rel]; exact z
  exact wpAny_dictSet_heap (hsz := hz) (show X.A.units < cLine by omega) (key_sq I hb) dd fun h' dd' hs => h _ (dt_laid I e hd l rel rv dd' hs)
end
section
variable {X : Cx} {o e f value : Expr} {pos pos' cpos apos : Pos} {td ty tx tv : TE}
/-- {} -/
theorem pe_dtNew : PE X (.Dict [] [] pos) (fun _ H Q => ∀ p, H p = none → Q (.ref p) (upd H p (DtO X.prog X.w p []))) := by
  refine ⟨fun pins s σ H Q I h => wpAny_Dict_empty ⟨.ref s.heap.objs.size, _, I.laid (a := s.heap.objs.size) (o := DtO X.prog X.w s.heap.objs.size []) (t' := s.toks) (fun _ _ q => Heap.get?_push_of_some _ q) (Nat.le_refl _) ?_, rfl, h _ (I.hok.fresh (Nat.le_refl _))⟩⟩
  exact dtO_ok ⟨Nat.zero_le _, beq_eq_false_iff_ne.mpr (Ne.symm (Nat.ne_of_lt I.big)), [], .nil, List.nodup_nil, #[], 0, _, Heap.get?_push_size _ rfl, ⟨rfl, rfl, rfl⟩, rfl, rfl⟩
theorem pe_dtGet (hu : X.A.units + 1 < cLine) (ho : PE X o td) (he : PE X e ty) (hs : NoSl e) :
    PE X (.Subscript o e pos) (fun σ H Q => td σ H fun x H1 => ty σ H1 fun y H2 => ∃ v, DAsk X.prog X.w X.K H2 x y (some v) ∧ Q v H2) := by
  refine ⟨fun pins s σ H Q I h => subD_of PySem.F.slot_dict_getitem.lookup hs (thn (ho.run pins s σ H _ I h) fun u s1 ⟨x, H1, I1, rx, q1⟩ => thn (he.run pins s1 σ H1 _ I1 q1) fun iv s2 ⟨y, H2, I2, ry, v, g, q2⟩ => ?_)⟩
  exact ⟨dt_dict I2 g rx, dt_get hu I2 g rx ry fun w' s3 I3 rw' => ⟨v, H2, I3, rw', q2⟩⟩
theorem pc_dtIn (hu : X.A.units + 1 < cLine) (he : PE X e ty) (ho : PE X o td) : PC X .In e o (fun σ H Q => ty σ H fun y H1 => td σ H1 fun x H2 => ∃ r, DAsk X.prog X.w X.K H2 x y r ∧ Q (.bl r.isSome) H2) := by
  refine ⟨fun pins s σ H Q I h => thn (he.run pins s σ H _ I h) fun iv s1 ⟨y, H1, I1, ry, q1⟩ => thn (ho.run pins s1 σ H1 _ I1 q1) fun u s2 ⟨x, H2, I2, rx, r, g, q2⟩ => ?_⟩
  exact dt_in hu I2 g rx ry fun s3 I3 => ⟨.bl r.isSome, H2, I3, rfl, q2⟩
theorem pc_dtNotIn (hu : X.A.units + 1 < cLine) (he : PE X e ty) (ho : PE X o td) : PC X .NotIn e o (fun σ H Q => ty σ H fun y H1 => td σ H1 fun x H2 => ∃ r, DAsk X.prog X.w X.K H2 x y r ∧ Q (.bl (!r.isSome)) H2) := by
  refine ⟨fun pins s σ H Q I h => thn (he.run pins s σ H _ I h) fun iv s1 ⟨y, H1, I1, ry, q1⟩ => thn (ho.run pins s1 σ H1 _ I1 q1) fun u s2 ⟨x, H2, I2, rx, r, g, q2⟩ => ?_⟩
  exact dt_notIn hu I2 g rx ry fun s3 I3 => ⟨.bl (!r.isSome), H2, I3, rfl, q2⟩
theorem ps_dtPut (hu : X.A.units + 1 < cLine) (ho : PE X o td) (he : PE X e ty) (hv : PE X value tv) (hs : swapsWith value (some (.Subscript o e pos')) pos.line X.env = pure false) :
    PS X (.Assign [.Subscript o e pos'] value pos) (fun D σ H => tv σ H fun v H1 => td σ H1 fun x H2 => ty σ H2 fun y H3 => ∃ H4, DLay X.prog X.w X.K H3 x y v H4 ∧ D.nx σ H4) := by
  refine ⟨fun pins s σ H D I h => wpAny_Assign_Subscript (thn (hv.run pins s σ H _ I h) fun r s1 ⟨v, H1, I1, rv, q1⟩ => thn (ho.run pins s1 σ H1 _ I1 q1) fun u s2 ⟨x, H2, I2, rx, q2⟩ => thn (he.run pins s2 σ H2 _ I2 q2) fun iv s3 ⟨y, H3, I3, ry, H4, g, q3⟩ => ?_) hs⟩
  exact dt_set hu I3 g rx ry rv fun s4 I4 => ⟨σ, H4, I4, q3⟩
/-- d.get(y, z) -/
theorem pe_dtGetD (hu : X.A.units + 1 < cLine) (ho : PE X o td) (he : PE X e ty) (hf : PE X f tx) (m : M2 X o "get" apos e f cpos) :
    PE X (.Call (.Attribute o "get" apos) [e, f] [] cpos) (fun σ H Q => td σ H fun x H1 => (∃ (a : Addr) (rs : List DRow), x = .ref a ∧ Rd H1 a (DtO X.prog X.w a rs) ∧ KeysAt X.K H1 rs) ∧
      ty σ H1 fun y H2 => tx σ H2 fun z H3 => ∃ r, DAsk X.prog X.w X.K H3 x y r ∧ Q (r.getD z) H3) := by
  refine ⟨fun pins s σ H Q I h => ?_⟩
  refine wpAny_Call_method m.base m.few m.line PySem.F.plainAttrs_dict PySem.F.slot_dict_get PySem.F.type_dict_get (thn (ho.run pins s σ H _ I h) fun u s1 ⟨x, H1, I1, rx, ⟨a, rs, ex, ea, hk⟩, q1⟩ => ?_)
  subst ex
  obtain rfl : u = Value.ref a := rx
  obtain ⟨_, _, xs, _, dd⟩ := dt_at I1 ea hk
  refine ⟨dd.typeIs, fun b q => ?_, ?_⟩
  · cases q
    obtain ⟨ob, _, _, h1, h2, _⟩ := dd
    exact ⟨ob, h1, h2.2.1⟩
  · rw [m.trees]
    refine Calls.callWith_builtin rfl (Calls.evalArgs_plain (Calls.spliced_cons (thn (he.run pins s1 σ H1 _ I1 q1) fun iv s2 ⟨y, H2, I2, ry, q2⟩ =>
      Calls.spliced_cons (thn (hf.run pins s2 σ H2 _ I2 q2) fun fv s3 ⟨z, H3, I3, rz, r, g, q3⟩ => Calls.spliced_nil (dt_getD hu I3 g rfl ry rz fun w' s4 I4 rw' => ⟨_, H3, I4, rw', q3⟩)))))
end
/-! the same within a comprehension -/
section
variable {X : Cx} {o e f value : Expr} {g : Str} {pos pos' cpos apos : Pos} {td ty tx tv : TE}
theorem pe_fldK (K : PySem.W.Frag) (hk : X.K = K) (he : PE X o td) (hb : attributeBase o g X.env (eval o X.env) = eval o X.env) : PE X (.Attribute o g pos) (tFld K td g) := by
  subst hk
  exact pe_fld he hb
theorem pe_dtGetK (P : Program) (w : World) (K : PySem.W.Frag) (hp : X.prog = P) (hw : X.w = w) (hk : X.K = K) (hu : X.A.units + 1 < cLine) (ho : PE X o td) (he : PE X e ty) (hs : NoSl e) :
    PE X (.Subscript o e pos) (fun σ H Q => td σ H fun x H1 => ty σ H1 fun y H2 => ∃ v, DAsk P w K H2 x y (some v) ∧ Q v H2) := by
  subst hp hw hk
  exact pe_dtGet hu ho he hs
theorem pe_dtGetDK (P : Program) (w : World) (K : PySem.W.Frag) (hp : X.prog = P) (hw : X.w = w) (hk : X.K = K) (hu : X.A.units + 1 < cLine) (ho : PE X o td) (he : PE X e ty) (hf : PE X f tx) (m : M2 X o "get" apos e f cpos) :
    PE X (.Call (.Attribute o "get" apos) [e, f] [] cpos) (fun σ H Q => td σ H fun x H1 => (∃ (a : Addr) (rs : List DRow), x = .ref a ∧ Rd H1 a (DtO P w a rs) ∧ KeysAt K H1 rs) ∧
      ty σ H1 fun y H2 => tx σ H2 fun z H3 => ∃ r, DAsk P w K H3 x y r ∧ Q (r.getD z) H3) := by
  subst hp hw hk
  exact pe_dtGetD hu ho he hf m
theorem pc_dtInK (P : Program) (w : World) (K : PySem.W.Frag) (hp : X.prog = P) (hw : X.w = w) (hk : X.K = K) (hu : X.A.units + 1 < cLine) (he : PE X e ty) (ho : PE X o td) :
    PC X .In e o (fun σ H Q => ty σ H fun y H1 => td σ H1 fun x H2 => ∃ r, DAsk P w K H2 x y r ∧ Q (.bl r.isSome) H2) := by
  subst hp hw hk
  exact pc_dtIn hu he ho
end
/-! {k: v for t in xs}, the keys tuples of ints -/
section
variable {X : Cx}
def tDtc (P : Program) (w : World) (K : PySem.W.Frag) (wi : TI) (g : TG) (tk tv : TE) (vs : List Nat) : TE := fun σ H Q => wi σ H fun J H1 =>
  ∀ D, H1 D = none → ∃ W : Nat → Nat → Hp → Prop, (∃ m, W 0 m (upd H1 D (DtO P w D []))) ∧
    ∀ i m H, W i m H → (J.stop i H ∧ Q (.ref D) H) ∨ (J.go i H ∧ ∃ Nx : Hp → Prop, (∀ H', Nx H' → ∃ m', m' < m ∧ W (i + 1) m' H') ∧
      ∀ x H', J.yld i H x H' → g x (wipe σ vs) H' fun σ2 H2 => wipe σ2 vs = wipe σ vs ∧ tk σ2 H2 fun y H4 => tv σ2 H4 fun z H5 => ∃ H6, DLay P w K H5 (.ref D) y z H6 ∧ Nx H6)
theorem pe_dtc {kx vx tg iter : Expr} {scope : Scope} {own : List (Str × Nat)} {pos : Pos} {wi : TI} {g : TG} {tk tv : TE} (hu : X.A.units + 1 < cLine) (hc : X.calm = true) (hN : X.N.Nodup) (hi : PI X tg iter wi) (ok : BlkOk X.N X.env.scope scope own)
    (hg : ∀ (s : Shared) (H : Hp) (C : Addr) (cl : List (Str × Addr)) (fp : List Addr), PG (X.blk s H scope (compEnvC scope cl C X.env) fp) tg g)
    (hk : ∀ (s : Shared) (H : Hp) (C : Addr) (cl : List (Str × Addr)) (fp : List Addr), PE (X.blk s H scope (compEnvC scope cl C X.env) fp) kx tk)
    (he : ∀ (s : Shared) (H : Hp) (C : Addr) (cl : List (Str × Addr)) (fp : List Addr), PE (X.blk s H scope (compEnvC scope cl C X.env) fp) vx tv)
    (hs : ∀ x, foldedSetIterable iter X.env x = pure x := by intro _; rfl) :
    PE X (.DictComp kx vx [⟨tg, iter, [], 0⟩] scope pos) (tDtc X.prog X.w X.K wi g tk tv (own.map (·.2))) := by
  refine ⟨fun pins s σ H Q I h => ?_⟩
  rw [arm_eval_DictComp]
  have free : ∀ y ∈ scope.names, y.2 = .free → ∃ c, X.env.cells.lookup y.1 = some c := fun y hy e => I.ok.has _ ((ok.free y hy e).imp id id)
  refine wpAny_comprehension_free rfl hs (closure_ok free) ok.kind (fun y hy e => by rw [ok.uniq y hy, e]) (thn (hi.run pins s σ H _ I h) fun xv s1 hx => thn hx fun itv s2 h2 => ?_)
  obtain ⟨it, fp, tn, J, H2, rfl, I2, T, st2, f2, q⟩ := h2
  refine wpAny_newObj_type (newEnv_comp ?_)
  -- the dict
  generalize hD : s2.heap.objs.size = D
  have nD : H2 D = none := I2.hok.fresh (Nat.le_of_eq hD)
  obtain ⟨W, ⟨m0, w0⟩, turn⟩ := q D nD
  generalize e3 : ({ s2 with heap := s2.heap.push { cls := .type "dict", data := .dict #[] } } : Shared) = s3
  have h3 : s3.heap = s2.heap.push { cls := .type "dict", data := .dict #[] } := by rw [← e3]
  have I3 : Inv X pins σ (upd H2 D (DtO X.prog X.w D [])) s3 := by
    rw [← e3]
    refine I2.laid (t' := s2.toks) (fun b o e => Heap.get?_push_of_some _ e) (Nat.le_of_eq hD) (dtO_ok ⟨Nat.zero_le _, ?_, [], .nil, List.nodup_nil, #[], 0, _, by rw [← hD]; exact Heap.get?_push_size _ rfl, ⟨rfl, rfl, rfl⟩, rfl, rfl⟩)
    rw [← hD]
    exact beq_eq_false_iff_ne.mpr (Ne.symm (Nat.ne_of_lt I2.big))
  have low : ∀ b ∈ fp, b < s2.heap.objs.size := fun b hb => let ⟨_, e, _⟩ := T.obj _ _ st2 b hb; Heap.lt_size e
  have f3 : ∀ b ∈ fp, FpOk X pins (upd H2 D (DtO X.prog X.w D [])) b ∧ b < s3.heap.objs.size := fun b hb => by
    refine ⟨⟨?_, (f2 b hb).2⟩, by rw [h3, Heap.size_push]; exact Nat.lt_succ_of_lt (low b hb)⟩
    rw [upd_ne (by rw [← hD]; exact Nat.ne_of_lt (low b hb))]
    exact (f2 b hb).1
  have st3 : tn 0 s3.heap := T.keep _ _ _ st2 fun b _ o e => by rw [h3]; exact Heap.get?_push_of_some _ e
  have I4 := block_start I3 ok hN f3
  -- the block's frame
  generalize ecl : cellsFrom (s3.heap.objs.size + 1) scope.names (cloFrom X.env.cells scope.names []) = cl at I4
  have pg := hg s3 (upd H2 D (DtO X.prog X.w D [])) s3.heap.objs.size cl fp
  have pk := hk s3 (upd H2 D (DtO X.prog X.w D [])) s3.heap.objs.size cl fp
  have pe := he s3 (upd H2 D (DtO X.prog X.w D [])) s3.heap.objs.size cl fp
  have nfp : ∀ b ∈ fp, upd H2 D (DtO X.prog X.w D []) b = none := fun b hb => (f3 b hb).1.1
  have cL : (compEnvC scope cl s3.heap.objs.size X.env).locals = s3.heap.objs.size := rfl
  subst ecl
  show codeAny _ _ (.compStart (.DictComp kx vx [⟨tg, iter, [], 0⟩] scope pos) 0 (.ref it) (.ref D) (compEnvC scope (cellsFrom (s3.heap.objs.size + 1) scope.names (cloFrom X.env.cells scope.names [])) s3.heap.objs.size X.env)) _ { s3 with heap := pushCells (s3.heap.push { cls := .type "dict", data := .dict #[] }) scope.names }
  generalize compEnvC scope (cellsFrom (s3.heap.objs.size + 1) scope.names (cloFrom X.env.cells scope.names [])) s3.heap.objs.size X.env = ce at I4 pg pk pe cL ⊢
  generalize upd H2 D (DtO X.prog X.w D []) = H3 at I3 I4 pg pk pe w0 nfp f3
  generalize e4 : ({ s3 with heap := pushCells (s3.heap.push { cls := .type "dict", data := .dict #[] }) scope.names } : Shared) = s4 at I4 ⊢
  have st4 : tn 0 s4.heap := T.keep _ _ _ st3 fun b _ o e => by rw [← e4]; exact pushCells_keeps _ _ _ _ (Heap.get?_push_of_some _ e)
  have stat : ∀ {σ' : L2.St} {H' : Hp} {s' : Shared}, Inv (X.blk s3 H3 scope ce fp) [] σ' H' s' → (∀ b ∈ fp, H' b = none) → ∀ b ∈ fp, FpOk (X.blk s3 H3 scope ce fp) [] H' b := fun I' hn b hb =>
    ⟨hn b hb, (I'.ok.exf b hb).1, I'.ok.exfs b hb, .inl hb, fun x c e => (I'.ok.exf b hb).2 x c e, fun p hp => absurd (show p ∈ ([] : List (Addr × Obj)) ++ [] from hp) (by simp)⟩
  refine codeAny_compStart_dict ?_ (T.self X.A 0 _ _ _ st4 ?_)
  all_goals
    refine compLoop_anyD (fun n s' => ∃ i H', Inv (X.blk s3 H3 scope ce fp) [] (wipe σ (own.map (·.2))) H' s' ∧ tn i s'.heap ∧ (∀ b ∈ fp, H' b = none) ∧ W i n H') ?_ m0 ⟨0, H3, I4, st4, nfp, w0⟩
    rintro n s5 ⟨i, H5, I5, st5, n5, w5⟩
    rcases turn i n H5 w5 with ⟨stop, qq⟩ | ⟨go, Nx, hNx, step⟩
    · refine thnF (T.done (X.blk s3 H3 scope ce fp) rfl rfl rfl hc i [] s5 _ H5 (fun _ _ => False) I5 (stat I5 n5) st5 stop) fun r s6 ⟨hr, I6⟩ => ?_
      subst hr
      have I7 : Inv X pins σ H5 s6 := I3.call' (ch := fp) I6.os I6.base I6.hok I6.bare fun b hb => ⟨(f3 b hb).1.2.2.2.1, (f3 b hb).1.2.1, (f3 b hb).1.2.2.2.2.1, (f3 b hb).1.2.2.2.2.2⟩
      obtain ⟨m, hn, _⟩ := I6.loc
      have nC : H5 s3.heap.objs.size = none := cL ▸ I6.free
      have hn : s6.heap.Ns s3.heap.objs.size m := cL ▸ hn
      obtain ⟨p0, p1, p2, p3, p4, p5⟩ := I3.fpOk (Nat.le_refl _) nC
      exact ⟨m, hn, fun h'' sb => ⟨.ref D, H5, I7.turned (t' := s6.toks) (fun b o hb e => (sb.2 b hb).trans e) p0 p1 p3 p4 p5, rfl, qq⟩⟩
    · refine thnF (T.item (X.blk s3 H3 scope ce fp) rfl rfl rfl hc i [] s5 _ H5 (fun _ _ => False) I5 (stat I5 n5) st5 go) fun r s6 ⟨u, hr, h6⟩ => ?_
      subst hr
      refine thnF h6 fun _ s7 ⟨x, H7, I7, r7, y7, st7, n7⟩ => ?_
      refine thnF (pg.run _ s7 _ H7 x u _ (I7.pinned (stat I7 n7) (T.obj _ _ st7)) r7 (step x H7 y7)) fun _ s8 ⟨σ8, H8, I8, hw8, q8⟩ => ?_
      refine wpAny_pure ?_
      simp only [if_true]
      refine thnF (pk.run _ s8 σ8 H8 _ I8 q8) fun z s10 ⟨yk, H10, I10, r10, q10⟩ => ?_
      refine thnF (pe.run _ s10 σ8 H10 _ I10 q10) fun z2 s11 ⟨yv, H11, I11, r11, H12, lay, nx⟩ => ?_
      refine dt_compSet (X := X.blk s3 H3 scope ce fp) hu I11 lay r10 r11 fun s12 I12 => ?_
      obtain ⟨m', hm, w'⟩ := hNx H12 nx
      have pin' : ∀ b ∈ fp, ∀ o, s7.heap.get? b = some o → s12.heap.get? b = some o ∧ H12 b = none := fun b hb o e =>
        let z := I12.pin (b, o) (List.mem_append_right _ (List.mem_append_right _ (mem_pinsAt hb e)))
        ⟨z.1, z.2.1⟩
      refine ⟨m', hm, i + 1, H12, (I12.unpinned (pins := [])).weak (by rw [← hw8, wipe_length]) (fun j v e => ?_), T.keep _ _ _ st7 fun b hb o e => (pin' b hb o e).1, fun b hb => ?_, w'⟩
      · rw [← hw8] at e
        exact (wipe_some e).1
      · obtain ⟨o, e, _⟩ := T.obj _ _ st7 b hb
        exact (pin' b hb o e).2
/-- over a list that stays -/
theorem dtc_list {P : Program} {w : World} {K : PySem.W.Frag} {a : Addr} {xs : List V} {g : TG} {tk tv : TE} {vs : List Nat} {σ : L2.St} {H1 : Hp} {D : Addr} {Qd : Hp → Prop} (Pv : Nat → Hp → Prop) (h0 : Pv 0 (upd H1 D (DtO P w D [])))
    (hl : ∀ i H, i ≤ xs.length → Pv i H → SqL K H a xs)
    (hs : ∀ i x H, xs[i]? = some x → Pv i H → g x (wipe σ vs) H fun σ2 H2 => wipe σ2 vs = wipe σ vs ∧ tk σ2 H2 fun y H4 => tv σ2 H4 fun z H5 => ∃ H6, DLay P w K H5 (.ref D) y z H6 ∧ Pv (i + 1) H6)
    (hd : ∀ H, Pv xs.length H → Qd H) :
    ∃ W : Nat → Nat → Hp → Prop, (∃ m, W 0 m (upd H1 D (DtO P w D []))) ∧ ∀ i m H, W i m H → ((Itl K a).stop i H ∧ Qd H) ∨ ((Itl K a).go i H ∧ ∃ Nx : Hp → Prop, (∀ H', Nx H' → ∃ m', m' < m ∧ W (i + 1) m' H') ∧
      ∀ x H', (Itl K a).yld i H x H' → g x (wipe σ vs) H' fun σ2 H2 => wipe σ2 vs = wipe σ vs ∧ tk σ2 H2 fun y H4 => tv σ2 H4 fun z H5 => ∃ H6, DLay P w K H5 (.ref D) y z H6 ∧ Nx H6) := by
  refine ⟨fun i m H => i ≤ xs.length ∧ m + i = xs.length ∧ Pv i H, ⟨xs.length, Nat.zero_le _, rfl, h0⟩, fun i m H ⟨hi, hm, p⟩ => ?_⟩
  have q := hl i H hi p
  rcases Nat.lt_or_eq_of_le hi with lt | e
  · refine .inr ⟨⟨xs, xs[i], q, by simp [lt]⟩, Pv (i + 1), fun H' p' => ⟨m - 1, by omega, lt, by omega, p'⟩, fun x H' y => ?_⟩
    obtain ⟨rfl, y⟩ := y
    exact hs i x _ (y xs q) p
  · subst e
    exact .inl ⟨⟨xs, q, Nat.le_refl _⟩, hd H p⟩
end
end Rp
/-! Mx: max of four ints, and a for over what is a list or a tuple. -/
namespace Rp
open PySem L2 PyProof.Rows
theorem best_is (f : Nat → Int) : ∀ k : Nat, argBest (fun i j => decide (f i > f j)) k ≤ k ∧ ∀ i, i ≤ k → f i ≤ f (argBest (fun i j => decide (f i > f j)) k)
  | 0 => ⟨Nat.le_refl _, fun i hi => by
      have e : i = 0 := by omega
      rw [e]
      exact Int.le_refl _⟩
  | k + 1 => by
    obtain ⟨h1, h2⟩ := best_is f k
    by_cases g : f (k + 1) > f (argBest (fun i j => decide (f i > f j)) k)
    · have e : argBest (fun i j => decide (f i > f j)) (k + 1) = k + 1 := by simp [argBest, g]
      rw [e]
      refine ⟨Nat.le_refl _, fun i hi => ?_⟩
      by_cases z : i = k + 1
      · rw [z]
        exact Int.le_refl _
      · have := h2 i (by omega)
        omega
    · have e : argBest (fun i j => decide (f i > f j)) (k + 1) = argBest (fun i j => decide (f i > f j)) k := by simp [argBest, g]
      rw [e]
      refine ⟨by omega, fun i hi => ?_⟩
      by_cases z : i = k + 1
      · rw [z]
        omega
      · exact h2 i (by omega)
section
variable {prog : Program} {w : World} {A : Around} {E : Value → Shared → Prop} {s : Shared}
theorem max4_args (a b c d : Value) : argsOk "max" ⟨[a, b, c, d], []⟩ := by
  unfold argsOk
  kernel_rfl
theorem far1 {n : Nat} : n ≠ n + 1 := by omega
theorem far2 {n : Nat} : n + 1 + 1 ∉ [n + 1, n] := by simp; omega
theorem far3 {z n : Nat} (h : z < n) : z ∉ [n + 1] := by simp; omega
theorem far4 {z n : Nat} (h : z < n) : z ≠ n + 1 + 1 := by omega
/-- the greatest of four -/
theorem max4 {n : Nat → Int} {t : Nat → Tok} {Q : Value → Shared → Prop} (hh : A.handled = none)
    (h : ∀ (g : Heap) (tk : Nat) (k : Nat), k < 4 → (∀ i, i < 4 → n i ≤ n k) → (∀ z o, s.heap.get? z = some o → g.get? z = some o) → Q (.int (n k) (t k)) { s with heap := g, toks := tk }) :
    wpAny (model prog w) A (call (.builtin "max") [.int (n 0) (t 0), .int (n 1) (t 1), .int (n 2) (t 2), .int (n 3) (t 3)]) Q E s := by
  have nm : (toString "max" ++ toString ".loop" : String) = "max.loop" := by decide
  have at4 : ∀ i v, (#[Value.int (n 0) (t 0), .int (n 1) (t 1), .int (n 2) (t 2), .int (n 3) (t 3)] : Array Value)[i]? = some v → i < 4 ∧ v = .int (n i) (t i) := by
    intro i v e
    match i, e with
    | 0, e => exact ⟨by omega, by simpa using e.symm⟩
    | 1, e => exact ⟨by omega, by simpa using e.symm⟩
    | 2, e => exact ⟨by omega, by simpa using e.symm⟩
    | 3, e => exact ⟨by omega, by simpa using e.symm⟩
    | i + 4, e => simp at e
  have at4 : ∀ (arr : Array Value) (i : Nat) (v : Value), arr = #[Value.int (n 0) (t 0), .int (n 1) (t 1), .int (n 2) (t 2), .int (n 3) (t 3)] → arr[i]? = some v → i < 4 ∧ v = .int (n i) (t i) := fun arr i v e h => at4 i v (e ▸ h)
  have sz : ∀ arr : Array Value, (s.heap.push { cls := .type "tuple", data := .seq arr }).objs.size = s.heap.objs.size + 1 := fun _ => Heap.size_push ..
  have tup : ∀ arr : Array Value, (s.heap.push { cls := .type "tuple", data := .seq arr }).IsTuple s.heap.objs.size arr := fun arr => ⟨_, Heap.get?_push_size _ rfl, rfl, 0, rfl⟩
  have four : ∀ arr : Array Value, arr = #[Value.int (n 0) (t 0), .int (n 1) (t 1), .int (n 2) (t 2), .int (n 3) (t 3)] → arr.size = 4 := fun arr e => by rw [e]; rfl
  refine call_function_tree F.kind_max F.plain_max F.entry_max (max4_args _ _ _ _) (wpAny_bind (wpAny_of_eq (a := [none, none]) rfl ?_))
  refine wpAny_bind (M := model prog w) (A := A.in1) (m := newTuple [.int (n 0) (t 0), .int (n 1) (t 1), .int (n 2) (t 2), .int (n 3) (t 3)]) (wpAny_newObj_type ?_)
  generalize ea : ([Value.int (n 0) (t 0), .int (n 1) (t 1), .int (n 2) (t 2), .int (n 3) (t 3)] : List Value).toArray = arr
  have ea' := ea.symm
  refine wpAny_bind (wpAny_pyIter_tuple (tup arr) (wpAny_bind (wpAny_newObj_type ?_)))
  rw [nm]
  have W := Walks.tuple (prog := prog) (w := w) (A := A.in1) hh (s.heap.objs.size + 1) s.heap.objs.size far1 arr
  have i1 : (s.heap.push { cls := .type "tuple", data := .seq arr }).objs.size = s.heap.objs.size + 1 := sz arr
  have i2 : ((s.heap.push { cls := .type "tuple", data := .seq arr }).push { cls := .type "tuple_iterator", data := .fields #[.ref s.heap.objs.size, .int 0 0] }).objs.size = s.heap.objs.size + 1 + 1 := by
    rw [Heap.size_push, i1]
  dsimp only [Option.getD_none, Option.toList_none, List.map_nil]
  rw [i1, i2]
  have hit : ((s.heap.push { cls := .type "tuple", data := .seq arr }).push { cls := .type "tuple_iterator", data := .fields #[.ref s.heap.objs.size, .int 0 0] }).IsTupleIter (s.heap.objs.size + 1) s.heap.objs.size 0 :=
    ⟨_, by rw [← i1]; exact Heap.get?_push_size _ rfl, rfl, rfl⟩
  have ht2 := (tup arr).push { cls := .type "tuple_iterator", data := .fields #[.ref s.heap.objs.size, .int 0 0] }
  have hst := W.frame 0 _ _ ⟨hit, ht2⟩ fun b (_ : b ∈ [s.heap.objs.size + 1, s.heap.objs.size]) o e => Heap.get?_push_of_some { cls := .type "list", data := .seq #[] } e
  refine wpAny_pure ⟨plainId_quiet F.plain_max_loop _, codeAny_max_loop_first W _ (CmpOf.ints_gt n fun i v e => ⟨t i, (at4 arr i v ea' e).2⟩) (s.heap.objs.size + 1 + 1) far2 (by rw [four arr ea']; omega) hst (by rw [← i2]; exact Heap.get?_push_size _ rfl) fun v g tk hP hk => ?_⟩
  obtain ⟨b1, b2⟩ := best_is n 3
  rw [four arr ea'] at hP
  obtain ⟨k4, rfl⟩ := at4 arr _ v ea' hP
  refine h g tk _ k4 (fun i hi => b2 i (by omega)) fun z o e => ?_
  have hz := Heap.lt_size e
  refine hk z o (far3 hz) (far4 hz) (Heap.get?_push_of_some _ (Heap.get?_push_of_some _ (Heap.get?_push_of_some _ e)))
end
section
variable {X : Cx}
theorem call_max4 (hc : X.calm = true) : CallR X (.builtin "max") (fun xs H Q => ∃ a b c d : Int, xs = [.int a, .int b, .int c, .int d] ∧ ∀ m, m ∈ [a, b, c, d] → a ≤ m → b ≤ m → c ≤ m → d ≤ m → Q (.int m) H) := by
  intro pins s σ H xs us Q I r h
  obtain ⟨a, b, c, d, rfl, q⟩ := h
  cases r with
  | cons r1 r =>
  cases r with
  | cons r2 r =>
  cases r with
  | cons r3 r =>
  cases r with
  | cons r4 r =>
  cases r
  obtain ⟨t1, rfl⟩ := r1
  obtain ⟨t2, rfl⟩ := r2
  obtain ⟨t3, rfl⟩ := r3
  obtain ⟨t4, rfl⟩ := r4
  refine max4 (n := fun i => [a, b, c, d].getD i 0) (t := fun i => [t1, t2, t3, t4].getD i t1) (I.ok.hd hc) fun g tk k hk hm hold => ⟨.int ([a, b, c, d].getD k 0), H, I.kept hold, ⟨_, rfl⟩, ?_⟩
  have m0 := hm 0 (by omega)
  have m1 := hm 1 (by omega)
  have m2 := hm 2 (by omega)
  have m3 := hm 3 (by omega)
  refine q _ ?_ m0 m1 m2 m3
  match k, hk with
  | 0, _ => simp
  | 1, _ => simp
  | 2, _ => simp
  | 3, _ => simp
/-- a for over a list or a tuple -/
def iSeqA (K : PySem.W.Frag) (te : TE) : TI := fun σ H R => te σ H fun x H1 => ∃ a, x = .ref a ∧ (((∃ xs, SqL K H1 a xs) ∧ R (Itl K a) H1) ∨ ((∃ xs, SqT K H1 a xs) ∧ R (Itt K a) H1))
theorem pi_seqA {tg l : Expr} {te : TE} (hl : PE X l te) : PI X tg l (iSeqA X.K te) := by
  refine ⟨fun pins s σ H R I h => thn (hl.run pins s σ H _ I h) fun v s1 ⟨x, H1, I1, r1, a, e, q⟩ => ?_⟩
  subst e
  cases r1
  have fresh : ∀ b ∈ [s1.heap.objs.size], FpOk X pins H1 b := fun b hb => by
    rw [List.mem_singleton] at hb
    rw [hb]
    exact I1.fpOk (Nat.le_refl _) (I1.hok.fresh (Nat.le_refl _))
  rcases q with ⟨⟨xs, hx⟩, q⟩ | ⟨⟨xs, hx⟩, q⟩
  · obtain ⟨its, rv, p, hz⟩ := I1.list hx
    exact wpAny_pyIter_list p.isList ⟨_, [s1.heap.objs.size], _, _, H1, rfl, I1.kept (t' := s1.toks) fun b o e => Heap.get?_push_of_some _ e, turn_list a _, ⟨_, Heap.get?_push_size _ rfl, rfl, rfl⟩, fresh, q⟩
  · obtain ⟨its, rv, p, hz⟩ := I1.tuple hx
    exact wpAny_pyIter_tuple (items := its.toArray) p ⟨_, [s1.heap.objs.size], _, _, H1, rfl, I1.kept (t' := s1.toks) fun b o e => Heap.get?_push_of_some _ e, turn_tuple a _, ⟨_, Heap.get?_push_size _ rfl, rfl, rfl⟩, fresh, q⟩
end
/-- a list or a tuple with these items -/
def SeqA (K : PySem.W.Frag) (H : Hp) (a : Addr) (xs : List V) : Prop := SqL K H a xs ∨ SqT K H a xs
theorem SeqA.same {K : PySem.W.Frag} {H H' : Hp} {a : Addr} {xs : List V} (h : SeqA K H a xs) (s : Same H H') : SeqA K H' a xs := by
  rcases h with h | h
  · rcases h with (h | ⟨o, h⟩) | h
    · exact .inl (.inl (.inl (s _ _ h)))
    · exact .inl (.inl (.inr ⟨o, s _ _ h⟩))
    · exact .inl (.inr h)
  · exact .inr (same_sqT s h)
theorem walk_revT {K : PySem.W.Frag} {a : Addr} {xs : List V} : Walk (RT.ItvT K a xs.length) xs.length (fun H => SqT K H a xs) (fun i H x H' => H' = H ∧ xs[xs.length - 1 - i]? = some x) :=
  ⟨fun i H hi h => ⟨hi, xs, xs[xs.length - 1 - i]'(by omega), h, List.getElem?_eq_getElem (by omega)⟩, fun _ _ => Nat.le_refl _, fun i H x H' hi h y => ⟨y.1, y.2 xs h⟩⟩
theorem same_sqL {K : PySem.W.Frag} {H H' : Hp} {a : Addr} {xs : List V} (s : Same H H') (h : SqL K H a xs) : SqL K H' a xs := by
  rcases h with (h | ⟨o, h⟩) | h
  · exact .inl (.inl (s _ _ h))
  · exact .inl (.inr ⟨o, s _ _ h⟩)
  · exact .inr h
/-- what a for asks of what it walks -/
def ForR (g : TG) (tb : TS) (D : Ends) (σ : L2.St) (J : It) (H : Hp) : Prop := ∃ W : Nat → Nat → L2.St → Hp → Prop, (∃ m, W 0 m σ H) ∧ ∀ (i m : Nat) (σ : L2.St) (H : Hp), W i m σ H →
  (J.stop i H ∧ D.nx σ H) ∨ (J.go i H ∧ ∃ N : L2.St → Hp → Prop, (∀ (σ' : L2.St) (H' : Hp), N σ' H' → ∃ m', m' < m ∧ W (i + 1) m' σ' H') ∧ ∀ (x : V) (H' : Hp), J.yld i H x H' → g x σ H' fun σ2 H2 => tb { nx := N, rt := D.rt, bk := D.nx, ct := N } σ2 H2)
theorem for_seqA {K : PySem.W.Frag} {a : Addr} {xs : List V} {g : TG} {tb : TS} {D : Ends} {σ : L2.St} {Hb H : Hp} (h : SeqA K Hb a xs) (hb : Same Hb H) (Pv : Nat → L2.St → Hp → Prop) (h0 : Pv 0 σ H)
    (hs : ∀ (i : Nat) (σ : L2.St) (H' : Hp), i ≤ xs.length → Pv i σ H' → Same Hb H')
    (step : ∀ (i : Nat) (x : V) (σ : L2.St) (H' : Hp), xs[i]? = some x → Pv i σ H' → g x σ H' fun σ2 H2 => tb { nx := Pv (i + 1), rt := D.rt, bk := D.nx, ct := Pv (i + 1) } σ2 H2)
    (fin : ∀ (σ : L2.St) (H' : Hp), Pv xs.length σ H' → D.nx σ H') : ((∃ xs, SqL K H a xs) ∧ ForR g tb D σ (Itl K a) H) ∨ ((∃ xs, SqT K H a xs) ∧ ForR g tb D σ (Itt K a) H) := by
  rcases h with h | h
  · exact .inl ⟨⟨xs, same_sqL hb h⟩, for_it (walk_list (xs := xs)) Pv h0 (fun i σ H' hi p => same_sqL (hs i σ H' hi p) h) (fun i x σ H1 H2 hi p y => by obtain ⟨rfl, y⟩ := y; exact step i x σ _ y p) fin⟩
  · exact .inr ⟨⟨xs, same_sqT hb h⟩, for_it (walk_tup (xs := xs)) Pv h0 (fun i σ H' hi p => same_sqT (hs i σ H' hi p) h) (fun i x σ H1 H2 hi p y => by obtain ⟨rfl, y⟩ := y; exact step i x σ _ y p) fin⟩
theorem for_revA {K : PySem.W.Frag} {a : Addr} {xs : List V} {g : TG} {tb : TS} {D : Ends} {σ : L2.St} {Hb H : Hp} (h : SeqA K Hb a xs) (hb : Same Hb H) (Pv : Nat → L2.St → Hp → Prop) (h0 : Pv 0 σ H)
    (hs : ∀ (i : Nat) (σ : L2.St) (H' : Hp), i ≤ xs.length → Pv i σ H' → Same Hb H')
    (step : ∀ (i : Nat) (x : V) (σ : L2.St) (H' : Hp), i < xs.length → xs[xs.length - 1 - i]? = some x → Pv i σ H' → g x σ H' fun σ2 H2 => tb { nx := Pv (i + 1), rt := D.rt, bk := D.nx, ct := Pv (i + 1) } σ2 H2)
    (fin : ∀ (σ : L2.St) (H' : Hp), Pv xs.length σ H' → D.nx σ H') : (SqL K H a xs ∧ ForR g tb D σ (Itv K a xs.length) H) ∨ (SqT K H a xs ∧ ForR g tb D σ (RT.ItvT K a xs.length) H) := by
  rcases h with h | h
  · exact .inl ⟨same_sqL hb h, for_it (walk_rev (xs := xs)) Pv h0 (fun i σ H' hi p => same_sqL (hs i σ H' hi p) h) (fun i x σ H1 H2 hi p y => by obtain ⟨rfl, y⟩ := y; exact step i x σ _ hi y p) fin⟩
  · exact .inr ⟨same_sqT hb h, for_it (walk_revT (xs := xs)) Pv h0 (fun i σ H' hi p => same_sqT (hs i σ H' hi p) h) (fun i x σ H1 H2 hi p y => by obtain ⟨rfl, y⟩ := y; exact step i x σ _ hi y p) fin⟩
theorem walk_zipT2 {K : PySem.W.Frag} {a b : Addr} {xs ys : List V} {n : Nat} (hn : n = min xs.length ys.length) : Walk (RZ.ItzT K a b) n (fun H => SqT K H a xs ∧ SqT K H b ys) (YPair (fun i => xs[i]?) (fun i => ys[i]?)) := by
  subst hn
  refine ⟨fun i H hi h => ?_, fun H h => ⟨xs, ys, h.1, h.2, by omega⟩, fun i H v H' hi h y => ?_⟩
  · have l1 : i < xs.length := by omega
    have l2 : i < ys.length := by omega
    exact ⟨xs, ys, xs[i], ys[i], h.1, h.2, List.getElem?_eq_getElem l1, List.getElem?_eq_getElem l2⟩
  · obtain ⟨T, x, z, rfl, hT, rfl, f1, f2⟩ := y
    exact ⟨T, x, z, rfl, hT, rfl, f1 xs h.1, f2 ys h.2⟩
end Rp
/-! Ts: set of a tuple of tuples of ints, and such a set sorted whatever the lengths. -/
namespace Rp
open PySem PySem.Spec L2 PyProof.Rows
section
variable {P : Program} {w : World} {A : Around} {E : Value → Shared → Prop} {s : Shared}
/-- the object of an empty new set -/
abbrev setOb (w : World) : Obj := { cls := .type "set", dict := none, data := .set #[] 0 (.fresh 0 0 (!w.params.followText "set-order")) }
abbrev setHp (w : World) (s : Shared) : Heap := s.heap.push (setOb w)
theorem past_none {h : Heap} {b : Addr} (hb : h.objs.size ≤ b) : h.get? b = none := by
  cases q : h.get? b with
  | none => rfl
  | some o => exact absurd (Heap.lt_size q) (Nat.not_lt.mpr hb)
theorem set_tupT {l : Addr} {items : Array Value} (ks : List (Addr × List Int)) {Q : Value → Shared → Prop} (free : A.handled = none) (tupl : s.heap.IsTuple l items) (eit : items.toList = ks.map fun p => Value.ref p.1)
    (ek : ∀ p ∈ ks, IsT P w s.heap p.2 p.1) (few : ks.length < 64) (un : A.units + 3 < cLine)
    (out : ∀ (g : Heap) (tk : Nat) L es ep t, SetTR P w g s.heap.objs.size L es ep t → Got ks ks.length L → (∀ b o, s.heap.get? b = some o → g.get? b = some o) → Q (.ref s.heap.objs.size) { s with heap := g, toks := tk }) :
    wpAny (model P w) A (call (.type "set") [.ref l]) Q E s := by
  have esz : items.size = ks.length := by rw [← Array.length_toList, eit, List.length_map]
  obtain ⟨c, tl, mro1⟩ := F.called_set.mro
  have made1 := F.called_set.made
  have subm := F.called_set.sub
  refine wpAny_call (codeAny_of_tree (show wpAny _ _ (callAny (.type "set") _) _ _ _ from wpAny_pure ⟨Code.quiet_builtin _ (by decide +kernel), codeAny_builtin F.entry_type_call ?_⟩))
  rw [Around.under_plain (weight_type_call_type "set" [.ref l] []) rfl]
  have nty := F.called_set.notType
  have cancr := F.called_set.canCreate
  have tcall := F.typeCall_set_1 (.ref l)
  repeat (any_goals (first | assumption | wp_step))
  refine codeAny_mono (code_set_led1 (.ref l) (E := E) (Q₁ := fun x s1 => x = .ref s.heap.objs.size ∧ s1 = { s with heap := setHp w s }) ⟨rfl, rfl⟩) fun r s1 hr => ?_
  rcases r with e | fl
  · exact hr
  cases fl <;> first | exact hr.elim | skip
  rename_i made
  obtain ⟨rfl, rfl⟩ := hr
  have atS : (setHp w s).get? s.heap.objs.size = some (setOb w) := Heap.get?_push_size _ rfl
  have tyS : Shared.TypeIs { s with heap := setHp w s } (.ref s.heap.objs.size) "set" := ⟨_, atS, rfl⟩
  have lki := F.called_set.init.lookup
  have bdi := F.called_set.init.bind (.ref s.heap.objs.size)
  repeat (any_goals (first | assumption | wp_step))
  refine codeAny_mono (codeAny_call_builtin (R := wants (fun r s2 => r = .none ∧ ∃ g tk L es ep t, s2 = { s with heap := g, toks := tk } ∧ SetTR P w g s.heap.objs.size L es ep t ∧ Got ks ks.length L ∧
      (∀ b o, s.heap.get? b = some o → g.get? b = some o)) E) F.called_set.init.plain F.entry_set_init (check_set_init_1 tyS ?_)) fun r2 s2 hr2 => ?_
  · obtain ⟨ob, atl, cl, nl, dt⟩ := tupl
    rcases ob with ⟨c0, d0, dat0, sl0⟩
    dsimp only at cl dt
    subst cl dt
    have atl' : (setHp w s).get? l = some { cls := .type "tuple", dict := d0, data := .seq items nl, slots := sl0 } := Heap.get?_push_of_some _ atl
    have sb1 := F.sub_tuple_set
    have sb2 := F.sub_tuple_frozenset
    have nd : (Value.type "tuple" == Value.type "dict") = false := by decide
    have isT1 : (setHp w s).IsTuple l items := ⟨_, atl', rfl, nl, rfl⟩
    unfold Builtin.«set.__init__» noKeywords Builtin.Frozenset.updateFrom
    generalize hit : pyIter = IT
    wp_walk
    subst hit
    refine wpAny_pyIter_tuple isT1 (wpAny_bind (wpAny_runValue ?_))
    have ltl : l < s.heap.objs.size := Heap.lt_size atl
    have sz : (setHp w s).objs.size = s.heap.objs.size + 1 := Heap.size_push ..
    have farl : l ≠ (setHp w s).objs.size := by
      rw [sz]
      exact Nat.ne_of_lt (Nat.lt_succ_of_lt ltl)
    have farS : s.heap.objs.size ∉ [(setHp w s).objs.size, l] := by
      intro hm
      rcases List.mem_cons.mp hm with e | e
      · rw [sz] at e
        exact absurd e (Nat.ne_of_lt (Nat.lt_succ_self _))
      · exact absurd (List.mem_singleton.mp e) (Nat.ne_of_gt ltl)
    have each : ∀ (i : Nat) (v : Value), items[i]? = some v → ∃ p, ks[i]? = some p ∧ v = .ref p.1 := fun i v hv => by
      rw [← Array.getElem?_toList, eit, List.getElem?_map] at hv
      obtain ⟨p, e1, e2⟩ := Option.map_eq_some_iff.mp hv
      exact ⟨p, e1, e2.symm⟩
    refine set_update_tups ((Walks.tuple (A := A.in1.in1.in1) (by simp [free]) _ l farl items).toS) s.heap.objs.size farS ks esz few each s.heap ek (past_none (Nat.le_refl _)) (fun b hb => past_none (by
        rw [List.mem_singleton.mp hb]
        omega)) un (items.size - 0) 0 _ (by omega) (Nat.zero_le _) ⟨⟨_, Heap.get?_push_size _ rfl, rfl, rfl⟩, (isT1.push _)⟩ (fun b o e => Heap.get?_push_of_some _ (Heap.get?_push_of_some _ e)) ⟨[], #[], 0, _, setTR_fresh (Heap.get?_push_of_some _ atS), Got.zero ks⟩ ?_
    intro s' L es ep t mv R' g' kp
    rcases s' with ⟨h', g2, dr', tk', os'⟩
    have q1 : g2 = s.gens := mv.gens
    have q2 : dr' = s.drawn := mv.drawn
    have q3 : os' = s.os := mv.os
    subst q1 q2 q3
    rw [esz] at g'
    exact wpAny_pure (wpAny_pure ⟨rfl, h', tk', L, es, ep, t, rfl, R', g', kp⟩)
  · rcases r2 with e | fl
    · exact hr2
    cases fl <;> first | exact hr2.elim | skip
    obtain ⟨rfl, g, tk, L, es, ep, t, rfl, R', g', kp⟩ := hr2
    repeat (any_goals (first | assumption | wp_step))
    exact out _ _ _ _ _ _ R' g' kp
/-- such a set sorted -/
theorem setT_sorted {a : Addr} {L : List (Addr × List Int)} {es : Array (Int × Value)} {ep : Nat} {t : SetTable} {Q : Value → Shared → Prop} (R : SetTR P w s.heap a L es ep t) (free : A.handled = none) (full : 2 ≤ L.length → ∀ p ∈ L, p.2 ≠ [])
    (hQ : ∀ s' p (out : Array Value) (c : Nat) (M : List (Addr × List Int)), (∀ b o, s.heap.get? b = some o → s'.heap.get? b = some o) → s'.gens = s.gens → s'.os = s.os → s.heap.objs.size ≤ p →
      s'.heap.get? p = some (seqObj "list" out c) → out.toList = M.map (fun q => Value.ref q.1) → M.Perm L → M.Pairwise (fun q r => HT.lexLt r.2 q.2 = false) → Q (.ref p) s') :
    wpAny (model P w) A (call (.builtin "sorted") [.ref a]) Q E s := by
  obtain ⟨o, ho, hex, dat⟩ := R.ob
  have hsz := R.size
  have hfew := R.few
  refine Calls.call_function_entry kind_sorted plain_sorted entry_sorted (args_sorted1 _) ?_
  unfold Builtin.«sorted»
  refine wpAny_bind (m := checkCount "sorted" 1 1 _) (wpAny_pure (wpAny_bind (collect_set (A := A.in1) free ⟨o, ho, hex.1, dat⟩ R.fits (by unfold scanBound; omega) R.tab.ris R.led fun s1 vs old z1 g1 o1 pm => ?_)))
  have ees : es.toList.map (·.2) = L.map fun q => Value.ref q.1 := by
    rw [R.rows, rowsOf, List.map_map]
    rfl
  rw [ees] at pm
  have lay : ∀ us : List Value, (∀ u ∈ us, ∃ q ∈ L, u = Value.ref q.1) → ∃ M : List (Addr × List Int), us = M.map (fun q => Value.ref q.1) ∧ ∀ q ∈ M, q ∈ L := by
    intro us hu
    induction us with
    | nil => exact ⟨[], rfl, fun q hq => nomatch hq⟩
    | cons u us ih =>
      obtain ⟨q, mq, rfl⟩ := hu u (List.mem_cons_self ..)
      obtain ⟨M, rfl, hM⟩ := ih fun x hx => hu x (List.mem_cons_of_mem _ hx)
      refine ⟨q :: M, rfl, fun r hr => ?_⟩
      rcases List.mem_cons.mp hr with rfl | hr
      · exact mq
      · exact hM r hr
  have uniq : ∀ q ∈ L, ∀ r ∈ L, q.1 = r.1 → q = r := fun q hq r hr e => by
    have x1 := R.tup q hq
    rw [e] at x1
    exact Prod.ext e (x1.inj (R.tup r hr))
  have ndL : L.Nodup := nodup_of_map R.nd
  have ndV : (L.map fun q => Value.ref q.1).Nodup := List.pairwise_map.mpr (ndL.imp_of_mem fun {q r} hq hr ne e => ne (uniq q hq r hr (by injection e)))
  have back : ∀ M : List (Addr × List Int), (∀ q ∈ M, q ∈ L) → (M.map (fun q => Value.ref q.1)).Perm (L.map fun q => Value.ref q.1) → M.Perm L := by
    intro M hM pmM
    refine (List.perm_ext_iff_of_nodup (nodup_of_map (pmM.nodup_iff.mpr ndV)) ndL).mpr fun q => ⟨hM q, fun hq => ?_⟩
    obtain ⟨r, hr, e⟩ := List.mem_map.mp (pmM.mem_iff.mpr (List.mem_map.mpr ⟨q, hq, rfl⟩))
    injection e with e
    rw [← uniq r (hM r hr) q hq e]
    exact hr
  have lv : vs.length < 64 := by
    rw [pm.length_eq, List.length_map]
    exact hfew
  refine wpAny_bind (wpAny_newList ?_ (by rw [sizeLine_eq]; omega))
  have atL : (s1.heap.push (seqObj "list" vs.toArray 0)).get? s1.heap.objs.size = some (seqObj "list" vs.toArray 0) := Heap.get?_push_size _ rfl
  have isK : ∀ q ∈ L, IsTI (s1.heap.push (seqObj "list" vs.toArray 0)) (.ref q.1) q.2 := fun q hq => by
    obtain ⟨ob, its, n, h1, h2, h3, h4⟩ := R.tup q hq
    refine ⟨q.1, ob, its.toList, n, rfl, Heap.get?_push_of_some _ (old _ _ h1), h2, h3, ?_⟩
    have va : ∀ {k : List Int} {us : List Value}, ItemsAre (intKind P w) k us → Vals (k.map V.int) us := by
      intro k us hh
      induction hh with
      | nil => exact .nil
      | @cons k0 v ks vs h1 _ ih =>
        obtain ⟨tk, rfl⟩ := Value.isInt_shape h1
        exact .cons ⟨tk, rfl⟩ ih
    exact va h4
  have keyed : ∀ v ∈ vs, ∃ q ∈ L, v = Value.ref q.1 := fun v hv => by
    obtain ⟨q, hq, e⟩ := List.mem_map.mp (pm.mem_iff.mp hv)
    exact ⟨q, hq, e.symm⟩
  have kOf : ∀ q ∈ L, keyTI (s1.heap.push (seqObj "list" vs.toArray 0)) (.ref q.1) = q.2 := fun q hq => keyTI_of (isK q hq)
  have hs : wpAny (model P w) A.in1 (call (.builtin "list.sort") [.ref s1.heap.objs.size]) (fun _ s2 => ∃ out : List Value, SrtO.Srtd (fun v u => HT.lexLt (keyTI (s1.heap.push (seqObj "list" vs.toArray 0)) v) (keyTI (s1.heap.push (seqObj "list" vs.toArray 0)) u)) out ∧ out.Perm vs ∧
      s2 = { s1 with heap := sortedHeap (s1.heap.push (seqObj "list" vs.toArray 0)) s1.heap.objs.size vs out.toArray }) E { s1 with heap := s1.heap.push (seqObj "list" vs.toArray 0) } := by
    refine wpAny_call_entry slot_list_sort ⟨_, atL, rfl⟩ entry_list_sort (SrtO.list_sort_ord (NtL.swo_lexL _) atL (by rw [sizeLine_eq]; omega) (fun h2 => ?_) fun out a1 a2 => ⟨_, rfl, out, a1, a2.perm, rfl⟩) (args_list_sort _)
    refine ti_sortable (by omega) (fun v hv => ?_) fun ob hob => ?_
    · obtain ⟨q, hq, rfl⟩ := keyed v hv
      rw [kOf q hq]
      exact ⟨isK q hq, full (by rw [pm.length_eq, List.length_map] at h2; omega) q hq⟩
    · rw [atL] at hob
      cases hob
      show (Value.type "list") ≠ Value.type "tuple"
      decide
  refine wpAny_bind (wpAny_holding (wpAny_mono hs ?_ fun _ _ h => h))
  rintro _ _ ⟨out, a1, a2, rfl⟩
  obtain ⟨c, hc⟩ := sortedHeap_at (vs := vs) (out := out.toArray) atL
  obtain ⟨M, eM, hM⟩ := lay out fun v hv => keyed v (a2.mem_iff.mp hv)
  have pM : M.Perm L := back M hM (by rw [← eM]; exact a2.trans pm)
  refine wpAny_pure ⟨_, rfl, hQ _ s1.heap.objs.size out.toArray c M (fun b u e => ?_) g1 o1 z1 hc eM pM ?_⟩
  · have lt := Heap.lt_size (old b u e)
    show (sortedHeap (s1.heap.push (seqObj "list" vs.toArray 0)) s1.heap.objs.size vs out.toArray).get? b = some u
    rw [sortedHeap_old (Nat.ne_of_lt lt) (by rw [size_push']; exact Nat.lt_succ_of_lt lt)]
    exact Heap.get?_push_of_some _ (old b u e)
  · rw [eM] at a1
    refine (List.pairwise_map.mp a1).imp_of_mem fun {q r} hq hr h => ?_
    dsimp only at h
    rw [kOf q (hM q hq), kOf r (hM r hr)] at h
    exact h
end
section
variable {X : Cx}
/-- set(xs), xs a tuple of tuples of ints -/
def rSetTT (K : PySem.W.Frag) (P : Program) (w : World) : List V → Hp → VK → Prop := fun xs H Q => ∃ (l : Addr) (ks : List (Addr × List Int)), xs = [V.ref l] ∧ SqT K H l (ks.map fun p => V.ref p.1) ∧ (∀ p ∈ ks, SqT K H p.1 (p.2.map V.int)) ∧ ks.length < 64 ∧
  ∀ a L, H a = none → (∀ p ∈ L, p ∈ ks) → (∀ p ∈ ks, p.2 ∈ L.map (·.2)) → Q (.ref a) (upd H a (SetTO P w a L))
theorem cr_setTT (hc : X.calm = true) (hu : X.A.units + 64 < cLine) : CallR X (.type "set") (rSetTT X.K X.prog X.w) := by
  intro pins s σ H xs us Q I r h
  obtain ⟨l, ks, rfl, hl, hk, hf, q⟩ := h
  rw [Vals.ref1 r]
  obtain ⟨its, rv, pl, hz⟩ := I.tuple hl
  refine set_tupT (P := X.prog) (w := X.w) ks (I.ok.hd hc) pl (by simpa using refs_of_vals rv) (fun p hp => I.isT (hk p hp)) hf (by omega) fun g tk L es ep t R gt kp => ?_
  refine ⟨.ref s.heap.objs.size, _, I.laid (t' := tk) kp (Nat.le_refl _) (setTO_new R.t0), rfl, q _ L (I.hok.fresh (Nat.le_refl _)) (fun p hp => List.mem_of_mem_take (gt.sub p hp)) fun p hp => gt.all p ?_⟩
  rw [List.take_length]
  exact hp
/-- sorted(set) -/
def rSortSet (K : PySem.W.Frag) (P : Program) (w : World) : List V → Hp → VK → Prop := fun vs H Q => ∃ (a : Addr) (L : List (Addr × List Int)), vs = [V.ref a] ∧ H a = some (SetTO P w a L) ∧ (∀ p ∈ L, SqT K H p.1 (p.2.map V.int) ∧ p.2 ≠ []) ∧
  ∀ (M : List (Addr × List Int)) (p : Addr), M.Perm L → (M.map (·.2)).Nodup → M.Pairwise (fun q r => HT.lexLt r.2 q.2 = false) → M.length < 64 → H p = none → Q (.ref p) (upd H p (.lst (M.map fun q => V.ref q.1)))
theorem cr_sortSet (hc : X.calm = true) : CallR X (.builtin "sorted") (rSortSet X.K X.prog X.w) := by
  intro pins s σ H vs us Q I r h
  obtain ⟨a, L, rfl, ha, hk, q⟩ := h
  have R0 : SetT0 X.prog X.w s.heap a L := (I.hok a _ ha).1
  obtain ⟨es, ep, t, R⟩ := R0.full fun p hp => I.isT (hk p hp).1
  rw [Vals.ref1 r]
  refine setT_sorted R (I.ok.hd hc) (fun _ p hp => (hk p hp).2) fun s' p out c M old g o hp hg eo pm pw => ?_
  have lM : M.length < 64 := by
    rw [pm.length_eq]
    exact R.few
  have fresh : H p = none := I.hok.fresh hp
  have J : L2.Inv X pins σ (upd H p (.lst (M.map fun q => V.ref q.1))) { s with heap := s'.heap, gens := s'.gens, drawn := s'.drawn, toks := s'.toks } :=
    I.call (ch := []) (Un.laid old hp fresh) (I.hok.laid old hp ⟨by rw [List.length_map, sizeLine_eq]; omega, out.toList, c, by rw [eo]; exact vals_of_refs M, hg⟩) (by rw [g]; exact I.bare) (fun _ z => nomatch z)
  have es : s' = { s with heap := s'.heap, gens := s'.gens, drawn := s'.drawn, toks := s'.toks } := by
    cases s'
    cases s
    cases o
    rfl
  rw [es]
  exact ⟨.ref p, _, J, rfl, q M p pm ((pm.map (·.2)).nodup_iff.mpr R.nd) pw lM fresh⟩
/-- the same, where a set of two or more has no empty tuple -/
def rSortSZ (K : PySem.W.Frag) (P : Program) (w : World) : List V → Hp → VK → Prop := fun vs H Q => ∃ (a : Addr) (L : List (Addr × List Int)), vs = [V.ref a] ∧ H a = some (SetTO P w a L) ∧ (∀ p ∈ L, SqT K H p.1 (p.2.map V.int)) ∧ ((L.map (·.2)).Nodup → 2 ≤ L.length → ∀ p ∈ L, p.2 ≠ []) ∧
  ∀ (M : List (Addr × List Int)) (p : Addr), M.Perm L → (M.map (·.2)).Nodup → M.Pairwise (fun q r => HT.lexLt r.2 q.2 = false) → M.length < 64 → H p = none → Q (.ref p) (upd H p (.lst (M.map fun q => V.ref q.1)))
theorem cr_sortSZ (hc : X.calm = true) : CallR X (.builtin "sorted") (rSortSZ X.K X.prog X.w) := by
  intro pins s σ H vs us Q I r h
  obtain ⟨a, L, rfl, ha, hk, full, q⟩ := h
  have R0 : SetT0 X.prog X.w s.heap a L := (I.hok a _ ha).1
  obtain ⟨es, ep, t, R⟩ := R0.full fun p hp => I.isT (hk p hp)
  rw [Vals.ref1 r]
  refine setT_sorted R (I.ok.hd hc) (full R.nd) fun s' p out c M old g o hp hg eo pm pw => ?_
  have lM : M.length < 64 := by
    rw [pm.length_eq]
    exact R.few
  have fresh : H p = none := I.hok.fresh hp
  have J : L2.Inv X pins σ (upd H p (.lst (M.map fun q => V.ref q.1))) { s with heap := s'.heap, gens := s'.gens, drawn := s'.drawn, toks := s'.toks } :=
    I.call (ch := []) (Un.laid old hp fresh) (I.hok.laid old hp ⟨by rw [List.length_map, sizeLine_eq]; omega, out.toList, c, by rw [eo]; exact vals_of_refs M, hg⟩) (by rw [g]; exact I.bare) (fun _ z => nomatch z)
  have es : s' = { s with heap := s'.heap, gens := s'.gens, drawn := s'.drawn, toks := s'.toks } := by
    cases s'
    cases s
    cases o
    rfl
  rw [es]
  exact ⟨.ref p, _, J, rfl, q M p pm ((pm.map (·.2)).nodup_iff.mpr R.nd) pw lM fresh⟩
end
end Rp
/-! Dw: walks over a dict whose keys are tuples of ints: its keys, its items. The dict is locked meanwhile. -/
namespace Rp
open PySem PySem.Spec L2 PyProof.Rows
theorem rel_get {rs : List DRow} {xs : List (List Key × Addr × Value)} (rel : RelD rs xs) : ∀ {i : Nat} {k : List Int} {b : Addr} {v : V}, rs[i]? = some (k, b, v) → ∃ q, xs[i]? = some q ∧ q.1 = ik k ∧ q.2.1 = b ∧ RelV v q.2.2 := by
  induction rel with
  | nil => intro i k b v hi; cases hi
  | @cons p q ps qs h t ih =>
    intro i k b v hi
    cases i with
    | zero =>
      have hi : some p = some (k, b, v) := hi
      obtain rfl := Option.some.inj hi
      exact ⟨q, rfl, h⟩
    | succ i => exact ih (by simpa using hi)
theorem frzD {X : Cx} {pins : List (Addr × Obj)} {σ : L2.St} {H : Hp} {s : Shared} {d : Addr} {o : Obj} {rs : List DRow} (I : Inv X pins σ H s) (e : H d = some (.frz o (DtO X.prog X.w d rs))) :
    (d == sysModules) = false ∧ s.heap.get? d = some o ∧ o.ExactDict ∧ ∃ (es : Array DictEntry) (ep : Nat), o.data = .dict es ep ∧ es.size = rs.length ∧
      ∀ (i : Nat) (k : List Int) (b : Addr) (v : V), rs[i]? = some (k, b, v) → ∃ en : DictEntry, es[i]? = some en ∧ en.key = .ref b ∧ RelV v en.val := by
  obtain ⟨h0, ⟨z1, z2, xs, rel, nd, es, ep, o', h1, h2, h3, h4⟩, _, _⟩ := (show ObjOk X.prog X.w H s.heap d (.frz o (.ext (DHolds X.prog X.w d rs))) from I.hok d _ e)
  rw [h0] at h1
  obtain rfl := Option.some.inj h1
  refine ⟨z2, h0, h2, es, ep, h3, ?_, fun i k b v hi => ?_⟩
  · rw [← Array.length_toList, h4, List.length_map, ← Paired.length rel]
  · obtain ⟨q, hq, e1, e2, e3⟩ : ∃ q, xs[i]? = some q ∧ q.1 = ik k ∧ q.2.1 = b ∧ RelV v q.2.2 := by
      exact rel_get rel hi
    refine ⟨entryOfKey (tupleKind (mixKind X.prog X.w)) q, ?_, ?_, ?_⟩
    · rw [← Array.getElem?_toList, h4, List.getElem?_map, hq]
      rfl
    · show Value.ref q.2.1 = _
      rw [e2]
    · exact e3
/-- its keys' own tuples, in their order -/
def Itdk (P : Program) (w : World) (d : Addr) (o : Obj) (rs : List DRow) : It :=
  ⟨fun i H => H d = some (.frz o (DtO P w d rs)) ∧ i < rs.length, fun i H x H' => H' = H ∧ ∃ (k : List Int) (b : Addr) (v : V), rs[i]? = some (k, b, v) ∧ x = .ref b, fun i H => H d = some (.frz o (DtO P w d rs)) ∧ rs.length ≤ i⟩
/-- its pairs, each a new tuple -/
def Itdi (P : Program) (w : World) (d : Addr) (o : Obj) (rs : List DRow) : It :=
  ⟨fun i H => H d = some (.frz o (DtO P w d rs)) ∧ i < rs.length, fun i H x H' => ∃ (T : Addr) (k : List Int) (b : Addr) (v : V), rs[i]? = some (k, b, v) ∧ x = .ref T ∧ H T = none ∧ H' = upd H T (.tup [.ref b, v]), fun i H => H d = some (.frz o (DtO P w d rs)) ∧ rs.length ≤ i⟩
section
variable {P : Program} {w : World} {K : PySem.W.Frag} {tg : Expr} {d : Addr} {o : Obj} {es : Array DictEntry} {ep : Nat}
theorem turn_dk {rs : List DRow} (it : Addr) (hod : o.data = .dict es ep) : Turn P w K tg (Itdk P w d o rs) [it] it (fun i h => h.IsKeyIter it d i rs.length ep) where
  mem := by simp
  obj := fun i h st b hb => by
    have e : b = it := by simpa using hb
    subst e
    obtain ⟨oi, e, c, dd⟩ := st
    exact ⟨oi, e, fun v z => by rw [dd] at z; cases z⟩
  keep := fun i h h' st k => st.at fun oi e => k it (by simp) oi e
  item := by
    intro X hP hw hK hc i pins s σ H E I hf st hg
    subst hP hw hK
    obtain ⟨hd, hi⟩ := hg
    obtain ⟨f0, f1, f2, f3, f4, f5⟩ := hf it (by simp)
    obtain ⟨hs, hgd, hx, es', ep', hdt, hsz, ent⟩ := frzD I hd
    obtain ⟨rfl, rfl⟩ := dict_ep hod hdt
    obtain ⟨⟨k, b, v⟩, hkv⟩ : ∃ p, rs[i]? = some p := ⟨rs[i], List.getElem?_eq_getElem hi⟩
    obtain ⟨en, hen, hkey, hval⟩ := ent i k b v hkv
    refine next_key_item st hgd hdt hsz hen fun h' st' sb => ?_
    have I1 : Inv X pins σ H { s with heap := h' } := I.turned (t' := s.toks) (fun b ob hb e => (sb.2 b hb).trans e) f0 f1 f3 f4 f5
    obtain ⟨oi, e, c, dd⟩ := id st'
    exact ⟨en.key, rfl, go_of (s := { s with heap := h' }) e c dd (by decide) ⟨.ref b, H, I1, hkey, ⟨rfl, k, b, v, hkv, rfl⟩, st', fun b hb => (hf b hb).1⟩⟩
  done := by
    intro X hP hw hK hc i pins s σ H E I hf st hg
    subst hP hw hK
    obtain ⟨hd, hi⟩ := hg
    obtain ⟨f0, f1, f2, f3, f4, f5⟩ := hf it (by simp)
    obtain ⟨hs, hgd, hx, es', ep', hdt, hsz, ent⟩ := frzD I hd
    obtain ⟨rfl, rfl⟩ := dict_ep hod hdt
    exact next_key_end (I.ok.hd hc) st hgd hdt hsz hi fun h' eb => ⟨rfl, I.turned (t' := s.toks) (fun b ob hb e => eb b ob hb e) f0 f1 f3 f4 f5⟩
  self := fun A i s Q E st h => by
    refine wpAny_pyIter_slot st.typeIs F.slot_dict_keyiterator_iter (wpAny_call_entry F.slot_dict_keyiterator_iter st.typeIs F.entry_dict_keyiterator_iter ?_ (F.args_dict_keyiterator_iter_1 _))
    show wpAny _ _ (ret (.ref it)) _ _ s
    exact wpAny_pure ⟨_, rfl, "dict_keyiterator", _, st.typeIs, F.slot_dict_keyiterator_next.lookup, h⟩
theorem turn_di {rs : List DRow} {elts : List Expr} {kk : Nat} {tpos : Pos} (it : Addr) (hod : o.data = .dict es ep) :
    Turn P w K (.Tuple elts kk tpos) (Itdi P w d o rs) [it] it (fun i h => ∃ ok ov, IsItemIter h it d i rs.length ep ok ov) where
  mem := by simp
  obj := fun i h st b hb => by
    have e : b = it := by simpa using hb
    subst e
    obtain ⟨ok, ov, e⟩ := st
    exact ⟨_, e, fun v z => nomatch z⟩
  keep := fun i h h' st k => let ⟨ok, ov, e⟩ := st; ⟨ok, ov, k it (by simp) _ e⟩
  item := by
    intro X hP hw hK hc i pins s σ H E I hf st hg
    subst hP hw hK
    obtain ⟨hd, hi⟩ := hg
    obtain ⟨hs, hgd, hx, es', ep', hdt, hsz, ent⟩ := frzD I hd
    obtain ⟨rfl, rfl⟩ := dict_ep hod hdt
    obtain ⟨⟨k, b, v⟩, hkv⟩ : ∃ p, rs[i]? = some p := ⟨rs[i], List.getElem?_eq_getElem hi⟩
    obtain ⟨en, hen, hkey, hval⟩ := ent i k b v hkv
    obtain ⟨ok, ov, he⟩ := st
    rw [← hsz] at he
    have hlt : it < s.heap.objs.size := Heap.lt_size he
    have hi2 : i < es'.size := by rw [hsz]; exact hi
    have een : es'[i] = en := by
      have := Array.getElem?_eq_getElem hi2
      rw [hen] at this
      exact (Option.some.inj this).symm
    refine DT.nextI he (⟨o, hgd, hx, hdt⟩ : DT.Raw s.heap d es' ep') hi2 fun h' ho hT hz hk => ?_
    rw [een] at ho hT
    refine ⟨_, rfl, wpAny_letOwnedTupleGo_items (s := { s with heap := h' }) ho fun h'' he' sb => ?_⟩
    have hT2 : h''.get? s.heap.objs.size = some { cls := .type "tuple", data := .seq #[en.key, en.val] } := (sb.2 _ (Nat.ne_of_gt hlt)).trans hT
    have new : ObjOk X.prog X.w (upd H s.heap.objs.size (.tup [.ref b, v])) h'' s.heap.objs.size (.tup [.ref b, v]) :=
      ⟨by show 2 ≤ sizeLine; decide, [en.key, en.val], .cons hkey (.cons hval .nil), ⟨_, hT2, rfl, _, rfl⟩⟩
    have I1 : Inv X pins σ (upd H s.heap.objs.size (.tup [.ref b, v])) { s with heap := h'' } :=
      I.turnedNew (t' := s.toks) (ch := [it]) (fun b ob hb e => (sb.2 b (by simpa using hb)).trans (hk b ob (by simpa using hb) e)) hf (Nat.le_refl _) new
    refine ⟨.ref s.heap.objs.size, _, I1, rfl, ⟨_, k, b, v, hkv, rfl, I.hok.fresh (Nat.le_refl _), rfl⟩, ⟨en.key, en.val, ?_⟩, fun b hb => ?_⟩
    · rw [← hsz]; exact he'
    · have e : b = it := by simpa using hb
      rw [e, upd_ne (Nat.ne_of_lt hlt)]
      exact (hf it (by simp)).1
  done := by
    intro X hP hw hK hc i pins s σ H E I hf st hg
    subst hP hw hK
    obtain ⟨hd, hi⟩ := hg
    obtain ⟨f0, f1, f2, f3, f4, f5⟩ := hf it (by simp)
    obtain ⟨hs, hgd, hx, es', ep', hdt, hsz, ent⟩ := frzD I hd
    obtain ⟨rfl, rfl⟩ := dict_ep hod hdt
    obtain ⟨ok, ov, he⟩ := st
    rw [← hsz] at he
    exact DT.endI (I.ok.hd hc) he (⟨o, hgd, hx, hdt⟩ : DT.Raw s.heap d es' ep') (by rw [hsz]; exact hi) fun h' eb => ⟨rfl, I.turned (t' := s.toks) (fun b ob hb e => eb b ob hb e) f0 f1 f3 f4 f5⟩
  self := fun A i s Q E st h => let ⟨_, _, e⟩ := st; PySem.W.kcp_self e h
end
/-- for k in d -/
def iDk (P : Program) (w : World) (td : TE) : TI := fun σ H R => td σ H fun x H1 => ∃ d o rs, x = .ref d ∧ H1 d = some (.frz o (DtO P w d rs)) ∧ R (Itdk P w d o rs) H1
def iDi (P : Program) (w : World) (td : TE) : TI := fun σ H R => td σ H fun x H1 => ∃ d o rs, x = .ref d ∧ H1 d = some (.frz o (DtO P w d rs)) ∧ R (Itdi P w d o rs) H1
section
variable {X : Cx} {tg e : Expr} {td : TE} {apos cpos : Pos}
theorem pi_dk (he : PE X e td) : PI X tg e (iDk X.prog X.w td) := by
  refine ⟨fun pins s σ H R I h => ?_⟩
  refine thn (he.run pins s σ H _ I h) fun u s1 ⟨x, H1, I1, rx, d, o, rs, ex, hd, q⟩ => ?_
  subst ex
  obtain rfl : u = Value.ref d := rx
  obtain ⟨hs, hgd, hx, es, ep, hdt, hsz, ent⟩ := frzD I1 hd
  refine iter_keys hs hgd hx hdt (pi_one (tk := s1.toks) I1 _ (turn_dk _ hdt) ⟨_, Heap.get?_push_size _ rfl, rfl, ?_⟩ q)
  rw [hsz] <;> rfl
theorem pi_di {elts : List Expr} {kk : Nat} {tpos : Pos} (he : PE X e td) (hbase : attributeBase e "items" X.env (eval e X.env) = eval e X.env := by rfl) (hline : (apos.endLine == cpos.line) = true := by rfl) :
    PI X (.Tuple elts kk tpos) (.Call (.Attribute e "items" apos) [] [] cpos) (iDi X.prog X.w td) := by
  refine ⟨fun pins s σ H R I h => ?_⟩
  refine wpAny_Call_method (T := "dict") (id := "dict.items") hbase rfl hline F.plainAttrs_dict F.slot_dict_items F.type_dict_items (thn (he.run pins s σ H _ I h) fun u s1 ⟨x, H1, I1, rx, d, o, rs, ex, hd, q⟩ => ?_)
  subst ex
  obtain rfl : u = Value.ref d := rx
  obtain ⟨hs, hgd, hx, es, ep, hdt, hsz, ent⟩ := frzD I1 hd
  have hm : DT.Raw s1.heap d es ep := ⟨o, hgd, hx, hdt⟩
  refine ⟨hm.typeIs, fun b q => ?_, ?_⟩
  · cases q
    exact ⟨o, hgd, hx.2.1⟩
  have I2 : Inv X pins σ H1 { s1 with heap := s1.heap.push { cls := .type "dict_items", data := .fields #[.ref d] } } := I1.kept (t' := s1.toks) fun b ob q => Heap.get?_push_of_some _ q
  have fin : wpAny (model X.prog X.w) X.A (pyIter (.ref s1.heap.objs.size)) (PIE X pins σ (.Tuple elts kk tpos) R) X.xe { s1 with heap := s1.heap.push { cls := .type "dict_items", data := .fields #[.ref d] } } := by
    refine DT.iterI (d := d) ⟨_, Heap.get?_push_size _ rfl, rfl, rfl⟩ (hm.push _) (pi_one (tk := s1.toks) I2 _ (turn_di _ hdt) ⟨.none, .none, ?_⟩ q)
    rw [← hsz]
    exact Heap.get?_push_size _ rfl
  show wpAny _ _ (callWith cpos (.builtin "dict.items") [.ref d] [] []) _ X.xe s1
  exact method_meetsIn F.slot_dict_items F.entry_dict_items rfl (PySem.evalArgs_none ⟨rfl, hm.typeIs, F.args_dict_items_1 _, _, DT.meetsItems (es := es) (ep := ep) hs, ⟨hm, fin⟩⟩)
end
section
variable {P : Program} {w : World} {d : Addr} {o : Obj} {rs : List DRow}
theorem walk_dk : Walk (Itdk P w d o rs) rs.length (fun H => H d = some (.frz o (DtO P w d rs))) (fun i H x H' => H' = H ∧ ∃ (k : List Int) (b : Addr) (v : V), rs[i]? = some (k, b, v) ∧ x = .ref b) :=
  ⟨fun _ _ hi q => ⟨q, hi⟩, fun _ q => ⟨q, Nat.le_refl _⟩, fun _ _ _ _ _ _ y => y⟩
theorem walk_di : Walk (Itdi P w d o rs) rs.length (fun H => H d = some (.frz o (DtO P w d rs))) (fun i H x H' => ∃ (T : Addr) (k : List Int) (b : Addr) (v : V), rs[i]? = some (k, b, v) ∧ x = .ref T ∧ H T = none ∧ H' = upd H T (.tup [.ref b, v])) :=
  ⟨fun _ _ hi q => ⟨q, hi⟩, fun _ q => ⟨q, Nat.le_refl _⟩, fun _ _ _ _ _ _ y => y⟩
end
/-- a dict made over any walk -/
theorem dtc_it {P : Program} {w : World} {K : PySem.W.Frag} {J : It} {n : Nat} {G : Hp → Prop} {Y : Nat → Hp → V → Hp → Prop} (wk : Walk J n G Y) {g : TG} {tk tv : TE} {vs : List Nat} {σ : L2.St} {H1 : Hp} {D : Addr} {Qd : Hp → Prop} (Pv : Nat → Hp → Prop)
    (h0 : Pv 0 (upd H1 D (DtO P w D []))) (hG : ∀ i H, i ≤ n → Pv i H → G H)
    (hs : ∀ i x H H', i < n → Pv i H → Y i H x H' → g x (wipe σ vs) H' fun σ2 H2 => wipe σ2 vs = wipe σ vs ∧ tk σ2 H2 fun y H4 => tv σ2 H4 fun z H5 => ∃ H6, DLay P w K H5 (.ref D) y z H6 ∧ Pv (i + 1) H6)
    (hd : ∀ H, Pv n H → Qd H) :
    ∃ W : Nat → Nat → Hp → Prop, (∃ m, W 0 m (upd H1 D (DtO P w D []))) ∧ ∀ i m H, W i m H → (J.stop i H ∧ Qd H) ∨ (J.go i H ∧ ∃ Nx : Hp → Prop, (∀ H', Nx H' → ∃ m', m' < m ∧ W (i + 1) m' H') ∧
      ∀ x H', J.yld i H x H' → g x (wipe σ vs) H' fun σ2 H2 => wipe σ2 vs = wipe σ vs ∧ tk σ2 H2 fun y H4 => tv σ2 H4 fun z H5 => ∃ H6, DLay P w K H5 (.ref D) y z H6 ∧ Nx H6) := by
  refine ⟨fun i m H => i ≤ n ∧ m + i = n ∧ Pv i H, ⟨n, Nat.zero_le _, rfl, h0⟩, fun i m H ⟨hi, hm, p⟩ => ?_⟩
  have q := hG i H hi p
  rcases Nat.lt_or_eq_of_le hi with lt | e
  · exact .inr ⟨wk.goes i H lt q, Pv (i + 1), fun H' p' => ⟨m - 1, by omega, lt, by omega, p'⟩, fun x H' y => hs i x H H' lt p (wk.yields i H x H' lt q y)⟩
  · subst e
    exact .inl ⟨wk.stops H q, hd H p⟩
end Rp
/-! Sw: sorted of a tuple of tuples of ints; tuples read at every second place. -/
namespace Rp
open PySem PySem.Spec L2 PyProof.Rows
section
variable {prog : Program} {w : World} {A : Around} {E : Value → Shared → Prop} {s : Shared}
theorem sorted_tupO {l : Addr} {vs : List Value} {ltv : Value → Value → Bool} {Q : Value → Shared → Prop} (O : SrtO.Swo ltv) (hl : s.heap.IsTuple l vs.toArray) (hz : vs.length ≤ sizeLine)
    (hS : 2 ≤ vs.length → ∀ (h₁ : Heap) (a : Addr), h₁.get? a = some (seqObj "list" vs.toArray 0) → (∀ b o, s.heap.get? b = some o → b ≠ a ∧ h₁.get? b = some o) → SrtO.SortableO prog w A.in1.in1 { s with heap := h₁ } a vs ltv)
    (h : ∀ (out : List Value) (h1 h' : Heap) (c : Nat), SrtO.Srtd ltv out → out.Perm vs → (∀ b o, s.heap.get? b = some o → h1.get? b = some o) → (∀ b o, h1.get? b = some o → h'.get? b = some o) → h'.get? h1.objs.size = some (seqObj "list" out.toArray c) → Q (.ref h1.objs.size) { s with heap := h' }) :
    wpAny (model prog w) A (call (.builtin "sorted") [.ref l]) Q E s := by
  obtain ⟨o, ho, hc, n, hd⟩ := id hl
  refine Calls.call_function_entry kind_sorted plain_sorted entry_sorted (args_sorted1 _) ?_
  unfold Builtin.«sorted»
  refine wpAny_bind (m := checkCount "sorted" 1 1 _) (wpAny_pure ?_)
  refine wpAny_bind (wpAny_collect_seq l (.inr rfl) ho hc hd (fun h' k => ?_) (by rw [List.size_toArray]; exact hz))
  refine wpAny_bind (wpAny_newList ?_ hz)
  have atL : (h'.push (seqObj "list" vs.toArray 0)).get? h'.objs.size = some (seqObj "list" vs.toArray 0) := Heap.get?_push_size _ rfl
  have keep : ∀ b o, s.heap.get? b = some o → b ≠ h'.objs.size ∧ (h'.push (seqObj "list" vs.toArray 0)).get? b = some o := fun b o e =>
    ⟨Nat.ne_of_lt (Heap.lt_size (k b o e)), Heap.get?_push_of_some _ (k b o e)⟩
  have hs : wpAny (model prog w) A.in1 (call (.builtin "list.sort") [.ref h'.objs.size]) (fun _ s2 => ∃ out : List Value, SrtO.Srtd ltv out ∧ out.Perm vs ∧
      s2 = { s with heap := sortedHeap (h'.push (seqObj "list" vs.toArray 0)) h'.objs.size vs out.toArray }) E { s with heap := h'.push (seqObj "list" vs.toArray 0) } :=
    wpAny_call_entry slot_list_sort ⟨_, atL, rfl⟩ entry_list_sort (SrtO.list_sort_ord O atL hz (fun h2 => hS h2 _ _ atL keep) fun out a1 a2 => ⟨_, rfl, out, a1, a2.perm, rfl⟩) (args_list_sort _)
  refine wpAny_bind (wpAny_holding (wpAny_mono hs ?_ fun _ _ h => h))
  rintro _ _ ⟨out, a1, a2, rfl⟩
  obtain ⟨c, hc'⟩ := sortedHeap_at (vs := vs) (out := out.toArray) atL
  refine wpAny_pure ⟨_, rfl, h out h' _ c a1 a2 k (fun b u e => ?_) hc'⟩
  have lt := Heap.lt_size e
  rw [sortedHeap_old (Nat.ne_of_lt lt) (by rw [size_push']; exact Nat.lt_succ_of_lt lt)]
  exact Heap.get?_push_of_some _ e
end
section
variable {X : Cx}
/-- sorted of a tuple of non-empty tuples of ints, known by position -/
def rSortTT (K : PySem.W.Frag) : List V → Hp → VK → Prop := fun vs H Q => ∃ (a : Addr) (xs : List V) (ks : List (List Int)), vs = [V.ref a] ∧ SqT K H a xs ∧ KeysT K H xs ks ∧
  ∀ (ys : List V) (ls : List (List Int)) (p : Addr), KeysT K H ys ls → ls.Pairwise (fun x y => HT.lexLt y x = false) → ls.Perm ks → H p = none → Q (.ref p) (upd H p (.lst ys))
theorem cr_sortTT : CallR X (.builtin "sorted") (rSortTT X.K) := by
  intro pins s σ H vs us Q I r h
  obtain ⟨a, xs, ks, rfl, hs, hx, q⟩ := h
  obtain ⟨its, rv, hl, hz⟩ := I.tuple hs
  obtain ⟨u, rfl, ru⟩ := vals1 r
  cases ru
  obtain ⟨ek, hti, e1, e2⟩ := keysT_vals I hx rv
  have hlen : xs.length = its.length := rv.length
  refine sorted_tupO (ltv := fun v u => HT.lexLt (keyTI s.heap v) (keyTI s.heap u)) (NtL.swo_lexL _) hl (by rw [← hlen]; exact hz) (fun h2 h₁ b hb hk => ?_) (fun out h0 h' c h1 h2 old old2 he => ?_)
  · refine ti_sortable (by omega) (fun v hv => ⟨ti_keeps (hti v hv).1 fun c o e _ => (hk c o e).2, (hti v hv).2⟩) (fun o ho => ?_)
    rw [hb] at ho
    cases ho
    show (Value.type "list") ≠ Value.type "tuple"
    decide
  · have h3 : ∀ u ∈ out, ∃ t, u = Value.ref t := fun u hu => e2 u (h2.mem_iff.mp hu)
    have kk : KeysT X.K H (out.map backV) (out.map (keyTI s.heap)) := by
      have g : ∀ (l m : List Value), (∀ v ∈ l, v ∈ m) → (∀ v ∈ m, ∃ t, v = Value.ref t) → KeysT X.K H (m.map backV) (m.map (keyTI s.heap)) → KeysT X.K H (l.map backV) (l.map (keyTI s.heap)) := by
        intro l m hl hr hk
        have one : ∀ (m : List Value), (∀ v ∈ m, ∃ t, v = Value.ref t) → KeysT X.K H (m.map backV) (m.map (keyTI s.heap)) → ∀ v ∈ m, ∃ t, v = Value.ref t ∧ SqT X.K H t ((keyTI s.heap v).map V.int) ∧ keyTI s.heap v ≠ [] := by
          intro m
          induction m with
          | nil => intro _ _ v hv; cases hv
          | cons u m ih =>
            intro hr hk v hv
            obtain ⟨t, rfl⟩ := hr u (List.mem_cons_self ..)
            rw [List.map_cons, List.map_cons] at hk
            have hk' : KeysT X.K H (V.ref t :: m.map backV) (keyTI s.heap (.ref t) :: m.map (keyTI s.heap)) := hk
            cases hk' with
            | cons hh ne rr =>
              rcases List.mem_cons.mp hv with rfl | hv
              · exact ⟨t, rfl, hh, ne⟩
              · exact ih (fun v hv => hr v (List.mem_cons_of_mem _ hv)) rr v hv
        induction l with
        | nil => exact .nil
        | cons u l ih =>
          obtain ⟨t, rfl, hh, ne⟩ := one m hr hk u (hl u (List.mem_cons_self ..))
          exact .cons hh ne (ih fun v hv => hl v (List.mem_cons_of_mem _ hv))
      refine g out its (fun v hv => h2.mem_iff.mp hv) e2 ?_
      rw [e1, ek]
      exact hx
    have I1 : L2.Inv X pins σ H { s with heap := h0, toks := s.toks } := I.kept old
    refine ⟨.ref _, upd H _ (.lst (out.map backV)), I1.laid (t' := s.toks) old2 (Nat.le_refl _) ?_, rfl, q _ _ _ kk (List.pairwise_map.mpr h1) ?_ (I1.hok.fresh (Nat.le_refl _))⟩
    · exact ⟨by rw [List.length_map, h2.length_eq, ← hlen]; exact hz, out, c, vals_back h3, he⟩
    · rw [← ek]
      exact h2.map _
end
/-! every second place -/
theorem sliceApplied_step {prog : Program} {w : World} {A : Around} {E : Value → Shared → Prop} {s : Shared} {sl : Addr} {vl vs : Value} {o : Option Int} {n k : Nat} {l h : Int} {Q : Int × Int × Nat → Shared → Prop}
    (hs : s.heap.IsSliceOf sl vl .none vs) (hl : IsPart vl o) (hv : IsPart vs (some 2)) (ea : Builtin.Slice.sliceAdjust o none 2 (n : Int) = (l, h)) (ep : Builtin.Slice.slicePlaces l h 2 = k) (q : Q (l, 2, k) s) :
    wpAny (model prog w) A (Builtin.Slice.sliceApplied (.ref sl) (pure (n : Int))) Q E s := by
  obtain ⟨os, hos, hcs, hds⟩ := hs
  unfold Builtin.Slice.sliceApplied Builtin.Slice.sliceFields
  refine wpAny_bind (wpAny_bind (wpAny_field hos hds rfl (wpAny_bind (wpAny_field hos hds rfl (wpAny_bind (wpAny_field hos hds rfl (wpAny_pure ?_)))))))
  refine wpAny_bind (HT.slicePart_ (o := some 2) hv ?_)
  refine wpAny_bind (HT.slicePart_ (o := o) hl ?_)
  refine wpAny_bind (HT.slicePart_ (o := none) .none ?_)
  refine wpAny_bind (wpAny_pure ?_)
  show wpAny _ _ (match Builtin.Slice.sliceAdjust o none 2 (n : Int) with | (lo, hi) => pure (lo, (2 : Int), Builtin.Slice.slicePlaces lo hi 2)) Q E s
  rw [ea]
  show wpAny _ _ (pure (l, (2 : Int), Builtin.Slice.slicePlaces l h 2)) Q E s
  rw [ep]
  exact wpAny_pure q
theorem getItem_tuple_step {prog : Program} {w : World} {A : Around} {E : Value → Shared → Prop} {s : Shared} {t sl : Addr} {items : Array Value} {vl vs : Value} {o : Option Int} {k : Nat} {l h : Int} {Q : Value → Shared → Prop} (ht : IsTup s.heap t items) (hs : s.heap.IsSliceOf sl vl .none vs) (hl : IsPart vl o) (hv : IsPart vs (some 2))
    (ea : Builtin.Slice.sliceAdjust o none 2 (items.size : Int) = (l, h)) (ep : Builtin.Slice.slicePlaces l h 2 = k)
    (q : Q (.ref s.heap.objs.size) { s with heap := s.heap.push { cls := .type "tuple", data := .seq (List.filterMap (fun m : Nat => items[(l + (m : Int) * 2).toNat]?) (List.range k)).toArray } }) (hz : k ≤ sizeLine) : wpAny (model prog w) A (getItem (.ref t) (.ref sl)) Q E s := by
  obtain ⟨os, hos, hcs, hds⟩ := id hs
  have hTs : s.TypeIs (.ref sl) "slice" := ⟨os, hos, hcs⟩
  unfold getItem
  refine wpAny_holding ?_
  refine wpAny_bind (wpAny_sequenceKey ht.typeIs (by decide) ?_)
  refine wpAny_bind (wpAny_callSpecial?_slot ht.typeIs slot_tuple_getitem ?_)
  refine wpAny_call_entry slot_tuple_getitem ht.typeIs entry_tuple_getitem ?_ (args_tuple_getitem _ _)
  show wpAny _ _ (do
      let xs ← Builtin.Tuple.tupleItemsOf (.ref t)
      let __do_lift ← typeOf (.ref sl)
      if (__do_lift == Value.type "slice") = true then do
          let __x ← Builtin.Slice.sliceApplied (.ref sl) (pure ↑xs.size)
          match __x with
            | (lo, step, n) =>
              have __do_jp := fun __r => do
                let __do_lift ←
                  Builtin.Tuple.tupleExact
                      (List.filterMap (fun k => xs[(lo + ↑k * step).toNat]?) (List.range n)).toArray
                ret __do_lift;
              if (lo == 0 && step == 1 && n == xs.size) = true then do
                let __do_lift ← Builtin.Tuple.tupleIsExact (.ref t)
                if __do_lift = true then do
                    rule "tuple.getitem.whole"
                    ret (.ref t)
                  else __do_jp ()
              else __do_jp ()
        else _) _ _ _
  refine wpAny_bind (tupleItemsOf_ ht ?_)
  refine wpAny_bind (wpAny_typeOf hTs ?_)
  rw [if_pos (by decide)]
  refine wpAny_bind (sliceApplied_step hs hl hv ea ep ?_)
  have hno : ¬ (((l == 0) && ((2 : Int) == 1) && (k == items.size)) = true) := by
    rw [show ((2 : Int) == 1) = false by decide, Bool.and_false, Bool.false_and]
    decide
  show wpAny _ _ (if ((l == 0) && ((2 : Int) == 1) && (k == items.size)) = true then _ else _) _ _ _
  rw [if_neg hno]
  refine wpAny_bind ?_
  unfold Builtin.Tuple.tupleExact
  refine wpAny_newObj_type ?_ ?_
  · exact wpAny_pure ⟨_, rfl, wpAny_pure q⟩
  · show _ ≤ sizeLine
    rw [List.size_toArray]
    refine Nat.le_trans (List.length_filterMap_le _ _) ?_
    rw [List.length_range]
    exact hz
theorem vals_pick {xs : List V} {us : List Value} (r : Vals xs us) (f : Nat → Nat) : ∀ l : List Nat, Vals (l.filterMap fun m => xs[f m]?) (l.filterMap fun m => us[f m]?)
  | [] => .nil
  | m :: l => by
    have ih := vals_pick r f l
    rw [List.filterMap_cons, List.filterMap_cons]
    cases h : xs[f m]? with
    | none =>
      have e : us[f m]? = none := by
        rw [List.getElem?_eq_none_iff] at h ⊢
        rw [← r.length]
        exact h
      rw [e]
      exact ih
    | some x =>
      obtain ⟨u, e, ru⟩ := r.get h
      rw [e]
      exact .cons ru ih
section
variable {X : Cx}
def tStepT (K : PySem.W.Frag) (o : Option Int) (te : TE) : TE := fun σ H Q => te σ H fun x H1 => ∃ (a : Addr) (xs : List V) (l h : Int) (k : Nat), x = V.ref a ∧ SqT K H1 a xs ∧ Builtin.Slice.sliceAdjust o none 2 (xs.length : Int) = (l, h) ∧ Builtin.Slice.slicePlaces l h 2 = k ∧ k ≤ sizeLine ∧
  ∀ p, H1 p = none → Q (.ref p) (upd H1 p (.tup ((List.range k).filterMap fun m : Nat => xs[(l + (m : Int) * 2).toNat]?)))
theorem po_int {i : Int} {c : Nat} {p2 : Pos} : PO X (some (.Constant (.int i) c p2)) fun _ H Q => Q (some i) H :=
  ⟨fun pins s σ H Q I h => (po_some (X := X) pe_int).run pins s σ H Q I ⟨i, rfl, h⟩⟩
theorem pe_stepT {e : Expr} {te : TE} {lo : Option Expr} {o : Option Int} {c : Nat} {p2 p3 pos : Pos} (he : PE X e te) (hl : PO X lo fun _ H Q => Q o H) : PE X (.Subscript e (.Slice lo none (some (.Constant (.int 2) c p2)) p3) pos) (tStepT X.K o te) := by
  refine ⟨fun pins s σ H Q I h => ?_⟩
  refine Subscript_ (thn (he.run pins s σ H _ I h) fun v s1 x => ?_)
  obtain ⟨x1, H1, I1, r1, a, xs, l, hh, k, rfl, hx, ea, ep, hk, q⟩ := x
  cases r1
  have hst : PO X (some (.Constant (.int 2) c p2)) _ := po_some pe_int
  refine wpAny_Slice (thn (hl.run pins s1 σ H1 (fun o' H2 => o' = o ∧ H2 = H1) I1 ⟨rfl, rfl⟩) fun vl s2 x => ?_)
  obtain ⟨l', H2, I2, pl, rfl, rfl⟩ := x
  refine thn ((po_none (X := X)).run pins s2 σ H2 (fun o H3 => o = none ∧ H3 = H2) I2 ⟨rfl, rfl⟩) fun vu s3 x => ?_
  obtain ⟨u, H3, I3, pu, rfl, rfl⟩ := x
  refine thn (hst.run pins s3 σ H3 (fun o H4 => o = some 2 ∧ H4 = H3) I3 ?_) fun vs s4 x => ?_
  · exact ⟨2, rfl, rfl, rfl⟩
  obtain ⟨st, H4, I4, pst, rfl, rfl⟩ := x
  cases pu
  have I5 := I4.kept (h' := s4.heap.push { cls := Value.type "slice", data := Data.fields #[vl, Value.none, vs] }) (t' := s4.toks) (fun b u h => Heap.get?_push_of_some _ h)
  obtain ⟨its, hvals, ht, hz⟩ := I5.tuple hx
  have hlen : xs.length = its.length := hvals.length
  refine tail_any ht.typeIs slot_tuple_getitem.lookup (getItem_tuple_step ht (Heap.IsSliceOf.new ..) pl pst (by rw [List.size_toArray, ← hlen]; exact ea) ep ?_ hk) rfl
  have lk : ((List.range k).filterMap fun m : Nat => xs[(l + (m : Int) * 2).toNat]?).length ≤ sizeLine := by
    refine Nat.le_trans (List.length_filterMap_le _ _) ?_
    rw [List.length_range]
    exact hk
  refine ⟨.ref _, upd H4 _ (.tup ((List.range k).filterMap fun m : Nat => xs[(l + (m : Int) * 2).toNat]?)), I5.laid (fun b u h => Heap.get?_push_of_some _ h) (Nat.le_refl _) ?_, rfl, q _ (I5.hok.fresh (Nat.le_refl _))⟩
  unfold ObjOk
  have ef : (fun m : Nat => its.toArray[(l + (m : Int) * 2).toNat]?) = fun m : Nat => its[(l + (m : Int) * 2).toNat]? := by
    funext m
    simp
  rw [ef]
  refine ⟨lk, (List.range k).filterMap fun m : Nat => its[(l + (m : Int) * 2).toNat]?, vals_pick hvals (fun m => (l + (m : Int) * 2).toNat) _, _, Heap.get?_push_size _ (o := { cls := Value.type "tuple", data := Data.seq (List.filterMap (fun m : Nat => its[(l + (m : Int) * 2).toNat]?) (List.range k)).toArray }) rfl, rfl, _, rfl⟩
end
end Rp
/-! Dv: dict(a list of pairs), list(d), len(d) of dicts whose keys are tuples of ints; sorted of a tuple of at most one. -/
namespace Rp
open PySem PySem.Spec L2 PyProof.Rows
section
variable {X : Cx} {pins : List (Addr × Obj)} {σ : L2.St} {H : Hp} {s : Shared}
/-- the pair at t is that of the row -/
abbrev PairT (K : PySem.W.Frag) (H : Hp) : Addr → DRow → Prop := fun t r => SqT K H t [.ref r.2.1, r.2.2]
def hrow (p : DRow × Value) : List Key × Addr × Value := (ik p.1.1, p.1.2.1, p.2)
theorem pairs_at (I : Inv X pins σ H s) : ∀ {ts : List Addr} {rs : List DRow}, Paired (PairT X.K H) ts rs → ∃ us : List Value, us.length = rs.length ∧ RelD rs ((rs.zip us).map hrow) ∧
    ∀ (j : Nat) (t : Addr), ts[j]? = some t → ∃ (p : DRow) (u : Value), rs[j]? = some p ∧ us[j]? = some u ∧ PairAt s.heap t (.ref p.2.1) u
  | _, _, .nil => ⟨[], rfl, .nil, fun j t h => by cases h⟩
  | t :: ts, r :: rs, .cons h q => by
    obtain ⟨us, lu, rel, at'⟩ := pairs_at I q
    obtain ⟨its, hv, ht⟩ := isTuple_of I h
    obtain ⟨its⟩ := its
    cases hv with
    | cons h1 hv =>
    cases hv with
    | @cons _ u _ _ h2 hv =>
    cases hv
    have h1' := h1
    obtain rfl := h1'
    refine ⟨u :: us, by simp [lu], .cons ⟨rfl, rfl, h2⟩ rel, fun j t' hj => ?_⟩
    cases j with
    | zero =>
      have hj : some t = some t' := hj
      obtain rfl := Option.some.inj hj
      exact ⟨r, u, rfl, rfl, .inl ht⟩
    | succ j => exact at' j t' (by simpa using hj)
theorem stored_new {K : Type} [DecidableEq K] : ∀ (ps acc : List (K × Addr × Value)), ((acc ++ ps).map (·.1)).Nodup → storedAllH acc ps = acc ++ ps
  | [], acc, _ => by simp [storedAllH]
  | p :: ps, acc, nd => by
    have hno : (atKey acc p.1).isSome = false := by
      have : atKey acc p.1 = none := by
        unfold atKey
        rw [Option.map_eq_none_iff, List.find?_eq_none]
        intro x hx
        have nd' := nd
        rw [List.map_append, List.nodup_append] at nd'
        have := nd'.2.2 x.1 (List.mem_map.mpr ⟨x, hx, rfl⟩) p.1 (List.mem_map.mpr ⟨p, List.mem_cons_self .., rfl⟩)
        simpa using this
      rw [this]
      rfl
    have e : storedH acc p.1 p.2.1 p.2.2 = acc ++ [p] := by
      unfold storedH
      rw [hno]
      rfl
    have ih := stored_new ps (acc ++ [p]) (by rw [List.append_assoc]; exact nd)
    unfold storedAllH at ih ⊢
    rw [List.foldl_cons, e, ih, List.append_assoc]
    rfl
def rDictPs (K : PySem.W.Frag) (P : Program) (w : World) : List V → Hp → VK → Prop := fun vs H Q => ∃ (l : Addr) (ts : List Addr) (rs : List DRow), vs = [V.ref l] ∧ SqL K H l (ts.map V.ref) ∧ Paired (PairT K H) ts rs ∧ KeysAt K H rs ∧ (rs.map (·.1)).Nodup ∧
  ∀ a, H a = none → Q (.ref a) (upd H a (DtO P w a rs))
theorem cr_dictPs (hc : X.calm = true) (hu : X.A.units + 66 < cLine) : CallR X (.type "dict") (rDictPs X.K X.prog X.w) := by
  intro pins s σ H xs us Q I r h
  obtain ⟨l, ts, rs, rfl, hl, hp, hk, nd, q⟩ := h
  rw [Vals.ref1 r]
  obtain ⟨its, rv, pl, hz⟩ := I.list hl
  obtain ⟨us, lu, rel, at'⟩ := pairs_at I hp
  have lt : ts.length = rs.length := Paired.length hp
  have eits : its = ts.map Value.ref := by
    have g : ∀ (ts : List Addr) (its : List Value), Vals (ts.map V.ref) its → its = ts.map Value.ref := by
      intro ts
      induction ts with
      | nil => intro its h; cases h; rfl
      | cons t ts ih =>
        intro its h
        cases h with
        | @cons _ u _ us' h t =>
        have h' : u = Value.ref _ := h
        rw [h', ih _ t]
        rfl
    exact g ts its rv
  rw [List.length_map] at hz
  have lp : ((rs.zip us).map hrow).length = rs.length := by rw [List.length_map, List.length_zip, lu, Nat.min_self]
  -- the pairs as values
  have A := PairArg.list (prog := X.prog) (w := X.w) l its.toArray (fun j => ts[j]?.getD 0) ((rs.zip us).map fun p => (Value.ref p.1.2.1, p.2))
  have keys : ((rs.zip us).map hrow).map (·.1) = rs.map fun r => ik r.1 := by
    rw [List.map_map]
    have : ((rs.zip us).map (·.1)) = rs := by rw [List.map_fst_zip]; omega
    conv => rhs; rw [← this]
    rw [List.map_map]
    rfl
  have ndk : (((rs.zip us).map hrow).map (·.1)).Nodup := by
    rw [keys]
    have : rs.map (fun r => ik r.1) = (rs.map (·.1)).map ik := by rw [List.map_map]; rfl
    rw [this]
    exact List.Pairwise.map _ (fun a b h e => h (ik_inj e)) nd
  refine call_dict_pairsH (knd := tupleKind (mixKind X.prog X.w)) (ps := (rs.zip us).map hrow) A (I.ok.hd hc) (tupleKind_room_in1 (by show X.A.in1.units + 1 < cLine; simp only [Around.in1]; omega)) ?_ ?_ ?_ ?_ fun h' tk dd kp => ?_
  · refine ⟨pl, by rw [eits, List.length_map, List.size_toArray, List.length_map, List.length_zip, lu, Nat.min_self, lt], fun j k v hj => ?_⟩
    rw [List.getElem?_map] at hj
    obtain ⟨⟨p, u⟩, hz2, e⟩ := Option.map_eq_some_iff.mp hj
    obtain ⟨rfl, rfl⟩ := Prod.mk.inj e
    rw [List.getElem?_zip_eq_some] at hz2
    obtain ⟨hp2, hu2⟩ := hz2
    have jl := (List.getElem?_eq_some_iff.mp hp2).1
    obtain ⟨t, ht⟩ : ∃ t, ts[j]? = some t := ⟨ts[j], List.getElem?_eq_getElem (by omega)⟩
    obtain ⟨p', u', e1, e2, e3⟩ := at' j t ht
    rw [hp2] at e1
    rw [hu2] at e2
    obtain rfl := Option.some.inj e1
    obtain rfl := Option.some.inj e2
    refine ⟨?_, by show PairAt _ (ts[j]?.getD 0) _ _; rw [ht]; exact e3⟩
    rw [eits]
    simp only [List.getElem?_toArray, List.getElem?_map, ht]
    rfl
  · refine ⟨by rw [lp, List.length_map, List.length_zip, lu, Nat.min_self], fun i key v hi => ?_⟩
    rw [PairRel, List.getElem?_map] at hi
    obtain ⟨⟨p, u⟩, hz2, e⟩ := Option.map_eq_some_iff.mp hi
    obtain ⟨rfl, rfl⟩ := Prod.mk.inj e
    exact ⟨ik p.1, p.2.1, by rw [List.getElem?_map, hz2]; rfl, rfl⟩
  · intro h2 keep x hx
    obtain ⟨⟨p, u⟩, hpu, rfl⟩ := List.mem_map.mp hx
    obtain ⟨o, its2, n, h1, h2', h3, h4⟩ := key_sq I (hk p (List.of_mem_zip hpu).1)
    refine ⟨o, its2, n, keep _ _ (Nat.ne_of_lt (Heap.lt_size h1)) (by simp) h1, h2', h3, h4⟩
  · rw [List.length_map, List.length_zip, lu, Nat.min_self]
    omega
  · rw [stored_new _ _ (by simpa using ndk), List.nil_append] at dd
    obtain ⟨o, es, ep, d1, d2, d3, d4, d5, d6⟩ := dd
    refine ⟨.ref s.heap.objs.size, _, I.laid (t' := tk) (fun b u hb => kp b u (by simp) hb) (Nat.le_refl _) (dtO_ok (rs := rs) ⟨by omega, ?_, _, rel, d6, es, ep, o, d1, d2, d3, d4⟩), rfl, q _ (I.hok.fresh (Nat.le_refl _))⟩
    exact beq_eq_false_iff_ne.mpr (Ne.symm (Nat.ne_of_lt I.big))
theorem vals_of_get : ∀ {xs : List V} {us : List Value}, xs.length = us.length → (∀ (i : Nat) (x : V), xs[i]? = some x → ∃ u : Value, us[i]? = some u ∧ RelV x u) → Vals xs us
  | [], [], _, _ => .nil
  | [], _ :: _, h, _ => by simp at h
  | _ :: _, [], h, _ => by simp at h
  | x :: xs, u :: us, h, g => by
    obtain ⟨u', e, r⟩ := g 0 x rfl
    have e : some u = some u' := e
    obtain rfl := Option.some.inj e
    exact .cons r (vals_of_get (by simpa using h) fun i y hy => by
      obtain ⟨w, e, r⟩ := g (i + 1) y (by simpa using hy)
      exact ⟨w, by simpa using e, r⟩)
/-- len(d) -/
def rLenDt (P : Program) (w : World) (K : PySem.W.Frag) : List V → Hp → VK → Prop := fun vs H Q => ∃ (a : Addr) (rs : List DRow), vs = [V.ref a] ∧ Rd H a (DtO P w a rs) ∧ KeysAt K H rs ∧ Q (.int (rs.length : Nat)) H
theorem cr_lenDt : CallR X (.builtin "len") (rLenDt X.prog X.w X.K) := by
  intro pins s σ H xs us Q I r h
  obtain ⟨a, rs, rfl, ea, hk, q⟩ := h
  rw [Vals.ref1 r]
  obtain ⟨hz, hd, xs, rel, dd⟩ := dt_at I ea hk
  have hl : xs.length = rs.length := (Paired.length rel).symm
  have dk : Heap.DictKeyed (tupleKind (mixKind X.prog X.w)) s.heap a (pairsH xs) := ⟨xs, dd, rfl⟩
  have lp : (pairsH xs).length = rs.length := by rw [← hl]; simp [pairsH]
  refine call_len_slot (n := (pairsH xs).length) dd.typeIs F.slot_dict_len (fun Q' hq => len_keyed hd dk hq) (by omega) (by rw [sizeLine_eq] at hz; omega) ?_
  rw [lp]
  exact ⟨.int (rs.length : Nat), H, I.tok _, ⟨_, rfl⟩, q⟩
/-- list(d) -/
def rListDt (P : Program) (w : World) (K : PySem.W.Frag) : List V → Hp → VK → Prop := fun vs H Q => ∃ (a : Addr) (rs : List DRow), vs = [V.ref a] ∧ Rd H a (DtO P w a rs) ∧ KeysAt K H rs ∧ ∀ p, H p = none → Q (.ref p) (upd H p (.lst (rs.map fun r => V.ref r.2.1)))
theorem cr_listDt (hc : X.calm = true) : CallR X (.type "list") (rListDt X.prog X.w X.K) := by
  intro pins s σ H xs us Q I r h
  obtain ⟨a, rs, rfl, ea, hk, q⟩ := h
  rw [Vals.ref1 r]
  obtain ⟨hz, hd, xs, rel, dd⟩ := dt_at I ea hk
  obtain ⟨o, es, ep, d1, d2, d3, d4, d5, d6⟩ := dd
  have hl : xs.length = rs.length := (Paired.length rel).symm
  have hes : es.size = rs.length := by rw [← Array.length_toList, d4, List.length_map, hl]
  refine PySem.W.kdl_call (KdlSrc.rawDict (es := es) (ep := ep) hd) (I.ok.hd hc) ⟨o, d1, d2, d3⟩ (by omega) fun h' tk acc c kp hat hit => ?_
  obtain ⟨sz, each⟩ := hit
  have rv : Vals (rs.map fun r => V.ref r.2.1) acc.toList := by
    refine vals_of_get (by have e1 : acc.toList.length = acc.size := Array.length_toList; rw [List.length_map]; omega) fun i x hx => ?_
    rw [List.getElem?_map] at hx
    obtain ⟨r, hr, rfl⟩ := Option.map_eq_some_iff.mp hx
    obtain ⟨k, b, v⟩ := r
    obtain ⟨q', hq, e1, e2, e3⟩ := rel_get rel hr
    have il := (List.getElem?_eq_some_iff.mp hr).1
    have ia : i < acc.size := by rw [sz, hes]; exact il
    have ea : acc[i]? = some acc[i] := Array.getElem?_eq_getElem ia
    obtain ⟨hi, e⟩ := each i _ ea
    refine ⟨acc[i], by rw [Array.getElem?_toList]; exact ea, ?_⟩
    have ee : es[i]? = some (entryOfKey (tupleKind (mixKind X.prog X.w)) q') := by
      rw [← Array.getElem?_toList, d4, List.getElem?_map, hq]
      rfl
    rw [Array.getElem?_eq_getElem hi] at ee
    rw [e, Option.some.inj ee]
    show Value.ref q'.2.1 = Value.ref b
    rw [e2]
  refine ⟨.ref s.heap.objs.size, _, I.laid (t' := tk) kp (Nat.le_refl _) (o := .lst (rs.map fun r => V.ref r.2.1)) ?_, rfl, q _ (I.hok.fresh (Nat.le_refl _))⟩
  exact ⟨by rw [List.length_map]; exact hz, acc.toList, c, rv, by simpa using hat⟩
/-- sorted of a tuple, also of a short one -/
def rSortTZ (K : PySem.W.Frag) : List V → Hp → VK → Prop := fun vs H Q => rSortTT K vs H Q ∨ ∃ (a : Addr) (xs : List V), vs = [V.ref a] ∧ SqT K H a xs ∧ xs.length ≤ 1 ∧ ∀ p, H p = none → Q (.ref p) (upd H p (.lst xs))
theorem cr_sortTZ : CallR X (.builtin "sorted") (rSortTZ X.K) := by
  intro pins s σ H vs us Q I r h
  rcases h with h | ⟨a, xs, rfl, hs, h1, q⟩
  · exact cr_sortTT pins s σ H vs us Q I r h
  obtain ⟨its, rv, hl, hz⟩ := I.tuple hs
  obtain ⟨u, rfl, ru⟩ := vals1 r
  cases ru
  have hlen : xs.length = its.length := rv.length
  refine sorted_tupO (ltv := fun _ _ => false) (by constructor <;> intros <;> simp_all) hl (by rw [← hlen]; exact hz) (fun h2 => by omega) (fun out h0 h' c h1' h2 old old2 he => ?_)
  have eo : out = its := by
    have l1 : its.length ≤ 1 := by omega
    clear hl rv hz hlen he q old old2
    rcases its with _ | ⟨x, _ | ⟨y, its⟩⟩
    · exact List.perm_nil.mp h2
    · exact List.perm_singleton.mp h2
    · simp at l1
  subst eo
  have I1 : L2.Inv X pins σ H { s with heap := h0, toks := s.toks } := I.kept old
  refine ⟨.ref _, upd H _ (.lst xs), I1.laid (t' := s.toks) old2 (Nat.le_refl _) ?_, rfl, q _ (I1.hok.fresh (Nat.le_refl _))⟩
  exact ⟨hz, out, c, rv, he⟩
end
section
variable {X : Cx} {o e : Expr} {td ty : TE}
theorem pc_dtNotInK (P : Program) (w : World) (K : PySem.W.Frag) (hp : X.prog = P) (hw : X.w = w) (hk : X.K = K) (hu : X.A.units + 1 < cLine) (he : PE X e ty) (ho : PE X o td) :
    PC X .NotIn e o (fun σ H Q => ty σ H fun y H1 => td σ H1 fun x H2 => ∃ r, DAsk P w K H2 x y r ∧ Q (.bl (!r.isSome)) H2) := by
  subst hp hw hk
  exact pc_dtNotIn hu he ho
end
end Rp
/-! Tm: a tuple times a number, 0 and 1 too. -/
namespace Rp
open PySem PySem.Spec L2 PyProof.Rows
theorem tuple_mul1 (l : Addr) (items : Array Value) (n : Nat) (dd : Option Addr) (sl : Array (Option Value)) (u : Tok) :
    Meets (Builtin.«tuple.__mul__» ⟨[.ref l, .int 1 u], []⟩) (fun _ R s => s.heap.get? l = some { cls := .type "tuple", dict := dd, data := .seq items n, slots := sl } ∧ R (.ok (.ret (Value.ref l))) s) :=
  .of_wp fun prog w A R s h => by
    obtain ⟨hp, g, d, tk, os⟩ := s
    obtain ⟨hl, h⟩ := h
    have f1 := AutoSeq1.idx_int
    have c1 : (items.isEmpty || (1 : Int) == 1) = true := by simp
    wp_walk using wpAny_loadPart' hl
    repeat (first
      | (refine wpAny_ite_true (decide_eq_true (by rw [c1])) ?_; wp_walk using wpAny_loadPart' hl)
      | (refine wpAny_ite_true (decide_eq_true c1) ?_; wp_walk using wpAny_loadPart' hl))
    exact ⟨_, rfl, h⟩
theorem tuple_mul0 (l : Addr) (items : Array Value) (n : Nat) (dd : Option Addr) (sl : Array (Option Value)) (u : Tok) (c0 : items.isEmpty = false) :
    Meets (Builtin.«tuple.__mul__» ⟨[.ref l, .int 0 u], []⟩) (fun _ R s => s.heap.get? l = some { cls := .type "tuple", dict := dd, data := .seq items n, slots := sl } ∧
      R (.ok (.ret (Value.ref s.heap.objs.size))) { s with heap := s.heap.push { cls := Value.type "tuple", data := Data.seq #[] }, toks := s.toks }) :=
  .of_wp fun prog w A R s h => by
    obtain ⟨hp, g, d, tk, os⟩ := s
    obtain ⟨hl, h⟩ := h
    have f1 := AutoSeq1.idx_int
    have c1 : (items.isEmpty || (0 : Int) == 1) = false := by rw [c0]; rfl
    wp_walk using wpAny_loadPart' hl
    repeat (first
      | (refine wpAny_ite_false (decide_eq_false (by rw [c1]; exact Bool.false_ne_true)) ?_; wp_walk using wpAny_loadPart' hl))
    exact ⟨_, rfl, h⟩
def rRepZ (K : PySem.W.Frag) : R2 := fun x y H Q => ∃ (l : Addr) (k : Int) (xs : List V), x = .ref l ∧ y = .int k ∧ SqT K H l xs ∧ xs ≠ [] ∧ 0 ≤ k ∧ k ≤ 1000 ∧ xs.length ≤ 1000 ∧ ∀ (H' : Hp) (p : Addr), Same H H' → SqT K H' p (List.replicate k.toNat xs).flatten → Q (.ref p) H'
section
variable {X : Cx}
theorem op_repZ : OpR X (binaryOp .Mult) (rRepZ X.K) := by
  intro pins s σ H x y v u Q I rx ry h
  obtain ⟨l, k, xs, rfl, rfl, hT, hne, h1, h2, hz, q⟩ := h
  by_cases k2 : 2 ≤ k
  · exact op_repT pins s σ H _ _ v u Q I rx ry ⟨l, k, xs, rfl, rfl, hT, hne, k2, h2, hz, fun p hp => q _ p (same_new hp) (SqT.of upd_same)⟩
  cases rx
  obtain ⟨t, rfl⟩ := ry
  obtain ⟨its, r, ⟨⟨cls, dd, data, sl⟩, ho, hc, n, hd⟩, hs⟩ := I.tuple hT
  simp only at hc hd
  subst hc hd
  have hle : its.length = xs.length := r.length.symm
  have hn : its ≠ [] := fun e => hne (by
    rw [e] at hle
    exact List.eq_nil_of_length_eq_zero hle.symm)
  have hi : its.toArray.isEmpty = false := by
    cases its with
    | nil => exact absurd rfl hn
    | cons a b => rfl
  rcases (by omega : k = 0 ∨ k = 1) with rfl | rfl
  · refine wpAny_binaryOp_repeat_ref (T := "tuple") (U := "int") (by decide) ⟨_, ho, rfl⟩ (fun s' => typeIs_int s' 0 t) noFill_tuple_mul F.fills_int_mul F.slot_int_rmul repeat_tuple F.slot_int_index.lookup
      (call_meets F.slot_int_rmul (typeIs_int s 0 t) F.entry_int_rmul (F.args_int_rmul_2 _ _) (int_rmul_tuple 0 t l its.toArray n dd sl)
        ⟨ho, rfl, ⟨_, ho, rfl⟩, call_meets F.slot_tuple_mul ⟨_, ho, rfl⟩ F.entry_tuple_mul (F.args_tuple_mul_2 _ _) (tuple_mul0 l its.toArray n dd sl t hi) ⟨ho, ?_⟩⟩)
    have hp := I.hok.fresh (Nat.le_refl s.heap.objs.size)
    refine ⟨.ref s.heap.objs.size, _, I.laid (t' := s.toks) (o := .tup []) (fun b ob q => Heap.get?_push_of_some _ q) (Nat.le_refl _) ?_, rfl, q _ _ (same_new hp) (SqT.of upd_same)⟩
    exact ⟨Nat.zero_le _, [], .nil, IsTup.new _ _⟩
  · refine wpAny_binaryOp_repeat_ref (T := "tuple") (U := "int") (by decide) ⟨_, ho, rfl⟩ (fun s' => typeIs_int s' 1 t) noFill_tuple_mul F.fills_int_mul F.slot_int_rmul repeat_tuple F.slot_int_index.lookup
      (call_meets F.slot_int_rmul (typeIs_int s 1 t) F.entry_int_rmul (F.args_int_rmul_2 _ _) (int_rmul_tuple 1 t l its.toArray n dd sl)
        ⟨ho, rfl, ⟨_, ho, rfl⟩, call_meets F.slot_tuple_mul ⟨_, ho, rfl⟩ F.entry_tuple_mul (F.args_tuple_mul_2 _ _) (tuple_mul1 l its.toArray n dd sl t) ⟨ho, ?_⟩⟩)
    have e : (List.replicate (1 : Int).toNat xs).flatten = xs := by simp
    rw [e] at q
    exact ⟨.ref l, H, I.tok _, rfl, q H l (Same.refl _) hT⟩
end
end Rp
/-! Mt: max of a tuple of ints. -/
namespace Rp
open PySem PySem.Spec L2 PyProof.Rows PySem.W
section
variable {X : Cx}
theorem readsAll_ints {h : Heap} : ∀ {ns : List Int} {us : List Value}, Vals (ns.map V.int) us → ∃ as, ReadsAll h us (ns.map .int) as
  | [], _, .nil => ⟨_, .nil⟩
  | n :: ns, _, .cons h1 t => by
    obtain ⟨as, r⟩ := readsAll_ints (ns := ns) t
    obtain ⟨tk, rfl⟩ := h1
    exact ⟨_, .cons (.int n tk) r⟩
theorem foldl_max_mem : ∀ (ns : List Int) (n : Int), ns.foldl max n ∈ n :: ns ∧ ∀ y ∈ n :: ns, y ≤ ns.foldl max n
  | [], n => ⟨by simp, by simp⟩
  | k :: ns, n => by
    obtain ⟨h1, h2⟩ := foldl_max_mem ns (max n k)
    rw [List.foldl_cons]
    refine ⟨?_, fun y hy => ?_⟩
    · rcases List.mem_cons.mp h1 with e | e
      · rw [e]
        rcases (show max n k = n ∨ max n k = k by omega) with e | e <;> rw [e] <;> simp
      · exact List.mem_cons_of_mem _ (List.mem_cons_of_mem _ e)
    · have h0 := h2 (max n k) (List.mem_cons_self ..)
      rcases List.mem_cons.mp hy with rfl | hy
      · omega
      rcases List.mem_cons.mp hy with rfl | hy
      · omega
      · exact h2 y (List.mem_cons_of_mem _ hy)
def rMaxT (K : PySem.W.Frag) : List V → Hp → VK → Prop := fun vs H Q => ∃ (a : Addr) (ns : List Int), vs = [V.ref a] ∧ SqT K H a (ns.map V.int) ∧ 0 < ns.length ∧ ∀ m, m ∈ ns → (∀ y, y ∈ ns → y ≤ m) → Q (.int m) H
theorem cr_maxT (hc : X.calm = true) (hu : X.A.units + 66 < cLine) : CallR X (.builtin "max") (rMaxT X.K) := by
  intro pins s σ H vs us Q I r h
  obtain ⟨a, ns, rfl, hs, hne, q⟩ := h
  obtain ⟨its, rv, ht⟩ := isTuple_of I hs
  rw [Vals.ref1 r]
  cases ns with
  | nil => simp at hne
  | cons n ns =>
  obtain ⟨as, ra⟩ := readsAll_ints (h := s.heap) (ns := n :: ns) rv
  have dep : ∀ l : List Int, PyData.depthAll (l.map .int) ≤ 1 := by
    intro l
    induction l with
    | nil => simp [PyData.depthAll]
    | cons x l ih =>
      simp only [List.map_cons, PyData.depthAll, PyData.depth]
      omega
  refine max_tuple_data (x := .int n) (xs := ns.map .int) (I.ok.hd hc) ht ra ⟨fun x hx y hy => ?_, fun x hx => ?_⟩ ?_ fun i v h' tk bs hv hr hk => ?_
  · obtain ⟨i, _, rfl⟩ := List.mem_map.mp (show x ∈ (n :: ns).map PyData.int from hx)
    obtain ⟨k, _, rfl⟩ := List.mem_map.mp (show y ∈ (n :: ns).map PyData.int from hy)
    rfl
  · obtain ⟨i, _, rfl⟩ := List.mem_map.mp (show x ∈ (n :: ns).map PyData.int from hx)
    exact fun z => by cases z
  · have := dep (n :: ns)
    rw [List.map_cons] at this
    omega
  · rw [maxD_ints] at hr
    cases hr with
    | int i t =>
    obtain ⟨h1, h2⟩ := foldl_max_mem ns n
    exact ⟨.int _, H, I.kept hk, ⟨_, rfl⟩, q _ h1 h2⟩
end
end Rp
/-! Sa: `in` and `not in` for a tuple of data. -/
namespace Rp
open PySem L2 PyProof.Rows
section
variable {X : Cx}
def rInTD (K : PySem.W.Frag) : R2 := fun x y H Q => ∃ (ds : List PyData) (d : PyData), Dp K H y (.tuple ds) ∧ Dp K H x d ∧ PyData.canLayAll0 ds = true ∧ d.canLay0 = true ∧ d.depth ≤ 60 ∧ Q (.bl (ds.any fun e => e.eqv d)) H
theorem op_inTD (hu : X.A.units + 66 < cLine) : OpR X (compareOp .In) (rInTD X.K) := by
  rintro pins s σ H x y v u Q I rv ru ⟨ds, d, hy, hx, c1, c2, c3, q⟩
  obtain ⟨as, r1⟩ := Dp.reads I _ _ _ hy ru
  obtain ⟨bs, r2⟩ := Dp.reads I _ _ _ hx rv
  refine SeqAt.in_tuple_reads r1 r2 c1 c2 ?_ ⟨.bl _, H, I, rfl, q⟩
  have : min (PyData.depthAll ds) d.depth ≤ 60 := Nat.le_trans (Nat.min_le_right _ _) c3
  omega
def rNotTD (K : PySem.W.Frag) : R2 := fun x y H Q => ∃ (ds : List PyData) (d : PyData), Dp K H y (.tuple ds) ∧ Dp K H x d ∧ PyData.canLayAll0 ds = true ∧ d.canLay0 = true ∧ d.depth ≤ 60 ∧ Q (.bl (!(ds.any fun e => e.eqv d))) H
theorem op_notInTD (hu : X.A.units + 66 < cLine) : OpR X (compareOp .NotIn) (rNotTD X.K) := by
  rintro pins s σ H x y v u Q I rv ru ⟨ds, d, hy, hx, c1, c2, c3, q⟩
  obtain ⟨as, r1⟩ := Dp.reads I _ _ _ hy ru
  obtain ⟨bs, r2⟩ := Dp.reads I _ _ _ hx rv
  refine SeqAt.notIn_tuple_reads r1 r2 c1 c2 ?_ ⟨.bl _, H, I, rfl, q⟩
  have : min (PyData.depthAll ds) d.depth ≤ 60 := Nat.le_trans (Nat.min_le_right _ _) c3
  omega
end
end Rp
/-! Sn: the common part of two sets of tuples of ints. -/
namespace Rp
open PySem PySem.Spec L2 PyProof.Rows
section
variable {P : Program} {w : World} {A : Around} {E : Value → Shared → Prop} {s : Shared} {a : Addr} {L : List (Addr × List Int)} {es : Array (Int × Value)} {ep : Nat} {t : SetTable}
/-- the members in some order -/
theorem setWalk_at (R : SetTR P w s.heap a L es ep t) {Q : Array (Int × Value) → Shared → Prop} (h : ∀ out : Array (Int × Value), out.toList.Perm es.toList → Q out s) : wpAny (model P w) A (setWalk a) Q E s := by
  obtain ⟨o, ho, hex, hd⟩ := R.ob
  unfold setWalk
  refine wpAny_bind (wpAny_setState_of ho hd R.fits ?_)
  dsimp only
  refine wpAny_bind (wpAny_byText ?_)
  cases hb : w.params.followText "set-order" with
  | true =>
    refine wp_if_pos rfl ?_
    exact wpAny_bind (wpAny_askSetting (wpAny_pure (h _ (pick_perm _ _))))
  | false =>
    refine wp_if_neg Bool.false_ne_true ?_
    try refine wpAny_bind (wpAny_pure ?_)
    have led : t.led = true := R.led.resolve_left (by rw [hb]; exact Bool.false_ne_true)
    refine wp_if_neg (by show ¬ ((!t.plain && decide (es.size > 1)) = true); rw [R.plain]; exact Bool.false_ne_true) ?_
    try refine wpAny_bind (wpAny_pure ?_)
    refine wpAny_bind (wpAny_of_eq (a := ()) ?_ ?_)
    · show (if (!t.led && decide (es.size > 1)) = true then unsupported "set:maker-not-led" else pure ()) = pure ()
      rw [led] <;> rfl
    · exact wpAny_pure (h _ (List.Perm.refl _))
theorem setWalkUnseen_at (R : SetTR P w s.heap a L es ep t) {others : List Addr} {f : Option Addr} {Q : Array (Int × Value) → Shared → Prop} (h : ∀ out : Array (Int × Value), out.toList.Perm es.toList → Q out s) : wpAny (model P w) A (setWalkUnseen a others f) Q E s := by
  obtain ⟨o, ho, hex, hd⟩ := R.ob
  unfold setWalkUnseen
  refine wpAny_bind (wpAny_setState_of ho hd R.fits ?_)
  dsimp only
  refine wpAny_bind (wpAny_byText ?_)
  have c : (w.params.followText "set-order" || (t.led && t.plain) || decide (es.size ≤ 1)) = true := by
    rcases R.led with e | e
    · rw [e]; rfl
    · rw [e, R.plain]
      cases w.params.followText "set-order" <;> rfl
  refine wp_if_pos c ?_
  exact setWalk_at R h
/-- how the walk of a hash begins -/
abbrev beg (P : Program) (w : World) (t : SetTable) (k : List Int) : SetTable.Probe := runAt t.mask (SetTable.bits (thash P w k) % (t.mask + 1)) (SetTable.bits (thash P w k))
theorem nth_dum (m : Nat) : ∀ (n : Nat) (p : SetTable.Probe), p.dummy = none → (nth m p n).dummy = none
  | 0, p, h => h
  | n + 1, p, h => nth_dum m n (adv m p) (by unfold adv; split <;> exact h)
/-- where the key stands, if it is there, no place that is behind the walker -/
def Ahead (P : Program) (w : World) (t : SetTable) (L : List (Addr × List Int)) (k : List Int) (K c : Nat) : Prop :=
  ∀ (i : Nat) (p : Addr × List Int), L[i]? = some p → p.2 = k → ∃ c', c ≤ c' ∧ c' < K ∧ t.place.toList[i]? = some (way t.mask (thash P w k) c')
theorem find_walk (R : SetTR P w s.heap a L es ep t) {x : Addr} {k : List Int} (tx : IsT P w s.heap k x) (un : A.units < cLine) {K : Nat} (kK : K < 10 * SetTable.turns t.mask)
    (free : way t.mask (thash P w k) K ∉ t.place.toList) (held : ∀ c, c < K → way t.mask (thash P w k) c ∈ t.place.toList) {Q : SetFound → Shared → Prop}
    (yes : ∀ i, k ∈ L.map (·.2) → Q (.there (some i)) s) (no : ∀ j b, k ∉ L.map (·.2) → Q (.free j b) s) (f : Nat) :
    ∀ (c : Nat) (stand : Option SetTable.Probe), stand.getD (t.probeStart (thash P w k)) = nth t.mask (beg P w t k) c → c ≤ K → K - c < f → Ahead P w t L k K c →
      wpAny (model P w) A (setSearchFrom a (.ref x) (thash P w k) false f stand) Q E s := by
  obtain ⟨o, ho, hex, hd⟩ := R.ob
  induction f with
  | zero => intro c stand _ _ h _; exact absurd h (Nat.not_lt_zero _)
  | succ f ih =>
    intro c stand est cK cf ah
    have at_ : ∀ q, (nth t.mask (nth t.mask (beg P w t k) c) q).j = way t.mask (thash P w k) (c + q) := fun q => by rw [← nth_add]
    have hash_ : ∀ (i : Nat) (p : Addr × List Int), L[i]? = some p → (es[i]?.map (·.1)).getD 0 = thash P w p.2 := fun i p hp => by rw [R.entry hp] <;> rfl
    rw [setSearchFrom_succ]
    refine wpAny_bind (wpAny_setState_of ho hd R.fits ?_)
    dsimp only
    refine wp_if_neg R.gw ?_
    try refine wpAny_bind (wpAny_pure ?_)
    rw [est]
    rcases go_spec t R.tab.ris R.tab.dm (fun i => (es[i]?.map (·.1)).getD 0) (thash P w k) (10 * SetTable.turns t.mask) (K - c) (nth t.mask (beg P w t k) c) (nth_dum _ _ _ rfl) (by omega)
      (fun q hq => by rw [at_]; exact held (c + q) (by omega)) (by rw [at_, show c + (K - c) = K by omega]; exact free) with ⟨q, i, qK, ei, eh, none_, pr⟩ | ⟨none_, pr⟩
    · rw [show t.probe (fun i => (es[i]?.map (·.1)).getD 0) (thash P w k) (nth t.mask (beg P w t k) c) = _ from pr]
      dsimp only
      rw [at_] at ei
      have il : i < L.length := by
        have h1 := (List.getElem?_eq_some_iff.mp ei).1
        have h2 := R.tab.sz
        rw [List.length_map] at h2
        rw [Array.length_toList] at h1
        omega
      obtain ⟨p, ep_⟩ : ∃ p, L[i]? = some p := ⟨_, List.getElem?_eq_getElem il⟩
      have pL : p ∈ L := List.mem_of_getElem? ep_
      have rest : wpAny (model P w) A (searchRest a (.ref x) (thash P w k) false f es t (nth t.mask (nth t.mask (beg P w t k) c) q).j i (nth t.mask (nth t.mask (beg P w t k) c) (q + 1))) Q E s := by
        unfold searchRest
        rw [R.entry ep_]
        dsimp only
        refine wpAny_bind (wpAny_holding (wpAny_eqBool_tuple un (R.tup p pL) tx ?_))
        refine wpAny_bind (wpAny_setState_of ho hd R.fits ?_)
        dsimp only
        refine wp_if_neg (by simp) ?_
        try refine wpAny_bind (wpAny_pure ?_)
        rw [sameMem]
        dsimp only
        have live : t.slot (nth t.mask (nth t.mask (beg P w t k) c) q).j = .live i := by rw [at_]; exact slot_live R.tab.ris ei
        simp only [if_true, live, R.entry ep_]
        refine wpAny_bind (wpAny_isSame_ref_self (wpAny_bind (wpAny_pure ?_)))
        simp only [if_true]
        by_cases e : p.2 = k
        · refine wp_if_pos (by simp [e]) ?_
          exact wpAny_pure (yes i (List.mem_map.mpr ⟨p, pL, e⟩))
        · refine wp_if_neg (by simp [e]) ?_
          refine ih (c + (q + 1)) _ (nth_add t.mask c _ (q + 1)).symm (by omega) (by omega) fun i' p' h1 h2 => ?_
          obtain ⟨c', b1, b2, b3⟩ := ah i' p' h1 h2
          refine ⟨c', ?_, b2, b3⟩
          by_cases z : c' < c + q
          · refine absurd ((hash_ i' p' h1).trans (congrArg _ h2)) (none_ (c' - c) i' (by omega) ?_)
            rw [at_, show c + (c' - c) = c' by omega]
            exact b3
          · by_cases y : c' = c + q
            · subst y
              have l2 := slot_live R.tab.ris b3
              rw [← at_, live] at l2
              cases l2
              rw [ep_] at h1
              exact absurd ((congrArg Prod.snd (Option.some.inj h1)).trans h2) e
            · omega
      by_cases led : t.led = true
      · refine wp_if_neg (by simp [led]) ?_
        try refine wpAny_bind (wpAny_pure ?_)
        exact rest
      · refine wp_if_pos (by simp [led]) ?_
        refine wpAny_bind (seen_tup tx (fun y hy => ?_) ?_)
        · obtain ⟨u, hu, eu⟩ := List.mem_map.mp hy
          have hu2 : u ∈ es.toList := by
            have : u ∈ es ∧ u.1 = thash P w k := by simpa using hu
            simpa using this.1
          rw [R.rows] at hu2
          obtain ⟨p2, m2, e2⟩ := List.mem_map.mp hu2
          exact ⟨p2.2, p2.1, by rw [← eu, ← e2], R.tup p2 m2⟩
        · refine wp_if_neg (by decide) ?_
          try refine wpAny_bind (wpAny_pure ?_)
          exact rest
    · rw [show t.probe (fun i => (es[i]?.map (·.1)).getD 0) (thash P w k) (nth t.mask (beg P w t k) c) = _ from pr]
      dsimp only
      refine wpAny_pure (no _ _ fun hm => ?_)
      obtain ⟨p, pL, e⟩ := List.mem_map.mp hm
      obtain ⟨i, ei⟩ := List.getElem?_of_mem pL
      obtain ⟨c', b1, b2, b3⟩ := ah i p ei e
      refine absurd ((hash_ i p ei).trans (congrArg _ e)) (none_ (c' - c) i (by omega) ?_)
      rw [at_, show c + (c' - c) = c' by omega]
      exact b3
/-- whether a tuple is in the set -/
theorem find_at (R : SetTR P w s.heap a L es ep t) {x : Addr} {k : List Int} (tx : IsT P w s.heap k x) (un : A.units < cLine) {Q : Option Nat → Shared → Prop}
    (h : ∀ r : Option Nat, r.isSome = decide (k ∈ L.map (·.2)) → Q r s) : wpAny (model P w) A (setFind a (.ref x) (thash P w k)) Q E s := by
  obtain ⟨o, ho, hex, hd⟩ := R.ob
  unfold setFind
  rw [show (100000 : Nat) = 99999 + 1 from rfl]
  unfold setFindIn
  refine wpAny_bind (wpAny_setState_of ho hd R.fits ?_)
  dsimp only
  refine wp_if_neg (by simp [byScan, Value.scannable]) ?_
  try refine wpAny_bind (wpAny_pure ?_)
  have room := R.room
  obtain ⟨K, kK, free, held⟩ := R.tab.first (by rw [List.length_map]; omega) (thash P w k)
  have big : K < 100000 := by
    have : 10 * SetTable.turns t.mask ≤ 1420 := by
      unfold SetTable.turns
      rcases R.tab.mok with e | e | e <;> omega
    omega
  unfold setSearch
  refine wpAny_bind (find_walk R tx un kK free held (fun i m => ?_) (fun j b m => ?_) 100000 0 none rfl (Nat.zero_le _) (by omega) fun i p hp e => ?_)
  · exact wpAny_pure (h _ (by simp [m]))
  · exact wpAny_pure (h _ (by simp [m]))
  · have hi : (L.map fun p => thash P w p.2)[i]? = some (thash P w k) := by rw [List.getElem?_map, hp, ← e]; rfl
    have il : i < t.place.toList.length := by
      have h1 := (List.getElem?_eq_some_iff.mp hp).1
      have h2 := R.tab.sz
      rw [List.length_map] at h2
      rw [Array.length_toList]
      omega
    obtain ⟨c, cK, ec⟩ := R.tab.before free hi (List.getElem?_eq_getElem il)
    exact ⟨c, Nat.zero_le _, cK, by rw [List.getElem?_eq_getElem il, ec]⟩
end
theorem entry_set_and : entryFor table "set.__and__" = some Builtin.«frozenset.__and__» :=
  entryFor_alias (id' := "frozenset.__and__") (by kernel_rfl) rfl (by decide +kernel) (by kernel_rfl)
section
variable {P : Program} {w : World} {A : Around} {E : Value → Shared → Prop} {s : Shared} {a b : Addr} {La Lb : List (Addr × List Int)} {esa esb : Array (Int × Value)} {epa epb : Nat} {ta tb : SetTable}
theorem keys_len : ∀ (l D : List (List Int)), l.Nodup → (∀ x ∈ l, x ∈ D) → l.length ≤ D.length
  | [], _, _, _ => Nat.zero_le _
  | x :: l, D, hn, hs => by
    obtain ⟨h1, h2⟩ := List.nodup_cons.mp hn
    have hx : x ∈ D := hs x (List.mem_cons_self ..)
    have ih := keys_len l (D.erase x) h2 fun y hy => (List.mem_erase_of_ne fun e => h1 (by rw [← e]; exact hy)).mpr (hs y (List.mem_cons_of_mem _ hy))
    have e := List.length_erase_of_mem hx
    have : 0 < D.length := List.length_pos_of_mem hx
    rw [List.length_cons]
    omega
theorem inter_loop {k m r : Addr} {Lk Lm : List (Addr × List Int)} {esk esm : Array (Int × Value)} {epk epm : Nat} {tk tm : SetTable} {es0 : Array (Int × Value)} {ep0 : Nat} {t0 : SetTable}
    (Rk : SetTR P w s.heap k Lk esk epk tk) (Rm : SetTR P w s.heap m Lm esm epm tm) (R0 : SetTR P w s.heap r [] es0 ep0 t0) (nk : k ≠ r) (nm : m ≠ r) (nt : ∀ p ∈ Lk ++ Lm, p.1 ≠ r) (un : A.units < cLine) (few : Lm.length < 63) {ii : String} {Q : PUnit → Shared → Prop}
    (out : ∀ (g : Heap) L es ep t, SetTR P w g r L es ep t → (∀ p ∈ L, p ∈ Lm) → (∀ x, x ∈ L.map (·.2) ↔ x ∈ Lm.map (·.2) ∧ x ∈ Lk.map (·.2)) → (∀ c o, c ≠ r → s.heap.get? c = some o → g.get? c = some o) → Q PUnit.unit { s with heap := g }) :
    wpAny (model P w) A (do
      let was ← setEpoch m
      let ys ← setWalkUnseen m [k, r] (some r)
      forIn ys PUnit.unit fun x _ =>
        match x with
        | (h, x) => do
          holding [x] do
            let f ← setFind k x h
            if f.isSome = true then do
              let _ ← setAddHashed r x h
              pure ()
            else pure ()
          Builtin.Frozenset.unchanged ii m was
          pure (ForInStep.yield PUnit.unit)
      pure ()) Q E s := by
  obtain ⟨om, hm, exm, dm⟩ := id Rm.ob
  refine wpAny_bind (wpAny_setEpoch_of hm dm Rm.fits ?_)
  refine wpAny_bind (setWalkUnseen_at Rm fun ys pm => ?_)
  refine wpAny_bind ?_
  refine MeetsSeq2.wpAny_forIn_array _ (fun rest _ s' => ∃ (g : Heap) (L : List (Addr × List Int)) (es : Array (Int × Value)) (ep : Nat) (t : SetTable), s' = { s with heap := g } ∧ SetTR P w g r L es ep t ∧ (∀ p ∈ L, p ∈ Lm) ∧ (∀ p ∈ L, p.2 ∈ Lk.map (·.2)) ∧
    (∀ p ∈ Lm, p.2 ∈ Lk.map (·.2) → p.2 ∈ L.map (·.2) ∨ (thash P w p.2, Value.ref p.1) ∈ rest) ∧ (∀ x ∈ rest, ∃ p ∈ Lm, x = (thash P w p.2, Value.ref p.1)) ∧ ∀ c o, c ≠ r → s.heap.get? c = some o → g.get? c = some o) _ ?_ ?_ ys _ ?_
  · rintro ⟨h, v⟩ rest _ _ ⟨g, L, es, ep, t, rfl, R, i1, i2, i3, i4, kp⟩
    obtain ⟨p, pL, e⟩ := i4 _ (List.mem_cons_self ..)
    obtain ⟨rfl, rfl⟩ := Prod.mk.inj e
    have kT : ∀ q ∈ Lk ++ Lm, IsT P w s.heap q.2 q.1 → IsT P w g q.2 q.1 := fun q hq hT => by
      obtain ⟨o, its, n, h1, h2⟩ := hT
      exact ⟨o, its, n, kp _ _ (nt q hq) h1, h2⟩
    have Rk' : SetTR P w g k Lk esk epk tk := Rk.keep (fun o ho => kp k o nk ho) fun q hq => kT q (List.mem_append_left _ hq) (Rk.tup q hq)
    have Rm' : SetTR P w g m Lm esm epm tm := Rm.keep (fun o ho => kp m o nm ho) fun q hq => kT q (List.mem_append_right _ hq) (Rm.tup q hq)
    have tx := Rm'.tup p pL
    have ll : L.length ≤ Lm.length := by
      have := keys_len (L.map (·.2)) (Lm.map (·.2)) R.nd fun x hx => by
        obtain ⟨q, hq, rfl⟩ := List.mem_map.mp hx
        exact List.mem_map.mpr ⟨q, i1 q hq, rfl⟩
      simpa using this
    dsimp only
    refine wpAny_bind (wpAny_holding ?_)
    refine wpAny_bind (find_at Rk' tx un fun f hf => ?_)
    have fin : ∀ (g2 : Heap) (Q2 : ForInStep PUnit → Shared → Prop), (∀ c o, c ≠ r → s.heap.get? c = some o → g2.get? c = some o) → Q2 (.yield PUnit.unit) { s with heap := g2 } →
        wpAny (model P w) A (do
          Builtin.Frozenset.unchanged ii m epm
          pure (ForInStep.yield PUnit.unit)) Q2 E { s with heap := g2 } := by
      intro g2 Q2 kp2 q2
      unfold Builtin.Frozenset.unchanged
      exact wpAny_bind (wpAny_bind (wpAny_setEpoch_of (kp2 m om nm hm) dm Rm.fits (wp_if_neg (by simp) (wpAny_pure (wpAny_pure q2)))))
    by_cases c : p.2 ∈ Lk.map (·.2)
    · refine wp_if_pos (by rw [hf, decide_eq_true c]) ?_
      refine wpAny_bind (add_at R tx un (by omega) fun b h' L' es' ep' t' sb R' c1 c2 => wpAny_pure ?_)
      have kp' : ∀ c o, c ≠ r → s.heap.get? c = some o → h'.get? c = some o := fun c o hc ho => (sb.2 c hc).trans (kp c o hc ho)
      refine fin h' _ kp' ⟨h', L', es', ep', t', rfl, R', ?_, ?_, ?_, fun x hx => i4 x (List.mem_cons_of_mem _ hx), kp'⟩
      · intro q hq
        by_cases z : p.2 ∈ L.map (·.2)
        · rw [c1 z] at hq
          exact i1 q hq
        · rcases List.mem_cons.mp ((c2 z).mem_iff.mp hq) with rfl | hq
          · exact pL
          · exact i1 q hq
      · intro q hq
        by_cases z : p.2 ∈ L.map (·.2)
        · rw [c1 z] at hq
          exact i2 q hq
        · rcases List.mem_cons.mp ((c2 z).mem_iff.mp hq) with rfl | hq
          · exact c
          · exact i2 q hq
      · intro q hq hk
        have mem : ∀ x, x ∈ L.map (·.2) ∨ x = p.2 → x ∈ L'.map (·.2) := fun x hx => by
          by_cases z : p.2 ∈ L.map (·.2)
          · rw [c1 z]
            rcases hx with hx | rfl
            · exact hx
            · exact z
          · rw [((c2 z).map (·.2)).mem_iff, List.map_cons, List.mem_cons]
            exact hx.symm
        rcases i3 q hq hk with h | h
        · exact .inl (mem _ (.inl h))
        · rcases List.mem_cons.mp h with h | h
          · have e := (Prod.mk.inj h).2
            injection e with e
            have same : q = p := by
              have h1 := Rm'.tup q hq
              rw [e] at h1
              exact Prod.ext e (h1.inj tx)
            exact .inl (mem _ (.inr (by rw [same])))
          · exact .inr h
    · refine wp_if_neg (by rw [hf, decide_eq_false c]; exact Bool.false_ne_true) ?_
      refine wpAny_pure (fin g _ kp ⟨g, L, es, ep, t, rfl, R, i1, i2, fun q hq hk => ?_, fun x hx => i4 x (List.mem_cons_of_mem _ hx), kp⟩)
      rcases i3 q hq hk with h | h
      · exact .inl h
      · rcases List.mem_cons.mp h with h | h
        · have e := (Prod.mk.inj h).2
          injection e with e
          have same : q = p := by
            have h1 := Rm'.tup q hq
            rw [e] at h1
            exact Prod.ext e (h1.inj tx)
          rw [same] at hk
          exact absurd hk c
        · exact .inr h
  · rintro _ _ ⟨g, L, es, ep, t, rfl, R, i1, i2, i3, i4, kp⟩
    refine wpAny_pure (out g L es ep t R i1 (fun x => ⟨fun hx => ?_, fun ⟨h1, h2⟩ => ?_⟩) kp)
    · obtain ⟨q, hq, rfl⟩ := List.mem_map.mp hx
      exact ⟨List.mem_map.mpr ⟨q, i1 q hq, rfl⟩, i2 q hq⟩
    · obtain ⟨q, hq, rfl⟩ := List.mem_map.mp h1
      rcases i3 q hq h2 with h | h
      · exact h
      · exact absurd h List.not_mem_nil
  · refine ⟨s.heap, [], es0, ep0, t0, rfl, R0, fun p hp => absurd hp List.not_mem_nil, fun p hp => absurd hp List.not_mem_nil, fun p hp _ => .inr ?_, fun x hx => ?_, fun c o _ h => h⟩
    · rw [pm.mem_iff, Rm.rows]
      exact List.mem_map.mpr ⟨p, hp, rfl⟩
    · rw [pm.mem_iff, Rm.rows] at hx
      obtain ⟨p, hp, rfl⟩ := List.mem_map.mp hx
      exact ⟨p, hp, rfl⟩
theorem inter_at (Ra : SetTR P w s.heap a La esa epa ta) (Rb : SetTR P w s.heap b Lb esb epb tb) (ne : a ≠ b) (un : A.units < cLine) (fa : La.length < 63) (fb : Lb.length < 63) {ii : String} {Q : Value → Shared → Prop}
    (out : ∀ (g : Heap) L es ep t, SetTR P w g s.heap.objs.size L es ep t → (∀ p ∈ L, p ∈ La ∨ p ∈ Lb) → (∀ k, k ∈ L.map (·.2) ↔ k ∈ La.map (·.2) ∧ k ∈ Lb.map (·.2)) → (∀ c o, s.heap.get? c = some o → g.get? c = some o) → Q (.ref s.heap.objs.size) { s with heap := g }) :
    wpAny (model P w) A (Builtin.Frozenset.intersection ii a (.ref b)) Q E s := by
  obtain ⟨oa, ha, exa, da⟩ := id Ra.ob
  obtain ⟨ob, hb, exb, db⟩ := id Rb.ob
  have tA : s.TypeIs (.ref a) "set" := ⟨oa, ha, exa.1⟩
  unfold Builtin.Frozenset.intersection
  refine wp_if_neg (by simp [Ne.symm ne]) ?_
  try refine wpAny_bind (wpAny_pure ?_)
  refine wpAny_bind (m := Builtin.Frozenset.baseOf a) ?_
  unfold Builtin.Frozenset.baseOf
  refine wpAny_bind (wpAny_isInstance (b := true) tA sub_set_self (wpAny_pure ?_))
  refine wpAny_bind (m := newSet (.type "set")) ?_
  unfold newSet
  refine wpAny_bind (wpAny_byText ?_)
  refine wpAny_newObj_type ?_
  refine wpAny_bind (m := Builtin.Frozenset.addrOf (.ref s.heap.objs.size)) (wpAny_pure ?_)
  have R0 : SetTR P w (s.heap.push (setOb w)) s.heap.objs.size [] #[] 0 (.fresh 0 0 (!w.params.followText "set-order")) := setTR_fresh (Heap.get?_push_size _ rfl)
  have k0 : ∀ c o, s.heap.get? c = some o → (s.heap.push (setOb w)).get? c = some o := fun c o h => Heap.get?_push_of_some _ h
  have Ra0 := Ra.keep (k0 a) fun p hp => isT_keep (Ra.tup p hp) k0
  have Rb0 := Rb.keep (k0 b) fun p hp => isT_keep (Rb.tup p hp) k0
  refine wpAny_bind (wpAny_holding ?_)
  have tB0 : ({ s with heap := s.heap.push (setOb w) } : Shared).TypeIs (.ref b) "set" := ⟨ob, k0 b ob hb, exb.1⟩
  have old : ∀ {c : Addr} {o : Obj}, s.heap.get? c = some o → c ≠ s.heap.objs.size := fun h => Nat.ne_of_lt (Heap.lt_size h)
  have oldT : ∀ (p : Addr × List Int), p ∈ La ∨ p ∈ Lb → p.1 ≠ s.heap.objs.size := fun p hp => by
    rcases hp with hp | hp
    · obtain ⟨o, its, n, h1, _⟩ := Ra.tup p hp
      exact old h1
    · obtain ⟨o, its, n, h1, _⟩ := Rb.tup p hp
      exact old h1
  refine wpAny_bind (m := Builtin.Frozenset.isAnySet (.ref b)) ?_
  unfold Builtin.Frozenset.isAnySet orM
  refine wpAny_bind (wpAny_isInstance (b := true) tB0 sub_set_self ?_)
  refine wpAny_pure ?_
  refine wp_if_pos rfl ?_
  refine wpAny_bind (m := Builtin.Frozenset.addrOf (.ref b)) (wpAny_pure ?_)
  refine wpAny_bind (m := Builtin.Frozenset.sizeOf b) ?_
  unfold Builtin.Frozenset.sizeOf
  refine wpAny_bind (wpAny_setEntries_of (k0 b ob hb) db Rb.fits (wpAny_pure ?_))
  refine wpAny_bind (wpAny_bind (wpAny_setEntries_of (k0 a oa ha) da Ra.fits (wpAny_pure ?_)))
  have kz : ∀ g : Heap, (∀ c o, c ≠ s.heap.objs.size → (s.heap.push (setOb w)).get? c = some o → g.get? c = some o) → ∀ c o, s.heap.get? c = some o → g.get? c = some o := fun g kp c o h => kp c o (old h) (k0 c o h)
  by_cases c : esb.size > esa.size
  · rw [if_pos c]
    dsimp only
    refine inter_loop (s := { s with heap := s.heap.push (setOb w) }) Rb0 Ra0 R0 (old hb) (old ha) (fun p hp => oldT p (List.mem_append.mp hp).symm) un fa fun g L es ep t R sub iff_ kp => ?_
    exact wpAny_pure (out g L es ep t R (fun p hp => .inl (sub p hp)) iff_ (kz g kp))
  · rw [if_neg c]
    dsimp only
    refine inter_loop (s := { s with heap := s.heap.push (setOb w) }) Ra0 Rb0 R0 (old ha) (old hb) (fun p hp => oldT p (List.mem_append.mp hp)) un fb fun g L es ep t R sub iff_ kp => ?_
    exact wpAny_pure (out g L es ep t R (fun p hp => .inr (sub p hp)) (fun k => (iff_ k).trans and_comm) (kz g kp))
theorem set_and (Ra : SetTR P w s.heap a La esa epa ta) (Rb : SetTR P w s.heap b Lb esb epb tb) (ne : a ≠ b) (un : A.units + 8 < cLine) (fa : La.length < 63) (fb : Lb.length < 63) {Q : Value → Shared → Prop}
    (out : ∀ (g : Heap) L es ep t, SetTR P w g s.heap.objs.size L es ep t → (∀ p ∈ L, p ∈ La ∨ p ∈ Lb) → (∀ k, k ∈ L.map (·.2) ↔ k ∈ La.map (·.2) ∧ k ∈ Lb.map (·.2)) → (∀ c o, s.heap.get? c = some o → g.get? c = some o) → Q (.ref s.heap.objs.size) { s with heap := g }) :
    wpAny (model P w) A (binaryOp .BitAnd (.ref a) (.ref b)) Q E s := by
  obtain ⟨oa, ha, exa, da⟩ := Ra.ob
  obtain ⟨ob, hb, exb, db⟩ := Rb.ob
  have tA : s.TypeIs (.ref a) "set" := ⟨oa, ha, exa.1⟩
  have tB : s.TypeIs (.ref b) "set" := ⟨ob, hb, exb.1⟩
  refine wpAny_binaryOp_same (T := "set") tA tB F.fills_set_and F.slot_set_and ?_
  refine wpAny_call_entry F.slot_set_and tA entry_set_and ?_ (F.args_set_and_2 _ _)
  unfold Builtin.«frozenset.__and__»
  rcases oa with ⟨ca, dca, dta, sla⟩
  rcases ob with ⟨cb, dcb, dtb, slb⟩
  have e1 := exa.1
  have e2 := exb.1
  dsimp only at e1 e2
  subst e1 e2
  have sb := sub_set_self
  generalize eis : Builtin.Frozenset.intersection = IS
  wp_walk
  subst eis
  refine inter_at Ra Rb ne (by show A.units + 1 < cLine; omega) fa fb fun g L es ep t R h1 h2 h3 => ?_
  exact wpAny_pure ⟨_, rfl, (fun z => nomatch z), out g L es ep t R h1 h2 h3⟩
end
section
variable {X : Cx}
/-- a & b, sets of tuples of ints -/
def rSetAnd (K : PySem.W.Frag) (P : Program) (w : World) : R2 := fun x y H Q => ∃ (a b : Addr) (La Lb : List (Addr × List Int)), x = V.ref a ∧ y = V.ref b ∧ a ≠ b ∧ H a = some (SetTO P w a La) ∧ H b = some (SetTO P w b Lb) ∧
  (∀ p ∈ La ++ Lb, SqT K H p.1 (p.2.map V.int)) ∧ ((La.map (·.2)).Nodup → La.length < 63) ∧ ((Lb.map (·.2)).Nodup → Lb.length < 63) ∧
  ∀ r L, H r = none → (∀ p ∈ L, p ∈ La ∨ p ∈ Lb) → (∀ k, k ∈ L.map (·.2) ↔ k ∈ La.map (·.2) ∧ k ∈ Lb.map (·.2)) → Q (.ref r) (upd H r (SetTO P w r L))
theorem op_setand (hc : X.calm = true) (hu : X.A.units + 66 < cLine) : OpR X (binaryOp .BitAnd) (rSetAnd X.K X.prog X.w) := by
  intro pins s σ H x y v u Q I rx ry h
  obtain ⟨a, b, La, Lb, rfl, rfl, ne, ha, hb, hk, fa, fb, q⟩ := h
  cases rx
  cases ry
  obtain ⟨esa, epa, ta, Ra⟩ := SetT0.full (P := X.prog) (w := X.w) (h := s.heap) (a := a) (L := La) (I.hok a _ ha).1 fun p hp => I.isT (hk p (List.mem_append_left _ hp))
  obtain ⟨esb, epb, tb, Rb⟩ := SetT0.full (P := X.prog) (w := X.w) (h := s.heap) (a := b) (L := Lb) (I.hok b _ hb).1 fun p hp => I.isT (hk p (List.mem_append_right _ hp))
  refine set_and Ra Rb ne (by omega) (fa Ra.nd) (fb Rb.nd) fun g L es ep t R h1 h2 h3 => ?_
  exact ⟨.ref s.heap.objs.size, _, I.laid (t' := s.toks) h3 (Nat.le_refl _) (setTO_new R.t0), rfl, q _ L (I.hok.fresh (Nat.le_refl _)) h1 h2⟩
end
end Rp
/-! Tw: set of a tuple of tuples of ints, of any length, where fewer than 63 of them differ. -/
namespace Rp
open PySem PySem.Spec L2 PyProof.Rows
section
variable {P : Program} {w : World} {A : Around} {E : Value → Shared → Prop} {s : Shared}
/-- one more item, till none is left -/
theorem set_more {It : Addr} {own wr : List Addr} {Gs : Array GenState → Array GenState → Prop} {n : Nat} {Pv : Nat → Value → Prop} {St : Nat → Shared → Prop} {R : Result → Shared → Prop}
    (walk : WalksS P w A.in1 It own wr Gs n Pv St) (Z : Addr) (far : Z ∉ own) (ks : List (Addr × List Int)) (en : n = ks.length) (few : ∀ L : List (Addr × List Int), (∀ p ∈ L, p ∈ ks) → (L.map (·.2)).Nodup → L.length < 63)
    (each : ∀ i v, Pv i v → ∃ p, ks[i]? = some p ∧ v = .ref p.1) (hp0 : Heap) (ek : ∀ p ∈ ks, IsT P w hp0 p.2 p.1) (newZ : hp0.get? Z = none) (neww : ∀ b ∈ wr, hp0.get? b = none) (un : A.in1.units < cLine) :
    ∀ (k i : Nat) (s : Shared), n - i = k → i ≤ n → St i s → (∀ b o, hp0.get? b = some o → s.heap.get? b = some o) → (∃ L es ep t, SetTR P w s.heap Z L es ep t ∧ Got ks i L) →
      (∀ s' L es ep t, Moved (Z :: wr) Gs s s' → SetTR P w s'.heap Z L es ep t → Got ks n L → (∀ b o, hp0.get? b = some o → s'.heap.get? b = some o) → R (.ok (.ret .none)) s') →
      codeAny (model P w) A (.builtin "set.update.loop" ⟨[.ref Z, .ref It], []⟩) R s := by
  have outw : Z ∉ wr := fun z => far (walk.sub _ z)
  have wider : ∀ b ∈ wr, b ∈ Z :: wr := fun _ hb => List.mem_cons_of_mem _ hb
  have old : ∀ {s s' : Shared}, Moved wr Gs s s' → (∀ b o, hp0.get? b = some o → s.heap.get? b = some o) → ∀ b o, hp0.get? b = some o → s'.heap.get? b = some o := fun mv kp b o e => by
    refine mv.heap b o (fun hb => ?_) (kp b o e)
    rw [neww b hb] at e
    cases e
  intro k
  induction k with
  | zero =>
    rintro i s ek' hi st kp ⟨L, es, ep, t, RZ, got⟩ fin
    obtain rfl : i = n := by omega
    refine codeAny_builtin F.entry_set_update_loop ?_
    rw [Around.under_plainId F.plain_set_update_loop _]
    show wpAny _ A.in1 (pyNext (.ref It) >>= _) _ _ s
    refine wpAny_bind (walk.done s _ _ st fun s' mv => ?_)
    show wpAny _ A.in1 (ret Value.none) _ _ s'
    have kp' := old mv kp
    have inks : ∀ p ∈ L, p ∈ ks := fun p hp => List.mem_of_mem_take (got.sub p hp)
    refine wpAny_pure (fin s' L es ep t (mv.mono wider) (RZ.keep (fun o e => mv.heap Z o outw e) fun p hp => isT_keep (ek p (inks p hp)) kp') got kp')
  | succ k ih =>
    rintro i s ek' hi st kp ⟨L, es, ep, t, RZ, got⟩ fin
    have lt : i < n := by omega
    refine codeAny_builtin F.entry_set_update_loop ?_
    rw [Around.under_plainId F.plain_set_update_loop _]
    show wpAny _ A.in1 (pyNext (.ref It) >>= _) _ _ s
    refine wpAny_bind (walk.item i s _ _ lt st fun v s' hP st' mv => ?_)
    obtain ⟨p, hp, rfl⟩ := each i v hP
    have kp' := old mv kp
    have inks : ∀ p ∈ L, p ∈ ks := fun p hp => List.mem_of_mem_take (got.sub p hp)
    have RZ' : SetTR P w s'.heap Z L es ep t := RZ.keep (fun o e => mv.heap Z o outw e) fun q hq => isT_keep (ek q (inks q hq)) kp'
    have tx : IsT P w s'.heap p.2 p.1 := isT_keep (ek p (List.mem_of_getElem? hp)) kp'
    have room := few L inks RZ.nd
    show wpAny _ A.in1 (holding [Value.ref p.1] (setAdd Z (.ref p.1)) >>= _) _ _ s'
    refine wpAny_bind (wpAny_holding ?_)
    unfold setAdd
    refine wpAny_holding ?_
    refine wpAny_bind (wpAny_pyHash_tuple un tx ?_)
    refine add_at (s := { s' with toks := s'.toks + (p.2.length + 1) }) RZ' tx un (by omega) fun b g L' es' ep' t' same R2 c1 c2 => ?_
    have got' : Got ks (i + 1) L' := by
      by_cases c : p.2 ∈ L.map (·.2)
      · rw [c1 c]
        exact got.same hp c
      · exact got.more hp (c2 c)
    have kp2 : ∀ b o, hp0.get? b = some o → g.get? b = some o := fun b o e => by
      refine (same.2 b (fun z => ?_)).trans (kp' b o e)
      rw [z, newZ] at e
      cases e
    refine wpAny_pure ⟨plainId_quiet F.plain_set_update_loop _, ih (i + 1) _ (by omega) lt (walk.frame _ s' _ _ st' (Nat.le_add_right _ _) fun b hb o e => ?_) kp2 ⟨L', es', ep', t', R2, got'⟩ fun s2 L2 es2 ep2 t2 mv2 RL g2 kpz => ?_⟩
    · have nb : b ≠ Z := fun z => far (by rw [← z]; exact hb)
      rw [same.2 b nb]
      exact e
    · refine fin s2 L2 es2 ep2 t2 (Moved.trans walk.gtrans ((mv.mono wider).then_heap (Nat.le_add_right _ _) fun b o hb e => ?_) mv2) RL g2 kpz
      have nb : b ≠ Z := fun z => hb (by rw [z]; exact List.mem_cons_self)
      rw [same.2 b nb]
      exact e
theorem set_tupW {l : Addr} {items : Array Value} (ks : List (Addr × List Int)) {Q : Value → Shared → Prop} (free : A.handled = none) (tupl : s.heap.IsTuple l items) (eit : items.toList = ks.map fun p => Value.ref p.1)
    (ek : ∀ p ∈ ks, IsT P w s.heap p.2 p.1) (few : ∀ L : List (Addr × List Int), (∀ p ∈ L, p ∈ ks) → (L.map (·.2)).Nodup → L.length < 63) (un : A.units + 3 < cLine)
    (out : ∀ (g : Heap) (tk : Nat) L es ep t, SetTR P w g s.heap.objs.size L es ep t → Got ks ks.length L → (∀ b o, s.heap.get? b = some o → g.get? b = some o) → Q (.ref s.heap.objs.size) { s with heap := g, toks := tk }) :
    wpAny (model P w) A (call (.type "set") [.ref l]) Q E s := by
  have esz : items.size = ks.length := by rw [← Array.length_toList, eit, List.length_map]
  obtain ⟨c, tl, mro1⟩ := F.called_set.mro
  have made1 := F.called_set.made
  have subm := F.called_set.sub
  refine wpAny_call (codeAny_of_tree (show wpAny _ _ (callAny (.type "set") _) _ _ _ from wpAny_pure ⟨Code.quiet_builtin _ (by decide +kernel), codeAny_builtin F.entry_type_call ?_⟩))
  rw [Around.under_plain (weight_type_call_type "set" [.ref l] []) rfl]
  have nty := F.called_set.notType
  have cancr := F.called_set.canCreate
  have tcall := F.typeCall_set_1 (.ref l)
  repeat (any_goals (first | assumption | wp_step))
  refine codeAny_mono (code_set_led1 (.ref l) (E := E) (Q₁ := fun x s1 => x = .ref s.heap.objs.size ∧ s1 = { s with heap := setHp w s }) ⟨rfl, rfl⟩) fun r s1 hr => ?_
  rcases r with e | fl
  · exact hr
  cases fl <;> first | exact hr.elim | skip
  rename_i made
  obtain ⟨rfl, rfl⟩ := hr
  have atS : (setHp w s).get? s.heap.objs.size = some (setOb w) := Heap.get?_push_size _ rfl
  have tyS : Shared.TypeIs { s with heap := setHp w s } (.ref s.heap.objs.size) "set" := ⟨_, atS, rfl⟩
  have lki := F.called_set.init.lookup
  have bdi := F.called_set.init.bind (.ref s.heap.objs.size)
  repeat (any_goals (first | assumption | wp_step))
  refine codeAny_mono (codeAny_call_builtin (R := wants (fun r s2 => r = .none ∧ ∃ g tk L es ep t, s2 = { s with heap := g, toks := tk } ∧ SetTR P w g s.heap.objs.size L es ep t ∧ Got ks ks.length L ∧
      (∀ b o, s.heap.get? b = some o → g.get? b = some o)) E) F.called_set.init.plain F.entry_set_init (check_set_init_1 tyS ?_)) fun r2 s2 hr2 => ?_
  · obtain ⟨ob, atl, cl, nl, dt⟩ := tupl
    rcases ob with ⟨c0, d0, dat0, sl0⟩
    dsimp only at cl dt
    subst cl dt
    have atl' : (setHp w s).get? l = some { cls := .type "tuple", dict := d0, data := .seq items nl, slots := sl0 } := Heap.get?_push_of_some _ atl
    have sb1 := F.sub_tuple_set
    have sb2 := F.sub_tuple_frozenset
    have nd : (Value.type "tuple" == Value.type "dict") = false := by decide
    have isT1 : (setHp w s).IsTuple l items := ⟨_, atl', rfl, nl, rfl⟩
    unfold Builtin.«set.__init__» noKeywords Builtin.Frozenset.updateFrom
    generalize hit : pyIter = IT
    wp_walk
    subst hit
    refine wpAny_pyIter_tuple isT1 (wpAny_bind (wpAny_runValue ?_))
    have ltl : l < s.heap.objs.size := Heap.lt_size atl
    have sz : (setHp w s).objs.size = s.heap.objs.size + 1 := Heap.size_push ..
    have farl : l ≠ (setHp w s).objs.size := by
      rw [sz]
      exact Nat.ne_of_lt (Nat.lt_succ_of_lt ltl)
    have farS : s.heap.objs.size ∉ [(setHp w s).objs.size, l] := by
      intro hm
      rcases List.mem_cons.mp hm with e | e
      · rw [sz] at e
        exact absurd e (Nat.ne_of_lt (Nat.lt_succ_self _))
      · exact absurd (List.mem_singleton.mp e) (Nat.ne_of_gt ltl)
    have each : ∀ (i : Nat) (v : Value), items[i]? = some v → ∃ p, ks[i]? = some p ∧ v = .ref p.1 := fun i v hv => by
      rw [← Array.getElem?_toList, eit, List.getElem?_map] at hv
      obtain ⟨p, e1, e2⟩ := Option.map_eq_some_iff.mp hv
      exact ⟨p, e1, e2.symm⟩
    refine set_more ((Walks.tuple (A := A.in1.in1.in1) (by simp [free]) _ l farl items).toS) s.heap.objs.size farS ks esz few each s.heap ek (past_none (Nat.le_refl _)) (fun b hb => past_none (by
        rw [List.mem_singleton.mp hb]
        omega)) un (items.size - 0) 0 _ (by omega) (Nat.zero_le _) ⟨⟨_, Heap.get?_push_size _ rfl, rfl, rfl⟩, (isT1.push _)⟩ (fun b o e => Heap.get?_push_of_some _ (Heap.get?_push_of_some _ e)) ⟨[], #[], 0, _, setTR_fresh (Heap.get?_push_of_some _ atS), Got.zero ks⟩ ?_
    intro s' L es ep t mv R' g' kp
    rcases s' with ⟨h', g2, dr', tk', os'⟩
    have q1 : g2 = s.gens := mv.gens
    have q2 : dr' = s.drawn := mv.drawn
    have q3 : os' = s.os := mv.os
    subst q1 q2 q3
    rw [esz] at g'
    exact wpAny_pure (wpAny_pure ⟨rfl, h', tk', L, es, ep, t, rfl, R', g', kp⟩)
  · rcases r2 with e | fl
    · exact hr2
    cases fl <;> first | exact hr2.elim | skip
    obtain ⟨rfl, g, tk, L, es, ep, t, rfl, R', g', kp⟩ := hr2
    repeat (any_goals (first | assumption | wp_step))
    exact out _ _ _ _ _ _ R' g' kp
end
section
variable {X : Cx}
/-- set(xs), xs a tuple of tuples of ints, of which fewer than 63 differ -/
def rSetTW (K : PySem.W.Frag) (P : Program) (w : World) : List V → Hp → VK → Prop := fun xs H Q => ∃ (l : Addr) (ks : List (Addr × List Int)), xs = [V.ref l] ∧ SqT K H l (ks.map fun p => V.ref p.1) ∧ (∀ p ∈ ks, SqT K H p.1 (p.2.map V.int)) ∧ (∀ L : List (Addr × List Int), (∀ p ∈ L, p ∈ ks) → (L.map (·.2)).Nodup → L.length < 63) ∧
  ∀ a L, H a = none → (∀ p ∈ L, p ∈ ks) → (∀ p ∈ ks, p.2 ∈ L.map (·.2)) → Q (.ref a) (upd H a (SetTO P w a L))
theorem cr_setTW (hc : X.calm = true) (hu : X.A.units + 64 < cLine) : CallR X (.type "set") (rSetTW X.K X.prog X.w) := by
  intro pins s σ H xs us Q I r h
  obtain ⟨l, ks, rfl, hl, hk, hf, q⟩ := h
  rw [Vals.ref1 r]
  obtain ⟨its, rv, pl, hz⟩ := I.tuple hl
  refine set_tupW (P := X.prog) (w := X.w) ks (I.ok.hd hc) pl (by simpa using refs_of_vals rv) (fun p hp => I.isT (hk p hp)) hf (by omega) fun g tk L es ep t R gt kp => ?_
  refine ⟨.ref s.heap.objs.size, _, I.laid (t' := tk) kp (Nat.le_refl _) (setTO_new R.t0), rfl, q _ L (I.hok.fresh (Nat.le_refl _)) (fun p hp => List.mem_of_mem_take (gt.sub p hp)) fun p hp => gt.all p ?_⟩
  rw [List.take_length]
  exact hp
end
end Rp
namespace Lw
open PySem L2 Rp
local macro_rules | `(tactic| walk_at "rd") => `(tactic| repeat (first | refine ⟨_, rfl, ?_⟩ | refine ⟨_, _, rfl, rfl, ?_⟩))
def top (i : Nat) : Stmt := PySem.Challenge.pw_roomprofile_k18_whole_runs_in_parts.main.body.getD i (.Pass ⟨0, 0, 0, 0⟩)
abbrev s__wall : Stmt := top 0
abbrev N__wall : List Str := ["k"]
theorem sc__wall : FnScope N__wall ["k"] (defScope s__wall) := ⟨rfl, rfl, rfl, by decide +kernel, rfl, by decide +kernel, by decide +kernel⟩
abbrev s_is_integer : Stmt := top 10
abbrev N_is_integer : List Str := ["value"]
theorem sc_is_integer : FnScope N_is_integer ["value"] (defScope s_is_integer) := ⟨rfl, rfl, rfl, by decide +kernel, rfl, by decide +kernel, by decide +kernel⟩
abbrev s_is_within : Stmt := top 11
abbrev N_is_within : List Str := ["value", "least", "greatest"]
theorem sc_is_within : FnScope N_is_within ["value", "least", "greatest"] (defScope s_is_within) := ⟨rfl, rfl, rfl, by decide +kernel, rfl, by decide +kernel, by decide +kernel⟩
abbrev s_is_short_integer : Stmt := top 12
abbrev N_is_short_integer : List Str := ["value"]
theorem sc_is_short_integer : FnScope N_is_short_integer ["value"] (defScope s_is_short_integer) := ⟨rfl, rfl, rfl, by decide +kernel, rfl, by decide +kernel, by decide +kernel⟩
abbrev s_check_number : Stmt := top 13
abbrev N_check_number : List Str := ["value"]
theorem sc_check_number : FnScope N_check_number ["value"] (defScope s_check_number) := ⟨rfl, rfl, rfl, by decide +kernel, rfl, by decide +kernel, by decide +kernel⟩
abbrev s_checked_sizes : Stmt := top 20
abbrev N_checked_sizes : List Str := ["job", "sizes"]
theorem sc_checked_sizes : FnScope N_checked_sizes ["job"] (defScope s_checked_sizes) := ⟨rfl, rfl, rfl, by decide +kernel, rfl, by decide +kernel, by decide +kernel⟩
abbrev s_steps_of_leaf : Stmt := top 21
abbrev N_steps_of_leaf : List Str := ["value"]
theorem sc_steps_of_leaf : FnScope N_steps_of_leaf ["value"] (defScope s_steps_of_leaf) := ⟨rfl, rfl, rfl, by decide +kernel, rfl, by decide +kernel, by decide +kernel⟩
abbrev s_sizes_of : Stmt := top 22
abbrev N_sizes_of : List Str := ["value", "leaf_steps"]
theorem sc_sizes_of : FnScope N_sizes_of ["value", "leaf_steps"] (defScope s_sizes_of) := ⟨rfl, rfl, rfl, by decide +kernel, rfl, by decide +kernel, by decide +kernel⟩
abbrev s__sizes : Stmt := top 23
abbrev N__sizes : List Str := ["value", "leaf_steps", "room", "levels", "steps"]
theorem sc__sizes : FnScope N__sizes ["value", "leaf_steps", "room", "levels"] (defScope s__sizes) := ⟨rfl, rfl, rfl, by decide +kernel, rfl, by decide +kernel, by decide +kernel⟩
abbrev s__sizes_of_parts : Stmt := top 24
abbrev N__sizes_of_parts : List Str := ["parts", "leaf_steps", "room", "levels", "nodes", "steps", "part", "sizes"]
theorem sc__sizes_of_parts : FnScope N__sizes_of_parts ["parts", "leaf_steps", "room", "levels"] (defScope s__sizes_of_parts) := ⟨rfl, rfl, rfl, by decide +kernel, rfl, by decide +kernel, by decide +kernel⟩
abbrev s__sizes_of_rounds : Stmt := top 25
abbrev N__sizes_of_rounds : List Str := ["n", "inner", "leaf_steps", "room", "levels", "sizes"]
theorem sc__sizes_of_rounds : FnScope N__sizes_of_rounds ["n", "inner", "leaf_steps", "room", "levels"] (defScope s__sizes_of_rounds) := ⟨rfl, rfl, rfl, by decide +kernel, rfl, by decide +kernel, by decide +kernel⟩
abbrev s__within_count : Stmt := top 26
abbrev N__within_count : List Str := ["nodes", "steps"]
theorem sc__within_count : FnScope N__within_count ["nodes", "steps"] (defScope s__within_count) := ⟨rfl, rfl, rfl, by decide +kernel, rfl, by decide +kernel, by decide +kernel⟩
abbrev s_all_addresses : Stmt := top 29
abbrev N_all_addresses : List Str := ["job", "row"]
theorem sc_all_addresses : FnScope N_all_addresses ["job"] (defScope s_all_addresses) := ⟨rfl, rfl, rfl, by decide +kernel, rfl, by decide +kernel, by decide +kernel⟩
abbrev s_check_small : Stmt := top 30
abbrev N_check_small : List Str := ["job"]
theorem sc_check_small : FnScope N_check_small ["job"] (defScope s_check_small) := ⟨rfl, rfl, rfl, by decide +kernel, rfl, by decide +kernel, by decide +kernel⟩
abbrev s_is_index_tuple : Stmt := top 31
abbrev N_is_index_tuple : List Str := ["value", "index"]
theorem sc_is_index_tuple : FnScope N_is_index_tuple ["value"] (defScope s_is_index_tuple) := ⟨rfl, rfl, rfl, by decide +kernel, rfl, by decide +kernel, by decide +kernel⟩
abbrev s_step_rows : Stmt := top 32
abbrev N_step_rows : List Str := ["job", "rows", "index", "inner_rows", "gates", "row"]
theorem sc_step_rows : FnScope N_step_rows ["job"] (defScope s_step_rows) := ⟨rfl, rfl, rfl, by decide +kernel, rfl, by decide +kernel, by decide +kernel⟩
abbrev s__rows_by_index : Stmt := top 33
abbrev N__rows_by_index : List Str := ["job", "inner_rows", "index", "part"]
theorem sc__rows_by_index : FnScope N__rows_by_index ["job"] (defScope s__rows_by_index) := ⟨rfl, rfl, rfl, by decide +kernel, rfl, by decide +kernel, by decide +kernel⟩
abbrev s__row_within : Stmt := top 34
abbrev N__row_within : List Str := ["index", "outer_gates", "row", "address", "step", "gates", "inner_gates", "level", "least"]
theorem sc__row_within : FnScope N__row_within ["index", "outer_gates", "row"] (defScope s__row_within) := ⟨rfl, rfl, rfl, by decide +kernel, rfl, by decide +kernel, by decide +kernel⟩
abbrev s_available : Stmt := top 38
abbrev N_available : List Str := ["job", "state", "most", "steps", "found", "address", "row", "step"]
theorem sc_available : FnScope N_available ["job", "state", "most"] (defScope s_available) := ⟨rfl, rfl, rfl, by decide +kernel, rfl, by decide +kernel, by decide +kernel⟩
abbrev s_union : Stmt := top 39
abbrev N_union : List Str := ["job", "first", "second"]
theorem sc_union : FnScope N_union ["job", "first", "second"] (defScope s_union) := ⟨rfl, rfl, rfl, by decide +kernel, rfl, by decide +kernel, by decide +kernel⟩
abbrev s_common : Stmt := top 40
abbrev N_common : List Str := ["job", "first", "second"]
theorem sc_common : FnScope N_common ["job", "first", "second"] (defScope s_common) := ⟨rfl, rfl, rfl, by decide +kernel, rfl, by decide +kernel, by decide +kernel⟩
abbrev s_checked_state : Stmt := top 41
abbrev N_checked_state : List Str := ["job", "state", "steps"]
theorem sc_checked_state : FnScope N_checked_state ["job", "state"] (defScope s_checked_state) := ⟨rfl, rfl, rfl, by decide +kernel, rfl, by decide +kernel, by decide +kernel⟩
abbrev s__find_state : Stmt := top 42
abbrev N__find_state : List Str := ["job", "value", "steps"]
theorem sc__find_state : FnScope N__find_state ["job", "value"] (defScope s__find_state) := ⟨rfl, rfl, rfl, by decide +kernel, rfl, by decide +kernel, by decide +kernel⟩
abbrev s__is_ascending : Stmt := top 43
abbrev N__is_ascending : List Str := ["addresses", "before", "after"]
theorem sc__is_ascending : FnScope N__is_ascending ["addresses"] (defScope s__is_ascending) := ⟨rfl, rfl, rfl, by decide +kernel, rfl, by decide +kernel, by decide +kernel⟩
abbrev s__check_two_states : Stmt := top 44
abbrev N__check_two_states : List Str := ["job", "first", "second"]
theorem sc__check_two_states : FnScope N__check_two_states ["job", "first", "second"] (defScope s__check_two_states) := ⟨rfl, rfl, rfl, by decide +kernel, rfl, by decide +kernel, by decide +kernel⟩
abbrev s_is_run : Stmt := top 46
abbrev N_is_run : List Str := ["job", "value", "state"]
theorem sc_is_run : FnScope N_is_run ["job", "value", "state"] (defScope s_is_run) := ⟨rfl, rfl, rfl, by decide +kernel, rfl, by decide +kernel, by decide +kernel⟩
abbrev s_is_complete_run : Stmt := top 47
abbrev N_is_complete_run : List Str := ["job", "value", "state", "steps"]
theorem sc_is_complete_run : FnScope N_is_complete_run ["job", "value", "state"] (defScope s_is_complete_run) := ⟨rfl, rfl, rfl, by decide +kernel, rfl, by decide +kernel, by decide +kernel⟩
abbrev s_some_run : Stmt := top 48
abbrev N_some_run : List Str := ["job", "state", "steps", "address"]
theorem sc_some_run : FnScope N_some_run ["job", "state"] (defScope s_some_run) := ⟨rfl, rfl, rfl, by decide +kernel, rfl, by decide +kernel, by decide +kernel⟩
abbrev s_state_after : Stmt := top 49
abbrev N_state_after : List Str := ["job", "run", "state"]
theorem sc_state_after : FnScope N_state_after ["job", "run", "state"] (defScope s_state_after) := ⟨rfl, rfl, rfl, by decide +kernel, rfl, by decide +kernel, by decide +kernel⟩
abbrev s_run_usages : Stmt := top 50
abbrev N_run_usages : List Str := ["job", "run", "state", "steps"]
theorem sc_run_usages : FnScope N_run_usages ["job", "run", "state"] (defScope s_run_usages) := ⟨rfl, rfl, rfl, by decide +kernel, rfl, by decide +kernel, by decide +kernel⟩
abbrev s_run_peak : Stmt := top 51
abbrev N_run_peak : List Str := ["job", "run", "state", "steps"]
theorem sc_run_peak : FnScope N_run_peak ["job", "run", "state"] (defScope s_run_peak) := ⟨rfl, rfl, rfl, by decide +kernel, rfl, by decide +kernel, by decide +kernel⟩
abbrev s_lift_run : Stmt := top 52
abbrev N_lift_run : List Str := ["job", "run", "state", "inside", "address"]
theorem sc_lift_run : FnScope N_lift_run ["job", "run", "state"] (defScope s_lift_run) := ⟨rfl, rfl, rfl, by decide +kernel, rfl, by decide +kernel, by decide +kernel⟩
abbrev s_cut_run : Stmt := top 53
abbrev N_cut_run : List Str := ["job", "run", "state", "inside", "address"]
theorem sc_cut_run : FnScope N_cut_run ["job", "run", "state"] (defScope s_cut_run) := ⟨rfl, rfl, rfl, by decide +kernel, rfl, by decide +kernel, by decide +kernel⟩
abbrev s__state_steps : Stmt := top 54
abbrev N__state_steps : List Str := ["job", "state"]
theorem sc__state_steps : FnScope N__state_steps ["job", "state"] (defScope s__state_steps) := ⟨rfl, rfl, rfl, by decide +kernel, rfl, by decide +kernel, by decide +kernel⟩
abbrev s__steps_after : Stmt := top 55
abbrev N__steps_after : List Str := ["job", "run", "state", "steps"]
theorem sc__steps_after : FnScope N__steps_after ["job", "run", "state"] (defScope s__steps_after) := ⟨rfl, rfl, rfl, by decide +kernel, rfl, by decide +kernel, by decide +kernel⟩
abbrev s__steps_of_run_and_state : Stmt := top 56
abbrev N__steps_of_run_and_state : List Str := ["job", "run", "state"]
theorem sc__steps_of_run_and_state : FnScope N__steps_of_run_and_state ["job", "run", "state"] (defScope s__steps_of_run_and_state) := ⟨rfl, rfl, rfl, by decide +kernel, rfl, by decide +kernel, by decide +kernel⟩
abbrev s__law_source : Stmt := top 58
abbrev N__law_source : List Str := ["_law_script", "_law_at", "_law_cell", "_law_size", "_law_mixed"]
theorem sc__law_source : FnScope N__law_source ["_law_script", "_law_at"] (defScope s__law_source) := ⟨rfl, rfl, rfl, by decide +kernel, rfl, by decide +kernel, by decide +kernel⟩
abbrev s__law_draw : Stmt := top 59
abbrev N__law_draw : List Str := ["_law_source_here", "_law_many", "_law_found", "_law_one", "_law_two"]
theorem sc__law_draw : FnScope N__law_draw ["_law_source_here", "_law_many"] (defScope s__law_draw) := ⟨rfl, rfl, rfl, by decide +kernel, rfl, by decide +kernel, by decide +kernel⟩
abbrev s__law_step : Stmt := top 60
abbrev N__law_step : List Str := ["_law_source_here", "_law_way"]
theorem sc__law_step : FnScope N__law_step ["_law_source_here"] (defScope s__law_step) := ⟨rfl, rfl, rfl, by decide +kernel, rfl, by decide +kernel, by decide +kernel⟩
abbrev s__law_wide_job : Stmt := top 61
abbrev N__law_wide_job : List Str := ["_law_source_here", "_law_deep", "_law_way", "_law_parts", "_law_count_here", "_law_turn"]
theorem sc__law_wide_job : FnScope N__law_wide_job ["_law_source_here", "_law_deep"] (defScope s__law_wide_job) := ⟨rfl, rfl, rfl, by decide +kernel, rfl, by decide +kernel, by decide +kernel⟩
abbrev s__law_count : Stmt := top 62
abbrev N__law_count : List Str := ["_law_job", "_law_part"]
theorem sc__law_count : FnScope N__law_count ["_law_job"] (defScope s__law_count) := ⟨rfl, rfl, rfl, by decide +kernel, rfl, by decide +kernel, by decide +kernel⟩
abbrev s__law_small_job : Stmt := top 63
abbrev N__law_small_job : List Str := ["_law_source_here", "_law_deep", "_law_most", "_law_turn", "_law_job"]
theorem sc__law_small_job : FnScope N__law_small_job ["_law_source_here", "_law_deep", "_law_most"] (defScope s__law_small_job) := ⟨rfl, rfl, rfl, by decide +kernel, rfl, by decide +kernel, by decide +kernel⟩
abbrev s__law_addresses : Stmt := top 64
abbrev N__law_addresses : List Str := ["_law_job", "_law_parts", "_law_found", "_law_at", "_law_part", "_law_rest"]
theorem sc__law_addresses : FnScope N__law_addresses ["_law_job"] (defScope s__law_addresses) := ⟨rfl, rfl, rfl, by decide +kernel, rfl, by decide +kernel, by decide +kernel⟩
abbrev s__law_precedes : Stmt := top 65
abbrev N__law_precedes : List Str := ["_law_job", "_law_first", "_law_second", "_law_one", "_law_other"]
theorem sc__law_precedes : FnScope N__law_precedes ["_law_job", "_law_first", "_law_second"] (defScope s__law_precedes) := ⟨rfl, rfl, rfl, by decide +kernel, rfl, by decide +kernel, by decide +kernel⟩
abbrev s__law_earlier : Stmt := top 66
abbrev N__law_earlier : List Str := ["_law_job", "_law_every", "_law_one", "_law_other"]
theorem sc__law_earlier : FnScope N__law_earlier ["_law_job"] (defScope s__law_earlier) := ⟨rfl, rfl, rfl, by decide +kernel, rfl, by decide +kernel, by decide +kernel⟩
abbrev s__law_is_ready : Stmt := top 67
abbrev N__law_is_ready : List Str := ["_law_earlier_here", "_law_done", "_law_one", "_law_other"]
theorem sc__law_is_ready : FnScope N__law_is_ready ["_law_earlier_here", "_law_done", "_law_one"] (defScope s__law_is_ready) := ⟨rfl, rfl, rfl, by decide +kernel, rfl, by decide +kernel, by decide +kernel⟩
abbrev s__law_random_run : Stmt := top 68
abbrev N__law_random_run : List Str := ["_law_source_here", "_law_earlier_here", "_law_done", "_law_most", "_law_found", "_law_turn", "_law_ready", "_law_one"]
theorem sc__law_random_run : FnScope N__law_random_run ["_law_source_here", "_law_earlier_here", "_law_done", "_law_most"] (defScope s__law_random_run) := ⟨rfl, rfl, rfl, by decide +kernel, rfl, by decide +kernel, by decide +kernel⟩
abbrev s__law_random_state : Stmt := top 69
abbrev N__law_random_state : List Str := ["_law_source_here", "_law_earlier_here", "_law_most"]
theorem sc__law_random_state : FnScope N__law_random_state ["_law_source_here", "_law_earlier_here"] (defScope s__law_random_state) := ⟨rfl, rfl, rfl, by decide +kernel, rfl, by decide +kernel, by decide +kernel⟩
abbrev s__law_parts_right : Stmt := top 70
abbrev N__law_parts_right : List Str := ["_law_source_here", "_law_job", "_law_earlier_here", "_law_begun", "_law_first", "_law_middle", "_law_second", "_law_both"]
theorem sc__law_parts_right : FnScope N__law_parts_right ["_law_source_here", "_law_job", "_law_earlier_here", "_law_begun"] (defScope s__law_parts_right) := ⟨rfl, rfl, rfl, by decide +kernel, rfl, by decide +kernel, by decide +kernel⟩
abbrev s__law_steps_right : Stmt := top 71
abbrev N__law_steps_right : List Str := ["_law_job", "_law_begun", "_law_ready", "_law_address"]
theorem sc__law_steps_right : FnScope N__law_steps_right ["_law_job", "_law_begun"] (defScope s__law_steps_right) := ⟨rfl, rfl, rfl, by decide +kernel, rfl, by decide +kernel, by decide +kernel⟩
abbrev s__law_states_right : Stmt := top 72
abbrev N__law_states_right : List Str := ["_law_job", "_law_run", "_law_one", "_law_other", "_law_above", "_law_below", "_law_lifted", "_law_address"]
theorem sc__law_states_right : FnScope N__law_states_right ["_law_job", "_law_run", "_law_one", "_law_other"] (defScope s__law_states_right) := ⟨rfl, rfl, rfl, by decide +kernel, rfl, by decide +kernel, by decide +kernel⟩
abbrev s__law_large_right : Stmt := top 73
abbrev N__law_large_right : List Str := ["_law_source_here", "_law_up", "_law_down", "_law_small", "_law_rounds", "_law_job", "_law_run", "_law_own", "_law_first", "_law_second", "_law_ordered", "_law_low", "_law_peak", "_law_address", "_law_number"]
theorem sc__law_large_right : FnScope N__law_large_right ["_law_source_here"] (defScope s__law_large_right) := ⟨rfl, rfl, rfl, by decide +kernel, rfl, by decide +kernel, by decide +kernel⟩
abbrev s__law_deep_right : Stmt := top 74
abbrev N__law_deep_right : List Str := ["_law_job", "_law_turn", "_law_run", "_law_half"]
theorem sc__law_deep_right : FnScope N__law_deep_right [] (defScope s__law_deep_right) := ⟨rfl, rfl, rfl, by decide +kernel, rfl, by decide +kernel, by decide +kernel⟩
abbrev s_DoneSteps_init : Stmt := inClass (top 36) 0
abbrev N_DoneSteps_init : List Str := ["self", "job", "address", "step", "gates"]
theorem sc_DoneSteps_init : FnScope N_DoneSteps_init ["self", "job"] (defScope s_DoneSteps_init) := ⟨rfl, rfl, rfl, by decide +kernel, rfl, by decide +kernel, by decide +kernel⟩
abbrev s_DoneSteps_may_do : Stmt := inClass (top 36) 1
abbrev N_DoneSteps_may_do : List Str := ["self", "address", "gates", "level", "least"]
theorem sc_DoneSteps_may_do : FnScope N_DoneSteps_may_do ["self", "address"] (defScope s_DoneSteps_may_do) := ⟨rfl, rfl, rfl, by decide +kernel, rfl, by decide +kernel, by decide +kernel⟩
abbrev s_DoneSteps_do_step : Stmt := inClass (top 36) 2
abbrev N_DoneSteps_do_step : List Str := ["self", "address", "step", "gates", "level", "_", "around"]
theorem sc_DoneSteps_do_step : FnScope N_DoneSteps_do_step ["self", "address"] (defScope s_DoneSteps_do_step) := ⟨rfl, rfl, rfl, by decide +kernel, rfl, by decide +kernel, by decide +kernel⟩
abbrev s_DoneSteps_do_all : Stmt := inClass (top 36) 4
abbrev N_DoneSteps_do_all : List Str := ["self", "addresses", "address"]
theorem sc_DoneSteps_do_all : FnScope N_DoneSteps_do_all ["self", "addresses"] (defScope s_DoneSteps_do_all) := ⟨rfl, rfl, rfl, by decide +kernel, rfl, by decide +kernel, by decide +kernel⟩
abbrev s_DoneSteps_is_complete : Stmt := inClass (top 36) 5
abbrev N_DoneSteps_is_complete : List Str := ["self"]
theorem sc_DoneSteps_is_complete : FnScope N_DoneSteps_is_complete ["self"] (defScope s_DoneSteps_is_complete) := ⟨rfl, rfl, rfl, by decide +kernel, rfl, by decide +kernel, by decide +kernel⟩
abbrev s_law : Stmt := top 75
abbrev N_law : List Str := ["_law_script", "_law_at", "_law_source_here", "_law_job", "_law_earlier_here", "_law_one", "_law_other", "_law_run"]
theorem sc_law : FnScope N_law ["_law_script"] (defScope s_law) := ⟨rfl, rfl, rfl, by decide +kernel, rfl, by decide +kernel, by decide +kernel⟩
structure Txt (K : PySem.W.Frag) (mg : Str → Option Value) where
  f__wall : Addr
  d__wall : FuncData
  F__wall : Fun K "_wall" "_wall" s__wall f__wall d__wall
  b__wall : Binds K d__wall ["k"] []
  m__wall : mg "_wall" = some (.ref f__wall)
  f_is_integer : Addr
  d_is_integer : FuncData
  F_is_integer : Fun K "is_integer" "is_integer" s_is_integer f_is_integer d_is_integer
  b_is_integer : Binds K d_is_integer ["value"] []
  m_is_integer : mg "is_integer" = some (.ref f_is_integer)
  f_is_within : Addr
  d_is_within : FuncData
  F_is_within : Fun K "is_within" "is_within" s_is_within f_is_within d_is_within
  b_is_within : Binds K d_is_within ["value", "least", "greatest"] []
  m_is_within : mg "is_within" = some (.ref f_is_within)
  f_is_short_integer : Addr
  d_is_short_integer : FuncData
  F_is_short_integer : Fun K "is_short_integer" "is_short_integer" s_is_short_integer f_is_short_integer d_is_short_integer
  b_is_short_integer : Binds K d_is_short_integer ["value"] []
  m_is_short_integer : mg "is_short_integer" = some (.ref f_is_short_integer)
  f_check_number : Addr
  d_check_number : FuncData
  F_check_number : Fun K "check_number" "check_number" s_check_number f_check_number d_check_number
  b_check_number : Binds K d_check_number ["value"] []
  m_check_number : mg "check_number" = some (.ref f_check_number)
  f_checked_sizes : Addr
  d_checked_sizes : FuncData
  F_checked_sizes : Fun K "checked_sizes" "checked_sizes" s_checked_sizes f_checked_sizes d_checked_sizes
  b_checked_sizes : Binds K d_checked_sizes ["job"] []
  m_checked_sizes : mg "checked_sizes" = some (.ref f_checked_sizes)
  f_steps_of_leaf : Addr
  d_steps_of_leaf : FuncData
  F_steps_of_leaf : Fun K "steps_of_leaf" "steps_of_leaf" s_steps_of_leaf f_steps_of_leaf d_steps_of_leaf
  b_steps_of_leaf : Binds K d_steps_of_leaf ["value"] []
  m_steps_of_leaf : mg "steps_of_leaf" = some (.ref f_steps_of_leaf)
  f_sizes_of : Addr
  d_sizes_of : FuncData
  F_sizes_of : Fun K "sizes_of" "sizes_of" s_sizes_of f_sizes_of d_sizes_of
  b_sizes_of : Binds K d_sizes_of ["value", "leaf_steps"] []
  m_sizes_of : mg "sizes_of" = some (.ref f_sizes_of)
  f__sizes : Addr
  d__sizes : FuncData
  F__sizes : Fun K "_sizes" "_sizes" s__sizes f__sizes d__sizes
  b__sizes : Binds K d__sizes ["value", "leaf_steps", "room", "levels"] []
  m__sizes : mg "_sizes" = some (.ref f__sizes)
  f__sizes_of_parts : Addr
  d__sizes_of_parts : FuncData
  F__sizes_of_parts : Fun K "_sizes_of_parts" "_sizes_of_parts" s__sizes_of_parts f__sizes_of_parts d__sizes_of_parts
  b__sizes_of_parts : Binds K d__sizes_of_parts ["parts", "leaf_steps", "room", "levels"] []
  m__sizes_of_parts : mg "_sizes_of_parts" = some (.ref f__sizes_of_parts)
  f__sizes_of_rounds : Addr
  d__sizes_of_rounds : FuncData
  F__sizes_of_rounds : Fun K "_sizes_of_rounds" "_sizes_of_rounds" s__sizes_of_rounds f__sizes_of_rounds d__sizes_of_rounds
  b__sizes_of_rounds : Binds K d__sizes_of_rounds ["n", "inner", "leaf_steps", "room", "levels"] []
  m__sizes_of_rounds : mg "_sizes_of_rounds" = some (.ref f__sizes_of_rounds)
  f__within_count : Addr
  d__within_count : FuncData
  F__within_count : Fun K "_within_count" "_within_count" s__within_count f__within_count d__within_count
  b__within_count : Binds K d__within_count ["nodes", "steps"] []
  m__within_count : mg "_within_count" = some (.ref f__within_count)
  f_all_addresses : Addr
  d_all_addresses : FuncData
  F_all_addresses : Fun K "all_addresses" "all_addresses" s_all_addresses f_all_addresses d_all_addresses
  b_all_addresses : Binds K d_all_addresses ["job"] []
  m_all_addresses : mg "all_addresses" = some (.ref f_all_addresses)
  f_check_small : Addr
  d_check_small : FuncData
  F_check_small : Fun K "check_small" "check_small" s_check_small f_check_small d_check_small
  b_check_small : Binds K d_check_small ["job"] []
  m_check_small : mg "check_small" = some (.ref f_check_small)
  f_is_index_tuple : Addr
  d_is_index_tuple : FuncData
  F_is_index_tuple : Fun K "is_index_tuple" "is_index_tuple" s_is_index_tuple f_is_index_tuple d_is_index_tuple
  b_is_index_tuple : Binds K d_is_index_tuple ["value"] []
  m_is_index_tuple : mg "is_index_tuple" = some (.ref f_is_index_tuple)
  f_step_rows : Addr
  d_step_rows : FuncData
  F_step_rows : Fun K "step_rows" "step_rows" s_step_rows f_step_rows d_step_rows
  b_step_rows : Binds K d_step_rows ["job"] []
  m_step_rows : mg "step_rows" = some (.ref f_step_rows)
  f__rows_by_index : Addr
  d__rows_by_index : FuncData
  F__rows_by_index : Fun K "_rows_by_index" "_rows_by_index" s__rows_by_index f__rows_by_index d__rows_by_index
  b__rows_by_index : Binds K d__rows_by_index ["job"] []
  m__rows_by_index : mg "_rows_by_index" = some (.ref f__rows_by_index)
  f__row_within : Addr
  d__row_within : FuncData
  F__row_within : Fun K "_row_within" "_row_within" s__row_within f__row_within d__row_within
  b__row_within : Binds K d__row_within ["index", "outer_gates", "row"] []
  m__row_within : mg "_row_within" = some (.ref f__row_within)
  f_available : Addr
  d_available : FuncData
  F_available : Fun K "available" "available" s_available f_available d_available
  ds_available : List Value
  vd_available : Vals [.non] ds_available
  b_available : Binds K d_available ["job", "state", "most"] ds_available
  gn_available : List Value → List Value → List Value
  kn_available : KBn K d_available ["job", "state", "most"] 2 ["most"] gn_available (fun vs zs => vs ++ zs)
  m_available : mg "available" = some (.ref f_available)
  f_union : Addr
  d_union : FuncData
  F_union : Fun K "union" "union" s_union f_union d_union
  b_union : Binds K d_union ["job", "first", "second"] []
  m_union : mg "union" = some (.ref f_union)
  f_common : Addr
  d_common : FuncData
  F_common : Fun K "common" "common" s_common f_common d_common
  b_common : Binds K d_common ["job", "first", "second"] []
  m_common : mg "common" = some (.ref f_common)
  f_checked_state : Addr
  d_checked_state : FuncData
  F_checked_state : Fun K "checked_state" "checked_state" s_checked_state f_checked_state d_checked_state
  b_checked_state : Binds K d_checked_state ["job", "state"] []
  m_checked_state : mg "checked_state" = some (.ref f_checked_state)
  f__find_state : Addr
  d__find_state : FuncData
  F__find_state : Fun K "_find_state" "_find_state" s__find_state f__find_state d__find_state
  b__find_state : Binds K d__find_state ["job", "value"] []
  m__find_state : mg "_find_state" = some (.ref f__find_state)
  f__is_ascending : Addr
  d__is_ascending : FuncData
  F__is_ascending : Fun K "_is_ascending" "_is_ascending" s__is_ascending f__is_ascending d__is_ascending
  b__is_ascending : Binds K d__is_ascending ["addresses"] []
  m__is_ascending : mg "_is_ascending" = some (.ref f__is_ascending)
  f__check_two_states : Addr
  d__check_two_states : FuncData
  F__check_two_states : Fun K "_check_two_states" "_check_two_states" s__check_two_states f__check_two_states d__check_two_states
  b__check_two_states : Binds K d__check_two_states ["job", "first", "second"] []
  m__check_two_states : mg "_check_two_states" = some (.ref f__check_two_states)
  f_is_run : Addr
  d_is_run : FuncData
  F_is_run : Fun K "is_run" "is_run" s_is_run f_is_run d_is_run
  e_is_run : Addr
  et_is_run : ∀ H, SqT K H e_is_run []
  ds_is_run : List Value
  vd_is_run : Vals [.ref e_is_run] ds_is_run
  b_is_run : Binds K d_is_run ["job", "value", "state"] ds_is_run
  gn_is_run : List Value → List Value → List Value
  kn_is_run : KBn K d_is_run ["job", "value", "state"] 2 ["state"] gn_is_run (fun vs zs => vs ++ zs)
  m_is_run : mg "is_run" = some (.ref f_is_run)
  f_is_complete_run : Addr
  d_is_complete_run : FuncData
  F_is_complete_run : Fun K "is_complete_run" "is_complete_run" s_is_complete_run f_is_complete_run d_is_complete_run
  e_is_complete_run : Addr
  et_is_complete_run : ∀ H, SqT K H e_is_complete_run []
  ds_is_complete_run : List Value
  vd_is_complete_run : Vals [.ref e_is_complete_run] ds_is_complete_run
  b_is_complete_run : Binds K d_is_complete_run ["job", "value", "state"] ds_is_complete_run
  gn_is_complete_run : List Value → List Value → List Value
  kn_is_complete_run : KBn K d_is_complete_run ["job", "value", "state"] 2 ["state"] gn_is_complete_run (fun vs zs => vs ++ zs)
  m_is_complete_run : mg "is_complete_run" = some (.ref f_is_complete_run)
  f_some_run : Addr
  d_some_run : FuncData
  F_some_run : Fun K "some_run" "some_run" s_some_run f_some_run d_some_run
  e_some_run : Addr
  et_some_run : ∀ H, SqT K H e_some_run []
  ds_some_run : List Value
  vd_some_run : Vals [.ref e_some_run] ds_some_run
  b_some_run : Binds K d_some_run ["job", "state"] ds_some_run
  gn_some_run : List Value → List Value → List Value
  kn_some_run : KBn K d_some_run ["job", "state"] 1 ["state"] gn_some_run (fun vs zs => vs ++ zs)
  m_some_run : mg "some_run" = some (.ref f_some_run)
  f_state_after : Addr
  d_state_after : FuncData
  F_state_after : Fun K "state_after" "state_after" s_state_after f_state_after d_state_after
  e_state_after : Addr
  et_state_after : ∀ H, SqT K H e_state_after []
  ds_state_after : List Value
  vd_state_after : Vals [.ref e_state_after] ds_state_after
  b_state_after : Binds K d_state_after ["job", "run", "state"] ds_state_after
  gn_state_after : List Value → List Value → List Value
  kn_state_after : KBn K d_state_after ["job", "run", "state"] 2 ["state"] gn_state_after (fun vs zs => vs ++ zs)
  m_state_after : mg "state_after" = some (.ref f_state_after)
  f_run_usages : Addr
  d_run_usages : FuncData
  F_run_usages : Fun K "run_usages" "run_usages" s_run_usages f_run_usages d_run_usages
  e_run_usages : Addr
  et_run_usages : ∀ H, SqT K H e_run_usages []
  ds_run_usages : List Value
  vd_run_usages : Vals [.ref e_run_usages] ds_run_usages
  b_run_usages : Binds K d_run_usages ["job", "run", "state"] ds_run_usages
  gn_run_usages : List Value → List Value → List Value
  kn_run_usages : KBn K d_run_usages ["job", "run", "state"] 2 ["state"] gn_run_usages (fun vs zs => vs ++ zs)
  m_run_usages : mg "run_usages" = some (.ref f_run_usages)
  f_run_peak : Addr
  d_run_peak : FuncData
  F_run_peak : Fun K "run_peak" "run_peak" s_run_peak f_run_peak d_run_peak
  e_run_peak : Addr
  et_run_peak : ∀ H, SqT K H e_run_peak []
  ds_run_peak : List Value
  vd_run_peak : Vals [.ref e_run_peak] ds_run_peak
  b_run_peak : Binds K d_run_peak ["job", "run", "state"] ds_run_peak
  gn_run_peak : List Value → List Value → List Value
  kn_run_peak : KBn K d_run_peak ["job", "run", "state"] 2 ["state"] gn_run_peak (fun vs zs => vs ++ zs)
  m_run_peak : mg "run_peak" = some (.ref f_run_peak)
  f_lift_run : Addr
  d_lift_run : FuncData
  F_lift_run : Fun K "lift_run" "lift_run" s_lift_run f_lift_run d_lift_run
  b_lift_run : Binds K d_lift_run ["job", "run", "state"] []
  m_lift_run : mg "lift_run" = some (.ref f_lift_run)
  f_cut_run : Addr
  d_cut_run : FuncData
  F_cut_run : Fun K "cut_run" "cut_run" s_cut_run f_cut_run d_cut_run
  b_cut_run : Binds K d_cut_run ["job", "run", "state"] []
  m_cut_run : mg "cut_run" = some (.ref f_cut_run)
  f__state_steps : Addr
  d__state_steps : FuncData
  F__state_steps : Fun K "_state_steps" "_state_steps" s__state_steps f__state_steps d__state_steps
  b__state_steps : Binds K d__state_steps ["job", "state"] []
  m__state_steps : mg "_state_steps" = some (.ref f__state_steps)
  f__steps_after : Addr
  d__steps_after : FuncData
  F__steps_after : Fun K "_steps_after" "_steps_after" s__steps_after f__steps_after d__steps_after
  b__steps_after : Binds K d__steps_after ["job", "run", "state"] []
  m__steps_after : mg "_steps_after" = some (.ref f__steps_after)
  f__steps_of_run_and_state : Addr
  d__steps_of_run_and_state : FuncData
  F__steps_of_run_and_state : Fun K "_steps_of_run_and_state" "_steps_of_run_and_state" s__steps_of_run_and_state f__steps_of_run_and_state d__steps_of_run_and_state
  b__steps_of_run_and_state : Binds K d__steps_of_run_and_state ["job", "run", "state"] []
  m__steps_of_run_and_state : mg "_steps_of_run_and_state" = some (.ref f__steps_of_run_and_state)
  f__law_source : Addr
  d__law_source : FuncData
  F__law_source : Fun K "_law_source" "_law_source" s__law_source f__law_source d__law_source
  b__law_source : Binds K d__law_source ["_law_script", "_law_at"] []
  m__law_source : mg "_law_source" = some (.ref f__law_source)
  f__law_draw : Addr
  d__law_draw : FuncData
  F__law_draw : Fun K "_law_draw" "_law_draw" s__law_draw f__law_draw d__law_draw
  b__law_draw : Binds K d__law_draw ["_law_source_here", "_law_many"] []
  m__law_draw : mg "_law_draw" = some (.ref f__law_draw)
  f__law_step : Addr
  d__law_step : FuncData
  F__law_step : Fun K "_law_step" "_law_step" s__law_step f__law_step d__law_step
  b__law_step : Binds K d__law_step ["_law_source_here"] []
  m__law_step : mg "_law_step" = some (.ref f__law_step)
  f__law_wide_job : Addr
  d__law_wide_job : FuncData
  F__law_wide_job : Fun K "_law_wide_job" "_law_wide_job" s__law_wide_job f__law_wide_job d__law_wide_job
  b__law_wide_job : Binds K d__law_wide_job ["_law_source_here", "_law_deep"] []
  m__law_wide_job : mg "_law_wide_job" = some (.ref f__law_wide_job)
  f__law_count : Addr
  d__law_count : FuncData
  F__law_count : Fun K "_law_count" "_law_count" s__law_count f__law_count d__law_count
  b__law_count : Binds K d__law_count ["_law_job"] []
  m__law_count : mg "_law_count" = some (.ref f__law_count)
  f__law_small_job : Addr
  d__law_small_job : FuncData
  F__law_small_job : Fun K "_law_small_job" "_law_small_job" s__law_small_job f__law_small_job d__law_small_job
  b__law_small_job : Binds K d__law_small_job ["_law_source_here", "_law_deep", "_law_most"] []
  m__law_small_job : mg "_law_small_job" = some (.ref f__law_small_job)
  f__law_addresses : Addr
  d__law_addresses : FuncData
  F__law_addresses : Fun K "_law_addresses" "_law_addresses" s__law_addresses f__law_addresses d__law_addresses
  b__law_addresses : Binds K d__law_addresses ["_law_job"] []
  m__law_addresses : mg "_law_addresses" = some (.ref f__law_addresses)
  f__law_precedes : Addr
  d__law_precedes : FuncData
  F__law_precedes : Fun K "_law_precedes" "_law_precedes" s__law_precedes f__law_precedes d__law_precedes
  b__law_precedes : Binds K d__law_precedes ["_law_job", "_law_first", "_law_second"] []
  m__law_precedes : mg "_law_precedes" = some (.ref f__law_precedes)
  f__law_earlier : Addr
  d__law_earlier : FuncData
  F__law_earlier : Fun K "_law_earlier" "_law_earlier" s__law_earlier f__law_earlier d__law_earlier
  b__law_earlier : Binds K d__law_earlier ["_law_job"] []
  m__law_earlier : mg "_law_earlier" = some (.ref f__law_earlier)
  f__law_is_ready : Addr
  d__law_is_ready : FuncData
  F__law_is_ready : Fun K "_law_is_ready" "_law_is_ready" s__law_is_ready f__law_is_ready d__law_is_ready
  b__law_is_ready : Binds K d__law_is_ready ["_law_earlier_here", "_law_done", "_law_one"] []
  m__law_is_ready : mg "_law_is_ready" = some (.ref f__law_is_ready)
  f__law_random_run : Addr
  d__law_random_run : FuncData
  F__law_random_run : Fun K "_law_random_run" "_law_random_run" s__law_random_run f__law_random_run d__law_random_run
  b__law_random_run : Binds K d__law_random_run ["_law_source_here", "_law_earlier_here", "_law_done", "_law_most"] []
  m__law_random_run : mg "_law_random_run" = some (.ref f__law_random_run)
  f__law_random_state : Addr
  d__law_random_state : FuncData
  F__law_random_state : Fun K "_law_random_state" "_law_random_state" s__law_random_state f__law_random_state d__law_random_state
  b__law_random_state : Binds K d__law_random_state ["_law_source_here", "_law_earlier_here"] []
  m__law_random_state : mg "_law_random_state" = some (.ref f__law_random_state)
  f__law_parts_right : Addr
  d__law_parts_right : FuncData
  F__law_parts_right : Fun K "_law_parts_right" "_law_parts_right" s__law_parts_right f__law_parts_right d__law_parts_right
  b__law_parts_right : Binds K d__law_parts_right ["_law_source_here", "_law_job", "_law_earlier_here", "_law_begun"] []
  m__law_parts_right : mg "_law_parts_right" = some (.ref f__law_parts_right)
  f__law_steps_right : Addr
  d__law_steps_right : FuncData
  F__law_steps_right : Fun K "_law_steps_right" "_law_steps_right" s__law_steps_right f__law_steps_right d__law_steps_right
  b__law_steps_right : Binds K d__law_steps_right ["_law_job", "_law_begun"] []
  m__law_steps_right : mg "_law_steps_right" = some (.ref f__law_steps_right)
  f__law_states_right : Addr
  d__law_states_right : FuncData
  F__law_states_right : Fun K "_law_states_right" "_law_states_right" s__law_states_right f__law_states_right d__law_states_right
  b__law_states_right : Binds K d__law_states_right ["_law_job", "_law_run", "_law_one", "_law_other"] []
  m__law_states_right : mg "_law_states_right" = some (.ref f__law_states_right)
  f__law_large_right : Addr
  d__law_large_right : FuncData
  F__law_large_right : Fun K "_law_large_right" "_law_large_right" s__law_large_right f__law_large_right d__law_large_right
  b__law_large_right : Binds K d__law_large_right ["_law_source_here"] []
  m__law_large_right : mg "_law_large_right" = some (.ref f__law_large_right)
  f__law_deep_right : Addr
  d__law_deep_right : FuncData
  F__law_deep_right : Fun K "_law_deep_right" "_law_deep_right" s__law_deep_right f__law_deep_right d__law_deep_right
  b__law_deep_right : Binds K d__law_deep_right [] []
  m__law_deep_right : mg "_law_deep_right" = some (.ref f__law_deep_right)
  c_DoneSteps : Addr
  g_DoneSteps : mg "DoneSteps" = some (.ref c_DoneSteps)
  cl_DoneSteps : Cls K c_DoneSteps
  na_DoneSteps_rows : NoAttr K c_DoneSteps "rows"
  na_DoneSteps_done : NoAttr K c_DoneSteps "done"
  na_DoneSteps_below : NoAttr K c_DoneSteps "below"
  na_DoneSteps_usages : NoAttr K c_DoneSteps "usages"
  f_DoneSteps_init : Addr
  d_DoneSteps_init : FuncData
  F_DoneSteps_init : Fun K "__init__" "DoneSteps.__init__" s_DoneSteps_init f_DoneSteps_init d_DoneSteps_init
  b_DoneSteps_init : Binds K d_DoneSteps_init ["self", "job"] []
  mk_DoneSteps : Mk K c_DoneSteps f_DoneSteps_init
  f_DoneSteps_may_do : Addr
  d_DoneSteps_may_do : FuncData
  F_DoneSteps_may_do : Fun K "may_do" "DoneSteps.may_do" s_DoneSteps_may_do f_DoneSteps_may_do d_DoneSteps_may_do
  b_DoneSteps_may_do : Binds K d_DoneSteps_may_do ["self", "address"] []
  mt_DoneSteps_may_do : Meth K c_DoneSteps "may_do" f_DoneSteps_may_do
  f_DoneSteps_do_step : Addr
  d_DoneSteps_do_step : FuncData
  F_DoneSteps_do_step : Fun K "do_step" "DoneSteps.do_step" s_DoneSteps_do_step f_DoneSteps_do_step d_DoneSteps_do_step
  b_DoneSteps_do_step : Binds K d_DoneSteps_do_step ["self", "address"] []
  mt_DoneSteps_do_step : Meth K c_DoneSteps "do_step" f_DoneSteps_do_step
  f_DoneSteps_do_all : Addr
  d_DoneSteps_do_all : FuncData
  F_DoneSteps_do_all : Fun K "do_all" "DoneSteps.do_all" s_DoneSteps_do_all f_DoneSteps_do_all d_DoneSteps_do_all
  b_DoneSteps_do_all : Binds K d_DoneSteps_do_all ["self", "addresses"] []
  mt_DoneSteps_do_all : Meth K c_DoneSteps "do_all" f_DoneSteps_do_all
  f_DoneSteps_is_complete : Addr
  d_DoneSteps_is_complete : FuncData
  F_DoneSteps_is_complete : Fun K "is_complete" "DoneSteps.is_complete" s_DoneSteps_is_complete f_DoneSteps_is_complete d_DoneSteps_is_complete
  b_DoneSteps_is_complete : Binds K d_DoneSteps_is_complete ["self"] []
  mt_DoneSteps_is_complete : Meth K c_DoneSteps "is_complete" f_DoneSteps_is_complete
  t_NUMBER_END : Tok
  g_NUMBER_END : mg "NUMBER_END" = some (.int 10000000000000000000000000000000000000000000000000000000000000 t_NUMBER_END)
  t_MAX_STEP : Tok
  g_MAX_STEP : mg "MAX_STEP" = some (.int 1000000000000000000000000000000 t_MAX_STEP)
  t_MAX_COUNT : Tok
  g_MAX_COUNT : mg "MAX_COUNT" = some (.int 1000000000000000000000000000000 t_MAX_COUNT)
  t_MAX_PARTS : Tok
  g_MAX_PARTS : mg "MAX_PARTS" = some (.int 400 t_MAX_PARTS)
  t_MAX_NODES : Tok
  g_MAX_NODES : mg "MAX_NODES" = some (.int 400 t_MAX_NODES)
  t_MAX_DEPTH : Tok
  g_MAX_DEPTH : mg "MAX_DEPTH" = some (.int 13 t_MAX_DEPTH)
  t_MAX_SMALL : Tok
  g_MAX_SMALL : mg "MAX_SMALL" = some (.int 400 t_MAX_SMALL)
  c_InvalidState : Addr
  g_InvalidState : mg "InvalidState" = some (.ref c_InvalidState)
  x_InvalidState : PySem.W.excIn K c_InvalidState [.type "ValueError", .type "Exception", .type "BaseException", .type "object"] "ValueError.__new__" = true
  k_InvalidState : PySem.W.keepIn K (.ref c_InvalidState) = true
  bb_InvalidState : PySem.W.subIn K (.ref c_InvalidState) (.type "BaseException") = some true
  tt_InvalidState : PySem.W.typeIn K (.ref c_InvalidState) = some (.type "type")
  c_InvalidRun : Addr
  g_InvalidRun : mg "InvalidRun" = some (.ref c_InvalidRun)
  x_InvalidRun : PySem.W.excIn K c_InvalidRun [.type "ValueError", .type "Exception", .type "BaseException", .type "object"] "ValueError.__new__" = true
  k_InvalidRun : PySem.W.keepIn K (.ref c_InvalidRun) = true
  bb_InvalidRun : PySem.W.subIn K (.ref c_InvalidRun) (.type "BaseException") = some true
  tt_InvalidRun : PySem.W.typeIn K (.ref c_InvalidRun) = some (.type "type")
  n_abs : mg "abs" = none
  n_all : mg "all" = none
  n_bool : mg "bool" = none
  n_dict : mg "dict" = none
  n_enumerate : mg "enumerate" = none
  n_int : mg "int" = none
  n_isinstance : mg "isinstance" = none
  n_len : mg "len" = none
  n_list : mg "list" = none
  n_max : mg "max" = none
  n_min : mg "min" = none
  n_range : mg "range" = none
  n_set : mg "set" = none
  n_sorted : mg "sorted" = none
  n_sum : mg "sum" = none
  n_tuple : mg "tuple" = none
  n_zip : mg "zip" = none
/-! block SizesN (of the later code): is_integer, is_within, steps_of_leaf, sizes_of, _within_count, _sizes and its two helpers, is_job, checked_sizes -/
def spIsInt (K : PySem.W.Frag) : Sp := fun vs H Q _ => ∃ (v : V) (d : PyData), vs = [v] ∧ Dp K H v d ∧ Q (.bl (isInt d && !isBoo d)) H
/-- a pair of ints, or None -/
def RepSz (H : Hp) (r : V) : Option (Int × Int) → Prop
  | none => r = .non
  | some (a, b) => ∃ t, r = .ref t ∧ H t = some (.tup [.int a, .int b])
def spWithin : Sp := fun vs H Q _ => ∃ a b : Int, vs = [.int a, .int b] ∧ ∀ (H' : Hp) (r : V), Same H H' → RepSz H' r (within a b) → Q r H'
def inW : PyData → Int → Int → Bool
  | .int i, a, b => decide (a ≤ i) && decide (i ≤ b)
  | _, _, _ => false
theorem inW_int {i a b : Int} : inW (.int i) a b = (decide (a ≤ i) && decide (i ≤ b)) := rfl
def spWi (K : PySem.W.Frag) : Sp := fun vs H Q _ => ∃ (v : V) (d : PyData) (a b : Int), vs = [v, .int a, .int b] ∧ Dp K H v d ∧ Q (.bl (inW d a b)) H
def spLeaf (K : PySem.W.Frag) : Sp := fun vs H Q _ => ∃ (v : V) (d : PyData), vs = [v] ∧ Dp K H v d ∧ Q (if inW d (-M30) M30 = true then .int 1 else .non) H
def spSz (K : PySem.W.Frag) (L : Addr) (n : Nat) : Sp := fun vs H Q _ => ∃ (v : V) (j : J) (room lv : Int), vs = [v, .ref L, .int room, .int lv] ∧ Dp K H v j.toD ∧ 0 ≤ lv ∧ lv < (n : Int) ∧
  ∀ (H' : Hp) (r : V), Same H H' → RepSz H' r (szJ j room lv) → Q r H'
def spSzs (K : PySem.W.Frag) (L : Addr) (n : Nat) : Sp := fun vs H Q _ => ∃ (v : V) (js : List J) (room lv : Int), vs = [v, .ref L, .int room, .int lv] ∧ Dp K H v (.tuple (J.toDs js)) ∧ 1 ≤ lv ∧ lv ≤ (n : Int) ∧
  ∀ (H' : Hp) (r : V), Same H H' → RepSz H' r (if (js.length : Int) > 400 then none else szJs js 1 0 room lv) → Q r H'
def spSzr (K : PySem.W.Frag) (L : Addr) (n : Nat) : Sp := fun vs H Q _ => ∃ (v : V) (c : Int) (j : J) (room lv : Int), vs = [.int c, v, .ref L, .int room, .int lv] ∧ Dp K H v j.toD ∧ 1 ≤ lv ∧ lv ≤ (n : Int) ∧
  ∀ (H' : Hp) (r : V), Same H H' → RepSz H' r (if ¬ (0 ≤ c ∧ c ≤ M30) then none else match szJ j (room - 1) (lv - 1) with | none => none | some (a, b) => within (a + 1) (b * c)) → Q r H'
section
variable {P : Program} {w : World} {K : PySem.W.Frag} {mg : Str → Option Value} {base : Heap}
theorem ok_isint (T : Txt K mg) : FnOk P w K mg base CX0 1 T.f_is_integer T.d_is_integer ["value"] (spIsInt K) := by
  refine T.F_is_integer.ok sc_is_integer (fun vs H Q E h => ?_) (fun cdv A outer s H vs Q E hr h => ?_)
  · obtain ⟨v, d, rfl, _⟩ := h
    rfl
  obtain ⟨v, d, rfl, hd, q⟩ := h
  refine ⟨_, (pss_one (ps_ret (pe_and (pe_callB (r := rIsD K) call_isD (by rfl) T.n_isinstance (by decide +kernel) (pa_cons (pv 0) (pa_cons (pe_bltn (v := .ty "int") (by rfl) T.n_int (by decide +kernel) rfl) pa_nil))) (pe_one (pe_not (pe_callB (r := rIsD K) call_isD (by rfl) T.n_isinstance (by decide +kernel) (pa_cons (pv 0) (pa_cons (pe_bltn (v := .ty "bool") (by rfl) T.n_bool (by decide +kernel) rfl) pa_nil)))))))), ?_⟩
  refine ⟨_, rfl, v, _, d, _, rfl, hd, kit_int d, _, rfl, ?_⟩
  cases e : isInt d with
  | false =>
    refine iteF ?_
    rw [e] at q
    exact q
  | true =>
    refine iteT ⟨_, rfl, v, _, d, _, rfl, hd, kit_bool d, _, rfl, ?_⟩
    rw [e] at q
    exact q
theorem ok_wi (T : Txt K mg) : FnOk P w K mg base CX0 2 T.f_is_within T.d_is_within ["value", "least", "greatest"] (spWi K) := by
  have g_is_integer : FnOk P w K mg base CX0 1 T.f_is_integer T.d_is_integer ["value"] (spIsInt K) := ok_isint T
  refine T.F_is_within.ok sc_is_within (fun vs H Q E h => ?_) (fun cdv A outer s H vs Q E hr h => ?_)
  · obtain ⟨v, d, a, b, rfl, _⟩ := h
    rfl
  obtain ⟨v, d, a, b, rfl, hd, q⟩ := h
  refine ⟨_, (pss_one (ps_ret (pe_and (pe_call g_is_integer (hr.mono (by omega)) rfl T.m_is_integer T.F_is_integer.kp T.b_is_integer .nil pass0 (pa_cons (pv 0) pa_nil)) (pe_one (pe_chain op_le op_le (pv 1) (pv 0) (pv 2)))))), ?_⟩
  refine ⟨_, rfl, v, d, rfl, hd, _, rfl, ?_⟩
  by_cases e : ∃ i, d = .int i
  · obtain ⟨i, rfl⟩ := e
    obtain rfl := dp_int_inv hd
    refine iteT ?_
    refine ⟨_, rfl, _, rfl, _, _, rfl, rfl, _, rfl, ?_⟩
    rw [inW_int] at q
    cases e1 : decide (a ≤ i) with
    | true =>
      refine iteT ?_
      rw [e1, Bool.true_and] at q
      exact ⟨_, rfl, _, _, rfl, rfl, q⟩
    | false =>
      refine iteF ?_
      rw [e1, Bool.false_and] at q
      exact q
  · have e1 : (isInt d && !isBoo d) = false ∧ inW d a b = false := by
      cases d <;> first | exact absurd ⟨_, rfl⟩ e | exact ⟨rfl, rfl⟩
    rw [e1.1]
    rw [e1.2] at q
    refine iteF ?_
    exact q
theorem ok_leaf (T : Txt K mg) : FnOk P w K mg base CX0 3 T.f_steps_of_leaf T.d_steps_of_leaf ["value"] (spLeaf K) := by
  have g_is_within := ok_wi (P := P) (w := w) (base := base) T
  refine T.F_steps_of_leaf.ok sc_steps_of_leaf (fun vs H Q E h => ?_) (fun cdv A outer s H vs Q E hr h => ?_)
  · obtain ⟨v, d, rfl, _⟩ := h
    rfl
  obtain ⟨v, d, rfl, hd, q⟩ := h
  refine ⟨_, (pss_one (ps_ret (pe_ifExp (pt_val (pe_call g_is_within (hr.mono (by omega)) rfl T.m_is_within T.F_is_within.kp T.b_is_within .nil pass0 (pa_cons (pv 0) (pa_cons (pe_un un_neg (pe_glob (v := .int 1000000000000000000000000000000) rfl T.g_MAX_STEP ⟨_, rfl⟩)) (pa_cons (pe_glob (v := .int 1000000000000000000000000000000) rfl T.g_MAX_STEP ⟨_, rfl⟩) pa_nil))))) pe_int pe_non))), ?_⟩
  refine ⟨_, rfl, _, rfl, v, d, -M30, M30, rfl, hd, _, rfl, ?_⟩
  cases e : inW d (-M30) M30 with
  | true =>
    rw [e] at q
    refine iteT ?_
    exact q
  | false =>
    rw [e] at q
    refine iteF ?_
    exact q
theorem ok_within (T : Txt K mg) : FnOk P w K mg base CX0 1 T.f__within_count T.d__within_count ["nodes", "steps"] spWithin := by
  refine T.F__within_count.ok sc__within_count (fun vs H Q E h => ?_) (fun cdv A outer s H vs Q E hr h => ?_)
  · obtain ⟨a, b, rfl, _⟩ := h
    rfl
  obtain ⟨a, b, rfl, q⟩ := h
  refine ⟨_, (pss_one (ps_ret (pe_ifExp (pt_cmpR op_le (pv 1) (pe_glob (v := .int 1000000000000000000000000000000) rfl T.g_MAX_COUNT ⟨_, rfl⟩) (nomark _)) (pe_tup (pa_cons (pv 0) (pa_cons (pv 1) pa_nil))) pe_non))), ?_⟩
  refine ⟨_, rfl, _, _, rfl, rfl, _, rfl, ?_⟩
  unfold within at q
  refine ite2 (fun g => ?_) (fun g => ?_)
  · rw [if_pos (of_decide_eq_true g)] at q
    refine ⟨_, rfl, _, rfl, (by show 2 ≤ sizeLine; decide), fun t ht => ?_⟩
    exact q _ _ (same_new ht) ⟨t, rfl, upd_same⟩
  · rw [if_neg (fun z => g (decide_eq_true z))] at q
    exact q _ _ (Same.refl _) rfl
theorem ok_szs (T : Txt K mg) {n : Nat} (g__sizes : FnOk P w K mg base CX0 (2 * n + 2) T.f__sizes T.d__sizes ["value", "leaf_steps", "room", "levels"] (spSz K T.f_steps_of_leaf n)) :
    FnOk P w K mg base CX0 (2 * n + 3) T.f__sizes_of_parts T.d__sizes_of_parts ["parts", "leaf_steps", "room", "levels"] (spSzs K T.f_steps_of_leaf n) := by
  have g__within_count : FnOk P w K mg base CX0 1 T.f__within_count T.d__within_count ["nodes", "steps"] spWithin := ok_within T
  refine T.F__sizes_of_parts.ok sc__sizes_of_parts (fun vs H Q E h => ?_) (fun cdv A outer s H vs Q E hr h => ?_)
  · obtain ⟨v, js, room, lv, rfl, _⟩ := h
    rfl
  obtain ⟨v, js, room, lv, rfl, hd, hn1, hn, q⟩ := h
  refine ⟨_, (pss_cons (ps_if (PW.pt (pw_or (pt_not (pt_val (pe_callB (r := rIsD K) call_isD (by rfl) T.n_isinstance (by decide +kernel) (pa_cons (pv 0) (pa_cons (pe_bltn (v := .ty "tuple") (by rfl) T.n_tuple (by decide +kernel) rfl) pa_nil))))) (pw_or1 (pt_cmpR op_gt (pe_callB (r := rLenS K) call_lenS (by rfl) T.n_len (by decide +kernel) (pa_cons (pv 0) pa_nil)) (pe_glob (v := .int 400) rfl T.g_MAX_PARTS ⟨_, rfl⟩) (nomark _))))) (pss_one (ps_ret pe_non)) pss_nil)
      (pss_cons (ps_set (i := 4) sc__sizes_of_parts.nd rfl (Or.inl rfl) pe_int)
      (pss_cons (ps_set (i := 5) sc__sizes_of_parts.nd rfl (Or.inl rfl) pe_int)
      (pss_cons (ps_for PassesOwn.never rfl (pi_tup (pv 0)) (pg_name (i := 6) sc__sizes_of_parts.nd rfl (Or.inl rfl))
        (pss_cons (ps_set (i := 7) sc__sizes_of_parts.nd rfl (Or.inl rfl) (pe_call g__sizes (hr.mono (by omega)) rfl T.m__sizes T.F__sizes.kp T.b__sizes .nil pass0 (pa_cons (pv 6) (pa_cons (pv 1) (pa_cons (pe_op op_sub (pv 2) (pv 4)) (pa_cons (pe_op op_sub (pv 3) pe_int) pa_nil))))))
        (pss_cons (ps_if (pt_cmpR op_isN (pv 7) pe_non (nomark _)) (pss_one (ps_ret pe_non)) pss_nil)
        (pss_cons (ps_aug (i := 4) sc__sizes_of_parts.nd rfl (Or.inl rfl) (pe_ix (r := rIxT K) ix_tup (pv 7) pe_int (fun _ _ => rfl)) ip_add)
        (pss_one (ps_aug (i := 5) sc__sizes_of_parts.nd rfl (Or.inl rfl) (pe_ix (r := rIxT K) ix_tup (pv 7) pe_int (fun _ _ => rfl)) ip_add))))))
      (pss_one (ps_ret (pe_call g__within_count (hr.mono (by omega)) rfl T.m__within_count T.F__within_count.kp T.b__within_count .nil pass0 (pa_cons (pv 4) (pa_cons (pv 5) pa_nil))))))))), ?_⟩
  obtain ⟨a, xs, rfl, hxs, hall⟩ := dp_tup_inv hd
  have hlen : xs.length = js.length := by rw [dpAll_length hall, J.toDs_eq, List.length_map]
  refine ⟨_, rfl, _, _, _, _, rfl, hd, kit_tuple _, _, rfl, ?_⟩
  refine iteF ?_
  refine ⟨_, rfl, a, xs, rfl, .inr hxs, _, _, rfl, rfl, _, rfl, ?_⟩
  refine ite2 (fun g => ?_) (fun g => ?_)
  · have g' : (400 : Int) < (xs.length : Int) := of_decide_eq_true g
    rw [if_pos (by omega)] at q
    exact q _ _ (Same.refl _) rfl
  have g' : ¬ (400 : Int) < (xs.length : Int) := fun z => g (decide_eq_true z)
  rw [if_neg (by omega)] at q
  refine ⟨_, rfl, a, rfl, ⟨xs, hxs⟩, ?_⟩
  -- the loop: what is left of the parts gives what is left of the sizes
  refine for_tup (K := K) (a := a) (xs := xs) (fun i σ H' => ∃ (nodes steps : Int) (y5 y6 : Option V), σ = [some (.ref a), some (.ref T.f_steps_of_leaf), some (.int room), some (.int lv), some (.int nodes), some (.int steps), y5, y6] ∧ Same H H' ∧
    szJs js 1 0 room lv = szJs (js.drop i) nodes steps room lv) ⟨1, 0, none, none, rfl, Same.refl _, rfl⟩ (fun i σ H' _ ⟨_, _, _, _, _, s1, _⟩ => same_sqT s1 hxs) ?_ ?_
  · rintro i x σ H' hi ⟨nodes, steps, y5, y6, rfl, s1, es⟩
    obtain ⟨d, ed, hd'⟩ := dpAll_get hall hi
    have hij : i < js.length := by
      rw [← hlen]
      exact (List.getElem?_eq_some_iff.mp hi).1
    have ej : d = (js[i]).toD := by
      rw [J.toDs_eq, List.getElem?_map, List.getElem?_eq_getElem hij] at ed
      exact (Option.some.inj ed).symm
    subst ej
    have hdrop : js.drop i = js[i] :: js.drop (i + 1) := List.drop_eq_getElem_cons hij
    rw [hdrop] at es
    refine ⟨_, rfl, _, rfl, _, rfl, _, rfl, _, _, rfl, rfl, _, rfl, _, _, rfl, rfl, x, js[i], room - nodes, lv - 1, rfl, dp_same s1 hd', by omega, by omega, fun H2 r2 s2 h2 => ?_⟩
    simp only [szJs] at es
    cases ez : szJ js[i] (room - nodes) (lv - 1) with
    | none =>
      rw [ez] at h2 es
      obtain rfl : r2 = .non := h2
      refine ⟨_, rfl, rfl, _, rfl, ?_⟩
      refine iteT ?_
      rw [es] at q
      exact q _ _ (s1.trans s2) rfl
    | some ab =>
      obtain ⟨a1, b1⟩ := ab
      rw [ez] at h2 es
      obtain ⟨t, rfl, ht⟩ := h2
      refine ⟨_, rfl, rfl, _, rfl, ?_⟩
      refine iteF ?_
      refine ⟨_, rfl, _, rfl, _, _, _, _, rfl, rfl, SqT.of ht, rfl, _, _, rfl, rfl, ?_⟩
      refine ⟨_, rfl, _, rfl, _, _, _, _, rfl, rfl, SqT.of ht, rfl, _, _, rfl, rfl, ?_⟩
      exact ⟨_, _, _, _, rfl, s1.trans s2, es⟩
  · rintro σ H' ⟨nodes, steps, y5, y6, rfl, s1, es⟩
    rw [hlen, List.drop_length] at es
    simp only [szJs] at es
    refine ⟨_, rfl, _, rfl, nodes, steps, rfl, fun H2 r2 s2 h2 => ?_⟩
    rw [es] at q
    exact q _ _ (s1.trans s2) h2
theorem ok_szr (T : Txt K mg) {n : Nat} (g__sizes : FnOk P w K mg base CX0 (2 * n + 2) T.f__sizes T.d__sizes ["value", "leaf_steps", "room", "levels"] (spSz K T.f_steps_of_leaf n)) :
    FnOk P w K mg base CX0 (2 * n + 3) T.f__sizes_of_rounds T.d__sizes_of_rounds ["n", "inner", "leaf_steps", "room", "levels"] (spSzr K T.f_steps_of_leaf n) := by
  have g__within_count : FnOk P w K mg base CX0 1 T.f__within_count T.d__within_count ["nodes", "steps"] spWithin := ok_within T
  have g_is_within := ok_wi (P := P) (w := w) (base := base) T
  refine T.F__sizes_of_rounds.ok sc__sizes_of_rounds (fun vs H Q E h => ?_) (fun cdv A outer s H vs Q E hr h => ?_)
  · obtain ⟨v, c, j, room, lv, rfl, _⟩ := h
    rfl
  obtain ⟨v, c, j, room, lv, rfl, hd, hn1, hn, q⟩ := h
  refine ⟨_, (pss_cons (ps_if (pt_not (pt_val (pe_call g_is_within (hr.mono (by omega)) rfl T.m_is_within T.F_is_within.kp T.b_is_within .nil pass0 (pa_cons (pv 0) (pa_cons pe_int (pa_cons (pe_glob (v := .int 1000000000000000000000000000000) rfl T.g_MAX_COUNT ⟨_, rfl⟩) pa_nil)))))) (pss_one (ps_ret pe_non)) pss_nil)
      (pss_cons (ps_set (i := 5) sc__sizes_of_rounds.nd rfl (Or.inl rfl) (pe_call g__sizes (hr.mono (by omega)) rfl T.m__sizes T.F__sizes.kp T.b__sizes .nil pass0 (pa_cons (pv 1) (pa_cons (pv 2) (pa_cons (pe_op op_sub (pv 3) pe_int) (pa_cons (pe_op op_sub (pv 4) pe_int) pa_nil))))))
      (pss_cons (ps_if (pt_cmpR op_isN (pv 5) pe_non (nomark _)) (pss_one (ps_ret pe_non)) pss_nil)
      (pss_one (ps_ret (pe_call g__within_count (hr.mono (by omega)) rfl T.m__within_count T.F__within_count.kp T.b__within_count .nil pass0 (pa_cons (pe_op op_add (pe_ix (r := rIxT K) ix_tup (pv 5) pe_int (fun _ _ => rfl)) pe_int) (pa_cons (pe_op op_mulW (pe_ix (r := rIxT K) ix_tup (pv 5) pe_int (fun _ _ => rfl)) (pv 0)) pa_nil)))))))), ?_⟩
  refine ⟨_, rfl, .int c, .int c, 0, M30, rfl, .int c, _, rfl, ?_⟩
  show if (!(decide (0 ≤ c) && decide (c ≤ M30))) = true then _ else _
  refine ite2 (fun g => ?_) (fun g => ?_)
  · rw [if_pos (fun z => by rw [decide_eq_true z.1, decide_eq_true z.2] at g; cases g)] at q
    exact q _ _ (Same.refl _) rfl
  obtain ⟨g0, g1⟩ : 0 ≤ c ∧ c ≤ M30 := by
    by_cases z : 0 ≤ c ∧ c ≤ M30
    · exact z
    · exfalso
      apply g
      rw [Bool.not_eq_true', Bool.and_eq_false_iff]
      by_cases z0 : 0 ≤ c
      · exact .inr (decide_eq_false fun y => z ⟨z0, y⟩)
      · exact .inl (decide_eq_false z0)
  rw [if_neg (fun z => z ⟨g0, g1⟩)] at q
  refine ⟨_, rfl, _, rfl, _, rfl, _, _, rfl, rfl, _, rfl, _, _, rfl, rfl, v, j, room - 1, lv - 1, rfl, hd, by omega, by omega, fun H2 r2 s2 h2 => ?_⟩
  cases ez : szJ j (room - 1) (lv - 1) with
  | none =>
    rw [ez] at h2 q
    obtain rfl : r2 = .non := h2
    refine ⟨_, rfl, rfl, _, rfl, ?_⟩
    refine iteT ?_
    exact q _ _ s2 rfl
  | some ab =>
    obtain ⟨a1, b1⟩ := ab
    rw [ez] at h2 q
    obtain ⟨t, rfl, ht⟩ := h2
    refine ⟨_, rfl, rfl, _, rfl, ?_⟩
    refine iteF ?_
    obtain ⟨jo, _, _, ea, eb⟩ := szJ_inv j _ _ _ _ ez
    have hb0 := J.steps_nn j jo
    have hb1 := J.steps_le j jo
    rw [← eb] at hb0 hb1
    refine ⟨_, rfl, _, _, _, _, rfl, rfl, SqT.of ht, rfl, _, _, rfl, rfl, _, rfl, _, _, _, _, rfl, rfl, SqT.of ht, rfl, _, rfl, _, _, rfl, rfl, ?_, ?_⟩
    · have e1 : b1.natAbs < 2 ^ 128 := Nat.lt_of_le_of_lt (show b1.natAbs ≤ 1000000000000000000000000000000 by simp only [M30] at hb1; omega) (by decide)
      have e2 : c.natAbs < 2 ^ 128 := Nat.lt_of_le_of_lt (show c.natAbs ≤ 1000000000000000000000000000000 by simp only [M30] at g1; omega) (by decide)
      exact wide_mul (a := 128) (b := 128) e1 e2 (by decide) (by decide) (by decide)
    refine ⟨_, _, rfl, fun H3 r3 s3 h3 => ?_⟩
    exact q _ _ (s2.trans s3) h3
theorem in_parts (k : Bool) : inV (.str (kwP k)) [.str "seq", .str "par"] = true := by cases k <;> decide +kernel
theorem in_parts_no (k : Bool) : inV (.str (kwR k)) [.str "seq", .str "par"] = false := by cases k <;> decide +kernel
theorem in_rounds (k : Bool) : inV (.str (kwR k)) [.str "repeat", .str "copies"] = true := by cases k <;> decide +kernel
theorem ok_sz (T : Txt K mg) {n : Nat} (g__sizes_of_parts : FnOk P w K mg base CX0 (2 * n + 3) T.f__sizes_of_parts T.d__sizes_of_parts ["parts", "leaf_steps", "room", "levels"] (spSzs K T.f_steps_of_leaf n))
    (g__sizes_of_rounds : FnOk P w K mg base CX0 (2 * n + 3) T.f__sizes_of_rounds T.d__sizes_of_rounds ["n", "inner", "leaf_steps", "room", "levels"] (spSzr K T.f_steps_of_leaf n)) :
    FnOk P w K mg base CX0 (2 * (n + 1) + 2) T.f__sizes T.d__sizes ["value", "leaf_steps", "room", "levels"] (spSz K T.f_steps_of_leaf (n + 1)) := by
  have g_steps_of_leaf := ok_leaf (P := P) (w := w) (base := base) T
  refine T.F__sizes.ok sc__sizes (fun vs H Q E h => ?_) (fun cdv A outer s H vs Q E hr h => ?_)
  · obtain ⟨v, j, room, lv, rfl, _⟩ := h
    rfl
  obtain ⟨v, j, room, lv, rfl, hd, hn1, hn, q⟩ := h
  refine ⟨_, (pss_cons (ps_if (PW.pt (pw_or (pt_cmpR op_lt (pv 2) pe_int (nomark _)) (pw_or1 (pt_cmpR op_lt (pv 3) pe_int (nomark _))))) (pss_one (ps_ret pe_non)) pss_nil)
      (pss_cons (ps_set (i := 4) sc__sizes.nd rfl (Or.inl rfl) (pe_callL (i := 1) g_steps_of_leaf (hr.mono (by omega)) rfl (.inl rfl) T.F_steps_of_leaf.kp T.b_steps_of_leaf .nil pass0 (pa_cons (pv 0) pa_nil)))
      (pss_cons (ps_if (pt_cmpR op_notN (pv 4) pe_non (nomark _)) (pss_one (ps_ret (pe_tup (pa_cons pe_int (pa_cons (pv 4) pa_nil))))) pss_nil)
      (pss_cons (ps_if (pt_not (pt_val (pe_callB (r := rIsD K) call_isD (by rfl) T.n_isinstance (by decide +kernel) (pa_cons (pv 0) (pa_cons (pe_bltn (v := .ty "tuple") (by rfl) T.n_tuple (by decide +kernel) rfl) pa_nil))))) (pss_one (ps_ret pe_non)) pss_nil)
      (pss_cons (ps_if (PW.pt (pw_and (pt_cmpR op_eq (pe_callB (r := rLenS K) call_lenS (by rfl) T.n_len (by decide +kernel) (pa_cons (pv 0) pa_nil)) pe_int (nomark _)) (pw_and1 (pt_cmpR (r := rIn K false) op_in_seq (pe_ix (r := rIxT K) ix_tup (pv 0) pe_int (fun _ _ => rfl)) (pe_tup (pa_cons pe_str (pa_cons pe_str pa_nil))) (by rfl))))) (pss_one (ps_ret (pe_call g__sizes_of_parts (hr.mono (by omega)) rfl T.m__sizes_of_parts T.F__sizes_of_parts.kp T.b__sizes_of_parts .nil pass0 (pa_cons (pe_ix (r := rIxT K) ix_tup (pv 0) pe_int (fun _ _ => rfl)) (pa_cons (pv 1) (pa_cons (pv 2) (pa_cons (pv 3) pa_nil))))))) pss_nil)
      (pss_cons (ps_if (PW.pt (pw_and (pt_cmpR op_eq (pe_callB (r := rLenS K) call_lenS (by rfl) T.n_len (by decide +kernel) (pa_cons (pv 0) pa_nil)) pe_int (nomark _)) (pw_and1 (pt_cmpR (r := rIn K false) op_in_seq (pe_ix (r := rIxT K) ix_tup (pv 0) pe_int (fun _ _ => rfl)) (pe_tup (pa_cons pe_str (pa_cons pe_str pa_nil))) (by rfl))))) (pss_one (ps_ret (pe_call g__sizes_of_rounds (hr.mono (by omega)) rfl T.m__sizes_of_rounds T.F__sizes_of_rounds.kp T.b__sizes_of_rounds .nil pass0 (pa_cons (pe_ix (r := rIxT K) ix_tup (pv 0) pe_int (fun _ _ => rfl)) (pa_cons (pe_ix (r := rIxT K) ix_tup (pv 0) pe_int (fun _ _ => rfl)) (pa_cons (pv 1) (pa_cons (pv 2) (pa_cons (pv 3) pa_nil)))))))) pss_nil)
      (pss_one (ps_ret pe_non)))))))), ?_⟩
  -- room < 1 or levels < 1
  have no : ∀ R : V → Hp → Prop, R = Q → (room < 1 ∨ lv < 1) → R .non H := by
    rintro R rfl z
    have e : szJ j room lv = none := by cases j <;> simp only [szJ] <;> rw [if_pos z]
    rw [e] at q
    exact q _ _ (Same.refl _) rfl
  refine ⟨_, rfl, _, _, rfl, rfl, _, rfl, ?_⟩
  refine ite2 (fun g => ?_) (fun g => ?_)
  · refine iteT ?_
    exact no _ rfl (.inl (of_decide_eq_true g))
  refine ⟨_, rfl, _, _, rfl, rfl, _, rfl, ?_⟩
  refine ite2 (fun g2 => ?_) (fun g2 => ?_)
  · exact no _ rfl (.inr (of_decide_eq_true g2))
  have g' : ¬ (room < 1 ∨ lv < 1) := fun z => z.elim (fun y => g (decide_eq_true y)) (fun y => g2 (decide_eq_true y))
  clear no
  cases j with
  | st i =>
    obtain rfl := dp_int_inv hd
    simp only [szJ] at q
    rw [if_neg g'] at q
    refine ⟨rfl, _, rfl, .int i, .int i, rfl, .int i, ?_⟩
    by_cases z : -M30 ≤ i ∧ i ≤ M30
    · rw [if_pos z] at q
      have e : inW (.int i) (-M30) M30 = true := by
        rw [inW_int, decide_eq_true z.1, decide_eq_true z.2] <;> rfl
      rw [if_pos e]
      refine ⟨_, rfl, rfl, _, rfl, ?_⟩
      refine iteT ?_
      refine ⟨_, rfl, (by show 2 ≤ sizeLine; decide), fun t ht => ?_⟩
      exact q _ _ (same_new ht) ⟨t, rfl, upd_same⟩
    · rw [if_neg z] at q
      have e : ¬ inW (.int i) (-M30) M30 = true := by
        rw [inW_int, Bool.and_eq_true, decide_eq_true_eq, decide_eq_true_eq]
        exact z
      rw [if_neg e]
      refine ⟨_, rfl, rfl, _, rfl, ?_⟩
      refine iteF ?_
      refine ⟨_, rfl, _, _, _, _, rfl, .int i, kit_tuple _, _, rfl, ?_⟩
      refine iteT ?_
      exact q _ _ (Same.refl _) rfl
  | ps k xs =>
    simp only [szJ] at q
    rw [if_neg g'] at q
    have hd0 := hd
    rw [J.toD] at hd
    obtain ⟨a, ys, rfl, hys, hall⟩ := dp_tup_inv hd
    cases hall with
    | cons e1 hall =>
      obtain rfl := dp_str_inv e1
      cases hall with
      | cons e2 hall =>
        cases hall
        rename_i vp
        refine ⟨rfl, _, rfl, .ref a, _, rfl, hd, ?_⟩
        refine ⟨_, rfl, rfl, _, rfl, ?_⟩
        refine iteF ?_
        refine ⟨_, rfl, _, _, _, _, rfl, hd, kit_tuple _, _, rfl, ?_⟩
        refine iteF ?_
        refine ⟨_, rfl, a, _, rfl, .inr hys, rfl, _, rfl, ?_⟩
        refine iteT ?_
        refine ⟨_, rfl, _, _, _, _, rfl, rfl, hys, rfl, (by show 2 ≤ sizeLine; decide), fun t ht => ?_⟩
        refine ⟨t, _, rfl, .inr (SqT.of upd_same), rfl, rfl, _, rfl, ?_⟩
        have s1 : Same H (upd H t (.tup [.str "seq", .str "par"])) := same_new ht
        show if inV (.str (kwP k)) [.str "seq", .str "par"] = true then _ else _
        rw [in_parts]
        refine iteT ?_
        refine ⟨_, rfl, _, _, _, _, rfl, rfl, same_sqT s1 hys, rfl, _, rfl, _, rfl, _, rfl, vp, xs, room, lv, rfl, dp_same s1 e2, by omega, by omega, fun H2 r2 s2 h2 => ?_⟩
        exact q _ _ (s1.trans s2) h2
  | rn k c x =>
    simp only [szJ] at q
    rw [if_neg g'] at q
    rw [J.toD] at hd
    obtain ⟨a, ys, rfl, hys, hall⟩ := dp_tup_inv hd
    cases hall with
    | cons e1 hall =>
      obtain rfl := dp_str_inv e1
      cases hall with
      | cons e2 hall =>
        obtain rfl := dp_int_inv e2
        cases hall with
        | cons e3 hall =>
          cases hall
          rename_i vx
          refine ⟨rfl, _, rfl, .ref a, _, rfl, hd, ?_⟩
          refine ⟨_, rfl, rfl, _, rfl, ?_⟩
          refine iteF ?_
          refine ⟨_, rfl, _, _, _, _, rfl, hd, kit_tuple _, _, rfl, ?_⟩
          refine iteF ?_
          refine ⟨_, rfl, a, _, rfl, .inr hys, rfl, _, rfl, ?_⟩
          refine iteF ?_
          refine ⟨_, rfl, a, _, rfl, .inr hys, rfl, _, rfl, ?_⟩
          refine iteT ?_
          refine ⟨_, rfl, _, _, _, _, rfl, rfl, hys, rfl, (by show 2 ≤ sizeLine; decide), fun t ht => ?_⟩
          refine ⟨t, _, rfl, .inr (SqT.of upd_same), rfl, rfl, _, rfl, ?_⟩
          have s1 : Same H (upd H t (.tup [.str "repeat", .str "copies"])) := same_new ht
          show if inV (.str (kwR k)) [.str "repeat", .str "copies"] = true then _ else _
          rw [in_rounds]
          refine iteT ?_
          refine ⟨_, rfl, _, _, _, _, rfl, rfl, same_sqT s1 hys, rfl, _, rfl, _, _, _, _, rfl, rfl, same_sqT s1 hys, rfl, _, rfl, _, rfl, _, rfl, vx, c, x, room, lv, rfl, dp_same s1 e3, by omega, by omega, fun H2 r2 s2 h2 => ?_⟩
          exact q _ _ (s1.trans s2) h2
theorem ok_sizes (T : Txt K mg) : ∀ n : Nat, FnOk P w K mg base CX0 (2 * n + 2) T.f__sizes T.d__sizes ["value", "leaf_steps", "room", "levels"] (spSz K T.f_steps_of_leaf n)
  | 0 => by
    have no : ∀ vs H Q E, ¬ spSz K T.f_steps_of_leaf 0 vs H Q E := by
      rintro vs H Q E ⟨v, j, room, lv, _, _, h1, h2, _⟩
      omega
    exact ⟨fun vs H Q E h => absurd h (no vs H Q E), fun A outer s H args us vs Q E _ _ _ _ h => absurd h (no vs H Q E)⟩
  | n + 1 => ok_sz T (ok_szs T (ok_sizes T n)) (ok_szr T (ok_sizes T n))
/-- jobs of at most thirteen levels -/
def spIsJob (K : PySem.W.Frag) : Sp := fun vs H Q _ => ∃ (v : V) (j : J), vs = [v] ∧ Dp K H v j.toD ∧ j.deep ≤ 20 ∧ ∀ H', Same H H' → Q (.bl (szJ j 400 13).isSome) H'
def spChecked (K : PySem.W.Frag) : Sp := fun vs H Q _ => ∃ (v : V) (j : J) (a b : Int), vs = [v] ∧ Dp K H v j.toD ∧ j.deep ≤ 20 ∧ szJ j 400 13 = some (a, b) ∧
  ∀ (H' : Hp) (t : Addr), Same H H' → H' t = some (.tup [.int a, .int b]) → Q (.ref t) H'
def spSzOf (K : PySem.W.Frag) (L : Addr) : Sp := fun vs H Q _ => ∃ (v : V) (j : J), vs = [v, .ref L] ∧ Dp K H v j.toD ∧ ∀ (H' : Hp) (r : V), Same H H' → RepSz H' r (szJ j 400 13) → Q r H'
theorem ok_szof (T : Txt K mg) : FnOk P w K mg base CX0 31 T.f_sizes_of T.d_sizes_of ["value", "leaf_steps"] (spSzOf K T.f_steps_of_leaf) := by
  have g__sizes := ok_sizes (P := P) (w := w) (base := base) T 14
  refine T.F_sizes_of.ok sc_sizes_of (fun vs H Q E h => ?_) (fun cdv A outer s H vs Q E hr h => ?_)
  · obtain ⟨v, j, rfl, _⟩ := h
    rfl
  obtain ⟨v, j, rfl, hd, q⟩ := h
  refine ⟨_, (pss_one (ps_ret (pe_call g__sizes (hr.mono (by omega)) rfl T.m__sizes T.F__sizes.kp T.b__sizes .nil pass0 (pa_cons (pv 0) (pa_cons (pv 1) (pa_cons (pe_glob (v := .int 400) rfl T.g_MAX_NODES ⟨_, rfl⟩) (pa_cons (pe_glob (v := .int 13) rfl T.g_MAX_DEPTH ⟨_, rfl⟩) pa_nil))))))), ?_⟩
  exact ⟨_, rfl, _, rfl, v, j, 400, 13, rfl, hd, by decide, by decide, q⟩
theorem ok_checked (T : Txt K mg) : FnOk P w K mg base CX0 43 T.f_checked_sizes T.d_checked_sizes ["job"] (spChecked K) := by
  have g_sizes_of := ok_szof (P := P) (w := w) (base := base) T
  refine T.F_checked_sizes.ok sc_checked_sizes (fun vs H Q E h => ?_) (fun cdv A outer s H vs Q E hr h => ?_)
  · obtain ⟨v, j, a, b, rfl, _⟩ := h
    rfl
  obtain ⟨v, j, a, b, rfl, hd, hn, ez, q⟩ := h
  refine ⟨_, (pss_cons (ps_set (i := 1) sc_checked_sizes.nd rfl (Or.inl rfl) (pe_call g_sizes_of (hr.mono (by omega)) rfl T.m_sizes_of T.F_sizes_of.kp T.b_sizes_of .nil pass0 (pa_cons (pv 0) (pa_cons (pe_glob (v := .ref T.f_steps_of_leaf) rfl T.m_steps_of_leaf rfl) pa_nil))))
      (pss_cons (ps_if (pt_cmpR op_isN (pv 1) pe_non (nomark _)) (pss_one ps_never) pss_nil)
      (pss_one (ps_ret (pv 1))))), ?_⟩
  refine ⟨_, rfl, v, j, rfl, hd, fun H2 r2 s2 h2 => ?_⟩
  rw [ez] at h2
  obtain ⟨t, rfl, ht⟩ := h2
  refine ⟨_, rfl, rfl, _, rfl, ?_⟩
  refine iteF ?_
  exact ⟨_, rfl, q _ t s2 ht⟩
end
/-! block Find: is_index_tuple, find_step, _part_at over data of any kind (behind bSizes, Rq) -/
def isI : PyData → Bool
  | .int _ => true
  | _ => false
theorem isI_eq (d : PyData) : (isInt d && !isBoo d) = isI d := by cases d <;> rfl
def spIsIntQ (K : PySem.W.Frag) : Sp := fun vs H Q _ => ∃ (v : V) (p : Addr) (d : PyData), vs = [v] ∧ Dq K p H v d ∧ Q (.bl (isI d)) H
def isIdx : PyData → Bool
  | .tuple ds => ds.all isI
  | _ => false
def spIdx (K : PySem.W.Frag) : Sp := fun vs H Q _ => ∃ (v : V) (p : Addr) (d : PyData), vs = [v] ∧ Dq K p H v d ∧ d.bulk ≤ 80000 ∧ ∀ H', Same H H' → Q (.bl (isIdx d)) H'
def J.part : J → Int → Option J
  | .st _, _ => none
  | .ps _ xs, k => if k < 0 then none else xs[k.toNat]?
  | .rn _ n x, k => if k < 0 then none else if k < n then some x else none
def J.find : J → List PyData → Option Int
  | .st i, [] => some i
  | .ps _ _, [] => none
  | .rn _ _ _, [] => none
  | j, .int k :: r => match j.part k with
    | none => none
    | some y => y.find r
  | _, _ :: _ => none
def fdD (j : J) : PyData → Option Int
  | .tuple ds => j.find ds
  | _ => none
def opV : Option Int → V
  | none => .non
  | some i => .int i
def PartR (K : PySem.W.Frag) (H : Hp) (r : V) : Option J → Prop
  | none => r = .non
  | some y => Dp K H r y.toD
def spPart (K : PySem.W.Frag) : Sp := fun vs H Q _ => ∃ (v : V) (j : J) (k : Int), vs = [v, .int k] ∧ Dp K H v j.toD ∧ ∀ (H' : Hp) (r : V), Same H H' → PartR K H' r (j.part k) → Q r H'
def spFind (K : PySem.W.Frag) : Sp := fun vs H Q _ => ∃ (v u : V) (j : J) (p : Addr) (d : PyData), vs = [v, u] ∧ Dp K H v j.toD ∧ Dq K p H u d ∧ d.bulk ≤ 80000 ∧ ∀ H', Same H H' → Q (opV (fdD j d)) H'
theorem idx_ints : ∀ {ds : List PyData}, ds.all isI = true → ∃ a : List Int, ds = a.map .int
  | [], _ => ⟨[], rfl⟩
  | d :: ds, h => by
    rw [List.all_cons, Bool.and_eq_true] at h
    obtain ⟨a, rfl⟩ := idx_ints h.2
    cases d with
    | int i => exact ⟨i :: a, rfl⟩
    | _ => cases h.1
theorem find_not : ∀ {ds : List PyData} (j : J), ds.all isI = false → j.find ds = none
  | [], _, h => by cases h
  | d :: ds, j, h => by
    cases d with
    | int k =>
      have h' : ds.all isI = false := by simpa [isI] using h
      have e : j.find (.int k :: ds) = match j.part k with
        | none => none
        | some y => y.find ds := by cases j <;> rfl
      rw [e]
      cases j.part k with
      | none => rfl
      | some y => exact find_not y h'
    | _ => cases j <;> rfl
theorem find_int (j : J) (k : Int) (ds : List PyData) : j.find (.int k :: ds) = match j.part k with
    | none => none
    | some y => y.find ds := by cases j <;> rfl
theorem atI_exF {vs : List V} {r : Int} (h0 : 0 ≤ r) (h1 : r < (vs.length : Int)) : ∃ v, vs[r.toNat]? = some v ∧ atI vs r = some v := by
  have hk : r.toNat < vs.length := by omega
  exact ⟨vs[r.toNat], List.getElem?_eq_getElem hk, atI_at (j := r.toNat) (by omega) (List.getElem?_eq_getElem hk)⟩
theorem dq_len_bulk : ∀ ds : List PyData, ds.length ≤ PyData.bulkAll ds
  | [] => by simp [PyData.bulkAll]
  | d :: ds => by
    have := dq_len_bulk ds
    simp only [PyData.bulkAll, List.length_cons]
    omega
section
variable {P : Program} {w : World} {K : PySem.W.Frag} {mg : Str → Option Value} {base : Heap}
theorem ok_isintQ (T : Txt K mg) : FnOk P w K mg base CX0 1 T.f_is_integer T.d_is_integer ["value"] (spIsIntQ K) := by
  refine T.F_is_integer.ok sc_is_integer (fun vs H Q E h => ?_) (fun cdv A outer s H vs Q E hr h => ?_)
  · obtain ⟨v, p, d, rfl, _⟩ := h
    rfl
  obtain ⟨v, p, d, rfl, hd, q⟩ := h
  refine ⟨_, (pss_one (ps_ret (pe_and (pe_callB (r := rIsQ K) call_isQ (by rfl) T.n_isinstance (by decide +kernel) (pa_cons (pv 0) (pa_cons (pe_bltn (v := .ty "int") (by rfl) T.n_int (by decide +kernel) rfl) pa_nil))) (pe_one (pe_not (pe_callB (r := rIsQ K) call_isQ (by rfl) T.n_isinstance (by decide +kernel) (pa_cons (pv 0) (pa_cons (pe_bltn (v := .ty "bool") (by rfl) T.n_bool (by decide +kernel) rfl) pa_nil)))))))), ?_⟩
  rw [← isI_eq] at q
  refine ⟨_, rfl, v, _, p, d, _, rfl, hd, kit_int d, _, rfl, ?_⟩
  cases e : isInt d with
  | false =>
    refine iteF ?_
    rw [e] at q
    exact q
  | true =>
    refine iteT ⟨_, rfl, v, _, p, d, _, rfl, hd, kit_bool d, _, rfl, ?_⟩
    rw [e] at q
    exact q
theorem ok_idx (T : Txt K mg) : FnOk P w K mg base CX0 2 T.f_is_index_tuple T.d_is_index_tuple ["value"] (spIdx K) := by
  have g_is_integer := ok_isintQ (P := P) (w := w) (base := base) T
  refine T.F_is_index_tuple.ok sc_is_index_tuple (fun vs H Q E h => ?_) (fun cdv A outer s H vs Q E hr h => ?_)
  · obtain ⟨v, p, d, rfl, _⟩ := h
    rfl
  obtain ⟨v, p, d, rfl, hd, hb, q⟩ := h
  refine ⟨_, (pss_one (ps_ret (pe_and (pe_callB (r := rIsQ K) call_isQ (by rfl) T.n_isinstance (by decide +kernel) (pa_cons (pv 0) (pa_cons (pe_bltn (v := .ty "tuple") (by rfl) T.n_tuple (by decide +kernel) rfl) pa_nil))) (pe_one (pe_callB (r := rAll K) (cr_all rfl) (by rfl) T.n_all (by decide +kernel) (pa_cons (pe_lc (own := [("index", 1)]) (g := (gName 1)) (by rfl) sc_is_index_tuple.nd (pi_tup (pv 0)) (blkOk_by (N := N_is_index_tuple) (sc := (defScope s_is_index_tuple)) (by decide +kernel)) (fun _ _ _ _ _ => (pg_name (i := 1) sc_is_index_tuple.nd rfl (Or.inl rfl))) (fun _ _ _ _ _ => pts_nil) (fun _ _ _ _ _ => (pe_call g_is_integer (hr.mono (by omega)) rfl T.m_is_integer T.F_is_integer.kp T.b_is_integer .nil pass0 (pa_cons (pv 1) pa_nil)))) pa_nil)))))), ?_⟩
  refine ⟨_, rfl, v, _, p, d, _, rfl, hd, kit_tuple d, _, rfl, ?_⟩
  cases et : isTup d with
  | false =>
    refine iteF ?_
    have e : isIdx d = false := by cases d <;> first | rfl | cases et
    rw [e] at q
    exact q _ (Same.refl _)
  | true =>
  obtain ⟨ds, rfl⟩ : ∃ ds, d = .tuple ds := by
    cases d <;> first | exact ⟨_, rfl⟩ | cases et
  obtain ⟨a, xs, rfl, hxs, hall⟩ := dq_tup_inv hd
  have hlen : xs.length = ds.length := dqAll_length hall
  have hbl : ds.length ≤ 80000 := by
    have := dq_len_bulk ds
    simp only [PyData.bulk] at hb
    omega
  refine iteT ?_
  refine ⟨_, rfl, a, rfl, ⟨xs, hxs⟩, fun D hD => ?_⟩
  refine lc_tup (K := K) (a := a) (xs := xs) (fun i H' => Same H H' ∧ H' D = some (.lst (((ds.take i).map isI).map V.bl))) ?_ ?_ ?_ ?_
  · exact ⟨same_new hD, by simpa using upd_same⟩
  · rintro i H' _ ⟨s1, _⟩
    exact same_sqT s1 hxs
  · rintro i x H' hi ⟨s1, eD⟩
    obtain ⟨d, ed, hd'⟩ := dqAll_get hall hi
    refine ⟨rfl, ?_⟩
    unfold tYes
    refine iteT ?_
    refine ⟨_, rfl, x, p, d, rfl, hd'.keep (Same.kp s1), _, eD, ?_, ?_, ?_⟩
    · rw [List.length_map, List.length_map, List.length_take, sizeLine_eq]
      omega
    · intro c o hc
      rw [upd_ne (ne_of_none hc hD)]
      exact s1 _ _ hc
    · rw [upd_same, take_step isI ed, List.map_append]
      rfl
  · rintro H' ⟨s1, eD⟩
    rw [hlen, List.take_length] at eD
    refine ⟨D, _, rfl, SqL.of eD, ?_⟩
    have e : ((ds.map isI).all id) = isIdx (.tuple ds) := by simp [isIdx, List.all_map, Function.comp_def]
    rw [e]
    exact q _ s1
end
/-! block Src: _law_source, _law_draw (the second kind of a drawn source) -/
/-- a source at p: what is left of the cell, the mixed number, how many were drawn (at most n) -/
def Pot (H : Hp) (p : Addr) (n : Nat) : Prop := ∃ a b c : Int, H p = some (.lst [.int a, .int b, .int c]) ∧ (0 ≤ a ∧ a.natAbs < 2 ^ 3000) ∧ (0 ≤ b ∧ b < 72057594037927931) ∧ (0 ≤ c ∧ c ≤ (n : Int))
theorem Pot.lst {H : Hp} {p : Addr} {n : Nat} (h : Pot H p n) : ∃ l, H p = some (.lst l) := by
  obtain ⟨a, b, c, h, _⟩ := h
  exact ⟨_, h⟩
theorem Pot.mono {H : Hp} {p : Addr} {n m : Nat} (h : Pot H p n) (e : n ≤ m) : Pot H p m := by
  obtain ⟨a, b, c, h1, h2, h3, h4⟩ := h
  exact ⟨a, b, c, h1, h2, h3, h4.1, by omega⟩
theorem Pot.same {H H' : Hp} {p : Addr} {n : Nat} (h : Pot H p n) (s : Same H H') : Pot H' p n := by
  obtain ⟨a, b, c, h1, h2⟩ := h
  exact ⟨a, b, c, s _ _ h1, h2⟩
def spSource (K : PySem.W.Frag) : Sp := fun vs H Q _ => ∃ (a : Addr) (ns : List Int) (k : Int), vs = [.ref a, .int k] ∧ SqL K H a (ns.map V.int) ∧ ns.length ≤ 1000 ∧ 0 ≤ k ∧ k ≤ 1000 ∧
  ∀ (H' : Hp) (p : Addr), Same H H' → H p = none → Pot H' p 0 → Q (.ref p) H'
def spTake : Sp := fun vs H Q _ => ∃ (p : Addr) (n : Nat) (m : Int), vs = [.ref p, .int m] ∧ Pot H p n ∧ n ≤ 1099511627776 ∧ 0 < m ∧ m.natAbs < 2 ^ 200 ∧
  ∀ (H' : Hp) (r : Int), Sx p H H' → Pot H' p (n + 1) → 0 ≤ r → r < m → Q (.int r) H'
theorem natAbs_lt {i : Int} {B : Nat} (h0 : 0 ≤ i) (h : i < (B : Int)) : i.natAbs < B := by omega
theorem big12 : ((((10 : Int) ^ (60 : Int).toNat) ^ (12 : Int).toNat)).natAbs < 2 ^ 3000 := by decide +kernel
theorem pos12 : 0 < ((10 : Int) ^ (60 : Int).toNat) ^ (12 : Int).toNat := by decide +kernel
theorem mod_big {z m : Int} {B : Nat} (hm : 0 < m) (hB : m.natAbs < B) : 0 ≤ z % m ∧ (z % m).natAbs < B := by
  have h1 := Int.emod_nonneg z (Int.ne_of_gt hm)
  have h2 := Int.emod_lt_of_pos z hm
  exact ⟨h1, by omega⟩
section
variable {P : Program} {w : World} {K : PySem.W.Frag} {mg : Str → Option Value} {base : Heap}
theorem ok_source (T : Txt K mg) : FnOk P w K mg base CX0 1 T.f__law_source T.d__law_source ["_law_script", "_law_at"] (spSource K) := by
  refine T.F__law_source.ok sc__law_source (fun vs H Q E h => ?_) (fun cdv A outer s H vs Q E hr h => ?_)
  · obtain ⟨a, ns, k, rfl, _⟩ := h
    rfl
  obtain ⟨a, ns, k, rfl, hS, hlen, hk0, hk1, q⟩ := h
  refine ⟨_, (pss_cons (ps_set (i := 2) sc__law_source.nd rfl (Or.inl rfl) (pe_ifExp (pt_cmpR op_lt (pv 1) (pe_callB (r := rLenS K) call_lenS (by rfl) T.n_len (by decide +kernel) (pa_cons (pv 0) pa_nil)) (nomark _)) (pe_ix (r := rIxL K) ix_list (pv 0) (pv 1) (fun _ _ => rfl)) (pe_op op_add (pe_op op_mulW pe_int (pv 1)) pe_int)))
      (pss_cons (ps_set (i := 3) sc__law_source.nd rfl (Or.inl rfl) (pe_op op_mod (pe_callB call_abs (by rfl) T.n_abs (by decide +kernel) (pa_cons (pv 2) pa_nil)) (pe_op op_powW (pe_op op_powW pe_int pe_int) pe_int)))
      (pss_cons (ps_set (i := 4) sc__law_source.nd rfl (Or.inl rfl) (pe_op op_add (pe_op op_add (pe_op op_mulW (pv 3) pe_int) (pe_op op_mulW pe_int (pv 1))) (pe_callTy call_int1 (by rfl) T.n_int (by decide +kernel) (pa_cons (pe_cmpR op_lt (pv 2) pe_int (nomark _)) pa_nil))))
      (pss_one (ps_ret (pe_lst (pa_cons (pe_callB (call_max2 rfl) (by rfl) T.n_max (by decide +kernel) (pa_cons pe_int (pa_cons (pe_op op_sub (pv 3) (pe_op op_powW pe_int pe_int)) pa_nil))) (pa_cons (pe_op op_mod (pv 4) pe_int) (pa_cons pe_int pa_nil))))))))), ?_⟩
  refine ⟨_, rfl, _, rfl, a, _, rfl, .inl hS, _, _, rfl, rfl, _, rfl, ?_⟩
  refine ite2 (fun c => ?_) (fun c => ?_)
  · have c' := of_decide_eq_true c
    rw [List.length_map] at c'
    obtain ⟨z, _, hz⟩ := atI_int (ns := ns) hk0 c'
    refine ⟨_, rfl, _, rfl, _, _, _, _, rfl, rfl, hS, hz, ?_⟩
    show tSeq _ _ _ [some (.ref a), some (.int k), some (.int z), none, none] H
    generalize z = cell
    clear c c' hz
    refine ⟨_, rfl, _, rfl, _, _, rfl, rfl, powW_of 4 (by decide) (by decide) (by decide), _, _, rfl, rfl, powW_of 200 (by decide) (by decide +kernel) (by decide), _, _, rfl, rfl, pos12, ?_⟩
    have hb := mod_big (z := if cell < 0 then -cell else cell) pos12 big12
    dsimp only
    generalize (if cell < 0 then -cell else cell) % ((10 : Int) ^ (60 : Int).toNat) ^ (12 : Int).toNat = size at hb ⊢
    refine ⟨_, rfl, _, _, rfl, rfl, wide_mul (a := 3000) (b := 64) hb.2 (by decide) (by decide) (by decide) (by decide), ?_⟩
    refine ⟨_, rfl, _, _, rfl, rfl, wide_mul (a := 64) (b := 64) (by decide) (by omega) (by decide) (by decide) (by decide), _, _, rfl, rfl, ?_⟩
    refine ⟨_, rfl, _, _, rfl, rfl, .inr ⟨_, rfl, _, _, rfl, rfl, ?_⟩⟩
    dsimp only
    generalize size * 2862933555777941757 + 3037000493 * k + (if decide (cell < 0) = true then 1 else 0) = mixed
    refine ⟨_, rfl, _, _, rfl, rfl, powW_of 4 (by decide) (by decide) (by decide), _, _, rfl, rfl, _, _, rfl, ?_⟩
    refine ⟨_, rfl, _, _, rfl, rfl, (by show (0 : Int) < 72057594037927931; decide), (by show 3 ≤ sizeLine; decide), fun p hp => ?_⟩
    have hm0 : 0 ≤ mixed % 72057594037927931 := by omega
    have hm1 : mixed % 72057594037927931 < 72057594037927931 := by omega
    refine q _ p (same_new hp) hp ⟨_, _, _, upd_same, ?_, ⟨hm0, hm1⟩, by decide, by decide⟩
    have e18 : (10 : Int) ^ (18 : Int).toNat = 1000000000000000000 := by decide
    rw [e18]
    obtain ⟨h0, h1⟩ := hb
    split
    · exact ⟨by omega, by omega⟩
    · exact ⟨by omega, by decide⟩
  · refine ⟨_, rfl, _, _, rfl, rfl, (by show CMulW 3 k; exact wide_mul (a := 64) (b := 64) (by decide) (by omega) (by decide) (by decide) (by decide)), _, _, rfl, rfl, ?_⟩
    show tSeq _ _ _ [some (.ref a), some (.int k), some (.int (3 * k + 2)), none, none] H
    generalize 3 * k + 2 = cell
    refine ⟨_, rfl, _, rfl, _, _, rfl, rfl, powW_of 4 (by decide) (by decide) (by decide), _, _, rfl, rfl, powW_of 200 (by decide) (by decide +kernel) (by decide), _, _, rfl, rfl, pos12, ?_⟩
    have hb := mod_big (z := if cell < 0 then -cell else cell) pos12 big12
    dsimp only
    generalize (if cell < 0 then -cell else cell) % ((10 : Int) ^ (60 : Int).toNat) ^ (12 : Int).toNat = size at hb ⊢
    refine ⟨_, rfl, _, _, rfl, rfl, wide_mul (a := 3000) (b := 64) hb.2 (by decide) (by decide) (by decide) (by decide), ?_⟩
    refine ⟨_, rfl, _, _, rfl, rfl, wide_mul (a := 64) (b := 64) (by decide) (by omega) (by decide) (by decide) (by decide), _, _, rfl, rfl, ?_⟩
    refine ⟨_, rfl, _, _, rfl, rfl, .inr ⟨_, rfl, _, _, rfl, rfl, ?_⟩⟩
    dsimp only
    generalize size * 2862933555777941757 + 3037000493 * k + (if decide (cell < 0) = true then 1 else 0) = mixed
    refine ⟨_, rfl, _, _, rfl, rfl, powW_of 4 (by decide) (by decide) (by decide), _, _, rfl, rfl, _, _, rfl, ?_⟩
    refine ⟨_, rfl, _, _, rfl, rfl, (by show (0 : Int) < 72057594037927931; decide), (by show 3 ≤ sizeLine; decide), fun p hp => ?_⟩
    have hm0 : 0 ≤ mixed % 72057594037927931 := by omega
    have hm1 : mixed % 72057594037927931 < 72057594037927931 := by omega
    refine q _ p (same_new hp) hp ⟨_, _, _, upd_same, ?_, ⟨hm0, hm1⟩, by decide, by decide⟩
    have e18 : (10 : Int) ^ (18 : Int).toNat = 1000000000000000000 := by decide
    rw [e18]
    obtain ⟨h0, h1⟩ := hb
    split
    · exact ⟨by omega, by omega⟩
    · exact ⟨by omega, by decide⟩
theorem ok_take (T : Txt K mg) : FnOk P w K mg base CX0 1 T.f__law_draw T.d__law_draw ["_law_source_here", "_law_many"] spTake := by
  refine T.F__law_draw.ok sc__law_draw (fun vs H Q E h => ?_) (fun cdv A outer s H vs Q E hr h => ?_)
  · obtain ⟨p, n, m, rfl, _⟩ := h
    rfl
  obtain ⟨p, n, m, rfl, ⟨a, b, c, hp, ⟨a0, a1⟩, ⟨b0, b1⟩, c0, c1⟩, hn, hm, hm2, q⟩ := h
  refine ⟨_, (pss_cons (ps_if (pt_cmpR op_gt (pe_ix (r := rIxL K) ix_list (pv 0) pe_int (fun _ _ => rfl)) pe_int (nomark _)) (pss_cons (ps_set (i := 2) sc__law_draw.nd rfl (Or.inl rfl) (pe_op op_mod (pe_ix (r := rIxL K) ix_list (pv 0) pe_int (fun _ _ => rfl)) (pv 1)))
        (pss_cons (ps_asg (pe_op op_fdivW (pe_ix (r := rIxL K) ix_list (pv 0) pe_int (fun _ _ => rfl)) (pv 1)) (pg_sub (pv 0) pe_int set_list))
        (pss_one (ps_ret (pv 2))))) pss_nil)
      (pss_cons (ps_asg (pe_op op_add (pe_ix (r := rIxL K) ix_list (pv 0) pe_int (fun _ _ => rfl)) pe_int) (pg_sub (pv 0) pe_int set_list))
      (pss_cons (ps_set (i := 3) sc__law_draw.nd rfl (Or.inl rfl) (pe_op op_mod (pe_op op_add (pe_ix (r := rIxL K) ix_list (pv 0) pe_int (fun _ _ => rfl)) (pe_op op_mulW pe_int (pe_ix (r := rIxL K) ix_list (pv 0) pe_int (fun _ _ => rfl)))) pe_int))
      (pss_cons (ps_set (i := 4) sc__law_draw.nd rfl (Or.inl rfl) (pe_op op_mulW (pe_op op_mod (pe_op op_mulW (pv 3) (pv 3)) pe_int) (pv 3)))
      (pss_cons (ps_set (i := 4) sc__law_draw.nd rfl (Or.inl rfl) (pe_op op_mod (pe_op op_add (pe_op op_add (pv 4) (pe_op op_mulW pe_int (pe_ix (r := rIxL K) ix_list (pv 0) pe_int (fun _ _ => rfl)))) (pe_op op_mod (pe_ix (r := rIxL K) ix_list (pv 0) pe_int (fun _ _ => rfl)) pe_int)) pe_int))
      (pss_one (ps_ret (pe_op op_mod (pe_op op_fdivW (pe_op op_mod (pe_op op_mulW (pv 4) (pv 4)) pe_int) pe_int) (pv 1))))))))), ?_⟩
  refine ⟨_, rfl, _, _, _, _, rfl, rfl, SqL.of hp, rfl, _, _, rfl, rfl, _, rfl, ?_⟩
  refine ite2 (fun g => ?_) (fun g => ?_)
  · refine ⟨_, rfl, _, _, _, _, rfl, rfl, SqL.of hp, rfl, _, rfl, _, _, rfl, rfl, hm, ?_⟩
    refine ⟨_, rfl, _, _, _, _, rfl, rfl, SqL.of hp, rfl, _, rfl, _, _, rfl, rfl, wide_div hm hm2 (by decide) (by decide), ?_⟩
    refine ⟨_, rfl, _, _, _, _, rfl, rfl, hp, rfl, ?_⟩
    refine ⟨_, rfl, ?_⟩
    have d0 : 0 ≤ a / m := Int.ediv_nonneg a0 (by omega)
    have d1 : a / m ≤ a := Int.ediv_le_self m a0
    exact q _ _ sx_upd ⟨_, _, _, upd_same, ⟨d0, Nat.lt_of_le_of_lt (by omega) a1⟩, ⟨b0, b1⟩, c0, by omega⟩ (Int.emod_nonneg _ (by omega)) (Int.emod_lt_of_pos _ hm)
  · refine ⟨_, rfl, _, _, _, _, rfl, rfl, SqL.of hp, rfl, _, _, rfl, rfl, ?_⟩
    refine ⟨_, rfl, _, _, _, _, rfl, rfl, hp, rfl, ?_⟩
    dsimp only
    have hq : (upd H p (.lst [.int a, .int b, .int (c + 1)])) p = some (.lst [.int a, .int b, .int (c + 1)]) := upd_same
    refine ⟨_, rfl, _, _, _, _, rfl, rfl, SqL.of hq, rfl, _, rfl, _, _, _, _, rfl, rfl, SqL.of hq, rfl, _, _, rfl, rfl, wide_mul (a := 64) (b := 64) (by decide) (by omega) (by decide) (by decide) (by decide), _, _, rfl, rfl, _, _, rfl, rfl, (by show (0 : Int) < 18014398509481951; decide), ?_⟩
    dsimp only
    generalize b + 11400714819323198 * (c + 1) = pw
    have o0 : 0 ≤ pw % 18014398509481951 := by omega
    have o1 : pw % 18014398509481951 < 18014398509481951 := by omega
    generalize pw % 18014398509481951 = one at o0 o1 ⊢
    refine ⟨_, rfl, _, rfl, _, _, rfl, rfl, wide_mul (a := 64) (b := 64) (by omega) (by omega) (by decide) (by decide) (by decide), _, _, rfl, rfl, (by show (0 : Int) < 36028797018963913; decide), ?_⟩
    dsimp only
    generalize one * one = sq
    have k0 : 0 ≤ sq % 36028797018963913 := by omega
    have k1 : sq % 36028797018963913 < 36028797018963913 := by omega
    generalize sq % 36028797018963913 = low at k0 k1 ⊢
    refine ⟨_, rfl, _, _, rfl, rfl, wide_mul (a := 64) (b := 64) (by omega) (by omega) (by decide) (by decide) (by decide), ?_⟩
    dsimp only
    generalize low * one = two
    refine ⟨_, rfl, _, rfl, _, _, _, _, rfl, rfl, SqL.of hq, rfl, _, _, rfl, rfl, wide_mul (a := 64) (b := 64) (by decide) (by omega) (by decide) (by decide) (by decide), _, _, rfl, rfl, ?_⟩
    refine ⟨_, rfl, _, _, _, _, rfl, rfl, SqL.of hq, rfl, _, _, rfl, rfl, (by show (0 : Int) < 65521; decide), _, _, rfl, rfl, _, _, rfl, rfl, (by show (0 : Int) < 1125899906842597; decide), ?_⟩
    dsimp only
    generalize two + 2654435761 * (c + 1) + b % 65521 = pw2
    have t0 : 0 ≤ pw2 % 1125899906842597 := by omega
    have t1 : pw2 % 1125899906842597 < 1125899906842597 := by omega
    generalize pw2 % 1125899906842597 = three at t0 t1 ⊢
    refine ⟨_, rfl, _, rfl, _, _, rfl, rfl, wide_mul (a := 64) (b := 64) (by omega) (by omega) (by decide) (by decide) (by decide), _, _, rfl, rfl, (by show (0 : Int) < 562949953421231; decide), _, _, rfl, rfl, wide_div (b := 12) (by decide) (by decide) (by decide) (by decide), ?_⟩
    refine ⟨_, rfl, _, _, rfl, rfl, hm, ?_⟩
    exact q _ _ sx_upd ⟨_, _, _, upd_same, ⟨a0, a1⟩, ⟨b0, b1⟩, by omega, by omega⟩ (Int.emod_nonneg _ (by omega)) (Int.emod_lt_of_pos _ hm)
end
/-! block Job: _law_job, the drawn jobs -/
def TB : Nat → Nat
  | 0 => 20
  | n + 1 => 20 + 3 * TB n
def NB : Nat → Int
  | 0 => 1
  | 1 => 1
  | 2 => 5
  | n + 3 => 1 + 3 * NB (n + 2)
mutual
/-- all numbers in bounds, few parts -/
def J.small : J → Prop
  | .st i => -M30 ≤ i ∧ i ≤ M30
  | .ps _ xs => xs.length ≤ 4 ∧ J.smallL xs
  | .rn _ n x => (0 ≤ n ∧ n ≤ M30) ∧ x.small
def J.smallL : List J → Prop
  | [] => True
  | x :: xs => x.small ∧ J.smallL xs
end
mutual
/-- all numbers of rounds and copies are among these -/
def J.cin (cs : List Int) : J → Prop
  | .st _ => True
  | .ps _ xs => J.cinL cs xs
  | .rn _ n x => n ∈ cs ∧ J.cin cs x
def J.cinL (cs : List Int) : List J → Prop
  | [] => True
  | x :: xs => J.cin cs x ∧ J.cinL cs xs
end
theorem J.cinL_app (cs : List Int) : ∀ xs ys : List J, J.cinL cs (xs ++ ys) ↔ J.cinL cs xs ∧ J.cinL cs ys
  | [], ys => by simp [J.cinL]
  | x :: xs, ys => by simp only [List.cons_append, J.cinL, J.cinL_app cs xs ys, and_assoc]
structure GenOk (cs : List Int) (n : Nat) (j : J) : Prop where
  cin : j.cin cs
  deep : j.deep ≤ max n 1
  nodes : j.nodes ≤ NB n
  small : j.small
structure GensOk (cs : List Int) (n : Nat) (js : List J) : Prop where
  cin : J.cinL cs js
  deep : J.deepL js ≤ max n 1
  nodes : J.nodesL js ≤ js.length * NB n
  small : J.smallL js
theorem NB_pos : ∀ n, 1 ≤ NB n
  | 0 => by decide
  | 1 => by decide
  | 2 => by decide
  | n + 3 => by
    have := NB_pos (n + 2)
    simp only [NB]
    omega
theorem J.deepL_app : ∀ xs ys : List J, J.deepL (xs ++ ys) = max (J.deepL xs) (J.deepL ys)
  | [], ys => by simp [J.deepL]
  | x :: xs, ys => by simp only [List.cons_append, J.deepL, J.deepL_app xs ys]; omega
theorem J.nodesL_app : ∀ xs ys : List J, J.nodesL (xs ++ ys) = J.nodesL xs + J.nodesL ys
  | [], ys => by simp [J.nodesL]
  | x :: xs, ys => by simp only [List.cons_append, J.nodesL, J.nodesL_app xs ys]; omega
theorem J.smallL_app : ∀ xs ys : List J, J.smallL (xs ++ ys) ↔ J.smallL xs ∧ J.smallL ys
  | [], ys => by simp [J.smallL]
  | x :: xs, ys => by simp only [List.cons_append, J.smallL, J.smallL_app xs ys, and_assoc]
theorem J.toDs_app : ∀ xs ys : List J, J.toDs (xs ++ ys) = J.toDs xs ++ J.toDs ys
  | [], ys => by simp [J.toDs]
  | x :: xs, ys => by simp only [List.cons_append, J.toDs, J.toDs_app xs ys]
theorem GensOk.nil {cs : List Int} {n : Nat} : GensOk cs n [] := ⟨trivial, by simp [J.deepL], by simp [J.nodesL], trivial⟩
theorem GensOk.snoc {cs : List Int} {n : Nat} {js : List J} {j : J} (h : GensOk cs n js) (g : GenOk cs n j) : GensOk cs n (js ++ [j]) := by
  refine ⟨(J.cinL_app _ _ _).mpr ⟨h.cin, g.cin, trivial⟩, ?_, ?_, ?_⟩
  · rw [J.deepL_app]
    have := h.deep
    have := g.deep
    simp only [J.deepL]
    omega
  · rw [J.nodesL_app, List.length_append, List.length_singleton]
    have h1 := h.nodes
    have h2 := g.nodes
    simp only [J.nodesL]
    have e : (((js.length + 1 : Nat) : Int)) * NB n = js.length * NB n + NB n := by
      rw [Int.natCast_add, Int.add_mul]
      simp
    rw [e]
    omega
  · rw [J.smallL_app]
    exact ⟨h.small, g.small, trivial⟩
theorem GenOk.step {cs : List Int} {n : Nat} {i : Int} (h1 : -M30 ≤ i) (h2 : i ≤ M30) : GenOk cs n (.st i) := by
  refine ⟨trivial, ?_, ?_, ?_⟩
  · simp only [J.deep]
    omega
  · simp only [J.nodes]
    exact NB_pos n
  · simp only [J.small]
    exact ⟨h1, h2⟩
/-- up to four steps in a row -/
theorem GenOk.row {cs : List Int} {n : Nat} {js : List J} (h : GensOk cs 1 js) (hl : js.length ≤ 4) : GenOk cs (n + 2) (.ps false js) := by
  have h1 := h.deep
  have h2 := h.nodes
  refine ⟨h.cin, ?_, ?_, ?_⟩
  · simp only [J.deep]
    omega
  · simp only [J.nodes]
    have e : NB 1 = 1 := rfl
    rw [e] at h2
    have : 5 ≤ NB (n + 2) := by
      cases n with
      | zero => decide
      | succ n =>
        have : ∀ n, 5 ≤ NB (n + 2) := by
          intro n
          induction n with
          | zero => decide
          | succ n ih => simp only [NB] at *; omega
        exact this _
    omega
  · simp only [J.small]
    exact ⟨hl, h.small⟩
theorem GenOk.parts {cs : List Int} {n : Nat} {k : Bool} {js : List J} (h : GensOk cs (n + 1) js) (hl : js.length ≤ 3) : GenOk cs (n + 2) (.ps k js) := by
  have h1 := h.deep
  have h2 := h.nodes
  refine ⟨h.cin, ?_, ?_, ?_⟩
  · simp only [J.deep]
    omega
  · simp only [J.nodes]
    have p := NB_pos (n + 1)
    have b : (js.length : Int) * NB (n + 1) ≤ 3 * NB (n + 1) := Int.mul_le_mul_of_nonneg_right (by omega) (by omega)
    cases n with
    | zero => simp only [NB] at *; omega
    | succ n =>
      have e : NB (n + 1 + 1) = NB (n + 2) := rfl
      rw [e] at *
      simp only [NB]
      omega
  · simp only [J.small]
    exact ⟨by omega, h.small⟩
theorem GenOk.rounds {cs : List Int} {n : Nat} {k : Bool} {c : Int} {x : J} (h : GenOk cs (n + 1) x) (h0 : 0 ≤ c) (h1 : c ≤ M30) (hc : c ∈ cs) : GenOk cs (n + 2) (.rn k c x) := by
  have h2 := h.deep
  have h3 := h.nodes
  refine ⟨⟨hc, h.cin⟩, ?_, ?_, ?_⟩
  · simp only [J.deep]
    omega
  · simp only [J.nodes]
    have p := NB_pos (n + 1)
    cases n with
    | zero => simp only [NB] at *; omega
    | succ n =>
      have e : NB (n + 1 + 1) = NB (n + 2) := rfl
      rw [e] at *
      simp only [NB]
      omega
  · simp only [J.small]
    exact ⟨⟨h0, h1⟩, h.small⟩
theorem pick2 {r : Int} (f : Bool → Str) (h0 : 0 ≤ r) (h1 : r < 2) : ∃ b : Bool, atI [V.str (f false), V.str (f true)] r = some (.str (f b)) := by
  have : r = 0 ∨ r = 1 := by omega
  rcases this with rfl | rfl
  · exact ⟨false, rfl⟩
  · exact ⟨true, rfl⟩
theorem dp_ps {K : PySem.W.Frag} {H : Hp} {t : Addr} {k : Bool} {v : V} {js : List J} (h : H t = some (.tup [.str (kwP k), v])) (d : Dp K H v (.tuple (J.toDs js))) : Dp K H (.ref t) (J.ps k js).toD := by
  rw [J.toD]
  exact .tup (.inl (.inl h)) (.cons (.str _) (.cons d .nil))
theorem dp_rn {K : PySem.W.Frag} {H : Hp} {t : Addr} {k : Bool} {n : Int} {v : V} {j : J} (h : H t = some (.tup [.str (kwR k), .int n, v])) (d : Dp K H v j.toD) : Dp K H (.ref t) (J.rn k n j).toD := by
  rw [J.toD]
  exact .tup (.inl (.inl h)) (.cons (.str _) (.cons (.int _) (.cons d .nil)))
def spJob (K : PySem.W.Frag) (n : Nat) : Sp := fun vs H Q _ => ∃ (p a : Addr) (m : Nat) (cs : List Int), vs = [.ref p, .int (n : Int), .ref a] ∧ Pot H p m ∧ m + TB n ≤ 1099511627776 ∧ H a = some (.lst (cs.map V.int)) ∧ a ≠ p ∧
  0 < cs.length ∧ cs.length ≤ 100 ∧ (∀ c ∈ cs, 0 ≤ c ∧ c ≤ M30) ∧
  ∀ (H' : Hp) (r : V) (j : J), Sx p H H' → Pot H' p (m + TB n) → Dp K H' r j.toD → GenOk cs n j → Q r H'
section
variable {P : Program} {w : World} {K : PySem.W.Frag} {mg : Str → Option Value} {base : Heap}
/-- the list that a comprehension fills beside a pot: what its turns keep -/
structure Row (K : PySem.W.Frag) (cs : List Int) (H0 : Hp) (p D : Addr) (n m : Nat) (js : List J) (H : Hp) : Prop where
  sx : Sx p H0 H
  pot : Pot H p m
  gen : GensOk cs n js
  lst : ∃ vs, H D = some (.lst vs) ∧ DpAll K H vs (J.toDs js)
theorem Row.snoc {cs : List Int} {H0 H H' : Hp} {p D : Addr} {n m m' : Nat} {js : List J} {r : V} {j : J} (R : Row K cs H0 p D n m js H) (d0 : H0 D = none) (nDp : D ≠ p) (s : Sx p H H') (hp : Pot H' p m') (hd : Dp K H' r j.toD) (g : GenOk cs n j) :
    ∃ acc, H' D = some (.lst acc) ∧ acc.length = js.length ∧ Row K cs H0 p D n m' (js ++ [j]) (upd H' D (.lst (acc ++ [r]))) := by
  obtain ⟨vs, h1, h2⟩ := R.lst
  obtain ⟨l, hl⟩ := R.pot.lst
  have h3 : H' D = some (.lst vs) := s D _ nDp h1
  refine ⟨vs, h3, ?_, ?_, ?_, R.gen.snoc g, _, upd_same, ?_⟩
  · rw [dpAll_length h2, J.toDs_eq, List.length_map]
  · intro b o nb hb
    have nbD : b ≠ D := fun e => by rw [e, d0] at hb; cases hb
    rw [upd_ne nbD]
    exact s b o nb (R.sx b o nb hb)
  · obtain ⟨a, b, c, z1, z2⟩ := hp
    exact ⟨a, b, c, by rw [upd_ne nDp.symm]; exact z1, z2⟩
  · have k1 : ∀ a xs, SqT K H a xs → SqT K H' a xs := fun a xs z => s.sqT hl z
    have k2 : ∀ a xs, SqT K H' a xs → SqT K (upd H' D (.lst (vs ++ [r]))) a xs := fun a xs z => (sx_upd (p := D)).sqT h3 z
    rw [J.toDs_app]
    exact dpAll_append (dpAll_keep k2 (J.noLs _) (dpAll_keep k1 (J.noLs _) h2)) (dpAll_one (dp_keep k2 j.noL hd))
/-- the jobs drawn with a smaller depth than n -/
def spJobs (K : PySem.W.Frag) (n : Nat) : Sp := fun vs H Q E => ∃ d, d < n ∧ spJob K d vs H Q E
end
/-! block Acc: chains of new objects, data of bounded size (behind Rq) -/
theorem _root_.Rp.DqAll.at {K : PySem.W.Frag} {p : Addr} {H : Hp} {vs : List V} {ds : List PyData} (h : DqAll K p H vs ds) (i : Nat) {v : V} {d : PyData} (hv : vs[i]? = some v) (hd : ds[i]? = some d) : Dq K p H v d := by
  obtain ⟨e, h1, h2⟩ := dqAll_get h hv
  rw [hd] at h1
  cases h1
  exact h2
structure Acc (K : PySem.W.Frag) (p : Addr) (H0 H : Hp) (vs : List V) (ds : List PyData) : Prop where
  s : Same H0 H
  f : DqAll K p H vs ds
theorem Acc.tup {K : PySem.W.Frag} {p t : Addr} {H0 H : Hp} {vs xs : List V} {ds es : List PyData} (A : Acc K p H0 H vs ds) (ht : H t = none) (h : DqAll K p H xs es) : Acc K p H0 (upd H t (.tup xs)) (.ref t :: vs) (.tuple es :: ds) :=
  ⟨A.s.trans (same_new ht), .cons (.tup (SqT.of upd_same) (h.keep (Same.kp (same_new ht)))) (A.f.keep (Same.kp (same_new ht)))⟩
theorem Acc.lst {K : PySem.W.Frag} {p t : Addr} {H0 H : Hp} {l : List V} {vs xs : List V} {ds es : List PyData} (A : Acc K p H0 H vs ds) (hp : H0 p = some (.lst l)) (ht : H t = none) (h : DqAll K p H xs es) : Acc K p H0 (upd H t (.lst xs)) (.ref t :: vs) (.list es :: ds) :=
  ⟨A.s.trans (same_new ht), .cons (.lst (fun z => by rw [z, A.s _ _ hp] at ht; cases ht) upd_same (h.keep (Same.kp (same_new ht)))) (A.f.keep (Same.kp (same_new ht)))⟩
theorem Acc.dct {K : PySem.W.Frag} {p t : Addr} {H0 H : Hp} {l : List V} {vs : List V} {ds : List PyData} (A : Acc K p H0 H vs ds) (hp : H0 p = some (.lst l)) (ht : H t = none) : Acc K p H0 (upd H t (.dK [])) (.ref t :: vs) (.dict [] :: ds) :=
  ⟨A.s.trans (same_new ht), .cons (.dct (fun z => by rw [z, A.s _ _ hp] at ht; cases ht) upd_same (fun _ => rfl)) (A.f.keep (Same.kp (same_new ht)))⟩
theorem dqAll_some {K : PySem.W.Frag} {p : Addr} {H : Hp} : ∀ {vs : List V} {ds : List PyData} {i : Nat} {v : V}, DqAll K p H vs ds → vs[i]? = some v → ∃ d, d ∈ ds ∧ ds[i]? = some d ∧ Dq K p H v d := by
  intro vs ds i v h e
  obtain ⟨d, h1, h2⟩ := dqAll_get h e
  exact ⟨d, List.mem_of_getElem? h1, h1, h2⟩
theorem pick {vs : List V} {r : Int} (h0 : 0 ≤ r) (h1 : r < (vs.length : Int)) : ∃ v, vs[r.toNat]? = some v ∧ atI vs r = some v := by
  have hk : r.toNat < vs.length := by omega
  exact ⟨vs[r.toNat], List.getElem?_eq_getElem hk, atI_at (j := r.toNat) (by omega) (List.getElem?_eq_getElem hk)⟩
structure Sd (b e : Nat) (d : PyData) : Prop where
  fine : fineQ d
  bulk : d.bulk ≤ b
  depth : d.depth ≤ e
structure Sds (b e : Nat) (ds : List PyData) : Prop where
  fine : finesQ ds
  bulk : PyData.bulkAll ds ≤ b
  depth : PyData.depthAll ds ≤ e
theorem Sds.nil : Sds 0 0 [] := ⟨by simp [finesQ], by simp [PyData.bulkAll], by simp [PyData.depthAll]⟩
theorem Sds.cons {b e b' e' : Nat} {d : PyData} {ds : List PyData} (h : Sd b e d) (t : Sds b' e' ds) : Sds (1 + b + b') (max e e') (d :: ds) := by
  have h1 := h.bulk
  have h2 := t.bulk
  have h3 := h.depth
  have h4 := t.depth
  refine ⟨?_, ?_, ?_⟩
  · simp only [finesQ]
    exact ⟨h.fine, t.fine⟩
  · simp only [PyData.bulkAll]
    omega
  · simp only [PyData.depthAll]
    omega
theorem Sd.tup {b e : Nat} {ds : List PyData} (h : Sds b e ds) : Sd b (e + 1) (.tuple ds) := by
  have h1 := h.bulk
  have h2 := h.depth
  exact ⟨by simp only [fineQ]; exact h.fine, by simp only [PyData.bulk]; omega, by simp only [PyData.depth]; omega⟩
theorem Sd.lst {b e : Nat} {ds : List PyData} (h : Sds b e ds) : Sd b (e + 1) (.list ds) := by
  have h1 := h.bulk
  have h2 := h.depth
  exact ⟨by simp only [fineQ]; exact h.fine, by simp only [PyData.bulk]; omega, by simp only [PyData.depth]; omega⟩
theorem Sd.mono {b e b' e' : Nat} {d : PyData} (h : Sd b e d) (h1 : b ≤ b') (h2 : e ≤ e') : Sd b' e' d := ⟨h.fine, Nat.le_trans h.bulk h1, Nat.le_trans h.depth h2⟩
theorem finesQ_app : ∀ xs ys : List PyData, finesQ xs → finesQ ys → finesQ (xs ++ ys)
  | [], ys, _, h => h
  | x :: xs, ys, h1, h2 => by
    simp only [finesQ, List.cons_append] at *
    exact ⟨h1.1, finesQ_app xs ys h1.2 h2⟩
theorem bulkAll_app : ∀ xs ys : List PyData, PyData.bulkAll (xs ++ ys) = PyData.bulkAll xs + PyData.bulkAll ys
  | [], ys => by simp [PyData.bulkAll]
  | x :: xs, ys => by simp only [List.cons_append, PyData.bulkAll, bulkAll_app xs ys]; omega
theorem depthAll_app : ∀ xs ys : List PyData, PyData.depthAll (xs ++ ys) = max (PyData.depthAll xs) (PyData.depthAll ys)
  | [], ys => by simp [PyData.depthAll]
  | x :: xs, ys => by simp only [List.cons_append, PyData.depthAll, depthAll_app xs ys]; omega
theorem Sds.app {b e b' e' : Nat} {xs ys : List PyData} (h : Sds b e xs) (t : Sds b' e' ys) : Sds (b + b') (max e e') (xs ++ ys) := by
  have h1 := h.bulk
  have h2 := t.bulk
  have h3 := h.depth
  have h4 := t.depth
  refine ⟨finesQ_app _ _ h.fine t.fine, ?_, ?_⟩
  · rw [bulkAll_app]
    omega
  · rw [depthAll_app]
    omega
theorem finesQ_left : ∀ xs ys : List PyData, finesQ (xs ++ ys) → finesQ xs
  | [], ys, _ => by simp [finesQ]
  | x :: xs, ys, h => by
    simp only [finesQ, List.cons_append] at *
    exact ⟨h.1, finesQ_left xs ys h.2⟩
theorem finesQ_right : ∀ xs ys : List PyData, finesQ (xs ++ ys) → finesQ ys
  | [], ys, h => h
  | x :: xs, ys, h => by
    simp only [finesQ, List.cons_append] at h
    exact finesQ_right xs ys h.2
theorem Acc.more {K : PySem.W.Frag} {p : Addr} {H0 H H' : Hp} {vs : List V} {ds : List PyData} {v : V} {d : PyData} (A : Acc K p H0 H vs ds) (s : Same H H') (h : Dq K p H' v d) : Acc K p H0 H' (v :: vs) (d :: ds) :=
  ⟨A.s.trans s, .cons h (A.f.keep (Same.kp s))⟩
theorem rCatA_q {K : PySem.W.Frag} {H : Hp} {Q : VK} {a b : Addr} {xs ys : List V} (h1 : SqT K H a xs) (h2 : SqT K H b ys) (hl : xs.length + ys.length ≤ sizeLine)
    (h : ∀ (H' : Hp) (t : Addr), Same H H' → SqT K H' t (xs ++ ys) → Q (.ref t) H') : rCatA K (.ref a) (.ref b) H Q := by
  refine ⟨a, b, xs, ys, rfl, rfl, h1, h2, hl, fun z => ?_, fun _ z => ?_, fun _ _ p hp => ?_⟩
  · subst z
    exact h H b (Same.refl _) h2
  · subst z
    exact h H a (Same.refl _) (by simpa using h1)
  · exact h _ p (same_new hp) (SqT.of upd_same)
theorem rSlA_q {K : PySem.W.Frag} {H : Hp} {Q : VK} {a : Addr} {xs : List V} {lo hi : Option Int} (h1 : SqT K H a xs)
    (h : ∀ (H' : Hp) (t : Addr), Same H H' → SqT K H' t (cutV xs lo hi) → Q (.ref t) H') : rSlA K (.ref a) lo hi H Q := by
  refine ⟨a, xs, rfl, h1, fun z => ?_, fun _ p hp => ?_⟩
  · refine h H a (Same.refl _) ?_
    have e : cutV xs lo hi = xs := by
      unfold cutV
      rw [z.1, z.2]
      simp
    rw [e]
    exact h1
  · exact h _ p (same_new hp) (SqT.of upd_same)
theorem iteKeep {c : Bool} {A B : Prop} (hA : A) (hB : ¬ c = true → A → B) : if c = true then A else B := by
  cases c with
  | true => exact hA
  | false => exact hB (by decide) hA
theorem cut_take {us : List V} {i : Int} (h0 : 0 ≤ i) (h1 : i < (us.length : Int)) : cutV us none (some i) = us.take i.toNat := by
  unfold cutV HT.sIx
  dsimp only
  rw [if_neg (by omega)]
  simp only [Nat.sub_zero, List.drop_zero]
  rw [Nat.min_eq_left (by omega)]
theorem cut_drop {us : List V} {i : Int} (h0 : 0 ≤ i) (h1 : i < (us.length : Int)) : cutV us (some (i + 1)) none = us.drop (i.toNat + 1) := by
  unfold cutV HT.sIx
  dsimp only
  rw [if_neg (by omega), Nat.min_eq_left (by omega)]
  have e : (i + 1).toNat = i.toNat + 1 := by omega
  rw [e, List.take_of_length_le (by rw [List.length_drop]; omega)]
/-! block Wide: _law_wide, a job with indices beyond nine (behind bJob) -/
abbrev jW1 (n : Int) (js : List J) : J := .ps true [.rn true n (.ps false [.st 2, .st (-3)]), .ps false js]
abbrev jW2 : J := .ps false [.rn false 12 (.ps true [.st 1, .st (-1)]), .rn true 11 (.st (-1))]
abbrev jW3 : J := .rn true 12 (.ps true [.ps false [.st 1, .st (-2)], .st 3])
/-- the three forms -/
def WideJ (j : J) : Prop := (∃ (n : Int) (js : List J), 10 ≤ n ∧ n ≤ 15 ∧ 11 ≤ js.length ∧ js.length ≤ 13 ∧ (∀ y ∈ js, ∃ i, y = .st i ∧ -M30 ≤ i ∧ i ≤ M30) ∧ j = jW1 n js) ∨ j = jW2 ∨ j = jW3
def spWide (K : PySem.W.Frag) : Sp := fun vs H Q _ => ∃ (p : Addr) (m : Nat), vs = [.ref p] ∧ Pot H p m ∧ m + 100 ≤ 1099511627776 ∧ ∀ (H' : Hp) (r : V) (j : J), Sx p H H' → Pot H' p (m + 100) → Dp K H' r j.toD → WideJ j → Q r H'
theorem st_dp {K : PySem.W.Frag} {H : Hp} : ∀ ns : List Int, DpAll K H (ns.map V.int) (J.toDs (ns.map J.st))
  | [] => .nil
  | k :: ns => .cons (.int k) (st_dp ns)
section
variable {P : Program} {w : World} {K : PySem.W.Frag} {mg : Str → Option Value} {base : Heap}
end
/-! block Steps2: _law_steps of jobs that are perhaps none -/
theorem J.stepsL_sum : ∀ xs : List J, (xs.map J.steps).sum = J.stepsL xs
  | [] => by simp [J.stepsL]
  | x :: xs => by simp only [List.map_cons, List.sum_cons, J.stepsL, J.stepsL_sum xs]
theorem J.deepL_mem : ∀ {l : List J} {y : J}, y ∈ l → y.deep ≤ J.deepL l
  | z :: r, y, h => by
    simp only [J.deepL]
    rcases List.mem_cons.mp h with rfl | h
    · omega
    · have := J.deepL_mem h
      omega
mutual
/-- no number of steps beyond 10 ** 30 within it -/
def J.stb : J → Prop
  | .st _ => True
  | .ps _ xs => xs.length ≤ 400 ∧ J.stbL xs
  | .rn _ n x => (0 ≤ n ∧ n ≤ M30) ∧ x.stb ∧ (0 ≤ x.steps ∧ x.steps ≤ M30)
def J.stbL : List J → Prop
  | [] => True
  | x :: xs => x.stb ∧ J.stbL xs
end
theorem J.stbL_mem : ∀ {l : List J} {y : J}, J.stbL l → y ∈ l → y.stb
  | z :: r, y, o, h => by
    simp only [J.stbL] at o
    rcases List.mem_cons.mp h with rfl | h
    · exact o.1
    · exact J.stbL_mem o.2 h
mutual
theorem J.stb_ok : ∀ j : J, j.ok → j.stb
  | .st _, _ => trivial
  | .ps _ xs, h => by
    simp only [J.ok] at h
    exact ⟨by omega, J.stbL_ok xs h.2.1⟩
  | .rn _ n x, h => by
    simp only [J.ok] at h
    exact ⟨h.1, J.stb_ok x h.2.1, J.steps_nn x h.2.1, J.steps_le x h.2.1⟩
theorem J.stbL_ok : ∀ xs : List J, J.okL xs → J.stbL xs
  | [], _ => trivial
  | x :: xs, h => by
    simp only [J.okL] at h
    exact ⟨J.stb_ok x h.1, J.stbL_ok xs h.2⟩
end
/-- the i-th part's data -/
theorem part_at {K : PySem.W.Frag} {H : Hp} {xs : List J} {vs : List V} {i : Nat} {x : V} (hall : DpAll K H vs (J.toDs xs)) (hi : vs[i]? = some x) : ∃ j, xs[i]? = some j ∧ j ∈ xs ∧ Dp K H x j.toD := by
  obtain ⟨d, ed, hd⟩ := dpAll_get hall hi
  rw [J.toDs_eq, List.getElem?_map] at ed
  cases e : xs[i]? with
  | none =>
    rw [e] at ed
    cases ed
  | some j =>
    rw [e] at ed
    obtain rfl := (Option.some.inj ed).symm
    exact ⟨j, rfl, List.mem_of_getElem? e, hd⟩
theorem take_map {α β : Type} {xs : List α} {i : Nat} {j : α} (f : α → β) (e : xs[i]? = some j) : (xs.take (i + 1)).map f = (xs.take i).map f ++ [f j] := by
  rw [List.take_add_one, e, List.map_append]
  rfl
theorem kwP_in (k : Bool) : inV (.str (kwP k)) [.str "seq", .str "par"] = true := by cases k <;> decide +kernel
theorem kwR_in (k : Bool) : inV (.str (kwR k)) [.str "seq", .str "par"] = false := by cases k <;> decide +kernel
theorem pow4_mono {a b : Nat} (h : a ≤ b) : (4 : Int) ^ a ≤ 4 ^ b := by
  induction h with
  | refl => exact Int.le_refl _
  | @step m _ ih =>
    refine Int.le_trans ih ?_
    rw [Int.pow_succ]
    have : (0 : Int) ≤ 4 ^ m := Int.le_of_lt (Int.pow_pos (by decide))
    omega
mutual
/-- a drawn job with few rounds has few steps -/
theorem J.few : ∀ (j : J) (cs : List Int), j.small → j.cin cs → (∀ c ∈ cs, 0 ≤ c ∧ c ≤ 4) → j.deep ≤ 40 → j.stb ∧ 0 ≤ j.steps ∧ j.steps ≤ 4 ^ j.deep
  | .st _, _, _, _, _, _ => by
    simp only [J.stb, J.steps, J.deep]
    exact ⟨trivial, by decide, by decide⟩
  | .ps k xs, cs, h, hc, hb, hd => by
    simp only [J.small] at h
    simp only [J.cin] at hc
    simp only [J.deep] at hd
    obtain ⟨h1, h2, h3⟩ := J.fewL xs cs h.2 hc hb (by omega)
    simp only [J.stb, J.steps, J.deep]
    refine ⟨⟨by omega, h1⟩, h2, Int.le_trans h3 ?_⟩
    rw [Int.pow_succ]
    have p : (0 : Int) ≤ 4 ^ J.deepL xs := Int.le_of_lt (Int.pow_pos (by decide))
    exact Int.mul_le_mul_of_nonneg_left (by omega) p
  | .rn k n x, cs, h, hc, hb, hd => by
    simp only [J.small] at h
    simp only [J.cin] at hc
    simp only [J.deep] at hd
    obtain ⟨h1, h2, h3⟩ := J.few x cs h.2 hc.2 hb (by omega)
    have hn := hb n hc.1
    have p40 : (4 : Int) ^ x.deep ≤ 4 ^ 40 := pow4_mono (by omega)
    have e40 : (4 : Int) ^ 40 ≤ M30 := by decide
    simp only [J.stb, J.steps, J.deep]
    refine ⟨⟨by simp only [M30]; omega, h1, h2, by omega⟩, Int.mul_nonneg h2 hn.1, ?_⟩
    rw [Int.pow_succ]
    exact Int.mul_le_mul h3 hn.2 hn.1 (Int.le_of_lt (Int.pow_pos (by decide)))
theorem J.fewL : ∀ (xs : List J) (cs : List Int), J.smallL xs → J.cinL cs xs → (∀ c ∈ cs, 0 ≤ c ∧ c ≤ 4) → J.deepL xs ≤ 40 → J.stbL xs ∧ 0 ≤ J.stepsL xs ∧ J.stepsL xs ≤ 4 ^ J.deepL xs * xs.length
  | [], _, _, _, _, _ => by simp [J.stbL, J.stepsL]
  | x :: xs, cs, h, hc, hb, hd => by
    simp only [J.smallL] at h
    simp only [J.cinL] at hc
    simp only [J.deepL] at hd ⊢
    obtain ⟨h1, h2, h3⟩ := J.few x cs h.1 hc.1 hb (by omega)
    obtain ⟨g1, g2, g3⟩ := J.fewL xs cs h.2 hc.2 hb (by omega)
    have p1 : (4 : Int) ^ x.deep ≤ 4 ^ (max x.deep (J.deepL xs)) := pow4_mono (by omega)
    have p2 : (4 : Int) ^ J.deepL xs ≤ 4 ^ (max x.deep (J.deepL xs)) := pow4_mono (by omega)
    have p3 := Int.mul_le_mul_of_nonneg_right p2 (show (0 : Int) ≤ xs.length by omega)
    simp only [J.stbL, J.stepsL, List.length_cons]
    refine ⟨⟨h1, g1⟩, by omega, ?_⟩
    rw [Int.natCast_add, Int.mul_add]
    simp only [Int.natCast_one, Int.mul_one]
    omega
end
theorem ls_ok {j : J} (h : j.ok) : j.stb := J.stb_ok j h
def spLS (K : PySem.W.Frag) (n : Nat) : Sp := fun vs H Q _ => ∃ (v : V) (j : J), vs = [v] ∧ Dp K H v j.toD ∧ j.deep ≤ n ∧ j.stb ∧ ∀ H', Same H H' → Q (.int j.steps) H'
section
variable {P : Program} {w : World} {K : PySem.W.Frag} {mg : Str → Option Value} {base : Heap}
end
/-! block Small: _law_small, a drawn job of two to so many steps -/
abbrev csS : List Int := [1, 2, 3, 0, 2]
abbrev jS : J := .ps true [.ps false [.st 5, .st (-3)], .rn true 2 (.st (-1))]
structure SmallOk (size : Int) (j : J) : Prop where
  two : 1 < j.steps
  most : j.steps ≤ size
  deep : j.deep ≤ 6
  small : j.small
  cin : j.cin csS
  stb : j.stb
  nodes : j.nodes ≤ 400
theorem NB_5 {m : Nat} (h : m ≤ 5) : NB m ≤ 400 := by
  have : ∀ m, m < 6 → NB m ≤ 400 := by decide
  exact this m (by omega)
theorem TB_mono (n : Nat) : TB n ≤ TB (n + 1) := by
  simp only [TB]
  omega
def spSmall (K : PySem.W.Frag) : Sp := fun vs H Q _ => ∃ (p : Addr) (m n : Nat) (size : Int), vs = [.ref p, .int (n : Int), .int size] ∧ Pot H p m ∧ 2 ≤ n ∧ n ≤ 5 ∧ 4 ≤ size ∧ m + 4 * TB n ≤ 1099511627776 ∧
  ∀ (H' : Hp) (r : V) (j : J), Sx p H H' → Pot H' p (m + 4 * TB n) → Dp K H' r j.toD → SmallOk size j → Q r H'
section
variable {P : Program} {w : World} {K : PySem.W.Frag} {mg : Str → Option Value} {base : Heap}
end
/-! block Addr: _law_addresses, the addresses of a small job -/
theorem for_enum {K : PySem.W.Frag} {a : Addr} {xs : List V} {g : TG} {tb : TS} {D : Ends} {σ : L2.St} {H : Hp} (Pv : Nat → L2.St → Hp → Prop) (h0 : Pv 0 σ H)
    (hs : ∀ (i : Nat) (σ : L2.St) (H : Hp), i ≤ xs.length → Pv i σ H → SqL K H a xs)
    (step : ∀ (i : Nat) (x : V) (σ : L2.St) (H : Hp) (T : Addr), xs[i]? = some x → Pv i σ H → H T = none →
      g (.ref T) σ (upd H T (.tup [.int i, x])) fun σ2 H2 => tb { nx := Pv (i + 1), rt := D.rt, bk := D.nx, ct := Pv (i + 1) } σ2 H2)
    (fin : ∀ (σ : L2.St) (H : Hp), Pv xs.length σ H → D.nx σ H) :
    ∃ W : Nat → Nat → L2.St → Hp → Prop, (∃ m, W 0 m σ H) ∧ ∀ (i m : Nat) (σ : L2.St) (H : Hp), W i m σ H →
      (Ite K a).stop i H ∧ D.nx σ H ∨ (Ite K a).go i H ∧ ∃ N : L2.St → Hp → Prop, (∀ (σ' : L2.St) (H' : Hp), N σ' H' → ∃ m', m' < m ∧ W (i + 1) m' σ' H') ∧
        ∀ (x : V) (H' : Hp), (Ite K a).yld i H x H' → g x σ H' fun σ2 H2 => tb { nx := N, rt := D.rt, bk := D.nx, ct := N } σ2 H2 := by
  refine ⟨fun i m σ H => i ≤ xs.length ∧ m = xs.length - i ∧ Pv i σ H, ⟨_, Nat.zero_le _, rfl, h0⟩, ?_⟩
  rintro i m σ H ⟨hi, rfl, hp⟩
  have hq := hs i σ H hi hp
  by_cases e : i = xs.length
  · subst e
    exact .inl ⟨⟨xs, hq, Nat.le_refl _⟩, fin σ H hp⟩
  · have hlt : i < xs.length := by omega
    refine .inr ⟨⟨xs, xs[i], hq, List.getElem?_eq_getElem hlt⟩, Pv (i + 1), fun σ' H' z => ⟨_, ?_, by omega, rfl, z⟩, ?_⟩
    · omega
    · rintro x H' ⟨T, x', rfl, hT, rfl, hx⟩
      exact step i x' σ H T (hx xs hq) hp hT
theorem rCatA_d {K : PySem.W.Frag} {H : Hp} {Q : VK} {a b : Addr} {xs ys : List V} (h1 : SqT K H a xs) (h2 : SqT K H b ys) (hl : xs.length + ys.length ≤ sizeLine)
    (h : ∀ (H' : Hp) (t : Addr), Same H H' → SqT K H' t (xs ++ ys) → Q (.ref t) H') : rCatA K (.ref a) (.ref b) H Q := by
  refine ⟨a, b, xs, ys, rfl, rfl, h1, h2, hl, fun z => ?_, fun _ z => ?_, fun _ _ p hp => ?_⟩
  · subst z
    exact h H b (Same.refl _) h2
  · subst z
    exact h H a (Same.refl _) (by simpa using h1)
  · exact h _ p (same_new hp) (SqT.of upd_same)
/-- rows of addresses, each behind its index -/
def idx : List (List (List Int)) → Int → List (List Int)
  | [], _ => []
  | as :: r, i => as.map (i :: ·) ++ idx r (i + 1)
mutual
def J.adr : J → List (List Int)
  | .st _ => [[]]
  | .ps _ xs => idx (J.adrs xs) 0
  | .rn _ n x => idx (List.replicate (if 0 < x.steps then n.toNat else 0) x.adr) 0
def J.adrs : List J → List (List (List Int))
  | [] => []
  | x :: xs => x.adr :: J.adrs xs
end
theorem J.adrs_eq : ∀ xs : List J, J.adrs xs = xs.map J.adr
  | [] => rfl
  | x :: xs => by rw [J.adrs, J.adrs_eq xs]; rfl
theorem idx_app : ∀ (as bs : List (List (List Int))) (i : Int), idx (as ++ bs) i = idx as i ++ idx bs (i + as.length)
  | [], bs, i => by simp [idx]
  | a :: as, bs, i => by
    simp only [List.cons_append, idx, idx_app as bs, List.append_assoc, List.length_cons]
    congr 3
    omega
theorem idx_len : ∀ (as : List (List (List Int))) (i : Int), (idx as i).length = (as.map List.length).sum
  | [], _ => rfl
  | a :: as, i => by simp only [idx, List.length_append, List.length_map, idx_len as, List.map_cons, List.sum_cons]
theorem sum_rep (m : Nat) : ∀ k : Nat, (List.replicate k m).sum = k * m
  | 0 => by simp
  | k + 1 => by
    rw [List.replicate_succ, List.sum_cons, sum_rep m k, Nat.succ_mul]
    omega
mutual
theorem J.adr_len : ∀ j : J, j.stb → (j.adr.length : Int) = j.steps
  | .st _, _ => by simp [J.adr, J.steps]
  | .ps _ xs, h => by
    simp only [J.stb] at h
    simp only [J.adr, J.steps, idx_len]
    exact J.adrs_len xs h.2
  | .rn _ n x, h => by
    simp only [J.stb] at h
    have ih := J.adr_len x h.2.1
    simp only [J.adr, J.steps, idx_len, List.map_replicate, sum_rep]
    by_cases e : 0 < x.steps
    · rw [if_pos e]
      have hn : ((n.toNat : Nat) : Int) = n := by omega
      rw [Int.natCast_mul, hn, ih, Int.mul_comm]
    · rw [if_neg e]
      have : x.steps = 0 := by omega
      rw [this]
      simp
theorem J.adrs_len : ∀ xs : List J, J.stbL xs → ((((J.adrs xs).map List.length).sum : Nat) : Int) = J.stepsL xs
  | [], _ => by simp [J.adrs, J.stepsL]
  | x :: xs, h => by
    simp only [J.stbL] at h
    have h1 := J.adr_len x h.1
    have h2 := J.adrs_len xs h.2
    simp only [J.adrs, J.stepsL, List.map_cons, List.sum_cons, Int.natCast_add]
    omega
end
theorem idx_mem : ∀ {as : List (List (List Int))} {i : Int} {a : List Int}, a ∈ idx as i → ∃ r ∈ as, ∃ b ∈ r, a.length = b.length + 1
  | r :: as, i, a, h => by
    simp only [idx, List.mem_append, List.mem_map] at h
    rcases h with ⟨b, hb, rfl⟩ | h
    · exact ⟨r, List.mem_cons_self, b, hb, rfl⟩
    · obtain ⟨r', h1, b, h2, h3⟩ := idx_mem h
      exact ⟨r', List.mem_cons_of_mem _ h1, b, h2, h3⟩
mutual
theorem J.adr_deep : ∀ (j : J) (a : List Int), a ∈ j.adr → a.length ≤ j.deep
  | .st _, a, h => by
    simp only [J.adr, List.mem_singleton] at h
    subst h
    simp
  | .ps _ xs, a, h => by
    simp only [J.adr] at h
    obtain ⟨r, h1, b, h2, h3⟩ := idx_mem h
    have := J.adrs_deep xs r h1 b h2
    simp only [J.deep]
    omega
  | .rn _ n x, a, h => by
    simp only [J.adr] at h
    obtain ⟨r, h1, b, h2, h3⟩ := idx_mem h
    obtain ⟨_, rfl⟩ := List.mem_replicate.mp h1
    have := J.adr_deep x b h2
    simp only [J.deep]
    omega
theorem J.adrs_deep : ∀ (xs : List J) (r : List (List Int)), r ∈ J.adrs xs → ∀ b ∈ r, b.length ≤ J.deepL xs
  | [], r, h, _, _ => by simp [J.adrs] at h
  | x :: xs, r, h, b, hb => by
    simp only [J.adrs] at h
    simp only [J.deepL]
    rcases List.mem_cons.mp h with rfl | h
    · have := J.adr_deep x b hb
      omega
    · have := J.adrs_deep xs r h b hb
      omega
end
mutual
/-- few rounds and copies, also of what has no step -/
def J.rounded : J → Prop
  | .st _ => True
  | .ps _ xs => J.roundedL xs
  | .rn _ n x => n ≤ 1000 ∧ x.rounded
def J.roundedL : List J → Prop
  | [] => True
  | x :: xs => x.rounded ∧ J.roundedL xs
end
/-- an address as data -/
def adD (a : List Int) : PyData := .tuple (a.map .int)
def adDs (as : List (List Int)) : List PyData := as.map adD
theorem noLs_ad : ∀ as : List (List Int), noLs (adDs as) = true
  | [] => rfl
  | a :: as => by
    have ih := noLs_ad as
    have h : ∀ l : List Int, noLs (l.map PyData.int) = true := by
      intro l
      induction l with
      | nil => rfl
      | cons x r ih => simpa [noLs, noL] using ih
    simp only [adDs, List.map_cons, noLs, adD, noL, h, Bool.true_and] at ih ⊢
    exact ih
theorem noL_ad (a : List Int) : noL (adD a) = true := by
  have := noLs_ad [a]
  simpa [adDs, noLs] using this
def spAdr (K : PySem.W.Frag) (n : Nat) : Sp := fun vs H Q _ => ∃ (v : V) (j : J), vs = [v] ∧ Dp K H v j.toD ∧ j.deep ≤ n ∧ j.stb ∧ j.steps ≤ 1000 ∧ j.rounded ∧
  ∀ (H' : Hp) (l : Addr) (as : List V), Same H H' → H l = none → H' l = some (.lst as) → DpAll K H' as (adDs j.adr) → Q (.ref l) H'
theorem Same.free' {H H' : Hp} {l : Addr} (s : Same H H') (h : H' l = none) : H l = none := by
  cases e : H l with
  | none => rfl
  | some o =>
    rw [s _ _ e] at h
    cases h
theorem dpAll_rep' {K : PySem.W.Frag} {H : Hp} {v : V} {x : J} (h : Dp K H v x.toD) : ∀ k : Nat, DpAll K H (List.replicate k [v]).flatten (J.toDs (List.replicate k x))
  | 0 => .nil
  | k + 1 => by
    simp only [List.replicate_succ, List.flatten_cons, J.toDs]
    exact .cons h (dpAll_rep' h k)
theorem J.roundedL_mem : ∀ {l : List J} {y : J}, J.roundedL l → y ∈ l → y.rounded
  | z :: r, y, o, h => by
    simp only [J.roundedL] at o
    rcases List.mem_cons.mp h with rfl | h
    · exact o.1
    · exact J.roundedL_mem o.2 h
theorem J.steps_nn' (j : J) (h : j.stb) : 0 ≤ j.steps := by
  have := J.adr_len j h
  omega
theorem J.steps_mem : ∀ {l : List J} {y : J}, J.stbL l → J.stepsL l ≤ 1000 → y ∈ l → y.steps ≤ 1000
  | z :: r, y, o, hl, h => by
    simp only [J.stbL] at o
    simp only [J.stepsL] at hl
    have h1 := J.steps_nn' z o.1
    have h2 := J.adrs_len r o.2
    rcases List.mem_cons.mp h with rfl | h
    · omega
    · exact J.steps_mem o.2 (by omega) h
section
variable {P : Program} {w : World} {K : PySem.W.Frag} {mg : Str → Option Value} {base : Heap}
end
/-! block Rows: step_rows, the rows of the steps of a small job (behind bAddr, with En) -/
abbrev SRow := List Int × Int × List (Int × Int)
def wRow (i : Int) (g : List (Int × Int)) (r : SRow) : SRow := (i :: r.1, r.2.1, g ++ r.2.2.map fun p => (p.1 + 1, p.2))
/-- the gate of what comes in sequence -/
def gateOf (sq : Bool) (n : Nat) : List (Int × Int) := if sq = true then [(0, (n : Int))] else []
def packs (sq : Bool) : List (List SRow) → Int → List SRow → List SRow
  | [], _, acc => acc
  | rs :: r, i, acc => packs sq r (i + 1) (acc ++ rs.map (wRow i (gateOf sq acc.length)))
mutual
def J.srows : J → List SRow
  | .st i => [([], i, [])]
  | .ps b xs => packs (!b) (J.srowss xs) 0 []
  | .rn b n x => packs (!b) (List.replicate (if x.srows.isEmpty = true then 0 else n.toNat) x.srows) 0 []
def J.srowss : List J → List (List SRow)
  | [] => []
  | x :: xs => x.srows :: J.srowss xs
end
theorem J.srowss_eq : ∀ xs : List J, J.srowss xs = xs.map J.srows
  | [] => rfl
  | x :: xs => by rw [J.srowss, J.srowss_eq xs]; rfl
theorem packs_adr (sq : Bool) : ∀ (rss : List (List SRow)) (i : Int) (acc : List SRow), (packs sq rss i acc).map (·.1) = acc.map (·.1) ++ idx (rss.map fun rs => rs.map (·.1)) i
  | [], i, acc => by simp [packs, idx]
  | rs :: r, i, acc => by
    rw [packs, packs_adr sq r (i + 1), List.map_append, List.map_cons, idx, List.append_assoc]
    congr 2
    simp [wRow, Function.comp_def]
theorem packs_len (sq : Bool) : ∀ (rss : List (List SRow)) (i : Int) (acc : List SRow), (packs sq rss i acc).length = acc.length + (rss.map List.length).sum
  | [], i, acc => by simp [packs]
  | rs :: r, i, acc => by
    rw [packs, packs_len sq r (i + 1), List.length_append, List.length_map, List.map_cons, List.sum_cons]
    omega
mutual
theorem J.srows_adr : ∀ j : J, j.stb → j.srows.map (·.1) = j.adr
  | .st i, _ => by simp [J.srows, J.adr]
  | .ps b xs, h => by
    simp only [J.stb] at h
    rw [J.srows, packs_adr, J.adr, J.srowss_adr xs h.2]
    rfl
  | .rn b n x, h => by
    simp only [J.stb] at h
    have ih := J.srows_adr x h.2.1
    have hl := J.adr_len x h.2.1
    rw [J.srows, packs_adr, J.adr, List.map_replicate, ih]
    have e : x.srows.isEmpty = true ↔ ¬ 0 < x.steps := by
      rw [List.isEmpty_iff_length_eq_zero, ← List.length_map (f := (·.1)), ih]
      omega
    by_cases z : 0 < x.steps
    · rw [if_neg (fun y => e.mp y z), if_pos z]
      rfl
    · rw [if_pos (e.mpr z), if_neg z]
      rfl
theorem J.srowss_adr : ∀ xs : List J, J.stbL xs → (J.srowss xs).map (fun rs => rs.map (·.1)) = J.adrs xs
  | [], _ => rfl
  | x :: xs, h => by
    rw [J.srowss, List.map_cons, J.adrs, J.srows_adr x h.1, J.srowss_adr xs h.2]
end
theorem J.srows_len (j : J) (h : j.stb) : (j.srows.length : Int) = j.steps := by
  rw [← J.adr_len j h, ← J.srows_adr j h, List.length_map]
theorem packs_mem {sq : Bool} {P : SRow → Prop} : ∀ {rss : List (List SRow)} {i : Int} {acc : List SRow}, (∀ r ∈ acc, P r) → (∀ rs ∈ rss, ∀ r ∈ rs, ∀ (i : Int) (m : Nat), P (wRow i (gateOf sq m) r)) → ∀ r ∈ packs sq rss i acc, P r
  | [], i, acc, h, _ => by rw [packs]; exact h
  | rs :: rr, i, acc, h, k => by
    rw [packs]
    refine packs_mem (fun r hr => ?_) (fun rs' h' => k rs' (List.mem_cons_of_mem _ h'))
    rcases List.mem_append.mp hr with hr | hr
    · exact h r hr
    · obtain ⟨r0, h0, rfl⟩ := List.mem_map.mp hr
      exact k rs (List.mem_cons_self ..) r0 h0 _ _
theorem wRow_bd {i : Int} {sq : Bool} {m n : Nat} {r : SRow} (h : r.1.length ≤ n ∧ r.2.2.length ≤ n) : (wRow i (gateOf sq m) r).1.length ≤ n + 1 ∧ (wRow i (gateOf sq m) r).2.2.length ≤ n + 1 := by
  refine ⟨?_, ?_⟩
  · simp only [wRow, List.length_cons]
    omega
  · simp only [wRow, List.length_append, List.length_map]
    have : (gateOf sq m).length ≤ 1 := by
      unfold gateOf
      split <;> simp
    omega
mutual
theorem J.srows_bd : ∀ (j : J) (r : SRow), r ∈ j.srows → r.1.length ≤ j.deep ∧ r.2.2.length ≤ j.deep
  | .st i, r, h => by
    simp only [J.srows, List.mem_singleton] at h
    subst h
    simp
  | .ps b xs, r, h => by
    rw [J.srows] at h
    simp only [J.deep]
    have key := packs_mem (P := fun r => r.1.length ≤ J.deepL xs + 1 ∧ r.2.2.length ≤ J.deepL xs + 1) (sq := !b) (rss := J.srowss xs) (i := 0) (acc := []) (fun r hr => by cases hr) (fun rs h1 r h2 i m => wRow_bd (J.srowss_bd xs rs h1 r h2)) r h
    omega
  | .rn b n x, r, h => by
    rw [J.srows] at h
    simp only [J.deep]
    have key := packs_mem (P := fun r => r.1.length ≤ x.deep + 1 ∧ r.2.2.length ≤ x.deep + 1) (sq := !b) (rss := List.replicate (if x.srows.isEmpty = true then 0 else n.toNat) x.srows) (i := 0) (acc := []) (fun r hr => by cases hr) (fun rs h1 r h2 i m => by
      obtain ⟨_, rfl⟩ := List.mem_replicate.mp h1
      exact wRow_bd (J.srows_bd x r h2)) r h
    omega
theorem J.srowss_bd : ∀ (xs : List J) (rs : List SRow), rs ∈ J.srowss xs → ∀ r ∈ rs, r.1.length ≤ J.deepL xs ∧ r.2.2.length ≤ J.deepL xs
  | [], rs, h, _, _ => by simp [J.srowss] at h
  | x :: xs, rs, h, r, hr => by
    rw [J.srowss, List.mem_cons] at h
    simp only [J.deepL]
    rcases h with rfl | h
    · have := J.srows_bd x r hr
      omega
    · have := J.srowss_bd xs rs h r hr
      omega
end
def gatesD (g : List (Int × Int)) : PyData := .tuple (g.map fun p => .tuple [.int p.1, .int p.2])
def rowD (r : SRow) : PyData := .tuple [adD r.1, .int r.2.1, gatesD r.2.2]
def rowsD (rs : List SRow) : List PyData := rs.map rowD
theorem noLs_gates : ∀ g : List (Int × Int), noLs (g.map fun p => PyData.tuple [.int p.1, .int p.2]) = true
  | [] => rfl
  | p :: g => by
    rw [List.map_cons]
    simp only [noLs, noL, noLs_gates g, Bool.and_self]
theorem noL_row (r : SRow) : noL (rowD r) = true := by
  simp only [rowD, noL, noLs, noL_ad, gatesD, noLs_gates, Bool.and_self]
theorem noLs_rows : ∀ rs : List SRow, noLs (rowsD rs) = true
  | [] => rfl
  | r :: rs => by
    simp only [rowsD, List.map_cons, noLs, noL_row, Bool.true_and]
    exact noLs_rows rs
theorem ints_valsR {K : PySem.W.Frag} {H : Hp} : ∀ {xs : List V} {a : List Int}, DpAll K H xs (a.map PyData.int) → xs = a.map V.int
  | [], [], _ => rfl
  | [], _ :: _, h => by cases h
  | _ :: _, [], h => by cases h
  | _ :: _, k :: a, h => by
    cases h with
    | cons h1 h2 =>
      rw [dp_int_inv h1, ints_valsR h2]
      rfl
theorem ints_dpR {K : PySem.W.Frag} {H : Hp} : ∀ a : List Int, DpAll K H (a.map V.int) (a.map .int)
  | [] => .nil
  | k :: a => .cons (.int k) (ints_dpR a)
/-- pairs of an index and a list of rows; the lists lie where ne holds -/
inductive PrX (K : PySem.W.Frag) (ne : Addr → Prop) (H : Hp) : List V → List (List SRow) → Int → Prop
  | nil {i : Int} : PrX K ne H [] [] i
  | cons {t la : Addr} {rws vs : List V} {rs : List SRow} {rss : List (List SRow)} {i : Int} : SqT K H t [.int i, .ref la] → ne la → H la = some (.lst rws) → DpAll K H rws (rowsD rs) → PrX K ne H vs rss (i + 1) → PrX K ne H (.ref t :: vs) (rs :: rss) i
theorem PrX.length {K : PySem.W.Frag} {ne : Addr → Prop} {H : Hp} : ∀ {vs : List V} {rss : List (List SRow)} {i : Int}, PrX K ne H vs rss i → vs.length = rss.length
  | _, _, _, .nil => rfl
  | _, _, _, .cons _ _ _ _ h => congrArg (· + 1) h.length
theorem PrX.keep {K : PySem.W.Frag} {ne ne' : Addr → Prop} {H H' : Hp} (t : ∀ a xs, SqT K H a xs → SqT K H' a xs) (l : ∀ a o, ne a → H a = some o → H' a = some o) (m : ∀ a, ne a → ne' a) : ∀ {vs : List V} {rss : List (List SRow)} {i : Int}, PrX K ne H vs rss i → PrX K ne' H' vs rss i
  | _, _, _, .nil => .nil
  | _, _, _, .cons a b c d h => .cons (t _ _ a) (m _ b) (l _ _ b c) (dpAll_keep t (noLs_rows _) d) (h.keep t l m)
theorem PrX.snoc {K : PySem.W.Frag} {ne : Addr → Prop} {H : Hp} {t la : Addr} {rws : List V} {rs : List SRow} : ∀ {vs : List V} {rss : List (List SRow)} {i : Int}, PrX K ne H vs rss i → SqT K H t [.int (i + (rss.length : Int)), .ref la] → ne la → H la = some (.lst rws) → DpAll K H rws (rowsD rs) → PrX K ne H (vs ++ [.ref t]) (rss ++ [rs]) i
  | _, _, i, .nil, a, b, c, d => .cons (by simpa using a) b c d .nil
  | _, _, i, .cons (rss := r0) a' b' c' d' h, a, b, c, d => .cons a' b' c' d' (h.snoc (by
      have e : i + 1 + (r0.length : Int) = i + ((r0.length + 1 : Nat) : Int) := by omega
      rw [e]
      exact a) b c d)
theorem PrX.get {K : PySem.W.Frag} {ne : Addr → Prop} {H : Hp} : ∀ {vs : List V} {rss : List (List SRow)} {i : Int} {k : Nat} {v : V}, PrX K ne H vs rss i → vs[k]? = some v →
    ∃ (t la : Addr) (rws : List V) (rs : List SRow), rss[k]? = some rs ∧ v = .ref t ∧ SqT K H t [.int (i + (k : Int)), .ref la] ∧ ne la ∧ H la = some (.lst rws) ∧ DpAll K H rws (rowsD rs)
  | _, _, _, _, _, .nil, e => by simp at e
  | _, _, i, 0, _, .cons a b c d _, e => by
    simp at e
    subst e
    exact ⟨_, _, _, _, rfl, rfl, by simpa using a, b, c, d⟩
  | _, _, i, k + 1, _, .cons _ _ _ _ h, e => by
    obtain ⟨t, la, rws, rs, e1, e2, e3, e4⟩ := h.get (k := k) (by simpa using e)
    exact ⟨t, la, rws, rs, by simpa using e1, e2, by rw [show i + ((k + 1 : Nat) : Int) = i + 1 + (k : Int) by omega]; exact e3, e4⟩
/-- the rows by index of what is no step -/
def J.rss : J → List (List SRow)
  | .st _ => []
  | .ps _ xs => J.srowss xs
  | .rn _ n x => List.replicate (if x.srows.isEmpty = true then 0 else n.toNat) x.srows
theorem J.steps_part : ∀ {l : List J} {y : J} {m : Int}, J.stbL l → J.stepsL l ≤ m → y ∈ l → y.steps ≤ m
  | [], _, _, _, _, h => by cases h
  | x :: l, y, m, hs, hm, h => by
    simp only [J.stbL] at hs
    simp only [J.stepsL] at hm
    have h1 := J.steps_nn' x hs.1
    have h2 := J.adrs_len l hs.2
    rcases List.mem_cons.mp h with rfl | h
    · omega
    · exact J.steps_part hs.2 (by omega) h
def spRowIn (K : PySem.W.Frag) : Sp := fun vs H Q _ => ∃ (i : Int) (vg vr : V) (g : List (Int × Int)) (r : SRow), vs = [.int i, vg, vr] ∧ Dp K H vg (gatesD g) ∧ Dp K H vr (rowD r) ∧ g.length ≤ 1 ∧ r.1.length ≤ 40 ∧ r.2.2.length ≤ 40 ∧
  ∀ (H' : Hp) (v : V), Same H H' → Dp K H' v (rowD (wRow i g r)) → Q v H'
section
variable {P : Program} {w : World} {K : PySem.W.Frag} {mg : Str → Option Value} {base : Heap}
theorem ok_rowin (T : Txt K mg) : FnOk P w K mg base CX0 1 T.f__row_within T.d__row_within ["index", "outer_gates", "row"] (spRowIn K) := by
  refine T.F__row_within.ok sc__row_within (fun vs H Q E h => ?_) (fun cdv A outer s H vs Q E hr h => ?_)
  · obtain ⟨i, vg, vr, g, r, rfl, _⟩ := h
    rfl
  obtain ⟨i, vg, vr, g, r, rfl, hg, hrow, gl, al, il, q⟩ := h
  obtain ⟨ad, st, ga⟩ := r
  have al' : ad.length ≤ 40 := al
  have il' : ga.length ≤ 40 := il
  refine ⟨_, (pss_cons (ps_asg (pv 2) (pg_tup (by rfl) (pgs_cons (pg_name (i := 3) sc__row_within.nd rfl (Or.inl rfl)) (pgs_cons (pg_name (i := 4) sc__row_within.nd rfl (Or.inl rfl)) (pgs_cons (pg_name (i := 5) sc__row_within.nd rfl (Or.inl rfl)) pgs_nil)))))
      (pss_cons (ps_setLc (i := 6) (own := [("level", 7), ("least", 8)]) (g := (gTup K 2 (gCons (gName 7) (gCons (gName 8) gNil)))) (by rfl) sc__row_within.nd rfl rfl (sw_true rfl rfl rfl (by decide +kernel)) (pi_tup (pv 5)) (blkOk_by (N := N__row_within) (sc := (defScope s__row_within)) (by decide +kernel)) (fun _ _ _ _ _ => (pg_tup (by rfl) (pgs_cons (pg_name (i := 7) sc__row_within.nd rfl (Or.inl rfl)) (pgs_cons (pg_name (i := 8) sc__row_within.nd rfl (Or.inl rfl)) pgs_nil)))) (fun _ _ _ _ _ => pts_nil) (fun _ _ _ _ _ => (pe_tup (pa_cons (pe_op op_add (pv 7) pe_int) (pa_cons (pv 8) pa_nil)))))
      (pss_one (ps_ret (pe_tup (pa_cons (pe_op (r := rCatA K) op_catA (pe_tup (pa_cons (pv 0) pa_nil)) (pv 3)) (pa_cons (pv 4) (pa_cons (pe_op (r := rCatA K) op_catA (pv 1) (pe_callTy (r := rTupS K) call_tupS (by rfl) T.n_tuple (by decide +kernel) (pa_cons (pv 6) pa_nil))) pa_nil)))))))), ?_⟩
  obtain ⟨tr, xs, rfl, qr, hall⟩ := dp_tup_inv hrow
  cases hall with
  | cons d1 hall =>
  cases hall with
  | cons d2 hall =>
  cases hall with
  | cons d3 hall =>
  cases hall
  obtain rfl := dp_int_inv d2
  obtain ⟨ta, xa, rfl, qa, da⟩ := dp_tup_inv d1
  obtain ⟨tg, xg, rfl, qg, dg⟩ := dp_tup_inv d3
  refine ⟨_, rfl, tr, _, rfl, qr, rfl, _, _, rfl, _, _, rfl, _, _, rfl, rfl, ?_⟩
  refine ⟨_, rfl, tg, rfl, ⟨_, qg⟩, fun D hD => ?_⟩
  have xgl : xg.length = ga.length := by rw [dpAll_length dg, List.length_map]
  refine lc_tup (K := K) (a := tg) (xs := xg) (fun k H1 => Same H H1 ∧ ∃ ws, H1 D = some (.lst ws) ∧ DpAll K H1 ws (((ga.map fun p => (p.1 + 1, p.2)).take k).map fun p => .tuple [.int p.1, .int p.2])) ?_ ?_ ?_ ?_
  · exact ⟨same_new hD, [], upd_same, by simpa using .nil⟩
  · rintro k H1 _ ⟨s1, _⟩
    exact same_sqT s1 qg
  · rintro k x H1 hk ⟨s1, ws, eD, dw⟩
    obtain ⟨d, ed, hd⟩ := dpAll_get dg hk
    rw [List.getElem?_map] at ed
    obtain ⟨pp, ep, rfl⟩ := Option.map_eq_some_iff.mp ed
    obtain ⟨tp, xp, rfl, qp, dp⟩ := dp_tup_inv hd
    cases dp with
    | cons p1 dp =>
    cases dp with
    | cons p2 dp =>
    cases dp
    obtain rfl := dp_int_inv p1
    obtain rfl := dp_int_inv p2
    have hlt : k < ga.length := (List.getElem?_eq_some_iff.mp ep).1
    refine ⟨tp, _, rfl, same_sqT s1 qp, rfl, _, _, rfl, _, _, rfl, rfl, rfl, ?_⟩
    unfold tYes
    refine iteT ?_
    refine ⟨_, rfl, _, _, rfl, rfl, _, rfl, (by show 2 ≤ sizeLine; decide), fun t ht => ?_⟩
    obtain ⟨s2, d2⟩ := tup_fresh (K := K) (ds := [.int (pp.1 + 1), .int pp.2]) ht (.cons (.int _) (.cons (.int _) .nil))
    generalize (upd H1 t (.tup [.int (pp.1 + 1), .int pp.2])) = H2 at s2 d2 ⊢
    have eD2 := s2 _ _ eD
    have wl : ws.length = k := by
      rw [dpAll_length dw, List.length_map, List.length_take, List.length_map]
      omega
    refine ⟨ws, eD2, small1000 (by omega), ?_, ws ++ [.ref t], upd_same, ?_⟩
    · intro c o hc
      rw [upd_ne (ne_of_none hc hD)]
      exact s2 _ _ (s1 _ _ hc)
    · have e2 : (ga.map fun p => (p.1 + 1, p.2))[k]? = some (pp.1 + 1, pp.2) := by rw [List.getElem?_map, ep]; rfl
      rw [take_map (fun p : Int × Int => PyData.tuple [.int p.1, .int p.2]) e2]
      have kk : ∀ b xs, SqT K H2 b xs → SqT K (upd H2 D (.lst (ws ++ [.ref t]))) b xs := fun b xs h => (sx_upd (p := D)).sqT eD2 h
      exact dpAll_append (dpAll_keep kk (noLs_gates _) (dpAll_same s2 dw)) (.cons (dp_keep kk (by rfl) d2) .nil)
  · rintro H1 ⟨s1, ws, eD, dw⟩
    rw [xgl, ← List.length_map (f := fun p : Int × Int => (p.1 + 1, p.2)), List.take_length] at dw
    obtain rfl := ints_valsR da
    obtain ⟨tgo, xgo, rfl, qgo, dgo⟩ := dp_tup_inv hg
    have wl : ws.length = ga.length := by rw [dpAll_length dw, List.length_map, List.length_map]
    have gol : xgo.length = g.length := by rw [dpAll_length dgo, List.length_map]
    refine ⟨_, rfl, (by show 1 ≤ sizeLine; decide), fun t1 h1 => ?_⟩
    have s2 : Same H1 (upd H1 t1 (.tup [.int i])) := same_new h1
    have q1 : SqT K (upd H1 t1 (.tup [.int i])) t1 [.int i] := SqT.of upd_same
    generalize (upd H1 t1 (.tup [.int i])) = H2 at s2 q1 ⊢
    refine ⟨_, rfl, ?_⟩
    refine rCatA_d q1 (same_sqT (s1.trans s2) qa) (by rw [List.length_map]; exact small (by simp only [List.length_singleton]; omega)) (fun H3 t3 s3 q3 => ?_)
    have s13 := s1.trans (s2.trans s3)
    refine ⟨_, rfl, _, rfl, _, rfl, D, _, rfl, .inl ⟨SqL.of (s3 _ _ (s2 _ _ eD)), fun t4 h4 => ?_⟩⟩
    have s4 : Same H3 (upd H3 t4 (.tup ws)) := same_new h4
    have q4 : SqT K (upd H3 t4 (.tup ws)) t4 ws := SqT.of upd_same
    generalize (upd H3 t4 (.tup ws)) = H4 at s4 q4 ⊢
    refine rCatA_d (same_sqT (s13.trans s4) qgo) q4 (by exact small (by omega)) (fun H5 t5 s5 q5 => ?_)
    refine ⟨(by show 3 ≤ sizeLine; decide), fun t6 h6 => ?_⟩
    have s6 : Same H5 (upd H5 t6 (.tup [.ref t3, .int st, .ref t5])) := same_new h6
    have sall := s13.trans (s4.trans (s5.trans s6))
    refine q _ _ sall ?_
    refine .tup (SqT.of upd_same) (.cons (.tup (same_sqT (s4.trans (s5.trans s6)) q3) (ints_dpR (i :: ad))) (.cons (.int _) (.cons (.tup (same_sqT s6 q5) ?_) .nil)))
    rw [wRow, List.map_append]
    exact dpAll_append (dpAll_same sall dgo) (dpAll_same (s2.trans (s3.trans (s4.trans (s5.trans s6)))) dw)
/-- the rows of a job with few levels -/
def spRows (K : PySem.W.Frag) (n : Nat) : Sp := fun vs H Q _ => ∃ (v : V) (j : J), vs = [v] ∧ Dp K H v j.toD ∧ j.deep ≤ n ∧ j.deep ≤ 20 ∧ j.stb ∧ j.steps ≤ 400 ∧
  ∀ (H' : Hp) (l : Addr) (ws : List V), Same H H' → H l = none → H' l = some (.lst ws) → DpAll K H' ws (rowsD j.srows) → Q (.ref l) H'
def spIdxRows (K : PySem.W.Frag) (n : Nat) : Sp := fun vs H Q _ => ∃ (v : V) (j : J), vs = [v] ∧ Dp K H v j.toD ∧ isTup j.toD = true ∧ j.deep ≤ n + 1 ∧ j.deep ≤ 20 ∧ j.stb ∧ j.steps ≤ 400 ∧
  ∀ (H' : Hp) (l : Addr) (ws : List V), Same H H' → H l = none → H' l = some (.lst ws) → PrX K (fun b => H b = none) H' ws j.rss 0 → Q (.ref l) H'
theorem ok_idxrows (T : Txt K mg) {n : Nat} (g_step_rows : FnOk P w K mg base CX0 (2 * n + 1) T.f_step_rows T.d_step_rows ["job"] (spRows K n)) :
    FnOk P w K mg base CX0 (2 * n + 2) T.f__rows_by_index T.d__rows_by_index ["job"] (spIdxRows K n) := by
  refine T.F__rows_by_index.ok sc__rows_by_index (fun vs H Q E h => ?_) (fun cdv A outer s H vs Q E hr h => ?_)
  · obtain ⟨v, j, rfl, _⟩ := h
    rfl
  obtain ⟨v, j, rfl, hd, hj, hn, h20, hstb, h400, q⟩ := h
  refine ⟨_, (pss_cons (ps_if (pt_cmpR (r := rIn K false) op_in_seq (pe_ix (r := rIxT K) ix_tup (pv 0) pe_int (fun _ _ => rfl)) (pe_tup (pa_cons pe_str (pa_cons pe_str pa_nil))) (by rfl)) (pss_one (ps_ret (pe_lc (own := [("index", 2), ("part", 3)]) (g := (gTup K 2 (gCons (gName 2) (gCons (gName 3) gNil)))) (by rfl) sc__rows_by_index.nd (pi_enumT (by rfl) T.n_enumerate (pa_cons (pe_ix (r := rIxT K) ix_tup (pv 0) pe_int (fun _ _ => rfl)) pa_nil)) (blkOk_by (N := N__rows_by_index) (sc := (defScope s__rows_by_index)) (by decide +kernel)) (fun _ _ _ _ _ => (pg_tup (by rfl) (pgs_cons (pg_name (i := 2) sc__rows_by_index.nd rfl (Or.inl rfl)) (pgs_cons (pg_name (i := 3) sc__rows_by_index.nd rfl (Or.inl rfl)) pgs_nil)))) (fun _ _ _ _ _ => pts_nil) (fun _ _ _ _ _ => (pe_tup (pa_cons (pv 2) (pa_cons (pe_call g_step_rows (hr.mono (by omega)) rfl T.m_step_rows T.F_step_rows.kp T.b_step_rows .nil pass0 (pa_cons (pv 3) pa_nil)) pa_nil))))))) pss_nil)
      (pss_cons (ps_set (i := 1) sc__rows_by_index.nd rfl (Or.inr rfl) (pe_ifExp (pt_cmpR op_gt (pe_ix (r := rIxT K) ix_tup (pv 0) pe_int (fun _ _ => rfl)) pe_int (nomark _)) (pe_call g_step_rows (hr.mono (by omega)) rfl T.m_step_rows T.F_step_rows.kp T.b_step_rows .nil pass0 (pa_cons (pe_ix (r := rIxT K) ix_tup (pv 0) pe_int (fun _ _ => rfl)) pa_nil)) (pe_lst pa_nil)))
      (pss_one (ps_ret (pe_lc (own := [("index", 2)]) (g := (gName 2)) (by rfl) sc__rows_by_index.nd (pi_range1 rfl T.n_range (pa_cons (pe_ifExp (pt_truth (pv 1) (by intro _; rfl)) (pe_ix (r := rIxT K) ix_tup (pv 0) pe_int (fun _ _ => rfl)) pe_int) pa_nil)) (blkOk_by (N := N__rows_by_index) (sc := (defScope s__rows_by_index)) (by decide +kernel)) (fun _ _ _ _ _ => (pg_name (i := 2) sc__rows_by_index.nd rfl (Or.inl rfl))) (fun _ _ _ _ _ => pts_nil) (fun _ _ _ _ _ => (pe_tup (pa_cons (pv 2) (pa_cons (pv 1) pa_nil))))))))), ?_⟩
  cases j with
  | st i => cases hj
  | ps b xs =>
    simp only [J.deep] at hn h20
    simp only [J.stb] at hstb
    simp only [J.steps] at h400
    obtain ⟨c, e, vs, rfl, hys, hvs, hall⟩ := ps_inv hd
    have len : vs.length = xs.length := parts_len hall
    refine ⟨_, rfl, _, _, _, _, rfl, rfl, hys, rfl, (by show 2 ≤ sizeLine; decide), fun t ht => ?_⟩
    refine ⟨t, _, rfl, .inr (SqT.of upd_same), rfl, rfl, _, rfl, ?_⟩
    have s1 : Same H (upd H t (.tup [.str "seq", .str "par"])) := same_new ht
    show if inV (.str (kwP b)) [.str "seq", .str "par"] = true then _ else _
    rw [w_in_parts]
    refine iteT ?_
    generalize (upd H t (.tup [.str "seq", .str "par"])) = H1 at s1 ⊢
    refine ⟨_, rfl, _, _, _, _, rfl, rfl, same_sqT s1 hys, rfl, e, vs, rfl, same_sqT s1 hvs, fun D hD => ?_⟩
    refine lc_it (walk_enumT (xs := vs)) (fun k H2 => Same H1 H2 ∧ ∃ ws, H2 D = some (.lst ws) ∧ PrX K (fun b => H b = none ∧ b ≠ D) H2 ws ((J.srowss xs).take k) 0) ?_ ?_ ?_ ?_
    · exact ⟨same_new hD, [], upd_same, by simpa using .nil⟩
    · rintro k H2 _ ⟨s2, _⟩
      exact same_sqT s2 (same_sqT s1 hvs)
    · rintro k x H2 H3 hk ⟨s2, ws, eD, dw⟩ ⟨T1, x1, x2, rfl, hT, rfl, e1, e2⟩
      cases e1
      obtain ⟨y, ey, my, dy⟩ := parts_at hall e2
      have s3 : Same H2 (upd H2 T1 (.tup [.int (k : Nat), x2])) := same_new hT
      have q3 : SqT K (upd H2 T1 (.tup [.int (k : Nat), x2])) T1 [.int (k : Nat), x2] := SqT.of upd_same
      generalize (upd H2 T1 (.tup [.int (k : Nat), x2])) = H3 at s3 q3 ⊢
      refine ⟨T1, _, rfl, q3, rfl, _, _, rfl, _, _, rfl, rfl, rfl, ?_⟩
      unfold tYes
      refine iteT ?_
      have hyd := deep_mem my
      have hys400 : y.steps ≤ 400 := J.steps_part hstb.2 h400 my
      refine ⟨_, rfl, _, rfl, x2, y, rfl, dp_same (s1.trans (s2.trans s3)) dy, by omega, by omega, J.stbL_mem hstb.2 my, hys400, fun H4 l ws4 s4 n4 e4 d4 => ?_⟩
      refine ⟨(by show 2 ≤ sizeLine; decide), fun t ht => ?_⟩
      have eD3 := s3 _ _ eD
      have nlD : l ≠ D := fun z => by rw [z, eD3] at n4; cases n4
      have eD4 := s4 _ _ eD3
      have hlH : H l = none := (s1.trans (s2.trans s3)).free n4
      have s5 : Same H4 (upd H4 t (.tup [.int (k : Nat), .ref l])) := same_new ht
      have q5 : SqT K (upd H4 t (.tup [.int (k : Nat), .ref l])) t [.int (k : Nat), .ref l] := SqT.of upd_same
      generalize (upd H4 t (.tup [.int (k : Nat), .ref l])) = H5 at s5 q5 ⊢
      have s25 := s3.trans (s4.trans s5)
      have eD5 := s25 _ _ eD
      have wl : ws.length = k := by
        rw [dw.length, List.length_take, J.srowss_eq, List.length_map]
        omega
      refine ⟨ws, eD5, small1000 (by omega), ?_, ws ++ [.ref t], upd_same, ?_⟩
      · intro c2 o hc
        rw [upd_ne (ne_of_none hc hD)]
        exact s25 _ _ (s2 _ _ hc)
      · have e6 : (J.srowss xs).take (k + 1) = (J.srowss xs).take k ++ [y.srows] := by
          rw [J.srowss_eq, ← List.map_take, ← List.map_take, List.take_add_one, ey]
          simp
        have e7 : ((J.srowss xs).take k).length = k := by
          rw [List.length_take, J.srowss_eq, List.length_map]
          omega
        have kk : ∀ b xs, SqT K H5 b xs → SqT K (upd H5 D (.lst (ws ++ [.ref t]))) b xs := fun b xs h => (sx_upd (p := D)).sqT eD5 h
        have old := dw.keep (H' := upd H5 D (.lst (ws ++ [.ref t]))) (ne' := fun b => H b = none ∧ b ≠ D) (fun a xs h => kk _ _ (same_sqT s25 h)) (fun a o n h => by rw [upd_ne n.2]; exact s25 _ _ h) (fun _ h => h)
        rw [e6]
        refine old.snoc ?_ ⟨hlH, nlD⟩ (by rw [upd_ne nlD]; exact s5 _ _ e4) (dpAll_keep kk (noLs_rows _) (dpAll_same s5 d4))
        rw [e7, Int.zero_add]
        exact kk _ _ q5
    · rintro H2 ⟨s2, ws, eD, dw⟩
      rw [len, ← List.length_map (f := J.srows), ← J.srowss_eq, List.take_length] at dw
      exact q _ D ws (s1.trans s2) (Same.free' s1 hD) eD (dw.keep (fun _ _ h => h) (fun _ _ _ h => h) (fun _ h => h.1))
  | rn b c x =>
    simp only [J.deep] at hn h20
    have hstb' := hstb
    simp only [J.stb] at hstb
    simp only [J.steps] at h400
    obtain ⟨t0, z, rfl, hys, hx⟩ := rn_inv hd
    refine ⟨_, rfl, _, _, _, _, rfl, rfl, hys, rfl, (by show 2 ≤ sizeLine; decide), fun t ht => ?_⟩
    refine ⟨t, _, rfl, .inr (SqT.of upd_same), rfl, rfl, _, rfl, ?_⟩
    have s1 : Same H (upd H t (.tup [.str "seq", .str "par"])) := same_new ht
    show if inV (.str (kwR b)) [.str "seq", .str "par"] = true then _ else _
    rw [w_in_parts_no]
    refine iteF ?_
    generalize (upd H t (.tup [.str "seq", .str "par"])) = H1 at s1 ⊢
    have x0 := J.steps_nn' x hstb.2.1
    -- the rows of one round
    refine ⟨_, rfl, _, _, _, _, rfl, rfl, same_sqT s1 hys, rfl, _, _, rfl, rfl, _, rfl, ?_⟩
    refine ite2 (fun g => ?_) (fun g => ?_)
    · have g' : 0 < c := of_decide_eq_true g
      have xs400 : x.steps ≤ 400 := by
        have h1 : x.steps * 1 ≤ x.steps * c := Int.mul_le_mul_of_nonneg_left (by omega) x0
        omega
      refine ⟨_, rfl, _, _, _, _, rfl, rfl, same_sqT s1 hys, rfl, z, x, rfl, dp_same s1 hx, by omega, by omega, hstb.2.1, xs400, fun H2 l ws s2 n2 e2 d2 => ?_⟩
      have wl : ws.length = x.srows.length := by rw [dpAll_length d2, rowsD, List.length_map]
      have s12 := s1.trans s2
      have hlH : H l = none := s1.free n2
      refine ⟨_, rfl, !ws.isEmpty, .inl ⟨ws, SqL.of e2, rfl⟩, ?_⟩
      cases hw : ws.isEmpty with
      | true =>
        have hx0 : x.srows.isEmpty = true := by
          rw [List.isEmpty_iff_length_eq_zero, ← wl]
          exact List.isEmpty_iff_length_eq_zero.mp hw
        refine iteF ?_
        refine ⟨0, rfl, by decide, by decide, fun D hD => ?_⟩
        have nlD : l ≠ D := fun z => by rw [← z, e2] at hD; cases hD
        refine lc_range (lo := 0) (n := 0) (fun i H3 => Same H2 H3 ∧ ∃ us, H3 D = some (.lst us) ∧ PrX K (fun b => H b = none ∧ b ≠ D) H3 us (List.replicate i x.srows) 0) ?_ ?_ ?_
        · exact ⟨same_new hD, [], upd_same, by simpa using .nil⟩
        · rintro i H3 hi ⟨s3, us, eD, du⟩
          refine ⟨rfl, ?_⟩
          unfold tYes
          refine iteT ?_
          refine ⟨_, rfl, _, rfl, (by show 2 ≤ sizeLine; decide), fun t ht => ?_⟩
          have s5 : Same H3 (upd H3 t (.tup [.int (0 + (i : Int)), .ref l])) := same_new ht
          have q5 : SqT K (upd H3 t (.tup [.int (0 + (i : Int)), .ref l])) t [.int (0 + (i : Int)), .ref l] := SqT.of upd_same
          generalize (upd H3 t (.tup [.int (0 + (i : Int)), .ref l])) = H5 at s5 q5 ⊢
          have eD5 := s5 _ _ eD
          have ul : us.length = i := by
            rw [du.length, List.length_replicate]
          refine ⟨us, eD5, small1000 (by omega), ?_, us ++ [.ref t], upd_same, ?_⟩
          · intro c2 o hc
            rw [upd_ne (ne_of_none hc hD)]
            exact s5 _ _ (s3 _ _ hc)
          · have kk : ∀ b xs, SqT K H5 b xs → SqT K (upd H5 D (.lst (us ++ [.ref t]))) b xs := fun b xs h => (sx_upd (p := D)).sqT eD5 h
            have old := du.keep (H' := upd H5 D (.lst (us ++ [.ref t]))) (ne' := fun b => H b = none ∧ b ≠ D) (fun a xs h => kk _ _ (same_sqT s5 h)) (fun a o n h => by rw [upd_ne n.2]; exact s5 _ _ h) (fun _ h => h)
            rw [List.replicate_succ']
            refine old.snoc ?_ ⟨hlH, nlD⟩ (by rw [upd_ne nlD]; exact s5 _ _ (s3 _ _ e2)) (dpAll_keep kk (noLs_rows _) (dpAll_same (s3.trans s5) d2))
            rw [List.length_replicate]
            exact kk _ _ q5
        · rintro H3 ⟨s3, us, eD, du⟩
          refine q _ D us (s12.trans s3) (Same.free' s12 hD) eD ?_
          rw [J.rss, if_pos hx0]
          exact du.keep (fun _ _ h => h) (fun _ _ _ h => h) (fun _ h => h.1)
      | false =>
        have hx0 : ¬ x.srows.isEmpty = true := fun y => by
          rw [List.isEmpty_iff_length_eq_zero, ← wl, ← List.isEmpty_iff_length_eq_zero, hw] at y
          cases y
        have xpos : 0 < x.steps := by
          have h1 := J.srows_len x hstb.2.1
          have h2 : x.srows.length ≠ 0 := fun y => hx0 (List.isEmpty_iff_length_eq_zero.mpr y)
          omega
        have c400 : c ≤ 400 := by
          have h1 : 1 * c ≤ x.steps * c := Int.mul_le_mul_of_nonneg_right (by omega) (by omega)
          omega
        refine iteT ?_
        refine ⟨_, rfl, _, _, _, _, rfl, rfl, same_sqT s12 hys, rfl, c, rfl, by omega, by omega, fun D hD => ?_⟩
        have nlD : l ≠ D := fun z => by rw [← z, e2] at hD; cases hD
        refine lc_range (lo := 0) (n := c.toNat) (fun i H3 => Same H2 H3 ∧ ∃ us, H3 D = some (.lst us) ∧ PrX K (fun b => H b = none ∧ b ≠ D) H3 us (List.replicate i x.srows) 0) ?_ ?_ ?_
        · exact ⟨same_new hD, [], upd_same, by simpa using .nil⟩
        · rintro i H3 hi ⟨s3, us, eD, du⟩
          refine ⟨rfl, ?_⟩
          unfold tYes
          refine iteT ?_
          refine ⟨_, rfl, _, rfl, (by show 2 ≤ sizeLine; decide), fun t ht => ?_⟩
          have s5 : Same H3 (upd H3 t (.tup [.int (0 + (i : Int)), .ref l])) := same_new ht
          have q5 : SqT K (upd H3 t (.tup [.int (0 + (i : Int)), .ref l])) t [.int (0 + (i : Int)), .ref l] := SqT.of upd_same
          generalize (upd H3 t (.tup [.int (0 + (i : Int)), .ref l])) = H5 at s5 q5 ⊢
          have eD5 := s5 _ _ eD
          have ul : us.length = i := by
            rw [du.length, List.length_replicate]
          refine ⟨us, eD5, small1000 (by omega), ?_, us ++ [.ref t], upd_same, ?_⟩
          · intro c2 o hc
            rw [upd_ne (ne_of_none hc hD)]
            exact s5 _ _ (s3 _ _ hc)
          · have kk : ∀ b xs, SqT K H5 b xs → SqT K (upd H5 D (.lst (us ++ [.ref t]))) b xs := fun b xs h => (sx_upd (p := D)).sqT eD5 h
            have old := du.keep (H' := upd H5 D (.lst (us ++ [.ref t]))) (ne' := fun b => H b = none ∧ b ≠ D) (fun a xs h => kk _ _ (same_sqT s5 h)) (fun a o n h => by rw [upd_ne n.2]; exact s5 _ _ h) (fun _ h => h)
            rw [List.replicate_succ']
            refine old.snoc ?_ ⟨hlH, nlD⟩ (by rw [upd_ne nlD]; exact s5 _ _ (s3 _ _ e2)) (dpAll_keep kk (noLs_rows _) (dpAll_same (s3.trans s5) d2))
            rw [List.length_replicate]
            exact kk _ _ q5
        · rintro H3 ⟨s3, us, eD, du⟩
          refine q _ D us (s12.trans s3) (Same.free' s12 hD) eD ?_
          rw [J.rss, if_neg hx0]
          exact du.keep (fun _ _ h => h) (fun _ _ _ h => h) (fun _ h => h.1)
    · have g' : c = 0 := by
        have : ¬ 0 < c := fun y => g (decide_eq_true y)
        omega
      subst g'
      refine ⟨(by show 0 ≤ sizeLine; decide), fun l hl => ?_⟩
      have s2 : Same H1 (upd H1 l (.lst [])) := same_new hl
      have hlH : H l = none := s1.free hl
      have e2 : upd H1 l (.lst []) l = some (.lst []) := upd_same
      generalize (upd H1 l (.lst [])) = H2 at s2 e2 ⊢
      have s12 := s1.trans s2
      have d2 : DpAll K H2 [] (rowsD []) := .nil
      refine ⟨_, rfl, false, .inl ⟨[], SqL.of e2, rfl⟩, ?_⟩
      refine iteF ?_
      refine ⟨0, rfl, by decide, by decide, fun D hD => ?_⟩
      have nlD : l ≠ D := fun z => by rw [← z, e2] at hD; cases hD
      refine lc_range (lo := 0) (n := 0) (fun i H3 => Same H2 H3 ∧ ∃ us, H3 D = some (.lst us) ∧ PrX K (fun b => H b = none ∧ b ≠ D) H3 us (List.replicate i ([] : List SRow)) 0) ?_ ?_ ?_
      · exact ⟨same_new hD, [], upd_same, by simpa using .nil⟩
      · rintro i H3 hi ⟨s3, us, eD, du⟩
        refine ⟨rfl, ?_⟩
        unfold tYes
        refine iteT ?_
        refine ⟨_, rfl, _, rfl, (by show 2 ≤ sizeLine; decide), fun t ht => ?_⟩
        have s5 : Same H3 (upd H3 t (.tup [.int (0 + (i : Int)), .ref l])) := same_new ht
        have q5 : SqT K (upd H3 t (.tup [.int (0 + (i : Int)), .ref l])) t [.int (0 + (i : Int)), .ref l] := SqT.of upd_same
        generalize (upd H3 t (.tup [.int (0 + (i : Int)), .ref l])) = H5 at s5 q5 ⊢
        have eD5 := s5 _ _ eD
        have ul : us.length = i := by
          rw [du.length, List.length_replicate]
        refine ⟨us, eD5, small1000 (by omega), ?_, us ++ [.ref t], upd_same, ?_⟩
        · intro c2 o hc
          rw [upd_ne (ne_of_none hc hD)]
          exact s5 _ _ (s3 _ _ hc)
        · have kk : ∀ b xs, SqT K H5 b xs → SqT K (upd H5 D (.lst (us ++ [.ref t]))) b xs := fun b xs h => (sx_upd (p := D)).sqT eD5 h
          have old := du.keep (H' := upd H5 D (.lst (us ++ [.ref t]))) (ne' := fun b => H b = none ∧ b ≠ D) (fun a xs h => kk _ _ (same_sqT s5 h)) (fun a o n h => by rw [upd_ne n.2]; exact s5 _ _ h) (fun _ h => h)
          rw [List.replicate_succ']
          refine old.snoc ?_ ⟨hlH, nlD⟩ (by rw [upd_ne nlD]; exact s5 _ _ (s3 _ _ e2)) (dpAll_keep kk (noLs_rows _) (dpAll_same (s3.trans s5) d2))
          rw [List.length_replicate]
          exact kk _ _ q5
      · rintro H3 ⟨s3, us, eD, du⟩
        refine q _ D us (s12.trans s3) (Same.free' s12 hD) eD ?_
        have e0 : (J.rn b 0 x).rss = [] := by
          rw [J.rss]
          split <;> rfl
        rw [e0]
        exact du.keep (fun _ _ h => h) (fun _ _ _ h => h) (fun _ h => h.1)
theorem w_in_srR (k : Bool) : inV (.str (kwP k)) [.str "seq", .str "repeat"] = !k := by cases k <;> decide +kernel
theorem w_in_srR2 (k : Bool) : inV (.str (kwR k)) [.str "seq", .str "repeat"] = !k := by cases k <;> decide +kernel
/-- which job it is: in sequence or side by side -/
def J.sq : J → Bool
  | .st _ => false
  | .ps b _ => !b
  | .rn b _ _ => !b
theorem J.srows_rss {j : J} (h : isTup j.toD = true) : j.srows = packs j.sq j.rss 0 [] := by
  cases j with
  | st i => cases h
  | ps b xs => rfl
  | rn b n x => rfl
theorem j_word {K : PySem.W.Frag} {H : Hp} {v : V} {j : J} (h : isTup j.toD = true) (hd : Dp K H v j.toD) : ∃ (t : Addr) (ys : List V) (x : Str), v = .ref t ∧ SqT K H t (.str x :: ys) ∧ inV (.str x) [.str "seq", .str "repeat"] = j.sq := by
  cases j with
  | st i => cases h
  | ps b xs =>
    obtain ⟨c, e, vs, rfl, hys, _⟩ := ps_inv hd
    exact ⟨c, _, _, rfl, hys, w_in_srR b⟩
  | rn b n x =>
    obtain ⟨c, y, rfl, hys, _⟩ := rn_inv hd
    exact ⟨c, _, _, rfl, hys, w_in_srR2 b⟩
theorem packs_take {sq : Bool} {rss : List (List SRow)} {k : Nat} {rs : List SRow} (e : rss[k]? = some rs) : ∀ (i : Int) (acc : List SRow), packs sq (rss.take (k + 1)) i acc = packs sq (rss.take k) i acc ++ rs.map (wRow (i + (k : Int)) (gateOf sq (packs sq (rss.take k) i acc).length)) := by
  induction rss generalizing k with
  | nil => simp at e
  | cons r rr ih =>
    intro i acc
    cases k with
    | zero =>
      simp only [List.getElem?_cons_zero, Option.some.injEq] at e
      subst e
      simp [packs]
    | succ k =>
      simp only [List.getElem?_cons_succ] at e
      simp only [List.take_succ_cons, packs]
      rw [ih e, show i + 1 + (k : Int) = i + ((k + 1 : Nat) : Int) by omega]
theorem packs_le (sq : Bool) (rss : List (List SRow)) (k : Nat) : (packs sq (rss.take k) 0 []).length ≤ (packs sq rss 0 []).length := by
  rw [packs_len, packs_len]
  have e : rss = rss.take k ++ rss.drop k := (List.take_append_drop _ _).symm
  conv =>
    rhs
    rw [e, List.map_append, List.sum_append]
  omega
theorem J.rss_bd {j : J} {rs : List SRow} (h : rs ∈ j.rss) : ∀ r ∈ rs, r.1.length ≤ j.deep ∧ r.2.2.length ≤ j.deep := by
  cases j with
  | st i => simp [J.rss] at h
  | ps b xs =>
    intro r hr
    have := J.srowss_bd xs rs h r hr
    simp only [J.deep]
    omega
  | rn b n x =>
    intro r hr
    obtain ⟨_, rfl⟩ := List.mem_replicate.mp h
    have := J.srows_bd x r hr
    simp only [J.deep]
    omega
theorem ok_rows_next (T : Txt K mg) {n : Nat} (g__rows_by_index : FnOk P w K mg base CX0 (2 * n + 2) T.f__rows_by_index T.d__rows_by_index ["job"] (spIdxRows K n)) :
    FnOk P w K mg base CX0 (2 * n + 3) T.f_step_rows T.d_step_rows ["job"] (spRows K (n + 1)) := by
  have g_is_integer := ok_isint (P := P) (w := w) (base := base) T
  have g__row_within := ok_rowin (P := P) (w := w) (base := base) T
  refine T.F_step_rows.ok sc_step_rows (fun vs H Q E h => ?_) (fun cdv A outer s H vs Q E hr h => ?_)
  · obtain ⟨v, j, rfl, _⟩ := h
    rfl
  obtain ⟨v, j, rfl, hd, hn, h20, hstb, h400, q⟩ := h
  refine ⟨_, (pss_cons (ps_if (pt_val (pe_call g_is_integer (hr.mono (by omega)) rfl T.m_is_integer T.F_is_integer.kp T.b_is_integer .nil pass0 (pa_cons (pv 0) pa_nil))) (pss_one (ps_ret (pe_lst (pa_cons (pe_tup (pa_cons (pe_tup pa_nil) (pa_cons (pv 0) (pa_cons (pe_tup pa_nil) pa_nil)))) pa_nil)))) pss_nil)
      (pss_cons (ps_set (i := 1) sc_step_rows.nd rfl (Or.inl rfl) (pe_lst pa_nil))
      (pss_cons (ps_for PassesOwn.never rfl (pi_list (pe_call g__rows_by_index (hr.mono (by omega)) rfl T.m__rows_by_index T.F__rows_by_index.kp T.b__rows_by_index .nil pass0 (pa_cons (pv 0) pa_nil))) (pg_tup (by rfl) (pgs_cons (pg_name (i := 2) sc_step_rows.nd rfl (Or.inr rfl)) (pgs_cons (pg_name (i := 3) sc_step_rows.nd rfl (Or.inl rfl)) pgs_nil)))
        (pss_cons (ps_set (i := 4) sc_step_rows.nd rfl (Or.inr rfl) (pe_ifExp (pt_cmpR (r := rIn K false) op_in_seq (pe_ix (r := rIxT K) ix_tup (pv 0) pe_int (fun _ _ => rfl)) (pe_tup (pa_cons pe_str (pa_cons pe_str pa_nil))) (by rfl)) (pe_tup (pa_cons (pe_tup (pa_cons pe_int (pa_cons (pe_callB (r := rLenS K) call_lenS (by rfl) T.n_len (by decide +kernel) (pa_cons (pv 1) pa_nil)) pa_nil))) pa_nil)) (pe_tup pa_nil)))
        (pss_one (ps_expr (pe_bm PySem.F.plainAttrs_list PySem.F.slot_list_extend PySem.F.type_list_extend mt_extend (pv 1) (pa_cons (pe_lc (own := [("row", 5)]) (g := (gName 5)) (by rfl) sc_step_rows.nd (pi_list (pv 3)) (blkOk_by (N := N_step_rows) (sc := (defScope s_step_rows)) (by decide +kernel)) (fun _ _ _ _ _ => (pg_name (i := 5) sc_step_rows.nd rfl (Or.inl rfl))) (fun _ _ _ _ _ => pts_nil) (fun _ _ _ _ _ => (pe_call g__row_within (hr.mono (by omega)) rfl T.m__row_within T.F__row_within.kp T.b__row_within .nil pass0 (pa_cons (pv 2) (pa_cons (pv 4) (pa_cons (pv 5) pa_nil)))))) pa_nil))))))
      (pss_one (ps_ret (pv 1)))))), ?_⟩
  refine ⟨_, rfl, v, _, rfl, hd, _, rfl, ?_⟩
  cases ej : isTup j.toD with
  | false =>
    cases j with
    | ps b xs => cases ej
    | rn b c x => cases ej
    | st i =>
    refine iteT ?_
    obtain rfl := dp_int_inv hd
    refine ⟨(by show 0 ≤ sizeLine; decide), fun t1 h1 => ?_⟩
    obtain ⟨s1, d1⟩ := tup_fresh (K := K) (ds := []) h1 .nil
    generalize (upd H t1 (.tup [])) = H1 at s1 d1 ⊢
    refine ⟨_, rfl, (by show 0 ≤ sizeLine; decide), fun t2 h2 => ?_⟩
    obtain ⟨s2, d2⟩ := tup_fresh (K := K) (ds := []) h2 .nil
    generalize (upd H1 t2 (.tup [])) = H2 at s2 d2 ⊢
    refine ⟨(by show 3 ≤ sizeLine; decide), fun t3 h3 => ?_⟩
    obtain ⟨s3, d3⟩ := tup_fresh (K := K) (ds := [.tuple [], .int i, .tuple []]) h3 (.cons (dp_same s2 d1) (.cons (.int _) (.cons d2 .nil)))
    generalize (upd H2 t3 (.tup [.ref t1, .int i, .ref t2])) = H3 at s3 d3 ⊢
    refine ⟨(by show 1 ≤ sizeLine; decide), fun l hl => ?_⟩
    have s13 := s1.trans (s2.trans s3)
    have s4 : Same H3 (upd H3 l (.lst [.ref t3])) := same_new hl
    exact q _ l [.ref t3] (s13.trans s4) (s13.free hl) upd_same (.cons (dp_same s4 d3) .nil)
  | true =>
  have ei : (isInt j.toD && !isBoo j.toD) = false := by
    cases j with
    | st i => cases ej
    | ps b xs => rfl
    | rn b c x => rfl
  rw [ei]
  refine iteF ?_
  refine ⟨(by show 0 ≤ sizeLine; decide), fun L hL => ?_⟩
  have s1 : Same H (upd H L (.lst [])) := same_new hL
  have eL : upd H L (.lst []) L = some (.lst []) := upd_same
  generalize (upd H L (.lst [])) = H1 at s1 eL ⊢
  refine ⟨_, rfl, v, j, rfl, dp_same s1 hd, ej, hn, h20, hstb, h400, fun H2 l ws s2 n2 e2 d2 => ?_⟩
  have nLl : l ≠ L := fun z => by rw [z, eL] at n2; cases n2
  have d2' : PrX K (fun b => b ≠ L) H2 ws j.rss 0 := d2.keep (fun _ _ h => h) (fun _ _ _ h => h) (fun a h z => by rw [z, eL] at h; cases h)
  obtain ⟨tj, ysj, xj, rfl, hwj, hsq⟩ := j_word ej (dp_same (s1.trans s2) hd)
  have tot := J.srows_len j hstb
  refine ⟨l, rfl, ⟨ws, SqL.of e2⟩, ?_⟩
  refine for_list (K := K) (a := l) (xs := ws) (fun i σ G => ∃ (y2 y3 y4 : Option V) (fs : List V), σ = [some (.ref tj), some (.ref L), y2, y3, y4, none] ∧ Sx L H2 G ∧ G L = some (.lst fs) ∧ DpAll K G fs (rowsD (packs j.sq (j.rss.take i) 0 [])))
    ⟨none, none, none, [], rfl, Sx.refl, s2 _ _ eL, .nil⟩ (fun i σ G _ ⟨_, _, _, _, _, s3, _⟩ => SqL.of (s3 _ _ nLl e2)) ?_ ?_
  · rintro i x σ G hi ⟨y2, y3, y4, fs, rfl, s3, eG, dG⟩
    have eL2 := s2 _ _ eL
    have kk : ∀ a xs, SqT K H2 a xs → SqT K G a xs := fun a xs h => s3.sqT eL2 h
    obtain ⟨t, la, rws, rs, ers, rfl, qt, nla, ela, drs⟩ := d2'.get hi
    rw [Int.zero_add] at qt
    have ela' := s3 _ _ nla ela
    refine ⟨t, _, rfl, kk _ _ qt, rfl, _, _, rfl, _, _, rfl, rfl, ?_⟩
    refine ⟨_, rfl, _, _, _, _, rfl, rfl, kk _ _ hwj, atI_at (j := 0) rfl rfl, (by show 2 ≤ sizeLine; decide), fun t1 h1 => ?_⟩
    refine ⟨t1, _, rfl, .inr (SqT.of upd_same), rfl, rfl, _, rfl, ?_⟩
    have u1 : Same G (upd G t1 (.tup [.str "seq", .str "repeat"])) := same_new h1
    show if inV (.str xj) [.str "seq", .str "repeat"] = true then _ else _
    rw [hsq]
    generalize (upd G t1 (.tup [.str "seq", .str "repeat"])) = G1 at u1 ⊢
    cases hq : j.sq with
    | true =>
      refine iteT ?_
      refine ⟨_, rfl, L, _, rfl, .inl (SqL.of (u1 _ _ eG)), (by show 2 ≤ sizeLine; decide), fun ta ha => ?_⟩
      obtain ⟨u2, da⟩ := tup_fresh (K := K) (ds := [.int 0, .int (fs.length : Nat)]) ha (.cons (.int _) (.cons (.int _) .nil))
      generalize (upd G1 ta (.tup [.int 0, .int (fs.length : Nat)])) = Ga at u2 da ⊢
      refine ⟨(by show 1 ≤ sizeLine; decide), fun tb hb => ?_⟩
      obtain ⟨u3, dg⟩ := tup_fresh (K := K) (ds := [.tuple [.int 0, .int (fs.length : Nat)]]) hb (.cons da .nil)
      have dg : Dp K _ (.ref tb) (gatesD [((0 : Int), (fs.length : Int))]) := dg
      generalize (upd Ga tb (.tup [.ref ta])) = G2 at u3 dg ⊢
      have sG := u1.trans (u2.trans u3)
      have d20 := J.rss_bd (List.mem_of_getElem? ers)
      have eG3 := sG _ _ eG
      have ela3 := sG _ _ ela'
      have rl : rws.length = rs.length := by rw [dpAll_length drs, rowsD, List.length_map]
      have tot2 : fs.length + rs.length ≤ 400 := by
        have h1 := packs_le j.sq j.rss (i + 1)
        rw [packs_take ers 0 [], List.length_append, List.length_map, ← J.srows_rss ej] at h1
        have h2 : fs.length = (packs j.sq (j.rss.take i) 0 []).length := by rw [dpAll_length dG, rowsD, List.length_map]
        omega
      refine ⟨_, rfl, .inl ⟨rfl, fs, SqL.of eG3⟩, ?_⟩
      refine ⟨_, rfl, la, rfl, ⟨rws, SqL.of ela3⟩, fun D hD => ?_⟩
      refine lc_list (K := K) (a := la) (xs := rws) (fun k F => Same G2 F ∧ ∃ us, F D = some (.lst us) ∧ DpAll K F us (rowsD ((rs.take k).map (wRow (i : Nat) [((0 : Int), (fs.length : Int))])))) ?_ ?_ ?_ ?_
      · exact ⟨same_new hD, [], upd_same, by simpa [rowsD] using .nil⟩
      · rintro k F _ ⟨sF, _⟩
        exact SqL.of (sF _ _ ela3)
      · rintro k x F hk ⟨sF, us, eD, du⟩
        obtain ⟨d, ed, hdx⟩ := dpAll_get drs hk
        rw [rowsD, List.getElem?_map] at ed
        obtain ⟨rr, er, rfl⟩ := Option.map_eq_some_iff.mp ed
        have bd := d20 rr (List.mem_of_getElem? er)
        have kr : k < rs.length := (List.getElem?_eq_some_iff.mp er).1
        have dx : Dp K F x (rowD rr) := dp_same (sG.trans sF) (dp_keep kk (noL_row rr) hdx)
        refine ⟨rfl, ?_⟩
        unfold tYes
        refine iteT ?_
        refine ⟨_, rfl, _, rfl, _, rfl, (i : Nat), .ref tb, x, [((0 : Int), (fs.length : Int))], rr, rfl, dp_same sF dg, dx, by simp, by omega, by omega, fun F2 v s4 d4 => ?_⟩
        have ul : us.length = k := by
          rw [dpAll_length du, rowsD, List.length_map, List.length_map, List.length_take]
          omega
        have eD2 := s4 _ _ eD
        refine ⟨us, eD2, small1000 (by omega), ?_, us ++ [v], upd_same, ?_⟩
        · intro c2 o hc
          rw [upd_ne (ne_of_none hc hD)]
          exact s4 _ _ (sF _ _ hc)
        · have k2 : ∀ b xs, SqT K F2 b xs → SqT K (upd F2 D (.lst (us ++ [v]))) b xs := fun b xs h => (sx_upd (p := D)).sqT eD2 h
          rw [take_map (wRow (i : Nat) [((0 : Int), (fs.length : Int))]) er, rowsD, List.map_append]
          exact dpAll_append (dpAll_keep k2 (noLs_rows _) (dpAll_same s4 du)) (.cons (dp_keep k2 (noL_row _) d4) .nil)
      · rintro F ⟨sF, us, eD, du⟩
        rw [rl, List.take_length] at du
        have ul : us.length = rs.length := by rw [dpAll_length du, rowsD, List.length_map, List.length_map]
        have eF := sF _ _ eG3
        refine ⟨L, D, fs, us, rfl, rfl, eF, eD, small (by omega), ?_⟩
        have k3 : ∀ b xs, SqT K F b xs → SqT K (upd F L (.lst (fs ++ us))) b xs := fun b xs h => (sx_upd (p := L)).sqT eF h
        refine ⟨_, _, _, fs ++ us, rfl, ?_, upd_same, ?_⟩
        · exact s3.trans ((Same.sx (sG.trans sF)).trans sx_upd)
        · have hl : (packs j.sq (j.rss.take i) 0 []).length = fs.length := by rw [dpAll_length dG, rowsD, List.length_map]
          rw [hq] at hl dG
          rw [packs_take ers 0 [], Int.zero_add, rowsD, List.map_append, hl]
          exact dpAll_append (dpAll_keep k3 (noLs_rows _) (dpAll_same (sG.trans sF) dG)) (dpAll_keep k3 (noLs_rows _) du)
    | false =>
      refine iteF ?_
      refine ⟨(by show 0 ≤ sizeLine; decide), fun tb hb => ?_⟩
      obtain ⟨u3, dg⟩ := tup_fresh (K := K) (ds := []) hb .nil
      have dg : Dp K _ (.ref tb) (gatesD []) := dg
      generalize (upd G1 tb (.tup [])) = G2 at u3 dg ⊢
      have sG := u1.trans u3
      have d20 := J.rss_bd (List.mem_of_getElem? ers)
      have eG3 := sG _ _ eG
      have ela3 := sG _ _ ela'
      have rl : rws.length = rs.length := by rw [dpAll_length drs, rowsD, List.length_map]
      have tot2 : fs.length + rs.length ≤ 400 := by
        have h1 := packs_le j.sq j.rss (i + 1)
        rw [packs_take ers 0 [], List.length_append, List.length_map, ← J.srows_rss ej] at h1
        have h2 : fs.length = (packs j.sq (j.rss.take i) 0 []).length := by rw [dpAll_length dG, rowsD, List.length_map]
        omega
      refine ⟨_, rfl, .inl ⟨rfl, fs, SqL.of eG3⟩, ?_⟩
      refine ⟨_, rfl, la, rfl, ⟨rws, SqL.of ela3⟩, fun D hD => ?_⟩
      refine lc_list (K := K) (a := la) (xs := rws) (fun k F => Same G2 F ∧ ∃ us, F D = some (.lst us) ∧ DpAll K F us (rowsD ((rs.take k).map (wRow (i : Nat) ([] : List (Int × Int)))))) ?_ ?_ ?_ ?_
      · exact ⟨same_new hD, [], upd_same, by simpa [rowsD] using .nil⟩
      · rintro k F _ ⟨sF, _⟩
        exact SqL.of (sF _ _ ela3)
      · rintro k x F hk ⟨sF, us, eD, du⟩
        obtain ⟨d, ed, hdx⟩ := dpAll_get drs hk
        rw [rowsD, List.getElem?_map] at ed
        obtain ⟨rr, er, rfl⟩ := Option.map_eq_some_iff.mp ed
        have bd := d20 rr (List.mem_of_getElem? er)
        have kr : k < rs.length := (List.getElem?_eq_some_iff.mp er).1
        have dx : Dp K F x (rowD rr) := dp_same (sG.trans sF) (dp_keep kk (noL_row rr) hdx)
        refine ⟨rfl, ?_⟩
        unfold tYes
        refine iteT ?_
        refine ⟨_, rfl, _, rfl, _, rfl, (i : Nat), .ref tb, x, ([] : List (Int × Int)), rr, rfl, dp_same sF dg, dx, by simp, by omega, by omega, fun F2 v s4 d4 => ?_⟩
        have ul : us.length = k := by
          rw [dpAll_length du, rowsD, List.length_map, List.length_map, List.length_take]
          omega
        have eD2 := s4 _ _ eD
        refine ⟨us, eD2, small1000 (by omega), ?_, us ++ [v], upd_same, ?_⟩
        · intro c2 o hc
          rw [upd_ne (ne_of_none hc hD)]
          exact s4 _ _ (sF _ _ hc)
        · have k2 : ∀ b xs, SqT K F2 b xs → SqT K (upd F2 D (.lst (us ++ [v]))) b xs := fun b xs h => (sx_upd (p := D)).sqT eD2 h
          rw [take_map (wRow (i : Nat) ([] : List (Int × Int))) er, rowsD, List.map_append]
          exact dpAll_append (dpAll_keep k2 (noLs_rows _) (dpAll_same s4 du)) (.cons (dp_keep k2 (noL_row _) d4) .nil)
      · rintro F ⟨sF, us, eD, du⟩
        rw [rl, List.take_length] at du
        have ul : us.length = rs.length := by rw [dpAll_length du, rowsD, List.length_map, List.length_map]
        have eF := sF _ _ eG3
        refine ⟨L, D, fs, us, rfl, rfl, eF, eD, small (by omega), ?_⟩
        have k3 : ∀ b xs, SqT K F b xs → SqT K (upd F L (.lst (fs ++ us))) b xs := fun b xs h => (sx_upd (p := L)).sqT eF h
        refine ⟨_, _, _, fs ++ us, rfl, ?_, upd_same, ?_⟩
        · exact s3.trans ((Same.sx (sG.trans sF)).trans sx_upd)
        · have hl : (packs j.sq (j.rss.take i) 0 []).length = fs.length := by rw [dpAll_length dG, rowsD, List.length_map]
          rw [hq] at hl dG
          rw [packs_take ers 0 [], Int.zero_add, rowsD, List.map_append, hl]
          exact dpAll_append (dpAll_keep k3 (noLs_rows _) (dpAll_same (sG.trans sF) dG)) (dpAll_keep k3 (noLs_rows _) du)
  · rintro σ G ⟨y2, y3, y4, fs, rfl, s3, eG, dG⟩
    rw [d2.length, List.take_length, ← J.srows_rss ej] at dG
    refine ⟨_, rfl, ?_⟩
    refine q G L fs ?_ hL eG dG
    intro b o hb
    have nb : b ≠ L := ne_of_none hb hL
    exact s3 _ _ nb (s2 _ _ (s1 _ _ hb))
theorem ok_rows (T : Txt K mg) : ∀ n : Nat, FnOk P w K mg base CX0 (2 * n + 1) T.f_step_rows T.d_step_rows ["job"] (spRows K n)
  | 0 => by
    have no : ∀ vs H Q E, ¬ spRows K 0 vs H Q E := by
      rintro vs H Q E ⟨v, j, _, _, h, _⟩
      have := J.deep_pos j
      omega
    exact ⟨fun vs H Q E h => absurd h (no vs H Q E), fun A outer s H args us vs Q E _ _ _ _ h => absurd h (no vs H Q E)⟩
  | n + 1 => ok_rows_next T (ok_idxrows T (ok_rows T n))
/-- jobs that are small -/
def spCkSmall (K : PySem.W.Frag) : Sp := fun vs H Q _ => ∃ (v : V) (j : J), vs = [v] ∧ Dp K H v j.toD ∧ j.deep ≤ 20 ∧ (szJ j 400 13).isSome = true ∧ j.steps ≤ 400 ∧ ∀ H', Same H H' → Q .non H'
theorem ok_cksmall (T : Txt K mg) : FnOk P w K mg base CX0 44 T.f_check_small T.d_check_small ["job"] (spCkSmall K) := by
  have g_checked_sizes := ok_checked (P := P) (w := w) (base := base) T
  refine T.F_check_small.ok sc_check_small (fun vs H Q E h => ?_) (fun cdv A outer s H vs Q E hr h => ?_)
  · obtain ⟨v, j, rfl, _⟩ := h
    rfl
  obtain ⟨v, j, rfl, hd, h20, hs, h400, q⟩ := h
  obtain ⟨⟨a, b⟩, ez⟩ := Option.isSome_iff_exists.mp hs
  have eb := (szJ_inv j 400 13 a b ez).2.2.2.2
  refine ⟨_, (pss_one (ps_if (pt_cmpR op_gt (pe_ix (r := rIxT K) ix_tup (pe_call g_checked_sizes (hr.mono (by omega)) rfl T.m_checked_sizes T.F_checked_sizes.kp T.b_checked_sizes .nil pass0 (pa_cons (pv 0) pa_nil)) pe_int (fun _ _ => rfl)) (pe_glob (v := .int 400) rfl T.g_MAX_SMALL ⟨_, rfl⟩) (nomark _)) (pss_one ps_never) pss_nil)), ?_⟩
  refine ⟨_, rfl, v, j, a, b, rfl, hd, h20, ez, fun H1 t s1 e1 => ?_⟩
  refine ⟨_, _, _, _, rfl, rfl, SqT.of e1, rfl, _, _, rfl, rfl, _, rfl, ?_⟩
  refine ite2 (fun g => ?_) (fun g => ?_)
  · have : (400 : Int) < b := of_decide_eq_true g
    omega
  · exact q _ s1
def spAllAdr (K : PySem.W.Frag) : Sp := fun vs H Q _ => ∃ (v : V) (j : J), vs = [v] ∧ Dp K H v j.toD ∧ (szJ j 400 13).isSome = true ∧ j.steps ≤ 400 ∧ ∀ (H' : Hp) (v : V), Same H H' → Dp K H' v (.tuple (adDs j.adr)) → Q v H'
theorem ok_alladr (T : Txt K mg) : FnOk P w K mg base CX0 45 T.f_all_addresses T.d_all_addresses ["job"] (spAllAdr K) := by
  have g_check_small := ok_cksmall (P := P) (w := w) (base := base) T
  have g_step_rows : FnOk P w K mg base CX0 41 T.f_step_rows T.d_step_rows ["job"] (spRows K 20) := ok_rows T 20
  refine T.F_all_addresses.ok sc_all_addresses (fun vs H Q E h => ?_) (fun cdv A outer s H vs Q E hr h => ?_)
  · obtain ⟨v, j, rfl, _⟩ := h
    rfl
  obtain ⟨v, j, rfl, hd, hs, h400, q⟩ := h
  obtain ⟨⟨a, b⟩, ez⟩ := Option.isSome_iff_exists.mp hs
  have inv := szJ_inv j 400 13 a b ez
  have hdp : j.deep ≤ 13 := by have := inv.2.2.1; omega
  have hstb := J.stb_ok j inv.1
  refine ⟨_, (pss_cons (ps_expr (pe_call g_check_small (hr.mono (by omega)) rfl T.m_check_small T.F_check_small.kp T.b_check_small .nil pass0 (pa_cons (pv 0) pa_nil)))
      (pss_one (ps_ret (pe_callTy (r := rTupS K) call_tupS (by rfl) T.n_tuple (by decide +kernel) (pa_cons (pe_lc (own := [("row", 1)]) (g := (gName 1)) (by rfl) sc_all_addresses.nd (pi_list (pe_call g_step_rows (hr.mono (by omega)) rfl T.m_step_rows T.F_step_rows.kp T.b_step_rows .nil pass0 (pa_cons (pv 0) pa_nil))) (blkOk_by (N := N_all_addresses) (sc := (defScope s_all_addresses)) (by decide +kernel)) (fun _ _ _ _ _ => (pg_name (i := 1) sc_all_addresses.nd rfl (Or.inl rfl))) (fun _ _ _ _ _ => pts_nil) (fun _ _ _ _ _ => (pe_ix (r := rIxT K) ix_tup (pv 1) pe_int (fun _ _ => rfl)))) pa_nil))))), ?_⟩
  refine ⟨_, rfl, v, j, rfl, hd, by omega, hs, h400, fun H1 s1 => ?_⟩
  refine ⟨_, rfl, v, j, rfl, dp_same s1 hd, by omega, by omega, hstb, h400, fun H2 l ws s2 n2 e2 d2 => ?_⟩
  have wl : ws.length = j.srows.length := by rw [dpAll_length d2, rowsD, List.length_map]
  have hl := J.srows_len j hstb
  refine ⟨l, rfl, ⟨ws, SqL.of e2⟩, fun D hD => ?_⟩
  refine lc_list (K := K) (a := l) (xs := ws) (fun k F => Same H2 F ∧ ∃ us, F D = some (.lst us) ∧ DpAll K F us (adDs ((j.srows.take k).map (·.1)))) ?_ ?_ ?_ ?_
  · exact ⟨same_new hD, [], upd_same, by simpa [adDs] using .nil⟩
  · rintro k F _ ⟨sF, _⟩
    exact SqL.of (sF _ _ e2)
  · rintro k x F hk ⟨sF, us, eD, du⟩
    obtain ⟨d, ed, hdx⟩ := dpAll_get d2 hk
    rw [rowsD, List.getElem?_map] at ed
    obtain ⟨rr, er, rfl⟩ := Option.map_eq_some_iff.mp ed
    obtain ⟨tr, xr, rfl, qr, dr⟩ := dp_tup_inv hdx
    cases dr with
    | @cons xr0 _ _ _ da dr =>
    have ul : us.length = k := by
      rw [dpAll_length du, adDs, List.length_map, List.length_map, List.length_take]
      have := (List.getElem?_eq_some_iff.mp er).1
      omega
    have kr := (List.getElem?_eq_some_iff.mp er).1
    refine ⟨rfl, ?_⟩
    unfold tYes
    refine iteT ?_
    refine ⟨_, rfl, _, _, _, _, rfl, rfl, same_sqT sF qr, atI_at (j := 0) rfl rfl, ?_⟩
    refine ⟨us, eD, small1000 (by omega), ?_, us ++ [xr0], upd_same, ?_⟩
    · intro c2 o hc
      rw [upd_ne (ne_of_none hc hD)]
      exact sF _ _ hc
    · have k2 : ∀ b xs, SqT K F b xs → SqT K (upd F D (.lst (us ++ [xr0]))) b xs := fun b xs h => (sx_upd (p := D)).sqT eD h
      rw [take_map (fun r : SRow => r.1) er, adDs, List.map_append]
      exact dpAll_append (dpAll_keep k2 (noLs_ad _) du) (.cons (dp_keep k2 (noL_ad _) (dp_same sF da)) .nil)
  · rintro F ⟨sF, us, eD, du⟩
    rw [wl, List.take_length, J.srows_adr j hstb] at du
    refine ⟨D, _, rfl, .inl ⟨SqL.of eD, fun t ht => ?_⟩⟩
    have s3 : Same F (upd F t (.tup us)) := same_new ht
    exact q _ _ (s1.trans (s2.trans (sF.trans s3))) (.tup (SqT.of upd_same) (dpAll_same s3 du))
end
/-! block Sys: a job as a system of steps; its low is the least sum (with Jst; behind bAddr) -/
mutual
def J.sys : J → Sys
  | .st i => ⟨[([], i)], fun _ _ => false⟩
  | .ps k xs => comp (!k) (J.syss xs) 0
  | .rn k n x => comp (!k) (List.replicate (if 0 < x.steps then n.toNat else 0) x.sys) 0
def J.syss : List J → List Sys
  | [] => []
  | x :: xs => x.sys :: J.syss xs
end
theorem Sys.Low.net {S : Sys} {l : Int} (h : S.Low l) : l ≤ S.net := by
  have h1 := h.le (fun _ => true) (fun _ _ _ _ _ _ => rfl)
  rw [sumD_all fun _ _ => rfl] at h1
  exact h1
theorem cRows_idx : ∀ (Ss : List Sys) (i : Int), (cRows Ss i).map (·.1) = idx (Ss.map fun S => S.rows.map (·.1)) i
  | [], _ => rfl
  | S :: r, i => by
    simp only [cRows, List.map_append, List.map_cons, idx, cRows_idx r, pre, List.map_map]
    rfl
mutual
theorem J.sys_adr : ∀ j : J, j.sys.rows.map (·.1) = j.adr
  | .st _ => rfl
  | .ps k xs => by
    simp only [J.sys, comp, cRows_idx, J.adr]
    rw [J.syss_adr xs]
  | .rn k n x => by
    have ih := J.sys_adr x
    simp only [J.sys, comp, cRows_idx, J.adr, List.map_replicate, ih]
theorem J.syss_adr : ∀ xs : List J, (J.syss xs).map (fun S => S.rows.map (·.1)) = J.adrs xs
  | [] => rfl
  | x :: xs => by
    have h1 := J.sys_adr x
    have h2 := J.syss_adr xs
    simp only [J.syss, J.adrs, List.map_cons, h1, h2]
end
theorem lowPar_rep (p : Part) : ∀ m : Nat, lowPar (List.replicate m p) = m * p.2
  | 0 => by simp [lowPar]
  | m + 1 => by
    simp only [List.replicate_succ, lowPar, lowPar_rep p m]
    rw [Int.natCast_add, Int.add_mul]
    simp only [Int.natCast_one, Int.one_mul]
    omega
theorem lowSeq_rep (p : Part) (h : p.2 ≤ p.1.net) : ∀ m : Nat, lowSeq (List.replicate (m + 1) p) = p.2 + m * min 0 p.1.net
  | 0 => by
    simp only [List.replicate_succ, List.replicate_zero, lowSeq]
    simp
    omega
  | m + 1 => by
    rw [List.replicate_succ, lowSeq, lowSeq_rep p h m]
    have e : ((m + 1 : Nat) : Int) * min 0 p.1.net = m * min 0 p.1.net + min 0 p.1.net := by
      rw [Int.natCast_add, Int.add_mul]
      simp
    rw [e]
    by_cases c : 0 ≤ p.1.net
    · have z : min 0 p.1.net = 0 := by omega
      rw [z]
      simp only [Int.mul_zero]
      omega
    · have z : min 0 p.1.net = p.1.net := by omega
      rw [z]
      have : (m : Int) * p.1.net ≤ 0 := Int.mul_nonpos_of_nonneg_of_nonpos (by omega) (by omega)
      omega
theorem sysOf_rep (m : Nat) (p : Part) : sysOf (List.replicate m p) = List.replicate m p.1 := by
  simp [sysOf]
theorem sum_repI (m : Int) : ∀ k : Nat, (List.replicate k m).sum = k * m
  | 0 => by simp
  | k + 1 => by
    rw [List.replicate_succ, List.sum_cons, sum_repI m k, Int.natCast_add, Int.add_mul]
    simp only [Int.natCast_one, Int.one_mul]
    omega
theorem J.rows_none {x : J} (h : x.stb) (e : ¬ 0 < x.steps) : x.sys.rows = [] := by
  have h1 := J.adr_len x h
  have h2 := congrArg List.length (J.sys_adr x)
  rw [List.length_map] at h2
  exact List.eq_nil_of_length_eq_zero (by omega)
mutual
theorem J.low_sys : ∀ j : J, j.stb → j.sys.Low j.low ∧ j.sys.net = j.net
  | .st i, _ => by
    refine ⟨⟨fun D _ => ?_, ⟨fun _ => decide (i < 0), (fun _ _ _ _ z => (by cases z)), ?_⟩⟩, ?_⟩
    · simp only [J.sys, J.low, sumD, List.map_cons, List.map_nil, List.sum_cons, List.sum_nil]
      split <;> omega
    · simp only [J.sys, J.low, sumD, List.map_cons, List.map_nil, List.sum_cons, List.sum_nil, decide_eq_true_eq]
      split <;> omega
    · simp [J.sys, J.net, Sys.net]
  | .ps k xs, h => by
    simp only [J.stb] at h
    obtain ⟨Ps, e1, e2, e3, e4, e5⟩ := J.lows_sys xs h.2
    refine ⟨?_, ?_⟩
    · cases k with
      | false =>
        simp only [J.sys, J.low, Bool.not_false]
        rw [← e1, ← e3]
        exact low_seq Ps 0 e2
      | true =>
        simp only [J.sys, J.low, Bool.not_true]
        rw [← e1, ← e4]
        exact low_par Ps 0 e2
    · simp only [J.sys, J.net, net_comp]
      exact e5
  | .rn k n x, h => by
    simp only [J.stb] at h
    obtain ⟨hx, hn⟩ := J.low_sys x h.2.1
    by_cases e : 0 < x.steps
    · have ec : ((n.toNat : Nat) : Int) = n := by omega
      refine ⟨?_, ?_⟩
      · have all : ∀ p ∈ List.replicate n.toNat ((x.sys, x.low) : Part), p.1.Low p.2 := by
          intro p hp
          obtain ⟨_, rfl⟩ := List.mem_replicate.mp hp
          exact hx
        cases k with
        | false =>
          have l := low_seq _ 0 all
          rw [sysOf_rep] at l
          simp only [J.sys, J.low, Bool.not_false, if_pos e]
          by_cases z : n = 0
          · rw [if_pos z]
            subst z
            exact l
          · rw [if_neg z]
            obtain ⟨m, em⟩ : ∃ m, n.toNat = m + 1 := ⟨n.toNat - 1, by omega⟩
            have em' : n - 1 = (m : Int) := by omega
            rw [em, lowSeq_rep _ hx.net, hn] at l
            rw [em, em']
            exact l
        | true =>
          have l := low_par _ 0 all
          rw [sysOf_rep, lowPar_rep, ec] at l
          simp only [J.sys, J.low, Bool.not_true, if_pos e]
          exact l
      · simp only [J.sys, J.net, net_comp, if_pos e, List.map_replicate, sum_repI, hn, ec]
    · have rn := J.rows_none h.2.1 e
      have l0 : x.low = 0 := by
        obtain ⟨D, _, hD⟩ := hx.at_
        rw [rn] at hD
        exact hD.symm
      have n0 : x.net = 0 := by
        rw [← hn]
        unfold Sys.net
        rw [rn]
        rfl
      have z : (J.rn k n x).sys = comp (!k) [] 0 := by simp only [J.sys, if_neg e, List.replicate_zero]
      rw [z]
      refine ⟨?_, ?_⟩
      · have lw : (J.rn k n x).low = 0 := by
          cases k with
          | false =>
            simp only [J.low, l0, n0]
            split <;> simp
          | true => simp only [J.low, l0, Int.mul_zero]
        rw [lw]
        exact ⟨fun D _ => Int.le_refl _, fun _ => false, fun a ha => by simp [comp, cRows] at ha, rfl⟩
      · simp only [J.net, n0, Int.mul_zero]
        rfl
theorem J.lows_sys : ∀ xs : List J, J.stbL xs → ∃ Ps : List Part, sysOf Ps = J.syss xs ∧ (∀ p ∈ Ps, p.1.Low p.2) ∧ lowSeq Ps = J.lowS xs ∧ lowPar Ps = J.lowL xs ∧ ((J.syss xs).map Sys.net).sum = J.netL xs
  | [], _ => ⟨[], rfl, (fun p hp => (by cases hp)), rfl, rfl, rfl⟩
  | x :: xs, h => by
    simp only [J.stbL] at h
    obtain ⟨h1, h2⟩ := J.low_sys x h.1
    obtain ⟨Ps, e1, e2, e3, e4, e5⟩ := J.lows_sys xs h.2
    refine ⟨(x.sys, x.low) :: Ps, ?_, ?_, ?_, ?_, ?_⟩
    · simp only [sysOf, List.map_cons, J.syss] at e1 ⊢
      rw [e1]
    · intro p hp
      rcases List.mem_cons.mp hp with rfl | hp
      · exact h1
      · exact e2 p hp
    · simp only [lowSeq, J.lowS, e3, h2]
    · simp only [lowPar, J.lowL, e4]
    · simp only [J.syss, List.map_cons, List.sum_cons, e5, J.netL, h2]
end
/-! block AtM: the rows of parts and rounds (behind bSys) -/
theorem cRows_at : ∀ {Ss : List Sys} {i k : Int} {r : List Int} {v : Int}, (k :: r, v) ∈ cRows Ss i → i ≤ k ∧ ∃ S, Ss[(k - i).toNat]? = some S ∧ (r, v) ∈ S.rows
  | S :: Ss, i, k, r, v, h => by
    simp only [cRows, List.mem_append, pre, List.mem_map, Prod.mk.injEq, List.cons.injEq] at h
    rcases h with ⟨b, hb, ⟨e1, e2⟩, e3⟩ | h
    · subst e1
      refine ⟨Int.le_refl _, S, ?_, ?_⟩
      · rw [Int.sub_self]
        rfl
      · obtain ⟨b1, b2⟩ := b
        cases e2
        cases e3
        exact hb
    · obtain ⟨h1, S', h2, h3⟩ := cRows_at h
      refine ⟨by omega, S', ?_, h3⟩
      have e : (k - i).toNat = (k - (i + 1)).toNat + 1 := by omega
      rw [e]
      exact h2
theorem J.syss_eq : ∀ xs : List J, J.syss xs = xs.map J.sys
  | [] => rfl
  | x :: xs => by rw [J.syss, J.syss_eq xs]; rfl
theorem rows_ps {b : Bool} {xs : List J} {k : Int} {r : List Int} {v : Int} (h : (k :: r, v) ∈ (J.ps b xs).sys.rows) : 0 ≤ k ∧ ∃ y, xs[k.toNat]? = some y ∧ (r, v) ∈ y.sys.rows := by
  simp only [J.sys, comp] at h
  obtain ⟨h1, S, h2, h3⟩ := cRows_at h
  rw [J.syss_eq, Int.sub_zero, List.getElem?_map] at h2
  cases e : xs[k.toNat]? with
  | none =>
    rw [e] at h2
    cases h2
  | some y =>
    rw [e] at h2
    obtain rfl := (Option.some.inj h2).symm
    exact ⟨h1, y, rfl, h3⟩
theorem rows_rn {b : Bool} {n : Int} {x : J} {k : Int} {r : List Int} {v : Int} (h : (k :: r, v) ∈ (J.rn b n x).sys.rows) : (r, v) ∈ x.sys.rows := by
  simp only [J.sys, comp] at h
  obtain ⟨h1, S, h2, h3⟩ := cRows_at h
  obtain ⟨_, rfl⟩ := List.mem_replicate.mp (List.mem_of_getElem? h2)
  exact h3
theorem rows_nil {j : J} {v : Int} (h : ([], v) ∈ j.sys.rows) : j = .st v := by
  cases j with
  | st i =>
    simp only [J.sys, List.mem_singleton, Prod.mk.injEq, true_and] at h
    rw [h]
  | ps b xs =>
    simp only [J.sys, comp] at h
    obtain ⟨k, r, e, _⟩ := cRows_head h
    cases e
  | rn b n x =>
    simp only [J.sys, comp] at h
    obtain ⟨k, r, e, _⟩ := cRows_head h
    cases e
theorem atI_ex {vs : List V} {r : Int} (h0 : 0 ≤ r) (h1 : r < (vs.length : Int)) : ∃ v, vs[r.toNat]? = some v ∧ atI vs r = some v := by
  have hk : r.toNat < vs.length := by omega
  exact ⟨vs[r.toNat], List.getElem?_eq_getElem hk, atI_at (j := r.toNat) (by omega) (List.getElem?_eq_getElem hk)⟩
/-! block States: _law_states, all sets of steps that hold what comes ahead (behind bAt; _law_ahead's promise is taken as given here) -/
theorem keepT {K : PySem.W.Frag} {D : Addr} {H H' : Hp} {l : List V} (h : H D = some (.lst l)) (s : Sx D H H') : Kp K D H H' := s.kp h
def rNotLD (K : PySem.W.Frag) : R2 := fun x y H Q => ∃ (ds : List PyData) (d : PyData), Dp K H y (.list ds) ∧ Dp K H x d ∧ PyData.canLayAll0 ds = true ∧ d.canLay0 = true ∧ d.depth ≤ 60 ∧ Q (.bl (!(ds.any fun e => e.eqv d))) H
theorem op_notInLD {X : Cx} (hu : X.A.units + 66 < cLine) : OpR X (compareOp .NotIn) (rNotLD X.K) := by
  rintro pins s σ H x y v u Q I rv ru ⟨ds, d, hy, hx, c1, c2, c3, q⟩
  obtain ⟨as, r1⟩ := Dp.reads I _ _ _ hy ru
  obtain ⟨bs, r2⟩ := Dp.reads I _ _ _ hx rv
  refine SeqAt.notIn_list_reads r1 r2 c1 c2 ?_ ⟨.bl _, H, I, rfl, q⟩
  have : min (PyData.depthAll ds) d.depth ≤ 60 := Nat.le_trans (Nat.min_le_right _ _) c3
  omega
/-- the sets that are found, one step more each time -/
def stNext (ah : List Int → List Int → Bool) (every : List (List Int)) (one : List Int) (fs : List (List (List Int))) : List (List (List Int)) :=
  fs ++ (fs.filter fun S => every.all fun o => !(ah o one) || S.contains o).map (· ++ [one])
def stAll (ah : List Int → List Int → Bool) (every : List (List Int)) : List (List Int) → List (List (List Int)) → List (List (List Int))
  | [], fs => fs
  | one :: r, fs => stAll ah every r (stNext ah every one fs)
def stD (S : List (List Int)) : PyData := .list (adDs S)
def spAhead (K : PySem.W.Frag) : Sp := fun vs H Q _ => ∃ (v : V) (j : J) (t1 t2 : Addr) (a b : List Int), vs = [v, .ref t1, .ref t2] ∧ Dp K H v j.toD ∧ SqT K H t1 (a.map V.int) ∧ SqT K H t2 (b.map V.int) ∧ a ∈ j.adr ∧ b ∈ j.adr ∧
  j.deep ≤ 8 ∧ ∀ H', Same H H' → Q (.bl (j.sys.ahead a b)) H'
theorem ad_lay (a : List Int) : (adD a).canLay0 = true := by
  have h : ∀ l : List Int, PyData.canLayAll0 (l.map PyData.int) = true := by
    intro l
    induction l with
    | nil => simp [PyData.canLayAll0]
    | cons x r ih => simp [PyData.canLayAll0, PyData.canLay0, ih]
  simp [adD, PyData.canLay0, h]
theorem ads_lay : ∀ as : List (List Int), PyData.canLayAll0 (adDs as) = true
  | [] => by simp [adDs, PyData.canLayAll0]
  | a :: as => by
    have ih := ads_lay as
    simp only [adDs, List.map_cons, PyData.canLayAll0, ad_lay, Bool.true_and] at ih ⊢
    exact ih
theorem ad_depth (a : List Int) : (adD a).depth ≤ 2 := by
  have h : ∀ l : List Int, PyData.depthAll (l.map PyData.int) ≤ 0 := by
    intro l
    induction l with
    | nil => simp [PyData.depthAll]
    | cons x r ih => simp only [List.map_cons, PyData.depthAll, PyData.depth]; omega
  have := h a
  simp only [adD, PyData.depth]
  omega
theorem ints_eqv : ∀ a b : List Int, PyData.eqvAll (a.map .int) (b.map .int) = decide (a = b)
  | [], [] => by simp [PyData.eqvAll]
  | [], b :: bs => by simp [PyData.eqvAll]
  | a :: as, [] => by simp [PyData.eqvAll]
  | a :: as, b :: bs => by
    have ih := ints_eqv as bs
    by_cases h : a = b <;> simp [PyData.eqvAll, PyData.eqv, ih, h]
theorem ad_eqv (a b : List Int) : (adD a).eqv (adD b) = decide (a = b) := by
  simp only [adD, PyData.eqv]
  exact ints_eqv a b
theorem any_ad (S : List (List Int)) (b : List Int) : ((adDs S).any fun e => e.eqv (adD b)) = S.contains b := by
  induction S with
  | nil => rfl
  | cons a S ih =>
    have e : (adDs (a :: S)).any (fun e => e.eqv (adD b)) = ((adD a).eqv (adD b) || (adDs S).any fun e => e.eqv (adD b)) := rfl
    rw [e, ih, ad_eqv]
    simp only [List.contains_cons]
    congr 1
    by_cases h : a = b
    · subst h
      simp
    · have h' : ¬ b = a := fun z => h z.symm
      simp [h, h']
/-- what comes ahead stands before -/
def Before (ah : List Int → List Int → Bool) (A : List (List Int)) : Prop := ∀ pre b rest, A = pre ++ b :: rest → ∀ a ∈ A, ah a b = true → a ∈ pre
def ClosedA (ah : List Int → List Int → Bool) (A : List (List Int)) (D : List Int → Bool) : Prop := ∀ a ∈ A, ∀ b ∈ A, ah a b = true → D b = true → D a = true
theorem st_cond {ah : List Int → List Int → Bool} {A S : List (List Int)} {one : List Int} : (A.all fun o => !(ah o one) || S.contains o) = true ↔ ∀ o ∈ A, ah o one = true → o ∈ S := by
  rw [List.all_eq_true]
  constructor
  · intro h o ho ha
    have := h o ho
    rw [ha] at this
    simpa using this
  · intro h o ho
    cases e : ah o one with
    | false => rfl
    | true =>
      have := h o ho e
      simpa using this
theorem st_mem {ah : List Int → List Int → Bool} {A : List (List Int)} {one : List Int} {fs : List (List (List Int))} {S : List (List Int)} :
    S ∈ stNext ah A one fs ↔ S ∈ fs ∨ ∃ R ∈ fs, (∀ o ∈ A, ah o one = true → o ∈ R) ∧ S = R ++ [one] := by
  unfold stNext
  rw [List.mem_append, List.mem_map]
  constructor
  · rintro (h | ⟨R, h1, rfl⟩)
    · exact .inl h
    · obtain ⟨h2, h3⟩ := List.mem_filter.mp h1
      exact .inr ⟨R, h2, st_cond.mp h3, rfl⟩
  · rintro (h | ⟨R, h1, h2, rfl⟩)
    · exact .inl h
    · exact .inr ⟨R, List.mem_filter.mpr ⟨h1, st_cond.mpr h2⟩, rfl⟩
theorem st_sound {ah : List Int → List Int → Bool} {A : List (List Int)} (hb : Before ah A) (nd : A.Nodup) : ∀ (rest pre : List (List Int)) (fs : List (List (List Int))), A = pre ++ rest →
    (∀ S ∈ fs, ∃ D, ClosedA ah A D ∧ S = pre.filter D) → ∀ S ∈ stAll ah A rest fs, ∃ D, ClosedA ah A D ∧ S = A.filter D
  | [], pre, fs, e, h, S, hS => by
    obtain ⟨D, h1, h2⟩ := h S hS
    rw [List.append_nil] at e
    exact ⟨D, h1, e ▸ h2⟩
  | one :: rest, pre, fs, e, h, S, hS => by
    refine st_sound hb nd rest (pre ++ [one]) _ (by rw [e, List.append_assoc]; rfl) ?_ S hS
    intro S hS
    have npre : one ∉ pre := by
      rw [e] at nd
      have := (List.nodup_append.mp nd).2.2
      intro z
      exact this one z one List.mem_cons_self rfl
    have inA : ∀ x ∈ pre, x ∈ A := fun x hx => by rw [e]; exact List.mem_append_left _ hx
    have before : ∀ a ∈ A, ∀ b ∈ pre, ah a b = true → a ∈ pre := by
      intro a ha b hbp hab
      obtain ⟨p1, p2, ep⟩ := List.append_of_mem hbp
      have := hb p1 b (p2 ++ one :: rest) (by rw [e, ep]; simp) a ha hab
      rw [ep]
      exact List.mem_append_left _ this
    rcases st_mem.mp hS with h1 | ⟨R, h1, h2, rfl⟩
    · obtain ⟨D, c, eS⟩ := h S h1
      refine ⟨fun x => D x && pre.contains x, ?_, ?_⟩
      · intro a ha b hbA hab hD
        simp only [Bool.and_eq_true, List.contains_iff_mem] at hD ⊢
        exact ⟨c a ha b hbA hab hD.1, before a ha b hD.2 hab⟩
      · rw [List.filter_append, eS]
        have e1 : pre.filter (fun x => D x && pre.contains x) = pre.filter D := List.filter_congr fun x hx => by simp [hx]
        have e2 : [one].filter (fun x => D x && pre.contains x) = [] := by simp [npre]
        rw [e1, e2, List.append_nil]
    · obtain ⟨D, c, eS⟩ := h R h1
      refine ⟨fun x => (D x && pre.contains x) || x == one, ?_, ?_⟩
      · intro a ha b hbA hab hD
        simp only [Bool.or_eq_true, Bool.and_eq_true, List.contains_iff_mem, beq_iff_eq] at hD ⊢
        rcases hD with hD | rfl
        · exact .inl ⟨c a ha b hbA hab hD.1, before a ha b hD.2 hab⟩
        · have := h2 a ha hab
          rw [eS] at this
          obtain ⟨m1, m2⟩ := List.mem_filter.mp this
          exact .inl ⟨m2, m1⟩
      · rw [List.filter_append, eS]
        have e1 : pre.filter (fun x => (D x && pre.contains x) || x == one) = pre.filter D := List.filter_congr fun x hx => by
          have : (x == one) = false := by
            simp only [beq_eq_false_iff_ne, ne_eq]
            rintro rfl
            exact npre hx
          simp [hx, this]
        rw [e1]
        simp
theorem st_full {ah : List Int → List Int → Bool} {A : List (List Int)} (hb : Before ah A) {D : List Int → Bool} (c : ClosedA ah A D) : ∀ (rest pre : List (List Int)) (fs : List (List (List Int))), A = pre ++ rest →
    pre.filter D ∈ fs → A.filter D ∈ stAll ah A rest fs
  | [], pre, fs, e, h => by
    rw [List.append_nil] at e
    subst e
    exact h
  | one :: rest, pre, fs, e, h => by
    refine st_full hb c rest (pre ++ [one]) _ (by rw [e, List.append_assoc]; rfl) ?_
    rw [List.filter_append]
    cases hD : D one with
    | false =>
      simp only [List.filter_cons, hD, List.filter_nil, List.append_nil, Bool.false_eq_true, if_false]
      exact st_mem.mpr (.inl h)
    | true =>
      simp only [List.filter_cons, hD, List.filter_nil, if_true]
      refine st_mem.mpr (.inr ⟨_, h, fun o ho hoa => ?_, rfl⟩)
      have o1 : one ∈ A := by
        rw [e]
        simp
      exact List.mem_filter.mpr ⟨hb pre one rest e o ho hoa, c o ho one o1 hoa hD⟩
/-- what is found are just the closed sets -/
theorem st_all {ah : List Int → List Int → Bool} {A : List (List Int)} (hb : Before ah A) (nd : A.Nodup) (S : List (List Int)) : S ∈ stAll ah A A [[]] ↔ ∃ D, ClosedA ah A D ∧ S = A.filter D := by
  constructor
  · refine st_sound hb nd A [] [[]] rfl (fun S hS => ⟨fun _ => false, (fun _ _ _ _ _ z => (by cases z)), ?_⟩) S
    simpa using hS
  · rintro ⟨D, c, rfl⟩
    exact st_full hb c A [] [[]] rfl (by simp)
theorem ahead_rest {sq : Bool} {S : Sys} {r : List Sys} {i k m : Int} {c d : List Int} (hk : i + 1 ≤ k) (h : cAhead sq (S :: r) i (k :: c) (m :: d) = true) : cAhead sq r (i + 1) (k :: c) (m :: d) = true := by
  simp only [cAhead] at h ⊢
  by_cases z : k = m
  · subst z
    simp only [ne_eq, not_true_eq_false, if_false, aheadAt] at h ⊢
    rw [if_neg (by omega)] at h
    exact h
  · simp only [ne_eq, z, not_false_eq_true, if_true] at h ⊢
    exact h
theorem cRows_before {sq : Bool} : ∀ {Ss : List Sys} {i : Int}, (∀ S ∈ Ss, Before S.ahead (S.rows.map (·.1))) → Before (cAhead sq Ss i) ((cRows Ss i).map (·.1))
  | [], i, h, q, b, rest, e, a, ha, hab => by simp [cRows] at ha
  | S :: r, i, h, q, b, rest, e, a, ha, hab => by
    have heads : ∀ x ∈ (cRows r (i + 1)).map (·.1), ∃ k c, x = k :: c ∧ i + 1 ≤ k := by
      intro x hx
      obtain ⟨y, hy, rfl⟩ := List.mem_map.mp hx
      exact cRows_head hy
    have ih := cRows_before (sq := sq) (Ss := r) (i := i + 1) (fun S hS => h S (List.mem_cons_of_mem _ hS))
    have e1 : (cRows (S :: r) i).map (·.1) = (S.rows.map (·.1)).map (i :: ·) ++ (cRows r (i + 1)).map (·.1) := by
      simp only [cRows, List.map_append]
      congr 1
      unfold pre
      rw [List.map_map, List.map_map]
      rfl
    rw [e1] at e ha
    have later : ∀ mid, q = (S.rows.map (·.1)).map (i :: ·) ++ mid → (cRows r (i + 1)).map (·.1) = mid ++ b :: rest → a ∈ q := by
      intro mid h1 h2
      rw [h1]
      rcases List.mem_append.mp ha with ha | ha
      · exact List.mem_append_left _ ha
      · refine List.mem_append_right _ (ih mid b rest h2 a ha ?_)
        obtain ⟨k, c, ea, hk⟩ := heads a ha
        obtain ⟨m, d, eb, hm⟩ := heads b (by rw [h2]; simp)
        rw [ea, eb] at hab ⊢
        exact ahead_rest hk hab
    rcases List.append_eq_append_iff.mp e with ⟨mid, h1, h2⟩ | ⟨mid, h1, h2⟩
    · exact later mid h1 h2
    · cases mid with
      | nil =>
        rw [List.append_nil] at h1
        exact later [] (by rw [List.append_nil]; exact h1.symm) h2.symm
      | cons m0 mid =>
        obtain ⟨rfl, h3⟩ := List.cons.inj h2
        -- b stands in the first
        obtain ⟨p1, p2, e3, e4, e5⟩ := List.map_eq_append_iff.mp h1
        obtain ⟨b', p3, rfl, e6, e7⟩ := List.map_eq_cons_iff.mp e5
        rcases List.mem_append.mp ha with ha | ha
        · obtain ⟨a', ha', rfl⟩ := List.mem_map.mp ha
          simp only [cAhead, aheadAt, ne_eq, ← e6, not_true_eq_false, if_false, if_true] at hab
          have := h S List.mem_cons_self p1 b' p3 e3 a' ha' hab
          rw [← e4]
          exact List.mem_map.mpr ⟨a', this, rfl⟩
        · exfalso
          obtain ⟨k, c, ea, hk⟩ := heads a ha
          rw [ea, ← e6] at hab
          simp only [cAhead, ne_eq] at hab
          rw [if_pos (by omega)] at hab
          simp only [Bool.and_eq_true, decide_eq_true_eq] at hab
          omega
mutual
theorem J.sys_before : ∀ j : J, Before j.sys.ahead (j.sys.rows.map (·.1))
  | .st i => by
    intro q b rest e a ha hab
    cases hab
  | .ps k xs => by
    simp only [J.sys, comp]
    exact cRows_before (J.syss_before xs)
  | .rn k n x => by
    simp only [J.sys, comp]
    refine cRows_before fun S hS => ?_
    obtain ⟨_, rfl⟩ := List.mem_replicate.mp hS
    exact J.sys_before x
theorem J.syss_before : ∀ xs : List J, ∀ S ∈ J.syss xs, Before S.ahead (S.rows.map (·.1))
  | [], S, h => by cases h
  | x :: xs, S, h => by
    simp only [J.syss] at h
    rcases List.mem_cons.mp h with rfl | h
    · exact J.sys_before x
    · exact J.syss_before xs S h
end
theorem cRows_nodup : ∀ {Ss : List Sys} {i : Int}, (∀ S ∈ Ss, (S.rows.map (·.1)).Nodup) → ((cRows Ss i).map (·.1)).Nodup
  | [], i, h => by simp [cRows]
  | S :: r, i, h => by
    have ih := cRows_nodup (Ss := r) (i := i + 1) (fun S hS => h S (List.mem_cons_of_mem _ hS))
    have e1 : (cRows (S :: r) i).map (·.1) = (S.rows.map (·.1)).map (i :: ·) ++ (cRows r (i + 1)).map (·.1) := by
      simp only [cRows, List.map_append]
      congr 1
      unfold pre
      rw [List.map_map, List.map_map]
      rfl
    rw [e1, List.nodup_append]
    refine ⟨?_, ih, ?_⟩
    · refine List.Pairwise.map _ (fun a b hab z => hab (List.cons.inj z).2) (h S List.mem_cons_self)
    · intro a ha b hb
      obtain ⟨a', _, rfl⟩ := List.mem_map.mp ha
      obtain ⟨y, hy, rfl⟩ := List.mem_map.mp hb
      obtain ⟨k, c, e, hk⟩ := cRows_head hy
      rw [e]
      intro z
      have := (List.cons.inj z).1
      omega
mutual
theorem J.sys_nodup : ∀ j : J, (j.sys.rows.map (·.1)).Nodup
  | .st i => by simp [J.sys]
  | .ps k xs => by
    simp only [J.sys, comp]
    exact cRows_nodup (J.syss_nodup xs)
  | .rn k n x => by
    simp only [J.sys, comp]
    refine cRows_nodup fun S hS => ?_
    obtain ⟨_, rfl⟩ := List.mem_replicate.mp hS
    exact J.sys_nodup x
theorem J.syss_nodup : ∀ xs : List J, ∀ S ∈ J.syss xs, (S.rows.map (·.1)).Nodup
  | [], S, h => by cases h
  | x :: xs, S, h => by
    simp only [J.syss] at h
    rcases List.mem_cons.mp h with rfl | h
    · exact J.sys_nodup x
    · exact J.syss_nodup xs S h
end
/-- the step at an address -/
def valOf (rows : List Row1) (a : List Int) : Int := ((rows.find? fun r => r.1 == a).map (·.2)).getD 0
theorem valOf_mem : ∀ {rows : List Row1} {r : Row1}, (rows.map (·.1)).Nodup → r ∈ rows → valOf rows r.1 = r.2
  | x :: rows, r, nd, h => by
    rw [List.map_cons, List.nodup_cons] at nd
    rcases List.mem_cons.mp h with rfl | h
    · simp [valOf]
    · have ne : ¬ x.1 = r.1 := fun z => nd.1 (z ▸ List.mem_map.mpr ⟨r, h, rfl⟩)
      have ih := valOf_mem nd.2 h
      unfold valOf at ih ⊢
      have e : (x.1 == r.1) = false := by simpa using ne
      rw [List.find?_cons, e]
      exact ih
def useOf (rows : List Row1) (S : List (List Int)) : Int := (S.map (valOf rows)).sum
theorem use_sumD {rows : List Row1} (nd : (rows.map (·.1)).Nodup) (D : List Int → Bool) : useOf rows ((rows.map (·.1)).filter D) = sumD rows D := by
  have key : ∀ rs : List Row1, (∀ r ∈ rs, valOf rows r.1 = r.2) → (((rs.map (·.1)).filter D).map (valOf rows)).sum = sumD rs D := by
    intro rs
    induction rs with
    | nil => intro _; rfl
    | cons x rs ih =>
      intro h
      have h1 := h x List.mem_cons_self
      have h2 := ih fun r hr => h r (List.mem_cons_of_mem _ hr)
      unfold sumD at h2 ⊢
      simp only [List.map_cons, List.sum_cons, List.filter_cons]
      cases e : D x.1 with
      | true =>
        simp only [if_true, List.map_cons, List.sum_cons, h1, h2]
      | false =>
        simp only [Bool.false_eq_true, if_false, h2]
        omega
  exact key rows fun r hr => valOf_mem nd hr
theorem st_last {ah : List Int → List Int → Bool} {A : List (List Int)} (hb : Before ah A) : ∀ (rest pre : List (List Int)) (fs : List (List (List Int))), A = pre ++ rest → fs.getLast? = some pre → (stAll ah A rest fs).getLast? = some A
  | [], pre, fs, e, h => by
    rw [List.append_nil] at e
    subst e
    exact h
  | one :: rest, pre, fs, e, h => by
    refine st_last hb rest (pre ++ [one]) _ (by rw [e, List.append_assoc]; rfl) ?_
    obtain ⟨front, rfl⟩ : ∃ front, fs = front ++ [pre] := by
      obtain ⟨l, hl⟩ := List.getLast?_eq_some_iff.mp h
      exact ⟨l, hl⟩
    have hc : (A.all fun o => !(ah o one) || pre.contains o) = true := st_cond.mpr fun o ho hoa => hb pre one rest e o ho hoa
    unfold stNext
    rw [List.filter_append]
    simp only [List.filter_cons, hc, if_true, List.filter_nil, List.map_append, List.map_cons, List.map_nil]
    rw [← List.append_assoc, List.getLast?_concat]
/-- the sets that are found for a job: their sums, the least of them, the last of them -/
def J.states (j : J) : List (List (List Int)) := stAll j.sys.ahead j.adr j.adr [[]]
theorem J.states_low (j : J) (h : j.stb) : (∀ S ∈ j.states, j.low ≤ useOf j.sys.rows S) ∧ (∃ S ∈ j.states, useOf j.sys.rows S = j.low) := by
  have hA := J.sys_adr j
  have nd := J.sys_nodup j
  have hb := J.sys_before j
  obtain ⟨hl, _⟩ := J.low_sys j h
  have cl : ∀ D, ClosedA j.sys.ahead (j.sys.rows.map (·.1)) D → j.sys.Closed D := fun D c a ha b hbb hab hD => c a.1 (List.mem_map.mpr ⟨a, ha, rfl⟩) b.1 (List.mem_map.mpr ⟨b, hbb, rfl⟩) hab hD
  have cl' : ∀ D, j.sys.Closed D → ClosedA j.sys.ahead (j.sys.rows.map (·.1)) D := by
    intro D c a ha b hbb hab hD
    obtain ⟨a', ha', rfl⟩ := List.mem_map.mp ha
    obtain ⟨b', hb', rfl⟩ := List.mem_map.mp hbb
    exact c a' ha' b' hb' hab hD
  unfold J.states
  rw [← hA]
  constructor
  · intro S hS
    obtain ⟨D, c, rfl⟩ := (st_all hb nd S).mp hS
    rw [use_sumD nd]
    exact hl.le D (cl D c)
  · obtain ⟨D, c, e⟩ := hl.at_
    exact ⟨_, (st_all hb nd _).mpr ⟨D, cl' D c, rfl⟩, by rw [use_sumD nd, e]⟩
theorem J.states_last (j : J) (h : j.stb) : j.states.getLast? = some j.adr ∧ useOf j.sys.rows j.adr = j.net := by
  have hA := J.sys_adr j
  have nd := J.sys_nodup j
  have hb := J.sys_before j
  obtain ⟨_, hn⟩ := J.low_sys j h
  refine ⟨?_, ?_⟩
  · unfold J.states
    rw [← hA]
    exact st_last hb _ [] [[]] rfl rfl
  · have e := use_sumD nd fun _ => true
    rw [sumD_all fun _ _ => rfl, List.filter_eq_self.mpr (fun _ _ => rfl), hA] at e
    rw [e]
    exact hn
/-! block StatesW: for the walk of _law_states (behind bStates): its promise, and small facts -/
theorem ints_vals {K : PySem.W.Frag} {H : Hp} : ∀ {xs : List V} {a : List Int}, DpAll K H xs (a.map PyData.int) → xs = a.map V.int
  | [], [], _ => rfl
  | [], _ :: _, h => by cases h
  | _ :: _, [], h => by cases h
  | x :: xs, i :: a, h => by
    cases h with
    | cons h1 h2 =>
      obtain rfl := dp_int_inv h1
      rw [List.map_cons, ints_vals h2]
def stCond (ah : List Int → List Int → Bool) (A : List (List Int)) (one : List Int) (S : List (List Int)) : Bool := A.all fun o => !(ah o one) || S.contains o
theorem st_empty {ah : List Int → List Int → Bool} {A S : List (List Int)} {one : List Int} : (((A.filter fun o => ah o one).filter fun o => !S.contains o).isEmpty) = stCond ah A one S := by
  unfold stCond
  rw [List.filter_filter]
  cases e : A.all fun o => !(ah o one) || S.contains o with
  | true =>
    rw [List.isEmpty_iff, List.filter_eq_nil_iff]
    intro o ho
    have := List.all_eq_true.mp e o ho
    simp only [Bool.or_eq_true, Bool.not_eq_true'] at this
    rcases this with h | h
    · simp [h]
    · have m : o ∈ S := by simpa using h
      simp [m]
  | false =>
    rw [List.all_eq_false] at e
    obtain ⟨o, ho, h⟩ := e
    simp only [Bool.or_eq_true, Bool.not_eq_true', not_or, Bool.not_eq_false, Bool.not_eq_true] at h
    rw [List.isEmpty_eq_false_iff, ne_eq, List.filter_eq_nil_iff]
    intro z
    exact absurd (by simp [h.1, h.2]; simpa using h.2) (z o ho)
def spStates (K : PySem.W.Frag) : Sp := fun vs H Q _ => ∃ (v : V) (j : J), vs = [v] ∧ Dp K H v j.toD ∧ j.deep ≤ 8 ∧ j.stb ∧ j.steps ≤ 12 ∧ j.rounded ∧
  ∀ (H' : Hp) (l : Addr) (ss : List V), Same H H' → H' l = some (.lst ss) → DpAll K H' ss (j.states.map stD) → Q (.ref l) H'
theorem stNext_len (ah : List Int → List Int → Bool) (A : List (List Int)) (one : List Int) (fs : List (List (List Int))) : (stNext ah A one fs).length ≤ 2 * fs.length := by
  unfold stNext
  have := List.length_filter_le (fun S => A.all fun o => !(ah o one) || S.contains o) fs
  rw [List.length_append, List.length_map]
  omega
theorem stAll_snoc (ah : List Int → List Int → Bool) (A : List (List Int)) (one : List Int) : ∀ (pre : List (List Int)) (fs : List (List (List Int))), stAll ah A (pre ++ [one]) fs = stNext ah A one (stAll ah A pre fs)
  | [], fs => rfl
  | p :: pre, fs => stAll_snoc ah A one pre (stNext ah A p fs)
/-! block Ahead: _law_ahead, which step comes ahead of which (behind bStatesW; with HandS.Zip) -/
/-- what a for walks, within a comprehension's own block: its written part is the def's -/
theorem pi_listK {X : Cx} {tg l : Expr} {tl : TE} (K : PySem.W.Frag) (hk : X.K = K) (hl : PE X l tl) : PI X tg l (iList K tl) := by
  subst hk
  exact pi_list hl
theorem pi_tupK {X : Cx} {tg l : Expr} {tl : TE} (K : PySem.W.Frag) (hk : X.K = K) (hl : PE X l tl) : PI X tg l (iTup K tl) := by
  subst hk
  exact pi_tup hl
/-- a loop over zip of two tuples, to the end of the shorter one -/
theorem for_zipT2 {K : PySem.W.Frag} {a b : Addr} {xs ys : List V} {g : TG} {tb : TS} {D : Ends} {σ : L2.St} {H : Hp} (Pv : Nat → L2.St → Hp → Prop) (h0 : Pv 0 σ H) (hq : ∀ i σ H, Pv i σ H → SqT K H a xs ∧ SqT K H b ys)
    (hs : ∀ (i : Nat) (x y : V) (T : Addr) (σ : L2.St) (H : Hp), xs[i]? = some x → ys[i]? = some y → Pv i σ H → H T = none → g (.ref T) σ (upd H T (.tup [x, y])) fun σ2 H2 => tb { D with nx := Pv (i + 1), ct := Pv (i + 1), bk := D.nx } σ2 H2)
    (hd : ∀ i σ H, i ≤ xs.length → i ≤ ys.length → (i = xs.length ∨ i = ys.length) → Pv i σ H → D.nx σ H) :
    ∃ W : Nat → Nat → L2.St → Hp → Prop, (∃ m, W 0 m σ H) ∧ ∀ i m σ H, W i m σ H →
      ((RZ.ItzT K a b).stop i H ∧ D.nx σ H) ∨ ((RZ.ItzT K a b).go i H ∧ ∃ N : L2.St → Hp → Prop, (∀ σ' H', N σ' H' → ∃ m', m' < m ∧ W (i + 1) m' σ' H') ∧ ∀ v H', (RZ.ItzT K a b).yld i H v H' → g v σ H' fun σ2 H2 => tb { D with nx := N, ct := N, bk := D.nx } σ2 H2) := by
  refine ⟨fun i m σ H => m = xs.length - i ∧ i ≤ xs.length ∧ i ≤ ys.length ∧ Pv i σ H, ⟨xs.length, rfl, Nat.zero_le _, Nat.zero_le _, h0⟩, ?_⟩
  rintro i m σ H ⟨rfl, hi, hi2, p⟩
  obtain ⟨qx, qy⟩ := hq i σ H p
  by_cases hlt : i < xs.length ∧ i < ys.length
  · have hx : xs[i]? = some xs[i] := List.getElem?_eq_getElem hlt.1
    have hy : ys[i]? = some ys[i] := List.getElem?_eq_getElem hlt.2
    refine .inr ⟨⟨xs, ys, _, _, qx, qy, hx, hy⟩, Pv (i + 1), fun σ' H' p' => ⟨xs.length - (i + 1), by omega, rfl, hlt.1, hlt.2, p'⟩, fun v H' y => ?_⟩
    obtain ⟨T, x', y', rfl, hT, rfl, f1, f2⟩ := y
    exact hs i x' y' T σ H (f1 xs qx) (f2 ys qy) p hT
  · have e : i = xs.length ∨ i = ys.length := by omega
    refine .inl ⟨⟨xs, ys, qx, qy, ?_⟩, hd i σ H hi hi2 e p⟩
    omega
theorem aheadAt_at {S : Sys} {c d : List Int} : ∀ {Ss : List Sys} {i k : Int}, i ≤ k → Ss[(k - i).toNat]? = some S → aheadAt Ss i k c d = S.ahead c d
  | [], i, k, _, h => by simp at h
  | R :: Ss, i, k, hk, h => by
    unfold aheadAt
    by_cases e : k = i
    · subst e
      rw [if_pos rfl]
      rw [Int.sub_self] at h
      have h' : R = S := by simpa using h
      rw [h']
    · rw [if_neg e]
      refine aheadAt_at (by omega) ?_
      have e2 : (k - i).toNat = (k - (i + 1)).toNat + 1 := by omega
      rw [e2] at h
      simpa using h
/-- an address has a step -/
theorem adr_row {j : J} {a : List Int} (h : a ∈ j.adr) : ∃ v, (a, v) ∈ j.sys.rows := by
  rw [← J.sys_adr j] at h
  obtain ⟨r, hr, rfl⟩ := List.mem_map.mp h
  exact ⟨r.2, hr⟩
theorem row_adr {j : J} {a : List Int} {v : Int} (h : (a, v) ∈ j.sys.rows) : a ∈ j.adr := by
  rw [← J.sys_adr j]
  exact List.mem_map.mpr ⟨_, h, rfl⟩
theorem adr_st {i : Int} {a : List Int} (h : a ∈ (J.st i).adr) : a = [] := by
  simpa [J.adr] using h
theorem adr_ps {b : Bool} {xs : List J} {k : Int} {r : List Int} (h : (k :: r) ∈ (J.ps b xs).adr) : 0 ≤ k ∧ ∃ y, xs[k.toNat]? = some y ∧ r ∈ y.adr := by
  obtain ⟨v, hv⟩ := adr_row h
  obtain ⟨h1, y, h2, h3⟩ := rows_ps hv
  exact ⟨h1, y, h2, row_adr h3⟩
theorem adr_rn {b : Bool} {n : Int} {x : J} {k : Int} {r : List Int} (h : (k :: r) ∈ (J.rn b n x).adr) : 0 ≤ k ∧ r ∈ x.adr ∧ (List.replicate (if 0 < x.steps then n.toNat else 0) x.sys)[k.toNat]? = some x.sys := by
  obtain ⟨v, hv⟩ := adr_row h
  simp only [J.sys, comp] at hv
  obtain ⟨h1, S, h2, h3⟩ := cRows_at hv
  rw [Int.sub_zero] at h2
  obtain ⟨_, rfl⟩ := List.mem_replicate.mp (List.mem_of_getElem? h2)
  exact ⟨h1, row_adr h3, h2⟩
theorem ahead_ps {b : Bool} {xs : List J} {k m : Int} {c d : List Int} {y : J} (h0 : 0 ≤ k) (hy : xs[k.toNat]? = some y) : (J.ps b xs).sys.ahead (k :: c) (m :: d) = if k ≠ m then !b && decide (k < m) else y.sys.ahead c d := by
  simp only [J.sys, comp, cAhead]
  congr 1
  refine aheadAt_at h0 ?_
  rw [Int.sub_zero, J.syss_eq, List.getElem?_map, hy]
  rfl
theorem ahead_rn {b : Bool} {n : Int} {x : J} {k m : Int} {c d : List Int} (h0 : 0 ≤ k) (hy : (List.replicate (if 0 < x.steps then n.toNat else 0) x.sys)[k.toNat]? = some x.sys) : (J.rn b n x).sys.ahead (k :: c) (m :: d) = if k ≠ m then !b && decide (k < m) else x.sys.ahead c d := by
  simp only [J.sys, comp, cAhead]
  congr 1
  refine aheadAt_at h0 ?_
  rw [Int.sub_zero, hy]
theorem ahead_nil {j : J} {a b : List Int} (ha : a ∈ j.adr) (hb : b ∈ j.adr) (h : a = [] ∨ b = []) : j.sys.ahead a b = false := by
  cases j with
  | st i => rfl
  | ps k xs =>
    simp only [J.sys, comp]
    rcases h with rfl | rfl
    · rfl
    · cases a <;> rfl
  | rn k n x =>
    simp only [J.sys, comp]
    rcases h with rfl | rfl
    · rfl
    · cases a <;> rfl
theorem w_in_sr (k : Bool) : inV (.str (kwP k)) [.str "seq", .str "repeat"] = !k := by cases k <;> decide +kernel
theorem w_in_sr2 (k : Bool) : inV (.str (kwR k)) [.str "seq", .str "repeat"] = !k := by cases k <;> decide +kernel
section
variable {P : Program} {w : World} {K : PySem.W.Frag} {mg : Str → Option Value} {base : Heap}
end

/-! block Gate: the gates of a step say that all that precede it are done (behind bRows, bStates, bAhead) -/
def hits (r : SRow) (p : List Int) : Nat := (r.2.2.filter fun g => decide (r.1.take g.1.toNat = p)).length
def cntF : List SRow → (List Int → Bool) → List Int → Nat
  | [], _, _ => 0
  | r :: R, D, p => (if D r.1 = true then hits r p else 0) + cntF R D p
def totF : List SRow → (List Int → Bool) → Nat
  | [], _ => 0
  | r :: R, D => (if D r.1 = true then 1 else 0) + totF R D
def mayF (R : List SRow) (D : List Int → Bool) (r : SRow) : Bool := r.2.2.all fun g => decide (g.2 ≤ (cntF R D (r.1.take g.1.toNat) : Int))
def lvOk (r : SRow) : Prop := ∀ g ∈ r.2.2, 0 ≤ g.1
theorem cntF_app (R S : List SRow) (D : List Int → Bool) (p : List Int) : cntF (R ++ S) D p = cntF R D p + cntF S D p := by
  induction R with
  | nil => simp [cntF]
  | cons r R ih => simp only [List.cons_append, cntF, ih]; omega
theorem totF_app (R S : List SRow) (D : List Int → Bool) : totF (R ++ S) D = totF R D + totF S D := by
  induction R with
  | nil => simp [totF]
  | cons r R ih => simp only [List.cons_append, totF, ih]; omega
theorem totF_le (R : List SRow) (D : List Int → Bool) : totF R D ≤ R.length := by
  induction R with
  | nil => simp [totF]
  | cons r R ih => simp only [totF, List.length_cons]; split <;> omega
theorem totF_full {R : List SRow} {D : List Int → Bool} : R.length ≤ totF R D ↔ ∀ r ∈ R, D r.1 = true := by
  induction R with
  | nil => simp [totF]
  | cons r R ih =>
    have := totF_le R D
    simp only [totF, List.length_cons, List.forall_mem_cons, ← ih]
    cases e : D r.1 with
    | true => simp; omega
    | false => simp; omega
theorem totF_none {R : List SRow} {D : List Int → Bool} (h : ∀ r ∈ R, D r.1 = false) : totF R D = 0 := by
  induction R with
  | nil => rfl
  | cons r R ih =>
    simp only [totF, h r (List.mem_cons_self ..), ih fun r hr => h r (List.mem_cons_of_mem _ hr)]
    simp
theorem cntF_tot {R : List SRow} {D : List Int → Bool} {p : List Int} (h : ∀ r ∈ R, hits r p = 1) : cntF R D p = totF R D := by
  induction R with
  | nil => rfl
  | cons r R ih =>
    simp only [cntF, totF, h r (List.mem_cons_self ..), ih fun r hr => h r (List.mem_cons_of_mem _ hr)]
theorem wgates {i : Int} {g : List (Int × Int)} {r : SRow} : (wRow i g r).2.2 = g ++ r.2.2.map fun p => (p.1 + 1, p.2) := rfl
theorem wadr {i : Int} {g : List (Int × Int)} {r : SRow} : (wRow i g r).1 = i :: r.1 := rfl
theorem take_up {i l : Int} {a : List Int} (h : 0 ≤ l) : (i :: a).take (l + 1).toNat = i :: a.take l.toNat := by
  have e : (l + 1).toNat = l.toNat + 1 := by omega
  rw [e, List.take_succ_cons]
theorem hits_up {i : Int} {r : SRow} (p : List Int) (lv : lvOk r) : ((r.2.2.map fun q => (q.1 + 1, q.2)).filter fun g => decide ((i :: r.1).take g.1.toNat = p)).length = match p with
    | [] => 0
    | k :: q => if i = k then hits r q else 0 := by
  have key : ∀ gs : List (Int × Int), (∀ g ∈ gs, 0 ≤ g.1) → ((gs.map fun q => (q.1 + 1, q.2)).filter fun g => decide ((i :: r.1).take g.1.toNat = p)).length = match p with
      | [] => 0
      | k :: q => if i = k then (gs.filter fun g => decide (r.1.take g.1.toNat = q)).length else 0 := by
    intro gs
    induction gs with
    | nil => intro _; cases p with
      | nil => rfl
      | cons k q => simp
    | cons g gs ih =>
      intro h
      have ih := ih fun x hx => h x (List.mem_cons_of_mem _ hx)
      have h0 := h g (List.mem_cons_self ..)
      rw [List.map_cons, List.filter_cons]
      dsimp only
      rw [take_up h0]
      cases p with
      | nil =>
        rw [if_neg (by simp)]
        exact ih
      | cons k q =>
        by_cases e : i = k
        · subst e
          simp only [if_true] at ih ⊢
          by_cases e2 : r.1.take g.1.toNat = q
          · rw [if_pos (by simp [e2]), List.length_cons, ih, List.filter_cons, if_pos (by simp [e2]), List.length_cons]
          · rw [if_neg (by simp [e2]), ih, List.filter_cons, if_neg (by simp [e2])]
        · dsimp only at ih ⊢
          rw [if_neg e] at ih ⊢
          rw [if_neg (by simp [e])]
          exact ih
  exact key r.2.2 lv
theorem hits_nil {i : Int} {sq : Bool} {n : Nat} {r : SRow} (lv : lvOk r) : hits (wRow i (gateOf sq n) r) [] = if sq = true then 1 else 0 := by
  unfold hits
  rw [wgates, wadr, List.filter_append, List.length_append, hits_up [] lv]
  cases sq <;> simp [gateOf]
theorem hits_cons {i k : Int} {sq : Bool} {n : Nat} {r : SRow} {p : List Int} (lv : lvOk r) : hits (wRow i (gateOf sq n) r) (k :: p) = if i = k then hits r p else 0 := by
  unfold hits
  rw [wgates, wadr, List.filter_append, List.length_append, hits_up (k :: p) lv]
  have e : ((gateOf sq n).filter fun g => decide ((i :: r.1).take g.1.toNat = k :: p)).length = 0 := by
    cases sq <;> simp [gateOf]
  rw [e, Nat.zero_add]
  rfl
theorem cnt_w {i k : Int} {sq : Bool} {n : Nat} {D : List Int → Bool} {p : List Int} : ∀ rs : List SRow, (∀ r ∈ rs, lvOk r) → cntF (rs.map (wRow i (gateOf sq n))) D (k :: p) = if i = k then cntF rs (fun a => D (i :: a)) p else 0
  | [], _ => by simp [cntF]
  | r :: rs, h => by
    have ih := cnt_w (i := i) (k := k) (sq := sq) (n := n) (D := D) (p := p) rs fun x hx => h x (List.mem_cons_of_mem _ hx)
    simp only [List.map_cons, cntF, ih, hits_cons (h r (List.mem_cons_self ..)), wadr]
    by_cases e : i = k
    · simp [e]
    · simp [e]
theorem cnt_packs {k : Int} {sq : Bool} {D : List Int → Bool} {p : List Int} : ∀ (rss : List (List SRow)) (i : Int) (acc : List SRow), (∀ rs ∈ rss, ∀ r ∈ rs, lvOk r) →
    cntF (packs sq rss i acc) D (k :: p) = cntF acc D (k :: p) + if i ≤ k then (match rss[(k - i).toNat]? with | some rs => cntF rs (fun a => D (k :: a)) p | none => 0) else 0
  | [], i, acc, _ => by simp [packs]
  | rs :: rr, i, acc, h => by
    have ih := cnt_packs (k := k) (sq := sq) (D := D) (p := p) rr (i + 1) (acc ++ rs.map (wRow i (gateOf sq acc.length))) fun x hx => h x (List.mem_cons_of_mem _ hx)
    rw [packs, ih, cntF_app, cnt_w rs (h rs (List.mem_cons_self ..)), Nat.add_assoc]
    congr 1
    by_cases e : i = k
    · subst e
      rw [if_pos rfl, if_neg (by omega), if_pos (Int.le_refl _), Int.sub_self]
      rfl
    · rw [if_neg e, Nat.zero_add]
      by_cases e2 : i ≤ k
      · rw [if_pos e2, if_pos (by omega)]
        have e3 : (k - i).toNat = (k - (i + 1)).toNat + 1 := by omega
        rw [e3, List.getElem?_cons_succ]
      · rw [if_neg e2, if_neg (by omega)]
theorem packs_mem2 {sq : Bool} : ∀ {rss : List (List SRow)} {i : Int} {acc : List SRow} {r : SRow}, r ∈ packs sq rss i acc → r ∈ acc ∨ ∃ k rs r0, rss[k]? = some rs ∧ r0 ∈ rs ∧ r = wRow (i + (k : Nat)) (gateOf sq (packs sq (rss.take k) i acc).length) r0
  | [], i, acc, r, h => .inl h
  | rs :: rr, i, acc, r, h => by
    rw [packs] at h
    rcases packs_mem2 h with h | ⟨k, rs', r0, h1, h2, h3⟩
    · rcases List.mem_append.mp h with h | h
      · exact .inl h
      · obtain ⟨r0, h0, rfl⟩ := List.mem_map.mp h
        exact .inr ⟨0, rs, r0, rfl, h0, by simp [packs]⟩
    · refine .inr ⟨k + 1, rs', r0, h1, h2, ?_⟩
      rw [h3, List.take_succ_cons, packs, show i + 1 + (k : Int) = i + ((k + 1 : Nat) : Int) by omega]
theorem packs_put {sq : Bool} : ∀ {rss : List (List SRow)} {i : Int} {acc : List SRow}, (∀ r ∈ acc, r ∈ packs sq rss i acc) ∧ ∀ {k : Nat} {rs : List SRow} {r0 : SRow}, rss[k]? = some rs → r0 ∈ rs →
    wRow (i + (k : Nat)) (gateOf sq (packs sq (rss.take k) i acc).length) r0 ∈ packs sq rss i acc
  | [], i, acc => ⟨fun r h => h, fun h _ => by simp at h⟩
  | rs :: rr, i, acc => by
    obtain ⟨h1, h2⟩ := packs_put (sq := sq) (rss := rr) (i := i + 1) (acc := acc ++ rs.map (wRow i (gateOf sq acc.length)))
    refine ⟨fun r h => ?_, fun {k rs' r0} e hr => ?_⟩
    · rw [packs]
      exact h1 r (List.mem_append_left _ h)
    · rw [packs]
      cases k with
      | zero =>
        simp only [List.getElem?_cons_zero, Option.some.injEq] at e
        subst e
        refine h1 _ (List.mem_append_right _ ?_)
        have e0 : packs sq ((rs :: rr).take 0) i acc = acc := rfl
        rw [e0]
        simpa using List.mem_map.mpr ⟨r0, hr, rfl⟩
      | succ k =>
        simp only [List.getElem?_cons_succ] at e
        have := h2 e hr
        rw [List.take_succ_cons, packs, show i + ((k + 1 : Nat) : Int) = i + 1 + (k : Int) by omega]
        exact this
theorem packs_split {sq : Bool} (k : Nat) : ∀ (rss : List (List SRow)) (i : Int) (acc : List SRow), ∃ rest, packs sq rss i acc = packs sq (rss.take k) i acc ++ rest ∧ ∀ r ∈ rest, ∃ m c, r.1 = m :: c ∧ i + (k : Nat) ≤ m := by
  induction k with
  | zero =>
    intro rss i acc
    have key : ∀ (rss : List (List SRow)) (i : Int) (acc : List SRow), ∃ rest, packs sq rss i acc = acc ++ rest ∧ ∀ r ∈ rest, ∃ m c, r.1 = m :: c ∧ i ≤ m := by
      intro rss
      induction rss with
      | nil => exact fun i acc => ⟨[], by simp [packs], fun r h => by cases h⟩
      | cons rs rr ih =>
        intro i acc
        obtain ⟨rest, e, h⟩ := ih (i + 1) (acc ++ rs.map (wRow i (gateOf sq acc.length)))
        refine ⟨rs.map (wRow i (gateOf sq acc.length)) ++ rest, by rw [packs, e, List.append_assoc], fun r hr => ?_⟩
        rcases List.mem_append.mp hr with hr | hr
        · obtain ⟨r0, _, rfl⟩ := List.mem_map.mp hr
          exact ⟨i, r0.1, rfl, Int.le_refl _⟩
        · obtain ⟨m, c, e, hm⟩ := h r hr
          exact ⟨m, c, e, by omega⟩
    obtain ⟨rest, e, h⟩ := key rss i acc
    refine ⟨rest, by simpa [packs] using e, fun r hr => ?_⟩
    obtain ⟨m, c, e, hm⟩ := h r hr
    exact ⟨m, c, e, by omega⟩
  | succ k ih =>
    intro rss i acc
    cases rss with
    | nil => exact ⟨[], by simp [packs], fun r h => by cases h⟩
    | cons rs rr =>
      obtain ⟨rest, e, h⟩ := ih rr (i + 1) (acc ++ rs.map (wRow i (gateOf sq acc.length)))
      refine ⟨rest, by rw [List.take_succ_cons, packs, packs, e], fun r hr => ?_⟩
      obtain ⟨m, c, e, hm⟩ := h r hr
      exact ⟨m, c, e, by omega⟩
theorem packs_low {sq : Bool} {rss : List (List SRow)} {k : Nat} {r : SRow} (h : r ∈ packs sq (rss.take k) 0 []) : ∃ m c, r.1 = m :: c ∧ m < (k : Int) := by
  rcases packs_mem2 h with h | ⟨m, rs, r0, e, _, rfl⟩
  · cases h
  · have hm := (List.getElem?_eq_some_iff.mp e).1
    rw [List.length_take] at hm
    exact ⟨0 + (m : Int), r0.1, rfl, by omega⟩
theorem mayF_w {sq : Bool} {rss : List (List SRow)} {D : List Int → Bool} {k n : Nat} {rs : List SRow} {r0 : SRow} (lv : ∀ rs ∈ rss, ∀ r ∈ rs, lvOk r) (ek : rss[k]? = some rs) (hr : r0 ∈ rs) :
    mayF (packs sq rss 0 []) D (wRow (0 + (k : Nat)) (gateOf sq n) r0) = ((!sq || decide ((n : Int) ≤ (cntF (packs sq rss 0 []) D [] : Int))) && mayF rs (fun a => D ((k : Int) :: a)) r0) := by
  unfold mayF
  rw [wgates, List.all_append, wadr]
  congr 1
  · cases sq <;> simp [gateOf]
  · rw [List.all_map]
    have lr := lv rs (List.mem_of_getElem? ek) r0 hr
    have key : ∀ gs : List (Int × Int), (∀ g ∈ gs, 0 ≤ g.1) → gs.all ((fun g : Int × Int => decide (g.2 ≤ (cntF (packs sq rss 0 []) D (((0 + (k : Int)) :: r0.1).take g.1.toNat) : Int))) ∘ fun p => (p.1 + 1, p.2)) =
        gs.all fun g => decide (g.2 ≤ (cntF rs (fun a => D ((k : Int) :: a)) (r0.1.take g.1.toNat) : Int)) := by
      intro gs
      induction gs with
      | nil => intro _; rfl
      | cons g gs ih =>
        intro h
        have e := take_up (i := 0 + (k : Int)) (a := r0.1) (h g (List.mem_cons_self ..))
        rw [List.all_cons, List.all_cons, ih fun x hx => h x (List.mem_cons_of_mem _ hx)]
        congr 1
        show decide (g.2 ≤ (cntF (packs sq rss 0 []) D (((0 + (k : Int)) :: r0.1).take (g.1 + 1).toNat) : Int)) = _
        rw [e, cnt_packs rss 0 [] lv, Int.zero_add, if_pos (by omega)]
        have e2 : ((k : Int) - 0).toNat = k := by omega
        rw [e2, ek]
        simp [cntF]
    exact key _ lr
theorem may_comp {sq : Bool} {Ss : List Sys} {rss : List (List SRow)} (len : Ss.length = rss.length) (lv : ∀ rs ∈ rss, ∀ r ∈ rs, lvOk r)
    (ih : ∀ (k : Nat) (S : Sys) (rs : List SRow), Ss[k]? = some S → rss[k]? = some rs → ∀ D, ClosedA S.ahead (rs.map (·.1)) D → ∀ r ∈ rs, (mayF rs D r = true ↔ ∀ b ∈ rs.map (·.1), S.ahead b r.1 = true → D b = true))
    (D : List Int → Bool) (cl : ClosedA (cAhead sq Ss 0) ((packs sq rss 0 []).map (·.1)) D) : ∀ r ∈ packs sq rss 0 [], (mayF (packs sq rss 0 []) D r = true ↔ ∀ b ∈ (packs sq rss 0 []).map (·.1), cAhead sq Ss 0 b r.1 = true → D b = true) := by
  intro r hr
  have hr' := hr
  rcases packs_mem2 hr with hr | ⟨k, rs, r0, ek, h0, rfl⟩
  · cases hr
  obtain ⟨S, eS⟩ : ∃ S, Ss[k]? = some S := by
    have := (List.getElem?_eq_some_iff.mp ek).1
    exact ⟨Ss[k]'(by omega), List.getElem?_eq_getElem _⟩
  have at_ : ∀ (c d : List Int), aheadAt Ss 0 (k : Int) c d = S.ahead c d := fun c d => aheadAt_at (by omega) (by rw [Int.sub_zero]; exact eS)
  have put : ∀ c ∈ rs, (k : Int) :: c.1 ∈ (packs sq rss 0 []).map (·.1) := fun c hc => List.mem_map.mpr ⟨_, packs_put.2 ek hc, by rw [wadr, Int.zero_add]⟩
  have clk : ClosedA S.ahead (rs.map (·.1)) fun a => D ((k : Int) :: a) := by
    intro a ha b hb hab hD
    obtain ⟨a', ha', rfl⟩ := List.mem_map.mp ha
    obtain ⟨b', hb', rfl⟩ := List.mem_map.mp hb
    refine cl _ (put a' ha') _ (put b' hb') ?_ hD
    simp only [cAhead, ne_eq, not_true_eq_false, if_false, at_]
    exact hab
  rw [mayF_w lv ek h0, Bool.and_eq_true, ih k S rs eS ek _ clk r0 h0, Bool.or_eq_true, Bool.not_eq_true', decide_eq_true_eq]
  -- what comes before in a row
  have row : sq = true → ((((packs sq (rss.take k) 0 []).length : Int) ≤ (cntF (packs sq rss 0 []) D [] : Int)) ↔ ∀ r ∈ packs sq (rss.take k) 0 [], D r.1 = true) := by
    intro e
    subst e
    obtain ⟨rest, es, hrest⟩ := packs_split (sq := true) k rss 0 []
    rw [cntF_tot (fun r hr => ?_), es, totF_app, ← totF_full]
    · constructor
      · intro h
        by_cases f : (packs true (rss.take k) 0 []).length ≤ totF (packs true (rss.take k) 0 []) D
        · exact f
        · exfalso
          have : ∃ b ∈ packs true (rss.take k) 0 [], D b.1 = false := by
            refine Classical.byContradiction fun z => f (totF_full.mpr fun r hr => ?_)
            cases e : D r.1 with
            | true => rfl
            | false => exact absurd ⟨r, hr, e⟩ z
          obtain ⟨b, hb, eb⟩ := this
          obtain ⟨m, c, e1, hm⟩ := packs_low hb
          have z : totF rest D = 0 := totF_none fun d hd => by
            obtain ⟨m2, c2, e2, hm2⟩ := hrest d hd
            cases e3 : D d.1 with
            | false => rfl
            | true =>
              have := cl b.1 (List.mem_map.mpr ⟨b, by rw [es]; exact List.mem_append_left _ hb, rfl⟩) d.1 (List.mem_map.mpr ⟨d, by rw [es]; exact List.mem_append_right _ hd, rfl⟩) (by
                rw [e1, e2]
                simp only [cAhead, ne_eq]
                rw [if_pos (by omega)]
                simp only [Bool.true_and, decide_eq_true_eq]
                omega) e3
              rw [eb] at this
              cases this
          have h2 := totF_le (packs true (rss.take k) 0 []) D
          omega
      · intro h
        omega
    · rcases packs_mem2 hr with hr | ⟨m, rs', r1, e1, h1, rfl⟩
      · cases hr
      · rw [hits_nil (lv rs' (List.mem_of_getElem? e1) r1 h1)]
        rfl
  constructor
  · rintro ⟨h1, h2⟩ b hb hab
    obtain ⟨b', hb', rfl⟩ := List.mem_map.mp hb
    rcases packs_mem2 hb' with hb' | ⟨m, rs', r1, e1, hr1, rfl⟩
    · cases hb'
    rw [wadr, wadr] at hab
    simp only [cAhead, Int.zero_add] at hab
    by_cases e : (m : Int) = k
    · have e' : m = k := by omega
      subst e'
      rw [ek] at e1
      cases e1
      simp only [ne_eq, not_true_eq_false, if_false, at_] at hab
      rw [wadr, Int.zero_add]
      exact h2 r1.1 (List.mem_map.mpr ⟨r1, hr1, rfl⟩) hab
    · rw [if_pos e] at hab
      simp only [Bool.and_eq_true, decide_eq_true_eq] at hab
      obtain ⟨e2, hlt⟩ := hab
      rcases h1 with h1 | h1
      · rw [e2] at h1
        cases h1
      · have full := (row e2).mp h1
        have hm : m < k := by omega
        have em : (rss.take k)[m]? = some rs' := by rw [List.getElem?_take_of_lt hm]; exact e1
        have mem := (packs_put (sq := sq) (rss := rss.take k) (i := 0) (acc := [])).2 em hr1
        have := full _ mem
        exact this
  · intro h
    refine ⟨?_, fun b hb hab => ?_⟩
    · cases e : sq with
      | false => exact .inl rfl
      | true =>
        right
        have e' := e
        rw [← e]
        refine (row e').mpr fun b hb => ?_
        obtain ⟨m, c, e1, hm⟩ := packs_low hb
        obtain ⟨rest, es, _⟩ := packs_split (sq := sq) k rss 0 []
        refine h b.1 (List.mem_map.mpr ⟨b, by rw [es]; exact List.mem_append_left _ hb, rfl⟩) ?_
        rw [e1, wadr]
        simp only [cAhead, Int.zero_add]
        rw [if_pos (by omega), e']
        simp only [Bool.true_and, decide_eq_true_eq]
        exact hm
    · obtain ⟨b', hb', rfl⟩ := List.mem_map.mp hb
      have := h _ (put b' hb') (by
        rw [wadr]
        simp only [cAhead, Int.zero_add, ne_eq, not_true_eq_false, if_false, at_]
        exact hab)
      exact this
theorem lvOk_w {i : Int} {sq : Bool} {n : Nat} {r : SRow} (h : lvOk r) : lvOk (wRow i (gateOf sq n) r) := by
  intro g hg
  rw [wgates] at hg
  rcases List.mem_append.mp hg with hg | hg
  · cases sq with
    | true => simp [gateOf] at hg; rw [hg]; exact Int.le_refl _
    | false => simp [gateOf] at hg
  · obtain ⟨q, hq, rfl⟩ := List.mem_map.mp hg
    have := h q hq
    show 0 ≤ q.1 + 1
    omega
mutual
theorem J.lv : ∀ (j : J), ∀ r ∈ j.srows, lvOk r
  | .st i, r, h => by
    simp only [J.srows, List.mem_singleton] at h
    subst h
    intro g hg
    cases hg
  | .ps b xs, r, h => by
    rw [J.srows] at h
    exact packs_mem (P := lvOk) (fun r hr => by cases hr) (fun rs h1 r h2 i m => lvOk_w (J.lvs xs rs h1 r h2)) r h
  | .rn b n x, r, h => by
    rw [J.srows] at h
    refine packs_mem (P := lvOk) (fun r hr => by cases hr) (fun rs h1 r h2 i m => ?_) r h
    obtain ⟨_, rfl⟩ := List.mem_replicate.mp h1
    exact lvOk_w (J.lv x r h2)
theorem J.lvs : ∀ (xs : List J), ∀ rs ∈ J.srowss xs, ∀ r ∈ rs, lvOk r
  | [], rs, h, _, _ => by simp [J.srowss] at h
  | x :: xs, rs, h, r, hr => by
    rw [J.srowss, List.mem_cons] at h
    rcases h with rfl | h
    · exact J.lv x r hr
    · exact J.lvs xs rs h r hr
end
mutual
theorem J.may : ∀ (j : J), j.stb → ∀ D, ClosedA j.sys.ahead (j.srows.map (·.1)) D → ∀ r ∈ j.srows, (mayF j.srows D r = true ↔ ∀ b ∈ j.srows.map (·.1), j.sys.ahead b r.1 = true → D b = true)
  | .st i, _, D, _, r, h => by
    simp only [J.srows, List.mem_singleton] at h
    subst h
    constructor
    · intro _ b hb hab
      cases hab
    · intro _
      rfl
  | .ps b xs, hs, D, cl, r, h => by
    simp only [J.stb] at hs
    simp only [J.sys, comp, J.srows] at cl h ⊢
    refine may_comp (by rw [J.syss_eq, J.srowss_eq, List.length_map, List.length_map]) (J.lvs xs) (fun k S rs e1 e2 => ?_) D cl r h
    exact J.mays xs hs.2 k S rs e1 e2
  | .rn b n x, hs, D, cl, r, h => by
    simp only [J.stb] at hs
    have ih := J.may x hs.2.1
    have e : (if x.srows.isEmpty = true then 0 else n.toNat) = if 0 < x.steps then n.toNat else 0 := by
      have hl := J.srows_len x hs.2.1
      by_cases z : 0 < x.steps
      · rw [if_pos z, if_neg (fun y => by rw [List.isEmpty_iff_length_eq_zero] at y; omega)]
      · rw [if_neg z, if_pos (List.isEmpty_iff_length_eq_zero.mpr (by omega))]
    simp only [J.sys, comp, J.srows, e] at cl h ⊢
    refine may_comp (by rw [List.length_replicate, List.length_replicate]) (fun rs hrs => ?_) (fun k S rs e1 e2 => ?_) D cl r h
    · obtain ⟨_, rfl⟩ := List.mem_replicate.mp hrs
      exact J.lv x
    · obtain ⟨_, rfl⟩ := List.mem_replicate.mp (List.mem_of_getElem? e1)
      obtain ⟨_, rfl⟩ := List.mem_replicate.mp (List.mem_of_getElem? e2)
      exact ih
theorem J.mays : ∀ (xs : List J), J.stbL xs → ∀ (k : Nat) (S : Sys) (rs : List SRow), (J.syss xs)[k]? = some S → (J.srowss xs)[k]? = some rs → ∀ D, ClosedA S.ahead (rs.map (·.1)) D → ∀ r ∈ rs, (mayF rs D r = true ↔ ∀ b ∈ rs.map (·.1), S.ahead b r.1 = true → D b = true)
  | [], _, k, S, rs, e1, _ => by simp [J.syss] at e1
  | x :: xs, hs, k, S, rs, e1, e2 => by
    cases k with
    | zero =>
      simp only [J.syss, J.srowss, List.getElem?_cons_zero, Option.some.injEq] at e1 e2
      subst e1 e2
      exact J.may x hs.1
    | succ k =>
      simp only [J.syss, J.srowss, List.getElem?_cons_succ] at e1 e2
      exact J.mays xs hs.2 k S rs e1 e2
end

/-! block Done: the object that does the steps of a small job (behind bGate, bFind, with Dt) -/
theorem kDr : ¬ ("done" : Str) = "rows" := by decide +kernel
theorem kBr : ¬ ("below" : Str) = "rows" := by decide +kernel
theorem kUr : ¬ ("usages" : Str) = "rows" := by decide +kernel
theorem kBd : ¬ ("below" : Str) = "done" := by decide +kernel
theorem kUd : ¬ ("usages" : Str) = "done" := by decide +kernel
theorem kUb : ¬ ("usages" : Str) = "below" := by decide +kernel
def dflds (r d b u : Addr) : List (Str × V) := putF "usages" (.ref u) (putF "below" (.ref b) (putF "done" (.ref d) (putF "rows" (.ref r) [])))
theorem dl_rows (r d b u : Addr) : (dflds r d b u).lookup ("rows" : Str) = some (.ref r) := by
  unfold dflds
  rw [lookup_putF, if_neg (fun z => kUr z.symm), lookup_putF, if_neg (fun z => kBr z.symm), lookup_putF, if_neg (fun z => kDr z.symm), lookup_putF, if_pos rfl]
theorem dl_done (r d b u : Addr) : (dflds r d b u).lookup ("done" : Str) = some (.ref d) := by
  unfold dflds
  rw [lookup_putF, if_neg (fun z => kUd z.symm), lookup_putF, if_neg (fun z => kBd z.symm), lookup_putF, if_pos rfl]
theorem dl_below (r d b u : Addr) : (dflds r d b u).lookup ("below" : Str) = some (.ref b) := by
  unfold dflds
  rw [lookup_putF, if_neg (fun z => kUb z.symm), lookup_putF, if_pos rfl]
theorem dl_usages (r d b u : Addr) : (dflds r d b u).lookup ("usages" : Str) = some (.ref u) := by
  unfold dflds
  rw [lookup_putF, if_pos rfl]
theorem dl_no (r d b u : Addr) {m : Str} (h1 : ¬ m = "usages") (h2 : ¬ m = "below") (h3 : ¬ m = "done") (h4 : ¬ m = "rows") : (dflds r d b u).lookup m = none := by
  unfold dflds
  rw [lookup_putF, if_neg h1, lookup_putF, if_neg h2, lookup_putF, if_neg h3, lookup_putF, if_neg h4]
  all_goals rfl
theorem len_putF (f : Str) (v : V) : ∀ fs : List (Str × V), (putF f v fs).length ≤ fs.length + 1
  | [] => Nat.le_refl _
  | (g, u) :: r => by
    have ih := len_putF f v r
    show (if g = f then (g, v) :: r else (g, u) :: putF f v r).length ≤ _
    split
    · simp
    · simp only [List.length_cons]
      omega
theorem sqT_at {K : PySem.W.Frag} {H : Hp} {p a : Addr} {o z : HO} {xs : List V} (e : H p = some o) (n1 : ∀ xs, o ≠ .tup xs) (n2 : ∀ ob u, o ≠ .frz ob u) (h : SqT K H a xs) : SqT K (upd H p z) a xs := by
  rcases h with (h | ⟨ob, h⟩) | h
  · refine .inl (.inl ?_)
    rw [upd_ne (fun q => by rw [q, e] at h; exact n1 _ (Option.some.inj h))]
    exact h
  · refine .inl (.inr ⟨ob, ?_⟩)
    rw [upd_ne (fun q => by rw [q, e] at h; exact n2 _ _ (Option.some.inj h))]
    exact h
  · exact .inr h
/-- the rows by their addresses -/
abbrev RowsAt (K : PySem.W.Frag) (H : Hp) : List DRow → List SRow → Prop := Paired fun r s => r.1 = s.1 ∧ SqT K H r.2.1 (s.1.map V.int) ∧ Dp K H r.2.2 (.tuple [.int s.2.1, gatesD s.2.2])
theorem noL_pairR (s : SRow) : noL (.tuple [.int s.2.1, gatesD s.2.2]) = true := by
  simp only [noL, noLs, gatesD, noLs_gates, Bool.and_self]
theorem RowsAt.keep {K : PySem.W.Frag} {H H' : Hp} (t : ∀ a xs, SqT K H a xs → SqT K H' a xs) {rr : List DRow} {R : List SRow} (h : RowsAt K H rr R) : RowsAt K H' rr R :=
  Paired.mapP h fun r s ⟨h1, h2, h3⟩ => ⟨h1, t _ _ h2, dp_keep t (noL_pairR s) h3⟩
theorem RowsAt.keys {K : PySem.W.Frag} {H : Hp} {rr : List DRow} {R : List SRow} (h : RowsAt K H rr R) : KeysAt K H rr := by
  induction h with
  | nil => exact KeysAt.nil
  | @cons r s rs ss h t ih =>
    intro x hx
    rcases List.mem_cons.mp hx with rfl | hx
    · rw [h.1]
      exact h.2.1
    · exact ih x hx
def rowOf (R : List SRow) (a : List Int) : Option SRow := R.find? fun s => decide (s.1 = a)
theorem rowOf_cons {s : SRow} {R : List SRow} {a : List Int} : rowOf (s :: R) a = if s.1 = a then some s else rowOf R a := by
  unfold rowOf
  by_cases e : s.1 = a <;> simp [List.find?_cons, e]
theorem rowOf_mem {R : List SRow} {a : List Int} {s : SRow} (h : rowOf R a = some s) : s ∈ R ∧ s.1 = a := by
  unfold rowOf at h
  exact ⟨List.mem_of_find?_eq_some h, by simpa using List.find?_some h⟩
theorem rowOf_some {R : List SRow} {a : List Int} (h : a ∈ R.map (·.1)) : ∃ s, rowOf R a = some s := by
  obtain ⟨s, hs, rfl⟩ := List.mem_map.mp h
  cases e : rowOf R s.1 with
  | some s => exact ⟨s, rfl⟩
  | none =>
    unfold rowOf at e
    rw [List.find?_eq_none] at e
    exact absurd (decide_eq_true rfl) (e s hs)
theorem rowOf_none {R : List SRow} {a : List Int} (h : a ∉ R.map (·.1)) : rowOf R a = none := by
  unfold rowOf
  rw [List.find?_eq_none]
  intro s hs e
  exact h (List.mem_map.mpr ⟨s, hs, of_decide_eq_true e⟩)
theorem RowsAt.look {K : PySem.W.Frag} {H : Hp} {rr : List DRow} {R : List SRow} (h : RowsAt K H rr R) (a : List Int) :
    (∃ s v, rowOf R a = some s ∧ look rr a = some v ∧ Dp K H v (.tuple [.int s.2.1, gatesD s.2.2])) ∨ (rowOf R a = none ∧ look rr a = none) := by
  induction h with
  | nil => exact .inr ⟨rfl, rfl⟩
  | @cons r s rs ss h t ih =>
    rw [look_cons, rowOf_cons]
    by_cases e : s.1 = a
    · rw [if_pos e, if_pos (h.1.trans e)]
      exact .inl ⟨s, _, rfl, rfl, h.2.2⟩
    · rw [if_neg e, if_neg (fun z => e (h.1.symm.trans z))]
      exact ih
/-- the usages on the way -/
def valR (R : List SRow) (a : List Int) : Int := ((rowOf R a).map (·.2.1)).getD 0
def sumsR (R : List SRow) : List (List Int) → Int → List Int
  | [], t => [t]
  | a :: r, t => t :: sumsR R r (t + valR R a)
def useR (R : List SRow) (done : List (List Int)) : Int := (done.map (valR R)).sum
theorem sumsR_snoc (R : List SRow) (a : List Int) : ∀ (done : List (List Int)) (t : Int), sumsR R (done ++ [a]) t = sumsR R done t ++ [t + useR R done + valR R a]
  | [], t => by simp [sumsR, useR]
  | b :: done, t => by
    rw [List.cons_append, sumsR, sumsR_snoc R a done, sumsR, List.cons_append]
    have e : t + valR R b + useR R done + valR R a = t + useR R (b :: done) + valR R a := by
      simp only [useR, List.map_cons, List.sum_cons]
      omega
    rw [e]
theorem sumsR_last (R : List SRow) : ∀ (done : List (List Int)) (t : Int), (sumsR R done t).getLast? = some (t + useR R done)
  | [], t => by simp [sumsR, useR]
  | b :: done, t => by
    have ih := sumsR_last R done (t + valR R b)
    have e : t + valR R b + useR R done = t + useR R (b :: done) := by
      simp only [useR, List.map_cons, List.sum_cons]
      omega
    rw [sumsR, List.getLast?_cons, ih, e]
    rfl
theorem sumsR_len (R : List SRow) : ∀ (done : List (List Int)) (t : Int), (sumsR R done t).length = done.length + 1
  | [], t => rfl
  | b :: done, t => by rw [sumsR, List.length_cons, sumsR_len R done, List.length_cons]
abbrev inL (done : List (List Int)) : List Int → Bool := fun a => done.contains a
structure DoneAt (P : Program) (w : World) (K : PySem.W.Frag) (C : Addr) (H0 H : Hp) (x : Addr) (j : J) (done : List (List Int)) : Prop where
  same : Same H0 H
  ex : ∃ (dx ra da ba ua : Addr) (rr dd bb : List DRow), H x = some (.ins C dx (dflds ra da ba ua)) ∧ (H ra = some (DtO P w ra rr) ∧ RowsAt K H rr j.srows) ∧
    (H da = some (DtO P w da dd) ∧ KeysAt K H dd ∧ (∀ k, (look dd k).isSome = done.contains k) ∧ dd.length ≤ done.length) ∧
    (H ba = some (DtO P w ba bb) ∧ KeysAt K H bb ∧ (∀ k, (look bb k).getD (.int 0) = .int (cntF j.srows (inL done) k : Nat)) ∧ bb.length ≤ 20 * done.length) ∧
    H ua = some (.lst ((sumsR j.srows done 0).map V.int)) ∧ (ra ≠ da ∧ ra ≠ ba ∧ da ≠ ba) ∧ (H0 x = none ∧ H0 ra = none ∧ H0 da = none ∧ H0 ba = none ∧ H0 ua = none)
theorem DoneAt.go {P : Program} {w : World} {K : PySem.W.Frag} {C : Addr} {H0 H H' : Hp} {x : Addr} {j : J} {done : List (List Int)} (d : DoneAt P w K C H0 H x j done) (s : Same H H') : DoneAt P w K C H0 H' x j done := by
  obtain ⟨h0, dx, ra, da, ba, ua, rr, dd, bb, h1, ⟨h2, h3⟩, ⟨h4, h5, h6⟩, ⟨h7, h8, h9⟩, h10, h11⟩ := d
  have t : ∀ a xs, SqT K H a xs → SqT K H' a xs := fun a xs q => same_sqT s q
  exact ⟨h0.trans s, dx, ra, da, ba, ua, rr, dd, bb, s _ _ h1, ⟨s _ _ h2, h3.keep t⟩, ⟨s _ _ h4, h5.keep t, h6⟩, ⟨s _ _ h7, h8.keep t, h9⟩, s _ _ h10, h11⟩
/-- the same, the rows perhaps locked -/
structure DoneR (P : Program) (w : World) (K : PySem.W.Frag) (C : Addr) (H : Hp) (x : Addr) (j : J) (done : List (List Int)) : Prop where
  ex : ∃ (dx ra da ba ua : Addr) (rr dd bb : List DRow), H x = some (.ins C dx (dflds ra da ba ua)) ∧ (Rd H ra (DtO P w ra rr) ∧ RowsAt K H rr j.srows) ∧
    (H da = some (DtO P w da dd) ∧ KeysAt K H dd ∧ (∀ k, (look dd k).isSome = done.contains k) ∧ dd.length ≤ done.length) ∧
    (H ba = some (DtO P w ba bb) ∧ KeysAt K H bb ∧ (∀ k, (look bb k).getD (.int 0) = .int (cntF j.srows (inL done) k : Nat)) ∧ bb.length ≤ 20 * done.length)
theorem DoneAt.toR {P : Program} {w : World} {K : PySem.W.Frag} {C : Addr} {H0 H : Hp} {x : Addr} {j : J} {done : List (List Int)} (d : DoneAt P w K C H0 H x j done) : DoneR P w K C H x j done := by
  obtain ⟨h0, dx, ra, da, ba, ua, rr, dd, bb, h1, ⟨h2, h3⟩, h4, h7, _⟩ := d
  exact ⟨dx, ra, da, ba, ua, rr, dd, bb, h1, ⟨.inl h2, h3⟩, h4, h7⟩
theorem DoneR.go {P : Program} {w : World} {K : PySem.W.Frag} {C : Addr} {H H' : Hp} {x : Addr} {j : J} {done : List (List Int)} (d : DoneR P w K C H x j done) (s : Same H H') : DoneR P w K C H' x j done := by
  obtain ⟨dx, ra, da, ba, ua, rr, dd, bb, h1, ⟨h2, h3⟩, ⟨h4, h5, h6⟩, h7, h8, h9⟩ := d
  have t : ∀ a xs, SqT K H a xs → SqT K H' a xs := fun a xs q => same_sqT s q
  exact ⟨dx, ra, da, ba, ua, rr, dd, bb, s _ _ h1, ⟨rd_same s h2, h3.keep t⟩, ⟨s _ _ h4, h5.keep t, h6⟩, s _ _ h7, h8.keep t, h9⟩
theorem cntF_none (R : List SRow) (k : List Int) : cntF R (inL []) k = 0 := by
  induction R with
  | nil => rfl
  | cons r R ih =>
    rw [cntF, ih]
    simp
theorem cut_upTo {us : List V} {i : Int} (h : 0 ≤ i) : cutV us none (some i) = us.take i.toNat := by
  by_cases h1 : i < (us.length : Int)
  · exact cut_take h h1
  · rw [List.take_of_length_le (by omega)]
    unfold cutV HT.sIx
    dsimp only
    rw [if_neg (by omega)]
    simp only [Nat.sub_zero, List.drop_zero]
    rw [Nat.min_eq_right (by omega), List.take_length]
section
variable {P : Program} {w : World} {K : PySem.W.Frag} {mg : Str → Option Value} {base : Heap}
def spDInit (P : Program) (w : World) (K : PySem.W.Frag) (C : Addr) : Sp := fun vs H Q _ => ∃ (x dx : Addr) (v : V) (j : J), vs = [.ref x, v] ∧ H x = some (.ins C dx []) ∧ Dp K H v j.toD ∧ j.deep ≤ 20 ∧ j.stb ∧ j.steps ≤ 400 ∧
  ∀ H', (∀ H0, Same H0 H → H0 x = none → DoneAt P w K C H0 H' x j []) → Q .non H'
theorem ok_dinit (T : Txt K mg) : FnOk P w K mg base CX0 42 T.f_DoneSteps_init T.d_DoneSteps_init ["self", "job"] (spDInit P w K T.c_DoneSteps) := by
  have g_step_rows : FnOk P w K mg base CX0 41 T.f_step_rows T.d_step_rows ["job"] (spRows K 20) := ok_rows T 20
  refine T.F_DoneSteps_init.ok sc_DoneSteps_init (fun vs H Q E h => ?_) (fun cdv A outer s H vs Q E hr h => ?_)
  · obtain ⟨x, dx, v, j, rfl, _⟩ := h
    rfl
  obtain ⟨x, dx, v, j, rfl, hx, hd, h20, hstb, h400, q⟩ := h
  have hu := hu_of hr
  refine ⟨_, (pss_cons (ps_fld (pv 0) (pe_dtc (own := [("address", 2), ("step", 3), ("gates", 4)]) (g := (gTup K 3 (gCons (gName 2) (gCons (gName 3) (gCons (gName 4) gNil))))) hu (by rfl) sc_DoneSteps_init.nd (pi_list (pe_call g_step_rows (hr.mono (by omega)) rfl T.m_step_rows T.F_step_rows.kp T.b_step_rows .nil pass0 (pa_cons (pv 1) pa_nil))) (blkOk_by (N := N_DoneSteps_init) (sc := defScope s_DoneSteps_init) (by decide +kernel)) (fun _ _ _ _ _ => (pg_tup (by rfl) (pgs_cons (pg_name (i := 2) sc_DoneSteps_init.nd rfl (Or.inl rfl)) (pgs_cons (pg_name (i := 3) sc_DoneSteps_init.nd rfl (Or.inl rfl)) (pgs_cons (pg_name (i := 4) sc_DoneSteps_init.nd rfl (Or.inl rfl)) pgs_nil))))) (fun _ _ _ _ _ => (pv 2)) (fun _ _ _ _ _ => (pe_tup (pa_cons (pv 3) (pa_cons (pv 4) pa_nil))))) rfl)
      (pss_cons (ps_fld (pv 0) pe_dtNew rfl)
      (pss_cons (ps_fld (pv 0) pe_dtNew rfl)
      (pss_one (ps_fld (pv 0) (pe_lst (pa_cons pe_int pa_nil)) rfl))))), ?_⟩
  refine ⟨_, rfl, v, j, rfl, hd, h20, h20, hstb, h400, fun H1 l ws s1 n1 e1 d1 => ?_⟩
  refine ⟨l, rfl, ⟨ws, SqL.of e1⟩, fun ra hra => ?_⟩
  refine dtc_list (P := P) (w := w) (K := K) (a := l) (xs := ws) (fun i H2 => Same H1 H2 ∧ ∃ rr, H2 ra = some (DtO P w ra rr) ∧ RowsAt K H2 rr (j.srows.take i)) ?_ ?_ ?_ ?_
  · exact ⟨same_new hra, [], upd_same, .nil⟩
  · rintro i H2 _ ⟨s2, _⟩
    exact SqL.of (s2 _ _ e1)
  · rintro i y H2 hi ⟨s2, rr, e2, d2⟩
    obtain ⟨d, ed, hdx⟩ := dpAll_get d1 hi
    rw [rowsD, List.getElem?_map] at ed
    obtain ⟨r, er, rfl⟩ := Option.map_eq_some_iff.mp ed
    obtain ⟨t, xs, rfl, ht, hall⟩ := dp_tup_inv (dp_same s2 hdx)
    cases hall with
    | cons da hall =>
    cases hall with
    | cons dv hall =>
    cases hall with
    | cons dg hall =>
    cases hall
    obtain rfl := dp_int_inv dv
    obtain ⟨ta, xa, rfl, qa, ha⟩ := dp_tup_inv da
    obtain rfl := Lw.ints_vals ha
    have nd : (j.srows.map (·.1)).Nodup := by
      rw [J.srows_adr j hstb, ← J.sys_adr j]
      exact J.sys_nodup j
    have ir := (List.getElem?_eq_some_iff.mp er).1
    have fresh : r.1 ∉ (j.srows.take i).map (·.1) := by
      intro m
      obtain ⟨s, hs, es⟩ := List.mem_map.mp m
      obtain ⟨k, hk⟩ := List.mem_iff_getElem?.mp hs
      have ki : k < i := by
        have := (List.getElem?_eq_some_iff.mp hk).1
        rw [List.length_take] at this
        omega
      rw [List.getElem?_take_of_lt ki] at hk
      have e1 : (j.srows.map (·.1))[k]? = some r.1 := by rw [List.getElem?_map, hk, ← es]; rfl
      have e2 : (j.srows.map (·.1))[i]? = some r.1 := by rw [List.getElem?_map, er]; rfl
      have := (List.getElem?_inj (by rw [List.length_map]; omega) nd).mp (e1.trans e2.symm)
      omega
    have ln : look rr r.1 = none := by
      rcases d2.look r.1 with ⟨s, v, es, _⟩ | ⟨_, e⟩
      · rw [rowOf_none fresh] at es
        cases es
      · exact e
    have hlr : rr.length = i := by
      rw [Paired.length d2, List.length_take]
      omega
    have hl400 := J.srows_len j hstb
    refine ⟨t, _, rfl, ht, rfl, _, _, rfl, _, _, rfl, _, _, rfl, rfl, rfl, _, rfl, _, rfl, _, rfl, (by show 2 ≤ sizeLine; decide), fun tt htt => ?_⟩
    obtain ⟨s3, d3⟩ := tup_fresh (K := K) (ds := [.int r.2.1, gatesD r.2.2]) htt (.cons (.int _) (.cons dg .nil))
    generalize (upd H2 tt _) = H3 at s3 d3 ⊢
    have e3 := s3 _ _ e2
    have d23 : RowsAt K H3 rr (j.srows.take i) := d2.keep fun a xs h => same_sqT s3 h
    have kk : ∀ (z : HO) a xs, SqT K H3 a xs → SqT K (upd H3 ra z) a xs := fun z a xs h => dt_sqT e3 h
    refine ⟨_, ⟨ra, ta, rr, r.1, rfl, rfl, e3, d23.keys, same_sqT s3 qa, by omega, rfl⟩, ?_, putD rr r.1 ta (.ref tt), upd_same, ?_⟩
    · intro b o hb
      rw [upd_ne (ne_of_none hb hra)]
      exact s3 _ _ (s2 _ _ hb)
    · rw [putD_new ln, List.take_add_one, er]
      exact Paired.snoc (d23.keep (kk _)) ⟨rfl, kk _ _ _ (same_sqT s3 qa), dp_keep (kk _) (noL_pairR r) d3⟩
  · rintro H2 ⟨s2, rr, e2, d2⟩
    have wl : ws.length = j.srows.length := by rw [dpAll_length d1, rowsD, List.length_map]
    rw [wl, List.take_length] at d2
    have s12 := s1.trans s2
    have hx2 := s12 _ _ hx
    have nx : ra ≠ x := fun z => by rw [z, hx2] at e2; exact dtO_ins (Option.some.inj e2).symm
    refine ⟨_, rfl, x, _, dx, [], rfl, hx2, T.cl_DoneSteps, T.na_DoneSteps_rows, (by show 0 < 1000; decide), fun da hda => ?_⟩
    have nda : da ≠ x := fun z => by rw [z, upd_same] at hda; cases hda
    have hda2 : H2 da = none := by rw [upd_ne nda] at hda; exact hda
    refine ⟨_, rfl, x, _, dx, _, rfl, (by rw [upd_ne (Ne.symm nda)]; exact upd_same), T.cl_DoneSteps, T.na_DoneSteps_done, (by have := len_putF "rows" (.ref ra) []; simp only [List.length_nil] at this; omega), fun ba hba => ?_⟩
    have nba : ba ≠ x := fun z => by rw [z, upd_same] at hba; cases hba
    have nbd : ba ≠ da := fun z => by rw [z, upd_ne nda, upd_same] at hba; cases hba
    have hba2 : H2 ba = none := by rw [upd_ne nba, upd_ne nbd, upd_ne nba] at hba; exact hba
    refine ⟨_, rfl, x, _, dx, _, rfl, (by rw [upd_ne (Ne.symm nba)]; exact upd_same), T.cl_DoneSteps, T.na_DoneSteps_below, (by have h1 := len_putF "rows" (.ref ra) []; have h2 := len_putF "done" (.ref da) (putF "rows" (.ref ra) []); simp only [List.length_nil] at h1; omega), (by show 1 ≤ sizeLine; decide), fun ua hua => ?_⟩
    have nua : ua ≠ x := fun z => by rw [z, upd_same] at hua; cases hua
    have nub : ua ≠ ba := fun z => by rw [z, upd_ne nba, upd_same] at hua; cases hua
    have nud : ua ≠ da := fun z => by rw [z, upd_ne nda, upd_ne (Ne.symm nbd), upd_ne nda, upd_same] at hua; cases hua
    have hua2 : H2 ua = none := by rw [upd_ne nua, upd_ne nub, upd_ne nua, upd_ne nud, upd_ne nua] at hua; exact hua
    refine ⟨_, rfl, x, _, dx, _, rfl, (by rw [upd_ne (Ne.symm nua)]; exact upd_same), T.cl_DoneSteps, T.na_DoneSteps_usages, (by have h1 := len_putF "rows" (.ref ra) []; have h2 := len_putF "done" (.ref da) (putF "rows" (.ref ra) []); have h3 := len_putF "below" (.ref ba) (putF "done" (.ref da) (putF "rows" (.ref ra) [])); simp only [List.length_nil] at h1; omega), ?_⟩
    have nrd : ra ≠ da := ne_of_none e2 hda2
    have nrb : ra ≠ ba := ne_of_none e2 hba2
    have nru : ra ≠ ua := ne_of_none e2 hua2
    refine q _ fun H0 s0 h0x => ?_
    have keep : ∀ b o, b ≠ x → H b = some o → ∀ z1 z2 z3 z4 z5 z6 z7, upd (upd (upd (upd (upd (upd (upd H2 x z1) da z2) x z3) ba z4) x z5) ua z6) x z7 b = some o := by
      intro b o nb hb z1 z2 z3 z4 z5 z6 z7
      have hb2 := s12 _ _ hb
      rw [upd_ne nb, upd_ne (ne_of_none hb2 hua2), upd_ne nb, upd_ne (ne_of_none hb2 hba2), upd_ne nb, upd_ne (ne_of_none hb2 hda2), upd_ne nb]
      exact hb2
    have free : ∀ b, H2 b = none → H0 b = none := fun b hb => (s0.trans s12).free hb
    have t : ∀ a xs, SqT K H2 a xs → ∀ f1 f2 f3 f4 z2 z4 z6, SqT K (upd (upd (upd (upd (upd (upd (upd H2 x (.ins T.c_DoneSteps dx f1)) da z2) x (.ins T.c_DoneSteps dx f2)) ba z4) x (.ins T.c_DoneSteps dx f3)) ua z6) x (.ins T.c_DoneSteps dx f4)) a xs := by
      intro a xs h f1 f2 f3 f4 z2 z4 z6
      have one : ∀ {H : Hp} {f : List (Str × V)} (o : HO), H x = some (.ins T.c_DoneSteps dx f) → SqT K H a xs → SqT K (upd H x o) a xs := fun o e q => sqT_at e (fun xs z => by cases z) (fun o u z => by cases z) q
      have two : ∀ {H : Hp} {p : Addr} {o : HO}, H p = none → SqT K H a xs → SqT K (upd H p o) a xs := fun n q => same_sqT (same_new n) q
      have a1 := one (.ins T.c_DoneSteps dx f1) hx2 h
      have a2 := two (p := da) (o := z2) (by rw [upd_ne nda]; exact hda2) a1
      have a3 := one (.ins T.c_DoneSteps dx f2) (by rw [upd_ne (Ne.symm nda)]; exact upd_same) a2
      have a4 := two (p := ba) (o := z4) (by rw [upd_ne nba, upd_ne nbd, upd_ne nba]; exact hba2) a3
      have a5 := one (.ins T.c_DoneSteps dx f3) (by rw [upd_ne (Ne.symm nba)]; exact upd_same) a4
      have a6 := two (p := ua) (o := z6) (by rw [upd_ne nua, upd_ne nub, upd_ne nua, upd_ne nud, upd_ne nua]; exact hua2) a5
      exact one _ (by rw [upd_ne (Ne.symm nua)]; exact upd_same) a6
    refine ⟨fun b o hb => ?_, dx, ra, da, ba, ua, rr, [], [], upd_same, ⟨?_, ?_⟩, ⟨?_, KeysAt.nil, fun k => rfl, Nat.zero_le _⟩, ⟨?_, KeysAt.nil, fun k => ?_, Nat.zero_le _⟩, ?_, ⟨nrd, nrb, Ne.symm nbd⟩, h0x, ?_, free _ hda2, free _ hba2, free _ hua2⟩
    · exact keep b o (fun z => by rw [z, h0x] at hb; cases hb) (s0 _ _ hb) _ _ _ _ _ _ _
    · rw [upd_ne nx, upd_ne nru, upd_ne nx, upd_ne nrb, upd_ne nx, upd_ne nrd, upd_ne nx]
      exact e2
    · exact d2.keep fun a xs h => t a xs h _ _ _ _ _ _ _
    · rw [upd_ne nda, upd_ne (Ne.symm nud), upd_ne nda, upd_ne (Ne.symm nbd), upd_ne nda, upd_same]
      rfl
    · rw [upd_ne nba, upd_ne (Ne.symm nub), upd_ne nba, upd_same]
      rfl
    · rw [cntF_none]
      rfl
    · rw [upd_ne nua, upd_same]
      rfl
    · exact (s0.trans s1).free hra
/-- an address, as data -/
def intsOf : PyData → List Int
  | .tuple ds => ds.map fun d => match d with | .int i => i | _ => 0
  | _ => []
theorem intsOf_ad (a : List Int) : intsOf (adD a) = a := by
  simp [intsOf, adD, List.map_map, Function.comp_def]
theorem noDs_ints' : ∀ l : List Int, noDs (l.map PyData.int) = true
  | [] => rfl
  | k :: l => by
    rw [List.map_cons]
    simp only [noDs, noD, noDs_ints' l, Bool.and_self]
def mayA (j : J) (done : List (List Int)) (a : List Int) : Bool := match rowOf j.srows a with
  | some r => !done.contains a && mayF j.srows (inL done) r
  | none => false
def mayD (j : J) (done : List (List Int)) (d : PyData) : Bool := isIdx d && mayA j done (intsOf d)
theorem isIdx_ad (a : List Int) : isIdx (adD a) = true := by
  show ((a.map PyData.int).all isI) = true
  rw [List.all_map, List.all_eq_true]
  intro x _
  rfl
def spMay (P : Program) (w : World) (K : PySem.W.Frag) (C : Addr) : Sp := fun vs H Q _ => ∃ (x : Addr) (v : V) (p : Addr) (d : PyData) (j : J) (done : List (List Int)), vs = [.ref x, v] ∧ DoneR P w K C H x j done ∧ Dq K p H v d ∧ d.bulk ≤ 80000 ∧ j.deep ≤ 20 ∧
  ∀ H', Same H H' → Q (.bl (mayD j done d)) H'
theorem ok_may (T : Txt K mg) : FnOk P w K mg base CX0 3 T.f_DoneSteps_may_do T.d_DoneSteps_may_do ["self", "address"] (spMay P w K T.c_DoneSteps) := by
  have g_is_index_tuple := ok_idx (P := P) (w := w) (base := base) T
  refine T.F_DoneSteps_may_do.ok sc_DoneSteps_may_do (fun vs H Q E h => ?_) (fun cdv A outer s H vs Q E hr h => ?_)
  · obtain ⟨x, v, p, d, j, done, rfl, _⟩ := h
    rfl
  obtain ⟨x, v, p, d, j, done, rfl, D0, hd, hb, h20, q⟩ := h
  have hu := hu_of hr
  refine ⟨_, (pss_cons (ps_if (PW.pt (pw_or (pt_not (pt_val (pe_call g_is_index_tuple (hr.mono (by omega)) rfl T.m_is_index_tuple T.F_is_index_tuple.kp T.b_is_index_tuple .nil pass0 (pa_cons (pv 1) pa_nil)))) (pw_or (pt_cmp (pc_dtNotIn hu (pv 1) (pe_fld (pv 0) rfl))) (pw_or1 (pt_cmp (pc_dtIn hu (pv 1) (pe_fld (pv 0) rfl))))))) (pss_one (ps_ret pe_bl)) pss_nil)
      (pss_cons (ps_set (i := 2) sc_DoneSteps_may_do.nd rfl (Or.inl rfl) (pe_ix (r := rIxT K) ix_tup (pe_dtGet hu (pe_fld (pv 0) rfl) (pv 1) (fun _ _ => rfl)) pe_int (fun _ _ => rfl)))
      (pss_one (ps_ret (pe_callB (r := rAll K) (cr_all rfl) (by rfl) T.n_all (by decide +kernel) (pa_cons (pe_lc (own := [("level", 3), ("least", 4)]) (g := (gTup K 2 (gCons (gName 3) (gCons (gName 4) gNil)))) (by rfl) sc_DoneSteps_may_do.nd (pi_tup (pv 2)) (blkOk_by (N := N_DoneSteps_may_do) (sc := (defScope s_DoneSteps_may_do)) (by decide +kernel)) (fun _ _ _ _ _ => (pg_tup (by rfl) (pgs_cons (pg_name (i := 3) sc_DoneSteps_may_do.nd rfl (Or.inl rfl)) (pgs_cons (pg_name (i := 4) sc_DoneSteps_may_do.nd rfl (Or.inl rfl)) pgs_nil)))) (fun _ _ _ _ _ => pts_nil) (fun _ _ _ _ _ => (pe_cmpR op_ge (pe_dtGetDK P w K rfl rfl rfl hu (pe_fldK K rfl (pv 0) rfl) (pe_slice (r := rSlA K) sl_tupA (pv 1) po_none (po_some (pv 3))) pe_int ⟨rfl, by rfl, by rfl, rfl⟩) (pv 4) (nomark _)))) pa_nil)))))), ?_⟩
  refine ⟨_, rfl, v, p, d, rfl, hd, hb, fun H1 s1 => ?_⟩
  have D1 := D0.go s1
  refine ⟨_, rfl, ?_⟩
  cases ei : isIdx d with
  | false =>
    refine iteT ?_
    have e : mayD j done d = false := by unfold mayD; rw [ei]; rfl
    rw [e] at q
    exact q _ s1
  | true =>
  refine iteF ?_
  obtain ⟨ds, rfl⟩ : ∃ ds, d = .tuple ds := by
    cases d <;> first | exact ⟨_, rfl⟩ | cases ei
  obtain ⟨a, rfl⟩ := idx_ints ei
  have em : mayD j done (.tuple (a.map .int)) = mayA j done a := by
    unfold mayD
    rw [ei, Bool.true_and]
    congr 1
    exact intsOf_ad a
  rw [em] at q
  obtain ⟨ta, xs, rfl, hxs, hall⟩ := dq_tup_inv (hd.keep (Same.kp s1))
  obtain rfl : xs = a.map V.int := ints_vals (hall.dp (noDs_ints' a))
  obtain ⟨dx, ra, da, ba, ua, rr, dd, bb, h1, ⟨h2, h3⟩, ⟨h4, h5, h6, h6'⟩, h7, h8, h9, h9'⟩ := id D1
  refine ⟨_, rfl, _, rfl, x, _, dx, _, _, rfl, h1, T.cl_DoneSteps, T.na_DoneSteps_rows, dl_rows _ _ _ _, _, ⟨ra, ta, rr, a, rfl, rfl, h2, h3.keys, hxs, rfl⟩, _, rfl, ?_⟩
  rcases h3.look a with ⟨r, v, er, el, dv⟩ | ⟨er, el⟩
  case inr =>
    rw [el]
    refine iteT ?_
    have e : mayA j done a = false := by unfold mayA; rw [er]
    rw [e] at q
    exact q _ s1
  rw [el]
  refine iteF ?_
  refine ⟨_, rfl, _, rfl, x, _, dx, _, _, rfl, h1, T.cl_DoneSteps, T.na_DoneSteps_done, dl_done _ _ _ _, _, ⟨da, ta, dd, a, rfl, rfl, .inl h4, h5, hxs, rfl⟩, _, rfl, ?_⟩
  rw [h6 a]
  cases ec : done.contains a with
  | true =>
    refine iteT ?_
    have e : mayA j done a = false := by unfold mayA; rw [er]; dsimp only; rw [ec]; rfl
    rw [e] at q
    exact q _ s1
  | false =>
  refine iteF ?_
  have e : mayA j done a = mayF j.srows (inL done) r := by unfold mayA; rw [er]; dsimp only; rw [ec]; rfl
  rw [e] at q
  obtain ⟨mr, rfl⟩ := rowOf_mem er
  have bd := J.srows_bd j r mr
  obtain ⟨tv, xv, rfl, qv, hv⟩ := dp_tup_inv dv
  cases hv with
  | cons dvv hv =>
  cases hv with
  | cons dg hv =>
  cases hv
  obtain ⟨tg, xg, rfl, qg, hg⟩ := dp_tup_inv dg
  have xgl : xg.length = r.2.2.length := by rw [dpAll_length hg, List.length_map]
  refine ⟨_, rfl, x, _, dx, _, _, rfl, h1, T.cl_DoneSteps, T.na_DoneSteps_rows, dl_rows _ _ _ _, _, rfl, _, ⟨ra, ta, rr, _, rfl, rfl, h2, h3.keys, hxs, el.symm⟩, _, _, _, _, rfl, rfl, qv, atI_at (j := 1) rfl rfl, ?_⟩
  refine ⟨_, rfl, tg, rfl, ⟨_, qg⟩, fun D hD => ?_⟩
  refine lc_tup (K := K) (a := tg) (xs := xg) (fun k H2 => Same H1 H2 ∧ H2 D = some (.lst (((r.2.2.take k).map fun g => decide (g.2 ≤ (cntF j.srows (inL done) (r.1.take g.1.toNat) : Int))).map V.bl))) ?_ ?_ ?_ ?_
  · exact ⟨same_new hD, by simpa using upd_same⟩
  · rintro k H2 _ ⟨s2, _⟩
    exact same_sqT s2 qg
  · rintro k y H2 hk ⟨s2, eD⟩
    obtain ⟨d, ed, hdd⟩ := dpAll_get hg hk
    rw [List.getElem?_map] at ed
    obtain ⟨pp, ep, rfl⟩ := Option.map_eq_some_iff.mp ed
    obtain ⟨tp, xp, rfl, qp, dp⟩ := dp_tup_inv hdd
    cases dp with
    | cons p1 dp =>
    cases dp with
    | cons p2 dp =>
    cases dp
    obtain rfl := dp_int_inv p1
    obtain rfl := dp_int_inv p2
    have hlt : k < r.2.2.length := (List.getElem?_eq_some_iff.mp ep).1
    refine ⟨tp, _, rfl, same_sqT s2 qp, rfl, _, _, rfl, _, _, rfl, rfl, rfl, ?_⟩
    unfold tYes
    refine iteT ?_
    have lv := J.lv j r mr pp (List.mem_of_getElem? ep)
    have kt : ∀ a xs, SqT K H1 a xs → SqT K H2 a xs := fun a xs h => same_sqT s2 h
    refine ⟨_, rfl, x, _, dx, _, _, rfl, s2 _ _ h1, T.cl_DoneSteps, T.na_DoneSteps_below, dl_below _ _ _ _, ⟨ba, bb, rfl, .inl (s2 _ _ h7), h8.keep kt⟩, _, rfl, ?_⟩
    try unfold tNoPart
    try dsimp only
    refine ⟨_, rfl, _, rfl, ?_⟩
    refine rSlA_q (kt _ _ hxs) (fun H3 t3 s3 q3 => ?_)
    rw [cut_upTo lv, ← List.map_take] at q3
    have s13 := s2.trans s3
    refine ⟨_, ⟨ba, t3, bb, _, rfl, rfl, .inl (s13 _ _ h7), h8.keep fun a xs h => same_sqT s13 h, q3, rfl⟩, _, rfl, ?_⟩
    rw [h9]
    have eD3 := s3 _ _ eD
    refine ⟨_, _, rfl, rfl, _, eD3, ?_, ?_, ?_⟩
    · rw [List.length_map, List.length_map, List.length_take]
      exact small1000 (by omega)
    · intro c o hc
      rw [upd_ne (ne_of_none hc hD)]
      exact s13 _ _ hc
    · rw [upd_same, take_step (fun g : Int × Int => decide (g.2 ≤ (cntF j.srows (inL done) (r.1.take g.1.toNat) : Int))) ep, List.map_append]
      rfl
  · rintro H2 ⟨s2, eD⟩
    rw [xgl, List.take_length] at eD
    refine ⟨D, _, rfl, SqL.of eD, ?_⟩
    have e : (r.2.2.map fun g => decide (g.2 ≤ (cntF j.srows (inL done) (r.1.take g.1.toNat) : Int))).all id = mayF j.srows (inL done) r := by
      rw [List.all_map]
      rfl
    rw [e]
    exact q _ (s1.trans s2)
theorem cntF_ext {R : List SRow} {D E : List Int → Bool} {q : List Int} (h : ∀ r ∈ R, D r.1 = E r.1) : cntF R D q = cntF R E q := by
  induction R with
  | nil => rfl
  | cons r R ih => rw [cntF, cntF, h r (List.mem_cons_self ..), ih fun r hr => h r (List.mem_cons_of_mem _ hr)]
theorem inL_snoc (done : List (List Int)) (a b : List Int) : inL (done ++ [a]) b = (inL done b || decide (b = a)) := by
  simp [inL, List.contains_eq_any_beq, List.any_append, Bool.beq_eq_decide_eq]
theorem cntF_snoc {a : List Int} {r : SRow} {done : List (List Int)} (nc : done.contains a = false) (q : List Int) : ∀ {R : List SRow}, (R.map (·.1)).Nodup → rowOf R a = some r → cntF R (inL (done ++ [a])) q = cntF R (inL done) q + hits r q
  | [], _, h => by cases h
  | s :: R, nd, h => by
    rw [List.map_cons, List.nodup_cons] at nd
    rw [rowOf_cons] at h
    rw [cntF, cntF, inL_snoc]
    by_cases e : s.1 = a
    · rw [if_pos e] at h
      cases h
      have e2 : cntF R (inL (done ++ [a])) q = cntF R (inL done) q := cntF_ext fun x hx => by
        have n : ¬ x.1 = a := fun z => nd.1 (List.mem_map.mpr ⟨x, hx, z.trans e.symm⟩)
        rw [inL_snoc, decide_eq_false n, Bool.or_false]
      rw [e2, e, show inL done a = false from nc]
      simp
      omega
    · rw [if_neg e] at h
      rw [cntF_snoc nc q nd.2 h, decide_eq_false e, Bool.or_false]
      omega
def spDoSt (P : Program) (w : World) (K : PySem.W.Frag) (C : Addr) : Sp := fun vs H Q _ => ∃ (x t : Addr) (a : List Int) (r : SRow) (H0 : Hp) (j : J) (done : List (List Int)), vs = [.ref x, .ref t] ∧ DoneAt P w K C H0 H x j done ∧ SqT K H t (a.map V.int) ∧
  rowOf j.srows a = some r ∧ done.contains a = false ∧ done.length < 400 ∧ j.deep ≤ 20 ∧ j.stb ∧ ∀ H', DoneAt P w K C H0 H' x j (done ++ [a]) → Q .non H'
theorem ok_step_d (T : Txt K mg) : FnOk P w K mg base CX0 1 T.f_DoneSteps_do_step T.d_DoneSteps_do_step ["self", "address"] (spDoSt P w K T.c_DoneSteps) := by
  refine T.F_DoneSteps_do_step.ok sc_DoneSteps_do_step (fun vs H Q E h => ?_) (fun cdv A outer s H vs Q E hr h => ?_)
  · obtain ⟨x, t, a, r, H0, j, done, rfl, _⟩ := h
    rfl
  obtain ⟨x, t, a, r, H0, j, done, rfl, D0, ht, er, nc, hlen, h20, hstb, q⟩ := h
  have hu := hu_of hr
  obtain ⟨s0, dx, ra, da, ba, ua, rr, dd, bb, h1, ⟨h2, h3⟩, ⟨h4, h5, h6, h6'⟩, ⟨h7, h8, h9, h9'⟩, h10, ⟨n1, n2, n3⟩, f1, f2, f3, f4, f5⟩ := id D0
  obtain ⟨mr, rfl⟩ := rowOf_mem er
  have bd := J.srows_bd j r mr
  rcases h3.look r.1 with ⟨r', v, er', el, dv⟩ | ⟨er', el⟩
  case inr =>
    rw [er] at er'
    cases er'
  rw [er] at er'
  cases er'
  obtain ⟨tv, xv, rfl, qv, hv⟩ := dp_tup_inv dv
  cases hv with
  | cons dvv hv =>
  cases hv with
  | cons dg hv =>
  cases hv
  obtain rfl := dp_int_inv dvv
  obtain ⟨tg, xg, rfl, qg, hg⟩ := dp_tup_inv dg
  have xgl : xg.length = r.2.2.length := by rw [dpAll_length hg, List.length_map]
  refine ⟨_, (pss_cons (ps_asg (pe_dtGet hu (pe_fld (pv 0) rfl) (pv 1) (fun _ _ => rfl)) (pg_tup (by rfl) (pgs_cons (pg_name (i := 2) sc_DoneSteps_do_step.nd rfl (Or.inl rfl)) (pgs_cons (pg_name (i := 3) sc_DoneSteps_do_step.nd rfl (Or.inl rfl)) pgs_nil))))
      (pss_cons (ps_for PassesOwn.never rfl (pi_tup (pv 3)) (pg_tup (by rfl) (pgs_cons (pg_name (i := 4) sc_DoneSteps_do_step.nd rfl (Or.inl rfl)) (pgs_cons (pg_name (i := 5) sc_DoneSteps_do_step.nd rfl (Or.inl rfl)) pgs_nil)))
        (pss_cons (ps_set (i := 6) sc_DoneSteps_do_step.nd rfl (Or.inl rfl) (pe_slice (r := rSlA K) sl_tupA (pv 1) po_none (po_some (pv 4))))
        (pss_one (ps_dtPut hu (pe_fld (pv 0) rfl) (pv 6) (pe_op op_add (pe_dtGetD hu (pe_fld (pv 0) rfl) (pv 6) pe_int ⟨rfl, by rfl, by rfl, rfl⟩) pe_int) rfl))))
      (pss_cons (ps_dtPut hu (pe_fld (pv 0) rfl) (pv 1) pe_bl rfl)
      (pss_one (ps_expr (pe_bm PySem.F.plainAttrs_list PySem.F.slot_list_append PySem.F.type_list_append mt_append (pe_fld (pv 0) rfl) (pa_cons (pe_op op_add (pe_ix (r := rIxL K) ix_list (pe_fld (pv 0) rfl) (pe_un un_neg pe_int) (fun _ _ => rfl)) (pv 2)) pa_nil))))))), ?_⟩
  refine ⟨_, rfl, x, _, dx, _, _, rfl, h1, T.cl_DoneSteps, T.na_DoneSteps_rows, dl_rows _ _ _ _, _, rfl, _, ⟨ra, t, rr, _, rfl, rfl, .inl h2, h3.keys, ht, el.symm⟩, tv, _, rfl, qv, rfl, _, _, rfl, _, _, rfl, rfl, ?_⟩
  refine ⟨_, rfl, tg, rfl, ⟨_, qg⟩, ?_⟩
  refine for_tup (K := K) (a := tg) (xs := xg) (fun k σ G => ∃ (bk : List DRow) (y4 y5 y6 : Option V), σ = [some (.ref x), some (.ref t), some (.int r.2.1), some (.ref tg), y4, y5, y6] ∧ Sx ba H G ∧ G ba = some (DtO P w ba bk) ∧ KeysAt K G bk ∧
      (∀ q, (look bk q).getD (.int 0) = .int ((cntF j.srows (inL done) q + ((r.2.2.take k).filter fun g => decide (r.1.take g.1.toNat = q)).length : Nat) : Int)) ∧ bk.length ≤ 20 * done.length + k)
    ⟨bb, none, none, none, rfl, Sx.refl, h7, h8, fun q => by rw [h9]; simp, by omega⟩ (fun k σ G _ ⟨_, _, _, _, _, sG, _⟩ => sx_dt h7 sG qg) ?_ ?_
  · rintro k y σ G hk ⟨bk, y4, y5, y6, rfl, sG, eb, kb, lb, hl⟩
    obtain ⟨d, ed, hdd⟩ := dpAll_get hg hk
    rw [List.getElem?_map] at ed
    obtain ⟨pp, ep, rfl⟩ := Option.map_eq_some_iff.mp ed
    obtain ⟨tp, xp, rfl, qp, dp⟩ := dp_tup_inv hdd
    cases dp with
    | cons p1 dp =>
    cases dp with
    | cons p2 dp =>
    cases dp
    obtain rfl := dp_int_inv p1
    obtain rfl := dp_int_inv p2
    have hlt : k < r.2.2.length := (List.getElem?_eq_some_iff.mp ep).1
    have lv := J.lv j r mr pp (List.mem_of_getElem? ep)
    have kt : ∀ a xs, SqT K H a xs → SqT K G a xs := fun a xs h => sx_dt h7 sG h
    have nxb : x ≠ ba := fun z => by rw [z, h7] at h1; exact dtO_ins (Option.some.inj h1)
    refine ⟨tp, _, rfl, kt _ _ qp, rfl, _, _, rfl, _, _, rfl, rfl, _, rfl, ?_⟩
    try unfold tNoPart
    try dsimp only
    refine ⟨_, rfl, _, rfl, ?_⟩
    refine rSlA_q (kt _ _ ht) (fun G3 t3 s3 q3 => ?_)
    rw [cut_upTo lv, ← List.map_take] at q3
    have eb3 := s3 _ _ eb
    have kb3 : KeysAt K G3 bk := kb.keep fun a xs h => same_sqT s3 h
    have hx3 := s3 _ _ (sG _ _ nxb h1)
    refine ⟨_, rfl, x, _, dx, _, _, rfl, hx3, T.cl_DoneSteps, T.na_DoneSteps_below, dl_below _ _ _ _, ⟨ba, bk, rfl, .inl eb3, kb3⟩, _, rfl, _, ⟨ba, t3, bk, _, rfl, rfl, .inl eb3, kb3, q3, rfl⟩, ?_⟩
    rw [lb]
    refine ⟨_, _, rfl, rfl, _, rfl, x, _, dx, _, _, rfl, hx3, T.cl_DoneSteps, T.na_DoneSteps_below, dl_below _ _ _ _, _, rfl, _, ⟨ba, t3, bk, _, rfl, rfl, eb3, kb3, q3, by have := bd.2; omega, rfl⟩, ?_⟩
    have kk : ∀ z a xs, SqT K G3 a xs → SqT K (upd G3 ba z) a xs := fun z a xs h => dt_sqT eb3 h
    refine ⟨_, _, _, _, rfl, fun b o nb hb => ?_, upd_same, (kb3.put q3).keep (kk _), fun q => ?_, ?_⟩
    · rw [upd_ne nb]
      exact s3 _ _ (sG _ _ nb hb)
    · rw [look_putD]
      by_cases e : q = r.1.take pp.1.toNat
      · subst e
        rw [if_pos rfl, List.take_add_one, ep, List.filter_append, List.length_append]
        simp
        omega
      · rw [if_neg e, lb, List.take_add_one, ep, List.filter_append, List.length_append]
        have e2 : ¬ r.1.take pp.1.toNat = q := fun z => e z.symm
        simp [e2]
    · exact Nat.le_trans (putD_len _ _ _ _) (by omega)
  · rintro σ G ⟨bk, y4, y5, y6, rfl, sG, eb, kb, lb, hl⟩
    rw [xgl, List.take_length] at lb
    have nxb : x ≠ ba := fun z => by rw [z, h7] at h1; exact dtO_ins (Option.some.inj h1)
    have nub : ua ≠ ba := fun z => by rw [z, h7] at h10; exact dtO_lst (Option.some.inj h10)
    have nud : ua ≠ da := fun z => by rw [z, h4] at h10; exact dtO_lst (Option.some.inj h10)
    have nur : ua ≠ ra := fun z => by rw [z, h2] at h10; exact dtO_lst (Option.some.inj h10)
    have nxd : x ≠ da := fun z => by rw [z, h4] at h1; exact dtO_ins (Option.some.inj h1)
    have nxu : x ≠ ua := fun z => by rw [z, h10] at h1; cases h1
    have hxG := sG _ _ nxb h1
    have kt : ∀ a xs, SqT K H a xs → SqT K G a xs := fun a xs h => sx_dt h7 sG h
    have edG := sG _ _ n3 h4
    have kdG : KeysAt K G dd := h5.keep kt
    have euG := sG _ _ nub h10
    refine ⟨_, rfl, x, _, dx, _, _, rfl, hxG, T.cl_DoneSteps, T.na_DoneSteps_done, dl_done _ _ _ _, _, rfl, _, ⟨da, t, dd, _, rfl, rfl, edG, kdG, kt _ _ ht, by omega, rfl⟩, ?_⟩
    have hx2 : upd G da (DtO P w da (putD dd r.1 t (.bl true))) x = some (.ins T.c_DoneSteps dx (dflds ra da ba ua)) := by rw [upd_ne nxd]; exact hxG
    have eu2 : upd G da (DtO P w da (putD dd r.1 t (.bl true))) ua = some (.lst ((sumsR j.srows done 0).map V.int)) := by rw [upd_ne nud]; exact euG
    have hsum := sumsR_last j.srows done 0
    obtain ⟨us, eus⟩ := List.getLast?_eq_some_iff.mp hsum
    have hsl := sumsR_len j.srows done 0
    refine ⟨_, rfl, x, _, dx, _, _, rfl, hx2, T.cl_DoneSteps, T.na_DoneSteps_usages, dl_usages _ _ _ _, .inl ⟨rfl, _, SqL.of eu2⟩, ?_⟩
    refine ⟨_, rfl, x, _, dx, _, _, rfl, hx2, T.cl_DoneSteps, T.na_DoneSteps_usages, dl_usages _ _ _ _, _, rfl, _, _, _, _, rfl, rfl, SqL.of eu2, (by rw [eus, List.map_append]; exact atI_last _ _), _, rfl, _, _, rfl, rfl, ?_⟩
    refine ⟨ua, _, _, rfl, rfl, eu2, (by rw [List.length_map]; exact small1000 (by omega)), ?_⟩
    have edG' : ∀ z, upd (upd G da (DtO P w da (putD dd r.1 t (.bl true)))) ua z da = some (DtO P w da (putD dd r.1 t (.bl true))) := fun z => by rw [upd_ne (Ne.symm nud), upd_same]
    have kk : ∀ z a xs, SqT K G a xs → SqT K (upd (upd G da (DtO P w da (putD dd r.1 t (.bl true)))) ua (.lst z)) a xs := fun z a xs h => sqT_at eu2 (fun xs z => by cases z) (fun o u z => by cases z) (dt_sqT edG h)
    refine q _ ⟨fun b o hb => ?_, dx, ra, da, ba, ua, rr, putD dd r.1 t (.bl true), bk, ?_, ⟨?_, ?_⟩, ⟨edG' _, ?_, fun k => ?_, ?_⟩, ⟨?_, ?_, fun k => ?_, ?_⟩, ?_, ⟨n1, n2, n3⟩, f1, f2, f3, f4, f5⟩
    · rw [upd_ne (ne_of_none hb f5), upd_ne (ne_of_none hb f3)]
      exact sG _ _ (ne_of_none hb f4) (s0 _ _ hb)
    · rw [upd_ne nxu]
      exact hx2
    · rw [upd_ne (Ne.symm nur), upd_ne n1]
      exact sG _ _ n2 h2
    · exact h3.keep fun a xs h => kk _ _ _ (kt _ _ h)
    · exact (kdG.put (kt _ _ ht)).keep (kk _)
    · rw [look_putD, List.contains_eq_any_beq, List.any_append, ← List.contains_eq_any_beq]
      by_cases e : k = r.1
      · simp [e]
      · rw [if_neg e, h6]
        have e2 : (k == r.1) = false := by simpa using e
        simp [e2]
    · have := putD_len dd r.1 t (.bl true)
      rw [List.length_append]
      simp only [List.length_singleton]
      omega
    · rw [upd_ne (Ne.symm nub), upd_ne (Ne.symm n3)]
      exact eb
    · exact kb.keep (kk _)
    · rw [lb, cntF_snoc nc k (by rw [J.srows_adr j hstb, ← J.sys_adr j]; exact J.sys_nodup j) er]
      rfl
    · rw [List.length_append]
      have := bd.2
      simp only [List.length_singleton]
      omega
    · rw [upd_same, sumsR_snoc, List.map_append, eus]
      have ev : valR j.srows r.1 = r.2.1 := by
        unfold valR
        rw [er]
        rfl
      rw [ev]
      simp
theorem nodup_len {α : Type} [DecidableEq α] : ∀ (l D : List α), l.Nodup → (∀ x ∈ l, x ∈ D) → l.length ≤ D.length
  | [], _, _, _ => Nat.zero_le _
  | x :: l, D, nd, h => by
    rw [List.nodup_cons] at nd
    have hx := h x (List.mem_cons_self ..)
    have ih := nodup_len l (D.erase x) nd.2 fun y hy => (List.mem_erase_of_ne (fun z => nd.1 (by rw [← z]; exact hy))).mpr (h y (List.mem_cons_of_mem _ hy))
    rw [List.length_erase_of_mem hx] at ih
    have := List.length_pos_of_mem hx
    rw [List.length_cons]
    omega
def walkD (j : J) : List (List Int) → List PyData → Bool × List (List Int)
  | done, [] => (true, done)
  | done, d :: ds => if mayD j done d = true then walkD j (done ++ [intsOf d]) ds else (false, done)
def allD (j : J) : PyData → Bool × List (List Int)
  | .tuple ds => walkD j [] ds
  | _ => (false, [])
/-- the same, some already done -/
def allF (j : J) (done : List (List Int)) : PyData → Bool × List (List Int)
  | .tuple ds => walkD j done ds
  | _ => (false, done)
theorem allF_nil (j : J) (d : PyData) : allF j [] d = allD j d := by cases d <;> rfl
theorem bulk_mem : ∀ {ds : List PyData} {d : PyData}, d ∈ ds → d.bulk ≤ PyData.bulkAll ds
  | [], _, h => by cases h
  | x :: ds, d, h => by
    simp only [PyData.bulkAll]
    rcases List.mem_cons.mp h with rfl | h
    · omega
    · have := bulk_mem h
      omega
theorem idx_data {d : PyData} (h : isIdx d = true) : d = adD (intsOf d) := by
  obtain ⟨ds, rfl⟩ : ∃ ds, d = .tuple ds := by
    cases d <;> first | exact ⟨_, rfl⟩ | cases h
  obtain ⟨a, rfl⟩ := idx_ints h
  show adD a = adD (intsOf (adD a))
  rw [intsOf_ad]
def spAll (P : Program) (w : World) (K : PySem.W.Frag) (C : Addr) : Sp := fun vs H Q _ => ∃ (x : Addr) (v : V) (p : Addr) (d : PyData) (H0 : Hp) (j : J) (dn : List (List Int)), vs = [.ref x, v] ∧ DoneAt P w K C H0 H x j dn ∧ dn.Nodup ∧ (∀ b ∈ dn, b ∈ j.adr) ∧ Dq K p H0 v d ∧ d.bulk ≤ 80000 ∧ j.deep ≤ 20 ∧ j.stb ∧ j.steps ≤ 400 ∧
  ∀ H', DoneAt P w K C H0 H' x j (allF j dn d).2 → Q (.bl (allF j dn d).1) H'
theorem ok_all (T : Txt K mg) : FnOk P w K mg base CX0 4 T.f_DoneSteps_do_all T.d_DoneSteps_do_all ["self", "addresses"] (spAll P w K T.c_DoneSteps) := by
  have g_DoneSteps_may_do := ok_may (P := P) (w := w) (base := base) T
  have g_DoneSteps_do_step := ok_step_d (P := P) (w := w) (base := base) T
  refine T.F_DoneSteps_do_all.ok sc_DoneSteps_do_all (fun vs H Q E h => ?_) (fun cdv A outer s H vs Q E hr h => ?_)
  · obtain ⟨x, v, p, d, H0, j, dn, rfl, _⟩ := h
    rfl
  obtain ⟨x, v, p, d, H0, j, dn, rfl, D0, dnn, dni, hd, hb, h20, hstb, h400, q⟩ := h
  have hu := hu_of hr
  refine ⟨_, (pss_cons (ps_if (pt_not (pt_val (pe_callB (r := rIsQ K) call_isQ (by rfl) T.n_isinstance (by decide +kernel) (pa_cons (pv 1) (pa_cons (pe_bltn (v := .ty "tuple") (by rfl) T.n_tuple (by decide +kernel) rfl) pa_nil))))) (pss_one (ps_ret pe_bl)) pss_nil)
      (pss_cons (ps_for PassesOwn.never rfl (pi_tup (pv 1)) (pg_name (i := 2) sc_DoneSteps_do_all.nd rfl (Or.inl rfl))
        (pss_cons (ps_if (pt_not (pt_val (pe_meth (pv 0) T.cl_DoneSteps T.mt_DoneSteps_may_do g_DoneSteps_may_do (hr.mono (by omega)) T.b_DoneSteps_may_do .nil pass0 (pa_cons (pv 2) pa_nil)))) (pss_one (ps_ret pe_bl)) pss_nil)
        (pss_one (ps_expr (pe_meth (pv 0) T.cl_DoneSteps T.mt_DoneSteps_do_step g_DoneSteps_do_step (hr.mono (by omega)) T.b_DoneSteps_do_step .nil pass0 (pa_cons (pv 2) pa_nil))))))
      (pss_one (ps_ret pe_bl)))), ?_⟩
  refine ⟨_, rfl, v, _, p, d, _, rfl, hd.keep (Same.kp D0.same), kit_tuple d, _, rfl, ?_⟩
  cases et : isTup d with
  | false =>
    refine iteT ?_
    have e : allF j dn d = (false, dn) := by cases d <;> first | rfl | cases et
    rw [e] at q
    exact q _ D0
  | true =>
  obtain ⟨ds, rfl⟩ : ∃ ds, d = .tuple ds := by
    cases d <;> first | exact ⟨_, rfl⟩ | cases et
  obtain ⟨a, xs, rfl, hxs, hall⟩ := dq_tup_inv hd
  have hlen : xs.length = ds.length := dqAll_length hall
  simp only [allF] at q
  refine iteF ?_
  refine ⟨_, rfl, a, rfl, ⟨xs, same_sqT D0.same hxs⟩, ?_⟩
  have adl := J.adr_len j hstb
  have adr := J.srows_adr j hstb
  refine for_tup (K := K) (a := a) (xs := xs) (fun k σ G => ∃ (done : List (List Int)) (y : Option V), σ = [some (.ref x), some (.ref a), y] ∧ DoneAt P w K T.c_DoneSteps H0 G x j done ∧ walkD j dn ds = walkD j done (ds.drop k) ∧ done.Nodup ∧ ∀ b ∈ done, b ∈ j.adr)
    ⟨dn, none, rfl, D0, rfl, dnn, dni⟩ (fun k σ G _ ⟨_, _, _, D, _⟩ => same_sqT D.same hxs) ?_ ?_
  · rintro k y σ G hk ⟨done, y2, rfl, D, ew, nd, hin⟩
    obtain ⟨d, ed, hdd⟩ := dqAll_get hall hk
    obtain ⟨klt, ek⟩ := List.getElem?_eq_some_iff.mp ed
    have edrop : ds.drop k = d :: ds.drop (k + 1) := by rw [← ek]; exact List.drop_eq_getElem_cons klt
    have bd : d.bulk ≤ 80000 := by
      have := bulk_mem (List.mem_of_getElem? ed)
      simp only [PyData.bulk] at hb
      omega
    rw [edrop, walkD] at ew
    obtain ⟨_, dx, ra, da, ba, ua, rr, dd, bb, h1, _⟩ := id D
    refine ⟨_, rfl, x, dx, _, rfl, h1, dl_no _ _ _ _ (by decide +kernel) (by decide +kernel) (by decide +kernel) (by decide +kernel), _, rfl, x, y, p, d, j, done, rfl, D.toR, hdd.keep (Same.kp D.same), bd, h20, fun G1 s1 => ?_⟩
    have D1 := D.go s1
    refine ⟨_, rfl, ?_⟩
    cases em : mayD j done d with
    | false =>
      refine iteT ?_
      rw [em, if_neg Bool.false_ne_true] at ew
      rw [ew] at q
      exact q _ D1
    | true =>
      rw [em, if_pos rfl] at ew
      refine iteF ?_
      have em2 := em
      unfold mayD at em2
      rw [Bool.and_eq_true] at em2
      obtain ⟨e1, e2⟩ := em2
      have ed2 := idx_data e1
      unfold mayA at e2
      obtain ⟨r, er⟩ : ∃ r, rowOf j.srows (intsOf d) = some r := by
        cases z : rowOf j.srows (intsOf d) with
        | some r => exact ⟨r, rfl⟩
        | none => rw [z] at e2; cases e2
      rw [er] at e2
      dsimp only at e2
      rw [Bool.and_eq_true, Bool.not_eq_true'] at e2
      obtain ⟨nc, _⟩ := e2
      obtain ⟨mr, ar⟩ := rowOf_mem er
      have mem : intsOf d ∈ j.adr := by rw [← adr]; exact List.mem_map.mpr ⟨r, mr, ar⟩
      have nin : intsOf d ∉ done := fun z => by
        have := List.contains_iff_mem.mpr z
        rw [nc] at this
        cases this
      have nd2 : (done ++ [intsOf d]).Nodup := by
        rw [List.nodup_append]
        refine ⟨nd, by simp, fun b hb c hc z => ?_⟩
        rw [List.mem_singleton.mp hc] at z
        exact nin (z ▸ hb)
      have in2 : ∀ b ∈ done ++ [intsOf d], b ∈ j.adr := fun b hb => by
        rcases List.mem_append.mp hb with hb | hb
        · exact hin b hb
        · rw [List.mem_singleton.mp hb]
          exact mem
      have l2 := nodup_len _ _ nd2 in2
      rw [List.length_append, List.length_singleton] at l2
      have hd1 := hdd.keep (Same.kp D1.same)
      rw [ed2] at hd1
      obtain ⟨t, xt, rfl, ht, ha⟩ := dq_tup_inv hd1
      obtain rfl := ints_vals (ha.dp (noDs_ints' _))
      obtain ⟨_, dx1, ra1, da1, ba1, ua1, rr1, dd1, bb1, k1, _⟩ := id D1
      refine ⟨_, rfl, x, dx1, _, rfl, k1, dl_no _ _ _ _ (by decide +kernel) (by decide +kernel) (by decide +kernel) (by decide +kernel), _, rfl, x, t, intsOf d, r, H0, j, done, rfl, D1, ht, er, nc, by omega, h20, hstb, fun G2 D2 => ?_⟩
      exact ⟨done ++ [intsOf d], _, rfl, D2, ew, nd2, in2⟩
  · rintro σ G ⟨done, y2, rfl, D, ew, nd, hin⟩
    rw [hlen, List.drop_length, walkD] at ew
    rw [ew] at q
    exact q _ D
end

/-! block State: which tuples are states, their usage (behind bDone, with Mx) -/
def ascB : List (List Int) → Bool
  | [] => true
  | [_] => true
  | a :: b :: r => HT.lexLt a b && ascB (b :: r)
theorem ascB_zip : ∀ as : List (List Int), ((as.zip (as.drop 1)).map fun p => HT.lexLt p.1 p.2).all id = ascB as
  | [] => rfl
  | [_] => rfl
  | a :: b :: r => by
    have ih := ascB_zip (b :: r)
    simp only [List.drop_succ_cons, List.drop_zero] at ih
    simp only [ascB, List.drop_succ_cons, List.drop_zero, List.zip_cons_cons, List.map_cons, List.all_cons, id]
    rw [← ih]
theorem ad_at {K : PySem.W.Frag} {H : Hp} {xs : List V} {as : List (List Int)} {i : Nat} {v : V} (h : DpAll K H xs (adDs as)) (e : xs[i]? = some v) : ∃ (t : Addr) (a : List Int), as[i]? = some a ∧ v = .ref t ∧ SqT K H t (a.map V.int) := by
  obtain ⟨d, ed, hd⟩ := dpAll_get h e
  rw [adDs, List.getElem?_map] at ed
  obtain ⟨a, ea, rfl⟩ := Option.map_eq_some_iff.mp ed
  obtain ⟨t, xt, rfl, ht, ha⟩ := dp_tup_inv hd
  obtain rfl := Lw.ints_vals ha
  exact ⟨t, a, ea, rfl, ht⟩
theorem noDs_ads : ∀ as : List (List Int), noDs (adDs as) = true
  | [] => rfl
  | a :: as => by
    show noDs (adD a :: adDs as) = true
    simp only [noDs, adD, noD, noDs_ints' a, noDs_ads as, Bool.and_self]
section
variable {P : Program} {w : World} {K : PySem.W.Frag} {mg : Str → Option Value} {base : Heap}
def spAsc (K : PySem.W.Frag) : Sp := fun vs H Q _ => ∃ (a : Addr) (xs : List V) (as : List (List Int)), vs = [.ref a] ∧ SqT K H a xs ∧ DpAll K H xs (adDs as) ∧ as.length ≤ 400 ∧ ∀ H', Same H H' → Q (.bl (ascB as)) H'
theorem ok_asc (T : Txt K mg) : FnOk P w K mg base CX0 1 T.f__is_ascending T.d__is_ascending ["addresses"] (spAsc K) := by
  refine T.F__is_ascending.ok sc__is_ascending (fun vs H Q E h => ?_) (fun cdv A outer s H vs Q E hr h => ?_)
  · obtain ⟨a, xs, as, rfl, _⟩ := h
    rfl
  obtain ⟨a, xs, as, rfl, hs, hall, h400, q⟩ := h
  have xl : xs.length = as.length := by rw [dpAll_length hall, adDs, List.length_map]
  refine ⟨_, (pss_one (ps_ret (pe_callB (r := rAll K) (cr_all rfl) (by rfl) T.n_all (by decide +kernel) (pa_cons (pe_lc (own := [("before", 1), ("after", 2)]) (g := (gTup K 2 (gCons (gName 1) (gCons (gName 2) gNil)))) (by rfl) sc__is_ascending.nd (RZ.pi_zipA (by rfl) T.n_zip (pa_cons (pv 0) (pa_cons (pe_slice (r := rSlA K) sl_tupA (pv 0) (po_some pe_int) po_none) pa_nil))) (blkOk_by (N := N__is_ascending) (sc := (defScope s__is_ascending)) (by decide +kernel)) (fun _ _ _ _ _ => (pg_tup (by rfl) (pgs_cons (pg_name (i := 1) sc__is_ascending.nd rfl (Or.inl rfl)) (pgs_cons (pg_name (i := 2) sc__is_ascending.nd rfl (Or.inl rfl)) pgs_nil)))) (fun _ _ _ _ _ => pts_nil) (fun _ _ _ _ _ => (pe_cmpR (r := rLtT K) (op_ltT hr.units0) (pv 1) (pv 2) (nomark _)))) pa_nil)))), ?_⟩
  refine ⟨_, rfl, _, rfl, _, rfl, ?_⟩
  try unfold tNoPart
  try dsimp only
  refine rSlA_q hs (fun G1 b s1 hb => ?_)
  have e1 : cutV xs (some 1) none = xs.drop 1 := by
    unfold cutV HT.sIx
    dsimp only
    rw [if_neg (by decide)]
    by_cases z : xs.length = 0
    · rw [List.length_eq_zero_iff.mp z]
      rfl
    · rw [Nat.min_eq_left (by show 1 ≤ xs.length; omega), List.take_of_length_le (by rw [List.length_drop]; exact Nat.le_refl _)]
      rfl
  rw [e1] at hb
  have hs1 := same_sqT s1 hs
  have hall1 := dpAll_same s1 hall
  refine ⟨a, b, _, _, rfl, .inr ⟨hs1, hb, fun D hD => ?_⟩⟩
  refine lc_it (walk_zipT2 (xs := xs) (ys := xs.drop 1) (n := xs.length - 1) (by rw [List.length_drop]; omega)) (fun i F => Same G1 F ∧ F D = some (.lst ((((as.zip (as.drop 1)).take i).map fun p => HT.lexLt p.1 p.2).map V.bl))) ?_ ?_ ?_ ?_
  · exact ⟨same_new hD, by simpa using upd_same⟩
  · rintro i F _ ⟨s3, _⟩
    exact ⟨same_sqT s3 hs1, same_sqT s3 hb⟩
  · rintro i z F F' hi ⟨s3, eD⟩ ⟨t, x, y, rfl, ht, rfl, hx, hy⟩
    dsimp only at hx hy
    rw [List.getElem?_drop] at hy
    obtain ⟨t1, a1, ea1, rfl, k1⟩ := ad_at hall1 hx
    obtain ⟨t2, a2, ea2, rfl, k2⟩ := ad_at hall1 hy
    have s4 : Same F (upd F t (.tup [.ref t1, .ref t2])) := same_new ht
    have kt : SqT K (upd F t (.tup [.ref t1, .ref t2])) t [.ref t1, .ref t2] := SqT.of upd_same
    have eD4 := s4 _ _ eD
    generalize (upd F t (.tup [.ref t1, .ref t2])) = F2 at s4 kt eD4 ⊢
    have s34 := s3.trans s4
    refine ⟨t, _, rfl, kt, rfl, _, _, rfl, _, _, rfl, rfl, rfl, ?_⟩
    unfold tYes
    refine iteT ?_
    refine ⟨_, rfl, _, rfl, t1, t2, a1, a2, rfl, rfl, same_sqT s34 k1, same_sqT s34 k2, ?_⟩
    have ez : (as.zip (as.drop 1))[i]? = some (a1, a2) := by
      rw [List.getElem?_zip_eq_some]
      exact ⟨ea1, by rw [List.getElem?_drop]; exact ea2⟩
    have il := (List.getElem?_eq_some_iff.mp ea1).1
    refine ⟨_, eD4, ?_, ?_, ?_⟩
    · rw [List.length_map, List.length_map, List.length_take]
      exact small1000 (by omega)
    · intro c o hc
      rw [upd_ne (ne_of_none hc hD)]
      exact s34 _ _ hc
    · rw [upd_same, take_step (fun p : List Int × List Int => HT.lexLt p.1 p.2) ez, List.map_append]
      rfl
  rintro F ⟨s3, eD⟩
  have tz : (as.zip (as.drop 1)).take (xs.length - 1) = as.zip (as.drop 1) := by
    refine List.take_of_length_le ?_
    rw [List.length_zip, List.length_drop]
    omega
  rw [tz] at eD
  refine ⟨D, _, rfl, SqL.of eD, ?_⟩
  rw [ascB_zip]
  exact q _ (s1.trans s3)
/-- what a tuple must be, to be a state -/
def stB (j : J) (d : PyData) : Bool := (allD j d).1 && ascB (allD j d).2
theorem walkD_all {j : J} : ∀ {ds : List PyData} {done : List (List Int)}, (walkD j done ds).1 = true → ∃ as, ds = adDs as ∧ (walkD j done ds).2 = done ++ as
  | [], done, _ => ⟨[], rfl, by simp [walkD]⟩
  | d :: ds, done, h => by
    rw [walkD] at h ⊢
    cases e : mayD j done d with
    | false =>
      rw [e, if_neg Bool.false_ne_true] at h
      cases h
    | true =>
      rw [e] at h
      rw [if_pos rfl] at h ⊢
      obtain ⟨as, e1, e2⟩ := walkD_all h
      have em := e
      unfold mayD at em
      rw [Bool.and_eq_true] at em
      refine ⟨intsOf d :: as, ?_, ?_⟩
      · show d :: ds = adD (intsOf d) :: adDs as
        rw [← idx_data em.1, e1]
      · rw [e2, List.append_assoc]
        rfl
theorem walkD_len {j : J} (hs : j.stb) : ∀ {ds : List PyData} {done : List (List Int)}, done.Nodup → (∀ b ∈ done, b ∈ j.adr) → (walkD j done ds).2.Nodup ∧ ∀ b ∈ (walkD j done ds).2, b ∈ j.adr
  | [], done, nd, hin => ⟨nd, hin⟩
  | d :: ds, done, nd, hin => by
    rw [walkD]
    cases e : mayD j done d with
    | false =>
      rw [if_neg Bool.false_ne_true]
      exact ⟨nd, hin⟩
    | true =>
      rw [if_pos rfl]
      unfold mayD at e
      rw [Bool.and_eq_true] at e
      have e2 := e.2
      unfold mayA at e2
      cases z : rowOf j.srows (intsOf d) with
      | none => rw [z] at e2; cases e2
      | some r =>
      rw [z] at e2
      dsimp only at e2
      rw [Bool.and_eq_true, Bool.not_eq_true'] at e2
      obtain ⟨mr, ar⟩ := rowOf_mem z
      refine walkD_len hs ?_ ?_
      · rw [List.nodup_append]
        refine ⟨nd, by simp, fun b hb c hc y => ?_⟩
        rw [List.mem_singleton.mp hc] at y
        have := List.contains_iff_mem.mpr hb
        rw [y, e2.1] at this
        cases this
      · intro b hb
        rcases List.mem_append.mp hb with hb | hb
        · exact hin b hb
        · rw [List.mem_singleton.mp hb, ← J.srows_adr j hs]
          exact List.mem_map.mpr ⟨r, mr, ar⟩
def spFindSt (P : Program) (w : World) (K : PySem.W.Frag) (C : Addr) : Sp := fun vs H Q _ => ∃ (v u : V) (p : Addr) (d : PyData) (j : J), vs = [v, u] ∧ Dp K H v j.toD ∧ Dq K p H u d ∧ d.bulk ≤ 80000 ∧ j.deep ≤ 20 ∧ j.stb ∧ j.steps ≤ 400 ∧
  (stB j d = false → ∀ H', Same H H' → Q .non H') ∧ (stB j d = true → ∀ H' x, DoneAt P w K C H H' x j (allD j d).2 → Q (.ref x) H')
theorem ok_findst (T : Txt K mg) : FnOk P w K mg base CX0 44 T.f__find_state T.d__find_state ["job", "value"] (spFindSt P w K T.c_DoneSteps) := by
  have g_DoneSteps_init := ok_dinit (P := P) (w := w) (base := base) T
  have g_DoneSteps_do_all := ok_all (P := P) (w := w) (base := base) T
  have g__is_ascending := ok_asc (P := P) (w := w) (base := base) T
  refine T.F__find_state.ok sc__find_state (fun vs H Q E h => ?_) (fun cdv A outer s H vs Q E hr h => ?_)
  · obtain ⟨v, u, p, d, j, rfl, _⟩ := h
    rfl
  obtain ⟨v, u, p, d, j, rfl, hv, hd, hb, h20, hstb, h400, qn, qy⟩ := h
  refine ⟨_, (pss_cons (ps_set (i := 2) sc__find_state.nd rfl (Or.inl rfl) (pe_make T.mk_DoneSteps g_DoneSteps_init (hr.mono (by omega)) rfl T.g_DoneSteps T.b_DoneSteps_init .nil pass0 (pa_cons (pv 0) pa_nil)))
      (pss_one (ps_ret (pe_ifExp (PW.pt (pw_and (pt_val (pe_meth (pv 2) T.cl_DoneSteps T.mt_DoneSteps_do_all g_DoneSteps_do_all (hr.mono (by omega)) T.b_DoneSteps_do_all .nil pass0 (pa_cons (pv 1) pa_nil))) (pw_and1 (pt_val (pe_call g__is_ascending (hr.mono (by omega)) rfl T.m__is_ascending T.F__is_ascending.kp T.b__is_ascending .nil pass0 (pa_cons (pv 1) pa_nil)))))) (pv 2) pe_non)))), ?_⟩
  refine ⟨_, rfl, fun x dx nx ndx nex => ?_⟩
  have s0 : Same H (upd (upd H dx (.own x)) x (.ins T.c_DoneSteps dx [])) := (same_new ndx).trans (same_new (by rw [upd_ne (Ne.symm nex)]; exact nx))
  refine ⟨x, dx, v, j, rfl, upd_same, dp_same s0 hv, h20, hstb, h400, fun H1 D1 => ⟨rfl, ?_⟩⟩
  have D := D1 H s0 nx
  obtain ⟨_, dx1, ra, da, ba, ua, rr, dd, bb, h1, _⟩ := id D
  refine ⟨_, rfl, x, dx1, _, rfl, h1, dl_no _ _ _ _ (by decide +kernel) (by decide +kernel) (by decide +kernel) (by decide +kernel), _, rfl, x, u, p, d, H, j, [], rfl, D, List.nodup_nil, (fun b h => nomatch h), hd, hb, h20, hstb, h400, fun H2 D2 => ?_⟩
  rw [allF_nil] at D2 ⊢
  refine ⟨_, rfl, ?_⟩
  cases e : (allD j d).1 with
  | false =>
    refine iteF ?_
    refine iteF ?_
    exact qn (by unfold stB; rw [e]; rfl) _ D2.same
  | true =>
  refine iteT ?_
  obtain ⟨ds, rfl⟩ : ∃ ds, d = .tuple ds := by
    cases d <;> first | exact ⟨_, rfl⟩ | cases e
  have e' : (walkD j [] ds).1 = true := e
  obtain ⟨as, rfl, e2⟩ := walkD_all e'
  obtain ⟨nd, hin⟩ := walkD_len (j := j) hstb (ds := adDs as) (done := []) List.nodup_nil (fun b h => by cases h)
  rw [e2, List.nil_append] at nd hin
  have e3 : (allD j (.tuple (adDs as))).2 = as := by
    show (walkD j [] (adDs as)).2 = as
    rw [e2, List.nil_append]
  have ll := nodup_len _ _ nd hin
  have adl := J.adr_len j hstb
  obtain ⟨a, xs, rfl, hs, hall⟩ := dq_tup_inv (hd.keep (Same.kp D2.same))
  refine ⟨_, rfl, a, xs, as, rfl, hs, hall.dp (noDs_ads as), by omega, fun H3 s3 => ?_⟩
  have eb : stB j (.tuple (adDs as)) = ascB as := by
    unfold stB
    rw [e, e3, Bool.true_and]
  refine ⟨_, rfl, ?_⟩
  cases ea : ascB as with
  | false =>
    refine iteF ?_
    exact qn (eb.trans ea) _ (D2.same.trans s3)
  | true =>
    refine iteT ?_
    exact ⟨_, rfl, qy (eb.trans ea) _ x (D2.go s3)⟩
def spIsSt (K : PySem.W.Frag) : Sp := fun vs H Q _ => ∃ (v u : V) (p : Addr) (d : PyData) (j : J), vs = [v, u] ∧ Dp K H v j.toD ∧ Dq K p H u d ∧ d.bulk ≤ 80000 ∧ j.deep ≤ 20 ∧ j.stb ∧ (szJ j 400 13).isSome = true ∧ j.steps ≤ 400 ∧
  ∀ H', Same H H' → Q (.bl (stB j d)) H'
def spCkSt (P : Program) (w : World) (K : PySem.W.Frag) (C I : Addr) : Sp := fun vs H Q E => ∃ (v u : V) (p : Addr) (d : PyData) (j : J), vs = [v, u] ∧ Dp K H v j.toD ∧ Dq K p H u d ∧ d.bulk ≤ 80000 ∧ j.deep ≤ 20 ∧ j.stb ∧ j.steps ≤ 400 ∧
  (stB j d = true → ∀ H' x, DoneAt P w K C H H' x j (allD j d).2 → Q (.ref x) H') ∧ (stB j d = false → ∀ H', Same H H' → E (.ref I) none H')
theorem ok_ckst (T : Txt K mg) : FnOk P w K mg base (L2.CX P w) 45 T.f_checked_state T.d_checked_state ["job", "state"] (spCkSt P w K T.c_DoneSteps T.c_InvalidState) := by
  have g__find_state := ok_findst (P := P) (w := w) (base := base) T
  refine T.F_checked_state.okX sc_checked_state (fun vs H Q E h => ?_) (fun cdv A outer s H vs Q E hr h => ?_)
  · obtain ⟨v, u, p, d, j, rfl, _⟩ := h
    rfl
  obtain ⟨v, u, p, d, j, rfl, hv, hd, hb, h20, hstb, h400, q, qe⟩ := h
  refine ⟨_, (pss_cons (ps_set (i := 2) sc_checked_state.nd rfl (Or.inl rfl) (pe_call g__find_state (hr.mono (by omega)) rfl T.m__find_state T.F__find_state.kp T.b__find_state .nil pass0 (pa_cons (pv 0) (pa_cons (pv 1) pa_nil))))
      (pss_cons (ps_if (pt_cmpR op_isN (pv 2) pe_non (nomark _)) (pss_one (ps_raise rfl (takes_of rfl rfl rfl rfl) (pmk_own PySem.F.excBase_ValueError T.x_InvalidState T.g_InvalidState T.k_InvalidState (raises_own T.bb_InvalidState T.tt_InvalidState) rfl))) pss_nil)
      (pss_one (ps_ret (pv 2))))), ?_⟩
  refine ⟨_, rfl, _, rfl, v, u, p, d, j, rfl, hv, hd, hb, h20, hstb, h400, fun e H2 s2 => ?_, fun e H2 x D => ?_⟩
  · refine ⟨_, rfl, rfl, _, rfl, ?_⟩
    refine iteT ?_
    exact qe e _ s2
  · refine ⟨_, rfl, rfl, _, rfl, ?_⟩
    refine iteF ?_
    exact ⟨_, rfl, q e _ x D⟩
def spUse (K : PySem.W.Frag) (I : Addr) : Sp := fun vs H Q E => ∃ (v u : V) (p : Addr) (d : PyData) (j : J), vs = [v, u] ∧ Dp K H v j.toD ∧ Dq K p H u d ∧ d.bulk ≤ 80000 ∧ j.deep ≤ 20 ∧ j.stb ∧ (szJ j 400 13).isSome = true ∧ j.steps ≤ 400 ∧
  (stB j d = true → ∀ H', Same H H' → Q (.int (useR j.srows (allD j d).2)) H') ∧ (stB j d = false → ∀ H', Same H H' → E (.ref I) none H')
def spRefS (K : PySem.W.Frag) : Sp := fun vs H Q _ => ∃ (v u : V) (p : Addr) (d : PyData) (j : J), vs = [v, u] ∧ Dp K H v j.toD ∧ Dq K p H u d ∧ d.bulk ≤ 80000 ∧ j.deep ≤ 20 ∧ j.stb ∧ (szJ j 400 13).isSome = true ∧ j.steps ≤ 400 ∧
  ∀ H', Same H H' → Q (.bl (!stB j d)) H'
end

/-! block Closed: drawn states; what is a state, said by the steps' order (behind bState, bAhead) -/
theorem lex_trans : ∀ {a b c : List Int}, HT.lexLt a b = true → HT.lexLt b c = true → HT.lexLt a c = true
  | [], [], _, h, _ => by cases h
  | [], _ :: _, [], _, h => by cases h
  | [], _ :: _, _ :: _, _, _ => rfl
  | _ :: _, [], _, h, _ => by cases h
  | _ :: _, _ :: _, [], _, h => by cases h
  | x :: a, y :: b, z :: c, h1, h2 => by
    rw [HT.lexLt_cons] at h1 h2 ⊢
    by_cases e1 : x = y
    · subst e1
      rw [if_pos rfl] at h1
      by_cases e2 : x = z
      · rw [if_pos e2] at h2 ⊢
        exact lex_trans h1 h2
      · rw [if_neg e2] at h2 ⊢
        exact h2
    · rw [if_neg e1, decide_eq_true_eq] at h1
      by_cases e2 : y = z
      · subst e2
        rw [if_neg e1, decide_eq_true_eq]
        exact h1
      · rw [if_neg e2, decide_eq_true_eq] at h2
        rw [if_neg (by omega), decide_eq_true_eq]
        omega
theorem lex_self : ∀ a : List Int, HT.lexLt a a = false
  | [] => rfl
  | x :: a => by rw [HT.lexLt_cons, if_pos rfl, lex_self a]
theorem lex_tri : ∀ {a b : List Int}, HT.lexLt a b = false → HT.lexLt b a = false → a = b
  | [], [], _, _ => rfl
  | [], _ :: _, h, _ => by cases h
  | _ :: _, [], _, h => by cases h
  | x :: a, y :: b, h1, h2 => by
    rw [HT.lexLt_cons] at h1 h2
    by_cases e : x = y
    · subst e
      rw [if_pos rfl] at h1 h2
      rw [lex_tri h1 h2]
    · rw [if_neg e, decide_eq_false_iff_not] at h1
      rw [if_neg (Ne.symm e), decide_eq_false_iff_not] at h2
      omega
abbrev Asc (as : List (List Int)) : Prop := as.Pairwise fun x y => HT.lexLt x y = true
theorem ascB_iff : ∀ as : List (List Int), ascB as = true ↔ Asc as
  | [] => by simp [ascB]
  | [a] => by simp [ascB]
  | a :: b :: r => by
    have ih := ascB_iff (b :: r)
    rw [ascB, Bool.and_eq_true, ih]
    constructor
    · rintro ⟨h, p⟩
      refine List.pairwise_cons.mpr ⟨fun x hx => ?_, p⟩
      rcases List.mem_cons.mp hx with rfl | hx
      · exact h
      · exact lex_trans h ((List.pairwise_cons.mp p).1 x hx)
    · intro p
      obtain ⟨h, p⟩ := List.pairwise_cons.mp p
      exact ⟨h b (List.mem_cons_self ..), p⟩
theorem asc_nodup {as : List (List Int)} (h : Asc as) : as.Nodup := h.imp fun {a b} h z => by
  rw [z, lex_self] at h
  cases h
theorem asc_weak {M : List (List Int)} (nd : M.Nodup) (h : M.Pairwise fun x y => HT.lexLt y x = false) : Asc M := by
  have h2 := List.pairwise_and_iff.mpr ⟨nd, h⟩
  refine h2.imp fun {a b} h => ?_
  cases e : HT.lexLt a b with
  | true => rfl
  | false => exact absurd (lex_tri e h.2) h.1
/-- what sorted(set(..)) says of ascending -/
theorem asc_sorted {as M : List (List Int)} (nd : M.Nodup) (h : M.Pairwise fun x y => HT.lexLt y x = false) (m : ∀ a, a ∈ M ↔ a ∈ as) : M = as ↔ ascB as = true := by
  rw [ascB_iff]
  constructor
  · rintro rfl
    exact asc_weak nd h
  · intro p
    refine ((List.perm_ext_iff_of_nodup nd (asc_nodup p)).mpr m).eq_of_pairwise (fun a b _ _ h1 h2 => ?_) (asc_weak nd h) p
    have := lex_trans h1 h2
    rw [lex_self] at this
    cases this
theorem aheadAt_lt : ∀ {Ss : List Sys} {i k : Int} {a b : List Int}, (∀ S ∈ Ss, ∀ a b, S.ahead a b = true → HT.lexLt a b = true) → aheadAt Ss i k a b = true → HT.lexLt a b = true
  | [], _, _, _, _, _, h => by cases h
  | S :: r, i, k, a, b, hS, h => by
    unfold aheadAt at h
    by_cases e : k = i
    · rw [if_pos e] at h
      exact hS S (List.mem_cons_self ..) a b h
    · rw [if_neg e] at h
      exact aheadAt_lt (fun S hs => hS S (List.mem_cons_of_mem _ hs)) h
theorem cAhead_lt {sq : Bool} {Ss : List Sys} {i : Int} (hS : ∀ S ∈ Ss, ∀ a b, S.ahead a b = true → HT.lexLt a b = true) : ∀ a b, cAhead sq Ss i a b = true → HT.lexLt a b = true
  | [], _, h => absurd (show false = true from h) Bool.false_ne_true
  | _ :: _, [], h => absurd (show false = true from h) Bool.false_ne_true
  | k :: a, m :: b, h => by
    have h : (if k ≠ m then sq && decide (k < m) else aheadAt Ss i k a b) = true := h
    rw [HT.lexLt_cons]
    by_cases e : k = m
    · rw [if_neg (fun z => z e)] at h
      rw [if_pos e]
      exact aheadAt_lt hS h
    · rw [if_pos e, Bool.and_eq_true] at h
      rw [if_neg e]
      exact h.2
mutual
theorem J.ahead_lt : ∀ (j : J) (a b : List Int), j.sys.ahead a b = true → HT.lexLt a b = true
  | .st _, _, _, h => by cases h
  | .ps _ xs, a, b, h => by
    simp only [J.sys, comp] at h
    exact cAhead_lt (J.aheads_lt xs) a b h
  | .rn _ n x, a, b, h => by
    simp only [J.sys, comp] at h
    refine cAhead_lt (fun S hS => ?_) a b h
    obtain ⟨_, rfl⟩ := List.mem_replicate.mp hS
    exact J.ahead_lt x
theorem J.aheads_lt : ∀ (xs : List J), ∀ S ∈ J.syss xs, ∀ a b, S.ahead a b = true → HT.lexLt a b = true
  | [], _, h => by cases h
  | x :: xs, S, h => by
    simp only [J.syss] at h
    rcases List.mem_cons.mp h with rfl | h
    · exact J.ahead_lt x
    · exact J.aheads_lt xs S h
end
/-- what comes ahead of a step in it, is in it -/
def Clo (j : J) (as : List (List Int)) : Prop := ∀ a ∈ j.adr, ∀ b ∈ as, j.sys.ahead a b = true → a ∈ as
theorem inL_mem {done : List (List Int)} {b : List Int} : inL done b = true ↔ b ∈ done := by
  unfold inL
  simp
theorem may_iff {j : J} (hs : j.stb) {done : List (List Int)} (c : Clo j done) {a : List Int} (ha : a ∈ j.adr) : mayA j done a = true ↔ a ∉ done ∧ ∀ b ∈ j.adr, j.sys.ahead b a = true → b ∈ done := by
  obtain ⟨r, er⟩ := rowOf_some (R := j.srows) (a := a) (by rw [J.srows_adr j hs]; exact ha)
  obtain ⟨mr, rfl⟩ := rowOf_mem er
  have cl : ClosedA j.sys.ahead (j.srows.map (·.1)) (inL done) := by
    rw [J.srows_adr j hs]
    intro x hx y hy hxy hD
    exact inL_mem.mpr (c x hx y (inL_mem.mp hD) hxy)
  have key := J.may j hs (inL done) cl r mr
  unfold mayA
  rw [er]
  dsimp only
  rw [Bool.and_eq_true, key, J.srows_adr j hs]
  refine and_congr (by simp) ?_
  constructor
  · intro h b hb hba
    exact inL_mem.mp (h b hb hba)
  · intro h b hb hba
    exact inL_mem.mpr (h b hb hba)
theorem mayD_ad (j : J) (done : List (List Int)) (a : List Int) : mayD j done (adD a) = mayA j done a := by
  unfold mayD
  rw [isIdx_ad, intsOf_ad, Bool.true_and]
theorem mayA_adr {j : J} (hs : j.stb) {done : List (List Int)} {a : List Int} (h : mayA j done a = true) : a ∈ j.adr := by
  unfold mayA at h
  cases e : rowOf j.srows a with
  | none => rw [e] at h; cases h
  | some r =>
    obtain ⟨mr, rfl⟩ := rowOf_mem e
    rw [← J.srows_adr j hs]
    exact List.mem_map.mpr ⟨r, mr, rfl⟩
theorem walk_closed {j : J} (hs : j.stb) : ∀ (as done : List (List Int)), Clo j done → (walkD j done (adDs as)).1 = true → Clo j (done ++ as) ∧ ∀ a ∈ as, a ∈ j.adr
  | [], done, c, _ => by
    rw [List.append_nil]
    exact ⟨c, fun a h => nomatch h⟩
  | a :: as, done, c, h => by
    have h' : (walkD j done (adD a :: adDs as)).1 = true := h
    rw [walkD, mayD_ad] at h'
    cases e : mayA j done a with
    | false => rw [e, if_neg Bool.false_ne_true] at h'; cases h'
    | true =>
      rw [e, if_pos rfl, intsOf_ad] at h'
      have ma := mayA_adr hs e
      obtain ⟨_, hb⟩ := (may_iff hs c ma).mp e
      have c' : Clo j (done ++ [a]) := by
        intro x hx y hy hxy
        rcases List.mem_append.mp hy with hy | hy
        · exact List.mem_append_left _ (c x hx y hy hxy)
        · rw [List.mem_singleton.mp hy] at hxy
          exact List.mem_append_left _ (hb x hx hxy)
      obtain ⟨c2, m2⟩ := walk_closed hs as (done ++ [a]) c' h'
      rw [List.append_assoc] at c2
      refine ⟨c2, fun x hx => ?_⟩
      rcases List.mem_cons.mp hx with rfl | hx
      · exact ma
      · exact m2 x hx
theorem asc_split {pre suf : List (List Int)} (h : Asc (pre ++ suf)) {a b : List Int} (ha : a ∈ pre ++ suf) (hb : b ∈ pre) (hab : HT.lexLt a b = true) : a ∈ pre := by
  rcases List.mem_append.mp ha with ha | ha
  · exact ha
  · have := (List.pairwise_append.mp h).2.2 b hb a ha
    have := lex_trans hab this
    rw [lex_self] at this
    cases this
theorem closed_walk {j : J} (hs : j.stb) {as : List (List Int)} (hm : ∀ a ∈ as, a ∈ j.adr) (asc : Asc as) (c : Clo j as) : ∀ (suf done : List (List Int)), as = done ++ suf → (walkD j done (adDs suf)).1 = true
  | [], done, _ => rfl
  | a :: suf, done, e => by
    show (walkD j done (adD a :: adDs suf)).1 = true
    rw [walkD, mayD_ad, intsOf_ad]
    have ha : a ∈ j.adr := hm a (by rw [e]; exact List.mem_append_right _ (List.mem_cons_self ..))
    have cd : Clo j done := by
      intro x hx y hy hxy
      have hx' := c x hx y (by rw [e]; exact List.mem_append_left _ hy) hxy
      rw [e] at asc hx'
      exact asc_split asc hx' hy (J.ahead_lt j x y hxy)
    have e2 : as = (done ++ [a]) ++ suf := by rw [e, List.append_assoc]; rfl
    have hmay : mayA j done a = true := by
      refine (may_iff hs cd ha).mpr ⟨fun hd => ?_, fun b hb hba => ?_⟩
      · rw [e] at asc
        have := (List.pairwise_append.mp asc).2.2 a hd a (List.mem_cons_self ..)
        rw [lex_self] at this
        cases this
      · have hb' := c b hb a (by rw [e]; exact List.mem_append_right _ (List.mem_cons_self ..)) hba
        rw [e2] at hb'
        have hlt := J.ahead_lt j b a hba
        have hb2 := asc_split (by rw [← e2]; exact asc) hb' (List.mem_append_right _ (List.mem_singleton.mpr rfl)) hlt
        rcases List.mem_append.mp hb2 with h | h
        · exact h
        · rw [List.mem_singleton.mp h, lex_self] at hlt
          cases hlt
    rw [hmay, if_pos rfl]
    exact closed_walk hs hm asc c suf (done ++ [a]) e2
/-- what a state is -/
theorem stB_ad {j : J} (hs : j.stb) (as : List (List Int)) : stB j (.tuple (adDs as)) = true ↔ (∀ a ∈ as, a ∈ j.adr) ∧ ascB as = true ∧ Clo j as := by
  unfold stB
  rw [Bool.and_eq_true]
  constructor
  · rintro ⟨h1, h2⟩
    have h1' : (walkD j [] (adDs as)).1 = true := h1
    obtain ⟨bs, e1, e2⟩ := walkD_all h1'
    have e3 : bs = as := by
      have : (adDs as).map intsOf = (adDs bs).map intsOf := by rw [e1]
      simpa [adDs, List.map_map, Function.comp_def, intsOf_ad] using this.symm
    subst e3
    obtain ⟨c, m⟩ := walk_closed hs bs [] (fun _ _ _ h => nomatch h) h1'
    have h2' : ascB (walkD j [] (adDs bs)).2 = true := h2
    rw [e2] at h2'
    exact ⟨m, h2', c⟩
  · rintro ⟨m, h, c⟩
    have h1 : (walkD j [] (adDs as)).1 = true := closed_walk hs m ((ascB_iff as).mp h) c as [] rfl
    refine ⟨h1, ?_⟩
    obtain ⟨bs, e1, e2⟩ := walkD_all h1
    have e3 : bs = as := by
      have : (adDs as).map intsOf = (adDs bs).map intsOf := by rw [e1]
      simpa [adDs, List.map_map, Function.comp_def, intsOf_ad] using this.symm
    subst e3
    show ascB (walkD j [] (adDs bs)).2 = true
    rw [e2]
    exact h
/-- other tuples are no states -/
theorem stB_not {j : J} (hs : j.stb) {d : PyData} (h : stB j d = true) : ∃ as, d = .tuple (adDs as) ∧ ∀ a ∈ as, a ∈ j.adr := by
  obtain ⟨ds, rfl⟩ : ∃ ds, d = .tuple ds := by
    cases d <;> first | exact ⟨_, rfl⟩ | cases h
  have h1 : (walkD j [] ds).1 = true := (Bool.and_eq_true _ _ ▸ h : _ ∧ _).1
  obtain ⟨as, rfl, _⟩ := walkD_all h1
  exact ⟨as, rfl, ((stB_ad hs as).mp h).1⟩
section
variable {P : Program} {w : World} {K : PySem.W.Frag} {mg : Str → Option Value} {base : Heap}
/-- jobs of which states are drawn -/
structure Few (j : J) : Prop where
  stb : j.stb
  rnd : j.rounded
  deep : j.deep ≤ 7
  steps : j.steps ≤ 43
theorem Few.len {j : J} (f : Few j) : j.adr.length ≤ 43 := by
  have h1 := J.adr_len j f.stb
  have h2 := f.steps
  omega
theorem ones_dp {K : PySem.W.Frag} {H : Hp} : ∀ n : Nat, DpAll K H (List.replicate n (.int 1)) (List.replicate n (.int 1))
  | 0 => .nil
  | n + 1 => .cons (.int 1) (ones_dp n)
theorem shaped_ones : ∀ n : Nat, SeqAt.shaped (.list (List.replicate n (.int 1))) = true := by
  have key : ∀ n : Nat, PyData.canLayAll0 (List.replicate n (.int 1)) = true ∧ PyData.depthAll (List.replicate n (.int 1)) ≤ 0 := by
    intro n
    induction n with
    | zero => simp [PyData.canLayAll0, PyData.depthAll]
    | succ n ih =>
      rw [List.replicate_succ]
      simp only [PyData.canLayAll0, PyData.canLay0, PyData.depthAll, PyData.depth, Bool.true_and]
      exact ⟨ih.1, by have := ih.2; omega⟩
  intro n
  obtain ⟨h1, h2⟩ := key n
  unfold SeqAt.shaped
  simp only [PyData.canLay0, h1, PyData.depth, Bool.true_and]
  exact decide_eq_true (by omega)
theorem eqv_ones (n : Nat) : PyData.eqv (.list (List.replicate n (.int 1))) (.list []) = decide (n = 0) := by
  cases n <;> simp [PyData.eqv, PyData.eqvAll, List.replicate_succ]
theorem ints_dp' {K : PySem.W.Frag} {H : Hp} : ∀ a : List Int, DpAll K H (a.map V.int) (a.map PyData.int)
  | [] => .nil
  | k :: a => .cons (.int k) (ints_dp' a)
/-- a step is one of some, or ahead of one of them -/
def inCl (j : J) (S : List (List Int)) (a : List Int) : Bool := S.contains a || S.any fun b => j.sys.ahead a b
/-- the least state with some steps -/
def cloS (j : J) (S : List (List Int)) : List (List Int) := j.adr.filter (inCl j S)
theorem cloS_sub {j : J} {S : List (List Int)} : ∀ a ∈ cloS j S, a ∈ j.adr := fun a h => (List.mem_filter.mp h).1
theorem cloS_len {j : J} (f : Few j) {S : List (List Int)} : (cloS j S).length ≤ 43 := Nat.le_trans (List.length_filter_le _ _) f.len
def spClosed (K : PySem.W.Frag) : Sp := fun vs H Q _ => ∃ (v : V) (j : J) (l : Addr) (ws : List V) (S : List (List Int)), vs = [v, .ref l] ∧ Dp K H v j.toD ∧ Few j ∧ H l = some (.lst ws) ∧ DpAll K H ws (adDs S) ∧ (∀ a ∈ S, a ∈ j.adr) ∧ S.length ≤ 10 ∧
  ∀ (H' : Hp) (t : Addr) (xs : List V), Same H H' → SqT K H' t xs → DpAll K H' xs (adDs (cloS j S)) → Q (.ref t) H'
end

/-! block Run: is_complete, _state_steps, is_run, is_complete_run (behind bClosed, with Dv) -/
theorem look_mem {rs : List DRow} {k : List Int} (h : (look rs k).isSome = true) : k ∈ rs.map (·.1) := by
  unfold look at h
  rw [Option.isSome_map] at h
  obtain ⟨r, hr⟩ := Option.isSome_iff_exists.mp h
  have := List.find?_some hr
  exact List.mem_map.mpr ⟨r, List.mem_of_find?_eq_some hr, of_decide_eq_true this⟩
theorem all_adR {j : J} {as : List (List Int)} (h : stB j (.tuple (adDs as)) = true) : (allD j (.tuple (adDs as))).2 = as := by
  unfold stB at h
  rw [Bool.and_eq_true] at h
  have h1 : (walkD j [] (adDs as)).1 = true := h.1
  obtain ⟨bs, e1, e2⟩ := walkD_all h1
  have e3 : bs = as := by
    have : (adDs as).map intsOf = (adDs bs).map intsOf := by rw [e1]
    simpa [adDs, List.map_map, Function.comp_def, intsOf_ad] using this.symm
  subst e3
  exact e2
theorem ads_noLR (as : List (List Int)) : noL (.tuple (adDs as)) = true := by
  simp only [Rp.noL]
  exact noLs_ad as
section
variable {P : Program} {w : World} {K : PySem.W.Frag} {mg : Str → Option Value} {base : Heap}
def spComp (P : Program) (w : World) (K : PySem.W.Frag) (C : Addr) : Sp := fun vs H Q _ => ∃ (x : Addr) (H0 : Hp) (j : J) (done : List (List Int)), vs = [.ref x] ∧ DoneAt P w K C H0 H x j done ∧ done.Nodup ∧ Q (.bl (decide (done.length = j.srows.length))) H
theorem ok_comp (T : Txt K mg) : FnOk P w K mg base CX0 1 T.f_DoneSteps_is_complete T.d_DoneSteps_is_complete ["self"] (spComp P w K T.c_DoneSteps) := by
  refine T.F_DoneSteps_is_complete.ok sc_DoneSteps_is_complete (fun vs H Q E h => ?_) (fun cdv A outer s H vs Q E hr h => ?_)
  · obtain ⟨x, H0, j, done, rfl, _⟩ := h
    rfl
  obtain ⟨x, H0, j, done, rfl, D, nd, q⟩ := h
  have hu := hu_of hr
  refine ⟨_, (pss_one (ps_ret (pe_cmpR op_eq (pe_callB (r := rLenDt P w K) cr_lenDt (by rfl) T.n_len (by decide +kernel) (pa_cons (pe_fld (pv 0) rfl) pa_nil)) (pe_callB (r := rLenDt P w K) cr_lenDt (by rfl) T.n_len (by decide +kernel) (pa_cons (pe_fld (pv 0) rfl) pa_nil)) (nomark _)))), ?_⟩
  obtain ⟨_, dx, ra, da, ba, ua, rr, dd, bb, h1, ⟨h2, h3⟩, ⟨h4, h5, h6, h6l⟩, _⟩ := id D
  have el : dd.length = done.length := Nat.le_antisymm h6l (by
    have := nodup_len done (dd.map (·.1)) nd fun a ha => look_mem (by rw [h6]; exact List.contains_iff_mem.mpr ha)
    rwa [List.length_map] at this)
  refine ⟨_, rfl, x, _, dx, _, _, rfl, h1, T.cl_DoneSteps, T.na_DoneSteps_done, dl_done _ _ _ _, ?_⟩
  refine ⟨da, dd, rfl, .inl h4, h5, ?_⟩
  refine ⟨_, rfl, x, _, dx, _, _, rfl, h1, T.cl_DoneSteps, T.na_DoneSteps_rows, dl_rows _ _ _ _, ?_⟩
  refine ⟨ra, rr, rfl, .inl h2, h3.keys, ?_⟩
  have er : rr.length = j.srows.length := Paired.length h3
  have e : V.bl (decide (done.length = j.srows.length)) = V.bl (decide (V.int ((dd.length : Nat) : Int) = V.int ((rr.length : Nat) : Int))) := by
    congr 1
    rw [Bool.eq_iff_iff, decide_eq_true_eq, decide_eq_true_eq, el, er]
    simp only [V.int.injEq]
    omega
  rw [e] at q
  exact ⟨rfl, q⟩
def spSS (P : Program) (w : World) (K : PySem.W.Frag) (C : Addr) : Sp := fun vs H Q _ => ∃ (v u : V) (as : List (List Int)) (j : J), vs = [v, u] ∧ Dp K H v j.toD ∧ Dp K H u (.tuple (adDs as)) ∧ (PyData.tuple (adDs as)).bulk ≤ 80000 ∧ j.deep ≤ 20 ∧ j.stb ∧ (szJ j 400 13).isSome = true ∧ j.steps ≤ 400 ∧
  stB j (.tuple (adDs as)) = true ∧ ∀ H' x, DoneAt P w K C H H' x j as → Q (.ref x) H'
theorem ok_ss (T : Txt K mg) : FnOk P w K mg base CX0 46 T.f__state_steps T.d__state_steps ["job", "state"] (spSS P w K T.c_DoneSteps) := by
  have g_check_small := ok_cksmall (P := P) (w := w) (base := base) T
  have g_checked_state := ok_ckst (P := P) (w := w) (base := base) T
  refine T.F__state_steps.ok sc__state_steps (fun vs H Q E h => ?_) (fun cdv A outer s H vs Q E hr h => ?_)
  · obtain ⟨v, u, as, j, rfl, _⟩ := h
    rfl
  obtain ⟨v, u, as, j, rfl, hv, hu0, hb, h20, hstb, hsz, h400, hst, q⟩ := h
  refine ⟨_, (pss_cons (ps_expr (pe_call g_check_small (hr.mono (by omega)) rfl T.m_check_small T.F_check_small.kp T.b_check_small .nil pass0 (pa_cons (pv 0) pa_nil)))
      (pss_one (ps_ret (pe_call g_checked_state (hr.mono (by omega)) rfl T.m_checked_state T.F_checked_state.kp T.b_checked_state .nil passN (pa_cons (pv 0) (pa_cons (pv 1) pa_nil)))))), ?_⟩
  refine ⟨_, rfl, v, j, rfl, hv, h20, hsz, h400, fun H1 s1 => ?_⟩
  refine ⟨_, rfl, _, rfl, v, u, 0, _, j, rfl, dp_same s1 hv, dq_of (ads_noLR as) (dp_same s1 hu0), hb, h20, hstb, h400, fun _ H2 x D => ?_, fun e => by rw [hst] at e; cases e⟩
  rw [all_adR hst] at D
  exact q H2 x ⟨s1.trans D.same, by
    obtain ⟨_, dx, ra, da, ba, ua, rr, dd, bb, h1, h2, h4, h7, h10, h11, z1, z2, z3, z4, z5⟩ := D
    exact ⟨dx, ra, da, ba, ua, rr, dd, bb, h1, h2, h4, h7, h10, h11, Same.free' s1 z1, Same.free' s1 z2, Same.free' s1 z3, Same.free' s1 z4, Same.free' s1 z5⟩⟩
def spIsRun (K : PySem.W.Frag) (full : Bool) : Sp := fun vs H Q _ => ∃ (v u s : V) (as : List (List Int)) (j : J) (p : Addr) (d : PyData), vs = [v, u, s] ∧ Dp K H v j.toD ∧ Dp K H s (.tuple (adDs as)) ∧ (PyData.tuple (adDs as)).bulk ≤ 80000 ∧ j.deep ≤ 20 ∧ j.stb ∧ (szJ j 400 13).isSome = true ∧ j.steps ≤ 400 ∧
  stB j (.tuple (adDs as)) = true ∧ Dq K p H u d ∧ d.bulk ≤ 80000 ∧ ∀ H', Same H H' → Q (.bl ((allF j as d).1 && (!full || decide ((allF j as d).2.length = j.srows.length)))) H'
theorem ok_isrun (T : Txt K mg) : FnOk P w K mg base CX0 47 T.f_is_run T.d_is_run ["job", "value", "state"] (spIsRun K false) := by
  have g__state_steps := ok_ss (P := P) (w := w) (base := base) T
  have g_DoneSteps_do_all := ok_all (P := P) (w := w) (base := base) T
  refine T.F_is_run.ok sc_is_run (fun vs H Q E h => ?_) (fun cdv A outer s H vs Q E hr h => ?_)
  · obtain ⟨v, u, s, as, j, p, d, rfl, _⟩ := h
    rfl
  obtain ⟨v, u, st, as, j, p, d, rfl, hv, hs0, hb, h20, hstb, hsz, h400, hst, hu0, hbd, q⟩ := h
  refine ⟨_, (pss_one (ps_ret (pe_meth (pe_call g__state_steps (hr.mono (by omega)) rfl T.m__state_steps T.F__state_steps.kp T.b__state_steps .nil pass0 (pa_cons (pv 0) (pa_cons (pv 2) pa_nil))) T.cl_DoneSteps T.mt_DoneSteps_do_all g_DoneSteps_do_all (hr.mono (by omega)) T.b_DoneSteps_do_all .nil pass0 (pa_cons (pv 1) pa_nil)))), ?_⟩
  refine ⟨_, rfl, _, rfl, v, st, as, j, rfl, hv, hs0, hb, h20, hstb, hsz, h400, hst, fun H1 x D => ?_⟩
  obtain ⟨hm, asc, clo⟩ := (stB_ad hstb as).mp hst
  have nd := asc_nodup ((ascB_iff as).mp asc)
  obtain ⟨_, dx, ra, da, ba, ua, rr, dd, bb, h1, _⟩ := id D
  refine ⟨x, dx, _, rfl, h1, dl_no _ _ _ _ (by decide +kernel) (by decide +kernel) (by decide +kernel) (by decide +kernel), _, rfl, x, u, p, d, H, j, as, rfl, D, nd, hm, hu0, hbd, h20, hstb, h400, fun H2 D2 => ?_⟩
  have h := q H2 D2.same
  simp only [Bool.not_false, Bool.true_or, Bool.and_true] at h
  exact h
theorem ok_iscrun (T : Txt K mg) : FnOk P w K mg base CX0 47 T.f_is_complete_run T.d_is_complete_run ["job", "value", "state"] (spIsRun K true) := by
  have g__state_steps := ok_ss (P := P) (w := w) (base := base) T
  have g_DoneSteps_do_all := ok_all (P := P) (w := w) (base := base) T
  have g_DoneSteps_is_complete := ok_comp (P := P) (w := w) (base := base) T
  refine T.F_is_complete_run.ok sc_is_complete_run (fun vs H Q E h => ?_) (fun cdv A outer s H vs Q E hr h => ?_)
  · obtain ⟨v, u, s, as, j, p, d, rfl, _⟩ := h
    rfl
  obtain ⟨v, u, st, as, j, p, d, rfl, hv, hs0, hb, h20, hstb, hsz, h400, hst, hu0, hbd, q⟩ := h
  refine ⟨_, (pss_cons (ps_set (i := 3) sc_is_complete_run.nd rfl (Or.inl rfl) (pe_call g__state_steps (hr.mono (by omega)) rfl T.m__state_steps T.F__state_steps.kp T.b__state_steps .nil pass0 (pa_cons (pv 0) (pa_cons (pv 2) pa_nil))))
      (pss_one (ps_ret (pe_and (pe_meth (pv 3) T.cl_DoneSteps T.mt_DoneSteps_do_all g_DoneSteps_do_all (hr.mono (by omega)) T.b_DoneSteps_do_all .nil pass0 (pa_cons (pv 1) pa_nil)) (pe_one (pe_meth0 (pv 3) T.cl_DoneSteps T.mt_DoneSteps_is_complete g_DoneSteps_is_complete (hr.mono (by omega)) T.b_DoneSteps_is_complete .nil pass0)))))), ?_⟩
  refine ⟨_, rfl, _, rfl, v, st, as, j, rfl, hv, hs0, hb, h20, hstb, hsz, h400, hst, fun H1 x D => ?_⟩
  obtain ⟨hm, asc, clo⟩ := (stB_ad hstb as).mp hst
  have nd := asc_nodup ((ascB_iff as).mp asc)
  obtain ⟨_, dx, ra, da, ba, ua, rr, dd, bb, h1, _⟩ := id D
  refine ⟨_, rfl, x, dx, _, rfl, h1, dl_no _ _ _ _ (by decide +kernel) (by decide +kernel) (by decide +kernel) (by decide +kernel), _, rfl, x, u, p, d, H, j, as, rfl, D, nd, hm, hu0, hbd, h20, hstb, h400, fun H2 D2 => ?_⟩
  have h := q H2 D2.same
  simp only [Bool.not_true, Bool.false_or] at h
  refine ⟨_, rfl, ?_⟩
  cases e : (allF j as d).1 with
  | false =>
    rw [e, Bool.false_and] at h
    exact iteF h
  | true =>
  rw [e, Bool.true_and] at h
  refine iteT ?_
  obtain ⟨_, dx2, ra2, da2, ba2, ua2, rr2, dd2, bb2, k1, _⟩ := id D2
  obtain ⟨ds, rfl⟩ : ∃ ds, d = .tuple ds := by
    cases d <;> first | exact ⟨_, rfl⟩ | cases e
  have nd2 := (walkD_len (j := j) hstb (ds := ds) nd hm).1
  exact ⟨_, rfl, x, dx2, _, rfl, k1, dl_no _ _ _ _ (by decide +kernel) (by decide +kernel) (by decide +kernel) (by decide +kernel), x, H, j, _, rfl, D2, nd2, h⟩
end
/-! block Law08 (behind bDrawn, bWide, bRows, bPrec, bStates2's bAhead) -/
def Good (j : J) : Prop := j.ok ∧ j.nodes ≤ 400 ∧ j.deep ≤ 13
theorem Good.sz {j : J} (g : Good j) : szJ j 400 13 = some (j.nodes, j.steps) := szJ_some j 400 13 g.1 g.2.1 (by have := g.2.2; omega)
theorem Good.isSome {j : J} (g : Good j) : (szJ j 400 13).isSome = true := by rw [g.sz]; rfl
theorem good_of {j : J} (h : (szJ j 400 13).isSome = true) : Good j := by
  obtain ⟨⟨a, b⟩, e⟩ := Option.isSome_iff_exists.mp h
  obtain ⟨q1, q2, q3, _⟩ := szJ_inv j 400 13 a b e
  exact ⟨q1, q2, by omega⟩
theorem Good.d20 {j : J} (g : Good j) : j.deep ≤ 20 := Nat.le_trans g.2.2 (by decide)
theorem pow4_30 {n : Nat} (h : n ≤ 40) : (4 : Int) ^ n ≤ M30 := Int.le_trans (pow4_mono h) (by decide)
mutual
theorem J.few_ok : ∀ (j : J) (cs : List Int), j.small → j.cin cs → (∀ c ∈ cs, 0 ≤ c ∧ c ≤ 4) → j.deep ≤ 40 → j.ok
  | .st _, _, h, _, _, _ => by
    simp only [J.small] at h
    simpa only [J.ok] using h
  | .ps k xs, cs, h, hc, hb, hd => by
    have hf := J.few (.ps k xs) cs h hc hb hd
    have h40 := pow4_30 hd
    simp only [J.small] at h
    simp only [J.cin] at hc
    simp only [J.deep] at hd
    have h1 := J.few_okL xs cs h.2 hc hb (by omega)
    have h2 := hf.2.2
    simp only [J.ok]
    refine ⟨by omega, h1, ?_⟩
    have e : (J.ps k xs).steps = J.stepsL xs := by simp only [J.steps]
    rw [e] at h2
    omega
  | .rn k n x, cs, h, hc, hb, hd => by
    have hf := J.few (.rn k n x) cs h hc hb hd
    have h40 := pow4_30 hd
    simp only [J.small] at h
    simp only [J.cin] at hc
    simp only [J.deep] at hd
    have h1 := J.few_ok x cs h.2 hc.2 hb (by omega)
    have h2 := hf.2.2
    simp only [J.ok]
    have e : (J.rn k n x).steps = x.steps * n := by simp only [J.steps]
    rw [e] at h2
    refine ⟨h.1, h1, ?_⟩
    omega
theorem J.few_okL : ∀ (xs : List J) (cs : List Int), J.smallL xs → J.cinL cs xs → (∀ c ∈ cs, 0 ≤ c ∧ c ≤ 4) → J.deepL xs ≤ 40 → J.okL xs
  | [], _, _, _, _, _ => trivial
  | x :: xs, cs, h, hc, hb, hd => by
    simp only [J.smallL] at h
    simp only [J.cinL] at hc
    simp only [J.deepL] at hd
    exact ⟨J.few_ok x cs h.1 hc.1 hb (by omega), J.few_okL xs cs h.2 hc.2 hb (by omega)⟩
end
mutual
theorem J.few_rounded : ∀ (j : J) (cs : List Int), j.cin cs → (∀ c ∈ cs, c ≤ 1000) → j.rounded
  | .st _, _, _, _ => trivial
  | .ps k xs, cs, hc, hb => by
    simp only [J.cin] at hc
    simp only [J.rounded]
    exact J.few_roundedL xs cs hc hb
  | .rn k n x, cs, hc, hb => by
    simp only [J.cin] at hc
    simp only [J.rounded]
    exact ⟨hb n hc.1, J.few_rounded x cs hc.2 hb⟩
theorem J.few_roundedL : ∀ (xs : List J) (cs : List Int), J.cinL cs xs → (∀ c ∈ cs, c ≤ 1000) → J.roundedL xs
  | [], _, _, _ => trivial
  | x :: xs, cs, hc, hb => by
    simp only [J.cinL] at hc
    exact ⟨J.few_rounded x cs hc.1 hb, J.few_roundedL xs cs hc.2 hb⟩
end
theorem SmallOk.good {size : Int} {j : J} (h : SmallOk size j) : Good j :=
  ⟨J.few_ok j csS h.small h.cin (by decide) (by have := h.deep; omega), h.nodes, by have := h.deep; omega⟩
theorem SmallOk.rounded {size : Int} {j : J} (h : SmallOk size j) : j.rounded := J.few_rounded j csS h.cin (by decide)
/-! the addresses: bounds, order, text -/
theorem adr_bd : ∀ (a : List Int) (j : J), j.ok → a ∈ j.adr → ∀ k ∈ a, 0 ≤ k ∧ k ≤ M30
  | [], _, _, _ => by simp
  | k :: r, j, ho, h => by
    cases j with
    | st i => exact absurd (adr_st h) (by simp)
    | ps b xs =>
      obtain ⟨k0, y, ey, hy⟩ := adr_ps h
      simp only [J.ok] at ho
      have hl := (List.getElem?_eq_some_iff.mp ey).1
      have ih := adr_bd r y (ok_mem ho.2.1 (List.mem_of_getElem? ey)) hy
      intro m hm
      rcases List.mem_cons.mp hm with rfl | hm
      · have := ho.1
        simp only [M30]
        omega
      · exact ih m hm
    | rn b n x =>
      obtain ⟨k0, hy, ey⟩ := adr_rn h
      simp only [J.ok, M30] at ho
      have hl := (List.getElem?_eq_some_iff.mp ey).1
      rw [List.length_replicate] at hl
      have hkn : k < n := by
        split at hl <;> omega
      have ih := adr_bd r x ho.2.1 hy
      intro m hm
      rcases List.mem_cons.mp hm with rfl | hm
      · simp only [M30]
        omega
      · exact ih m hm
abbrev InOrd (l : List (List Int)) : Prop := l.Pairwise (fun x y => HT.lexLt y x = false)
theorem idx_low : ∀ (as : List (List (List Int))) (i : Int) (a : List Int), a ∈ idx as i → ∃ k r, a = k :: r ∧ i ≤ k
  | [], _, _, h => by simp [idx] at h
  | l :: as, i, a, h => by
    simp only [idx, List.mem_append, List.mem_map] at h
    rcases h with ⟨r, _, rfl⟩ | h
    · exact ⟨i, r, rfl, Int.le_refl _⟩
    · obtain ⟨k, r, rfl, hk⟩ := idx_low as (i + 1) a h
      exact ⟨k, r, rfl, by omega⟩
theorem idx_ord : ∀ (as : List (List (List Int))) (i : Int), (∀ l ∈ as, InOrd l) → InOrd (idx as i)
  | [], _, _ => by simp [idx]
  | l :: as, i, h => by
    simp only [InOrd, idx, List.pairwise_append, List.pairwise_map]
    refine ⟨(h l (List.mem_cons_self ..)).imp fun {a b} e => ?_, idx_ord as (i + 1) fun m hm => h m (List.mem_cons_of_mem _ hm), fun a ha b hb => ?_⟩
    · rw [HT.lexLt_cons, if_pos rfl]
      exact e
    · obtain ⟨r, _, rfl⟩ := List.mem_map.mp ha
      obtain ⟨k, r', rfl, hk⟩ := idx_low as (i + 1) b hb
      rw [HT.lexLt_cons, if_neg (by omega)]
      exact decide_eq_false (by omega)
mutual
theorem J.adr_ord : ∀ j : J, InOrd j.adr
  | .st _ => by simp [J.adr, InOrd]
  | .ps _ xs => by
    simp only [J.adr]
    exact idx_ord _ _ (J.adrs_ord xs)
  | .rn _ n x => by
    simp only [J.adr]
    refine idx_ord _ _ fun l hl => ?_
    obtain ⟨_, rfl⟩ := List.mem_replicate.mp hl
    exact J.adr_ord x
theorem J.adrs_ord : ∀ xs : List J, ∀ l ∈ J.adrs xs, InOrd l
  | [], l, h => by simp [J.adrs] at h
  | x :: xs, l, h => by
    simp only [J.adrs, List.mem_cons] at h
    rcases h with rfl | h
    · exact J.adr_ord x
    · exact J.adrs_ord xs l h
end
theorem adr_ne {j : J} {a : List Int} (h : 1 < j.steps) (ha : a ∈ j.adr) : a ≠ [] := by
  rintro rfl
  cases j with
  | st i => simp [J.steps] at h
  | ps b xs =>
    simp only [J.adr] at ha
    obtain ⟨k, r, e, _⟩ := idx_low _ _ _ ha
    cases e
  | rn b n x =>
    simp only [J.adr] at ha
    obtain ⟨k, r, e, _⟩ := idx_low _ _ _ ha
    cases e
theorem keys_of {K : PySem.W.Frag} {H : Hp} : ∀ {as : List V} {ks : List (List Int)}, DpAll K H as (adDs ks) → (∀ k ∈ ks, k ≠ []) → KeysT K H as ks
  | _, [], h, _ => by
    cases h
    exact .nil
  | _, k :: ks, h, hn => by
    cases h with
    | cons hx hr =>
    obtain ⟨t, xs, rfl, ht, hxs⟩ := dp_tup_inv hx
    obtain rfl := Lw.ints_vals hxs
    exact .cons ht (hn k (List.mem_cons_self ..)) (keys_of hr fun m hm => hn m (List.mem_cons_of_mem _ hm))
theorem ints_fine : ∀ a : List Int, (∀ k ∈ a, 0 ≤ k ∧ k ≤ M30) → fines (a.map .int)
  | [], _ => trivial
  | k :: a, h => by
    obtain ⟨h1, h2⟩ := h k (List.mem_cons_self ..)
    simp only [M30] at h2
    simp only [List.map_cons, fines, fine]
    refine ⟨?_, ints_fine a fun m hm => h m (List.mem_cons_of_mem _ hm)⟩
    have e : (1000000000000000000000000000000 : Nat) < 10 ^ 180 := by decide +kernel
    exact Nat.lt_of_le_of_lt (show k.natAbs ≤ 1000000000000000000000000000000 by omega) e
theorem adDs_fine : ∀ as : List (List Int), (∀ a ∈ as, ∀ k ∈ a, 0 ≤ k ∧ k ≤ M30) → fines (adDs as)
  | [], _ => trivial
  | a :: as, h => by
    show fines (adD a :: adDs as)
    simp only [fines, adD, fine]
    exact ⟨ints_fine a (h a (List.mem_cons_self ..)), adDs_fine as fun m hm => h m (List.mem_cons_of_mem _ hm)⟩
theorem ints_depth : ∀ a : List Int, PyData.depthAll (a.map .int) ≤ 1
  | [] => by simp [PyData.depthAll]
  | k :: a => by
    have := ints_depth a
    simp only [List.map_cons, PyData.depthAll, PyData.depth]
    omega
theorem adDs_depth : ∀ as : List (List Int), PyData.depthAll (adDs as) ≤ 2
  | [] => by simp [adDs, PyData.depthAll]
  | a :: as => by
    have h1 := adDs_depth as
    have h2 := ints_depth a
    show PyData.depthAll (adD a :: adDs as) ≤ 2
    simp only [PyData.depthAll, adD, PyData.depth]
    omega
theorem adDs_bulk {n : Nat} : ∀ as : List (List Int), (∀ a ∈ as, a.length ≤ n) → PyData.bulkAll (adDs as) ≤ as.length * (2 * n + 5)
  | [], _ => by simp [adDs, PyData.bulkAll]
  | a :: as, h => by
    have h1 := adDs_bulk as fun m hm => h m (List.mem_cons_of_mem _ hm)
    have h2 : PyData.bulkAll (a.map .int) ≤ 2 * a.length := by
      clear h h1
      induction a with
      | nil => simp [PyData.bulkAll]
      | cons k a ih =>
        simp only [List.map_cons, List.length_cons, PyData.bulkAll, PyData.bulk]
        omega
    have h3 := h a (List.mem_cons_self ..)
    show PyData.bulkAll (adD a :: adDs as) ≤ _
    rw [List.length_cons, Nat.succ_mul]
    simp only [PyData.bulkAll, adD, PyData.bulk]
    omega
theorem ints_lay : ∀ a : List Int, PyData.canLayAll0 (a.map .int) = true
  | [] => rfl
  | k :: a => by
    simp only [List.map_cons, PyData.canLayAll0, PyData.canLay0, ints_lay a, Bool.and_self]
theorem adDs_lay : ∀ as : List (List Int), PyData.canLayAll0 (adDs as) = true
  | [] => rfl
  | a :: as => by
    show PyData.canLayAll0 (adD a :: adDs as) = true
    simp only [PyData.canLayAll0, adD, PyData.canLay0, ints_lay a, adDs_lay as, Bool.and_self]
theorem adL_shaped (as : List (List Int)) : SeqAt.shaped (.list (adDs as)) = true := by
  have h := adDs_depth as
  have e : (PyData.list (adDs as)).depth ≤ 64 := by
    simp only [PyData.depth]
    omega
  unfold SeqAt.shaped
  rw [decide_eq_true e]
  simp only [PyData.canLay0, adDs_lay as, Bool.and_self]
theorem adT_shaped (as : List (List Int)) : SeqAt.shaped (.tuple (adDs as)) = true := by
  have h := adDs_depth as
  have e : (PyData.tuple (adDs as)).depth ≤ 64 := by
    simp only [PyData.depth]
    omega
  unfold SeqAt.shaped
  rw [decide_eq_true e]
  simp only [PyData.canLay0, adDs_lay as, Bool.and_self]
theorem adT_self (as : List (List Int)) : PyData.eqv (.tuple (adDs as)) (.tuple (adDs as)) = true := SeqAt.eqv_refl _ (by simp only [PyData.canLay0, adDs_lay as])
theorem adL_self (as : List (List Int)) : PyData.eqv (.list (adDs as)) (.list (adDs as)) = true := SeqAt.eqv_refl _ (by simp only [PyData.canLay0, adDs_lay as])
/-- what repr of the addresses asks for -/
theorem adT_repr {j : J} (g : Good j) (h : j.steps ≤ 400) : fine (.tuple (adDs j.adr)) ∧ (PyData.tuple (adDs j.adr)).depth ≤ 64 ∧ (PyData.tuple (adDs j.adr)).bulk ≤ 80000 := by
  have h1 := J.adr_len j (J.stb_ok j g.1)
  have h2 := adDs_depth j.adr
  have h3 := adDs_bulk (n := 13) j.adr fun a ha => Nat.le_trans (J.adr_deep j a ha) g.2.2
  refine ⟨?_, ?_, ?_⟩
  · simp only [fine]
    exact adDs_fine _ fun a ha => adr_bd a j g.1 ha
  · simp only [PyData.depth]
    omega
  · simp only [PyData.bulk]
    omega
/-! the wide jobs -/
theorem sts_all : ∀ {js : List J}, (∀ y ∈ js, ∃ i, y = .st i ∧ -M30 ≤ i ∧ i ≤ M30) → J.okL js ∧ J.stepsL js = js.length ∧ J.nodesL js = js.length ∧ J.deepL js ≤ 1 ∧ J.roundedL js
  | [], _ => by simp [J.okL, J.stepsL, J.nodesL, J.deepL, J.roundedL]
  | y :: js, h => by
    obtain ⟨i, rfl, h1, h2⟩ := h y (List.mem_cons_self ..)
    obtain ⟨a, b, c, d, e⟩ := sts_all fun m hm => h m (List.mem_cons_of_mem _ hm)
    simp only [J.okL, J.stepsL, J.nodesL, J.deepL, J.roundedL, J.ok, J.steps, J.nodes, J.deep, J.rounded, b, c, List.length_cons]
    refine ⟨⟨⟨h1, h2⟩, a⟩, by omega, by omega, by omega, trivial, e⟩
theorem WideJ.all {j : J} (h : WideJ j) : Good j ∧ j.rounded ∧ j.deep ≤ 8 ∧ j.steps ≤ 400 ∧ 0 < j.steps := by
  rcases h with ⟨n, js, n0, n1, l0, l1, hj, rfl⟩ | rfl | rfl
  · obtain ⟨a, b, c, d, e⟩ := sts_all hj
    refine ⟨⟨?_, ?_, ?_⟩, ?_, ?_, ?_, ?_⟩
    · simp only [J.ok, J.okL, J.steps, J.stepsL, M30, List.length_cons, List.length_nil, b]
      refine ⟨by omega, ⟨⟨by omega, ⟨by omega, ⟨by omega, by omega, trivial⟩, by omega⟩, by omega⟩, ⟨by omega, a, by omega⟩, trivial⟩, by omega⟩
    · simp only [J.nodes, J.nodesL, c]
      omega
    · simp only [J.deep, J.deepL]
      omega
    · simp only [J.rounded, J.roundedL]
      exact ⟨⟨by omega, trivial, trivial, trivial⟩, e, trivial⟩
    · simp only [J.deep, J.deepL]
      omega
    · simp only [J.steps, J.stepsL, b]
      omega
    · simp only [J.steps, J.stepsL, b]
      omega
  · refine ⟨⟨?_, ?_, ?_⟩, ?_, ?_, ?_, ?_⟩ <;> simp only [J.ok, J.okL, J.steps, J.stepsL, J.nodes, J.nodesL, J.deep, J.deepL, J.rounded, J.roundedL, M30, List.length_cons, List.length_nil] <;> decide
  · refine ⟨⟨?_, ?_, ?_⟩, ?_, ?_, ?_, ?_⟩ <;> simp only [J.ok, J.okL, J.steps, J.stepsL, J.nodes, J.nodesL, J.deep, J.deepL, J.rounded, J.roundedL, M30, List.length_cons, List.length_nil] <;> decide
abbrev jD8 : J := .rn false 1000000000000 (.ps true [.rn true 1000000000 (.ps false [.st 2, .st (-3)]), .st (-1)])
theorem good_D8 : Good jD8 ∧ 0 < jD8.steps ∧ jD8.deep ≤ 8 := by
  refine ⟨⟨?_, ?_, ?_⟩, ?_, ?_⟩ <;> simp only [J.ok, J.okL, J.steps, J.stepsL, J.nodes, J.nodesL, J.deep, J.deepL, M30, List.length_cons, List.length_nil] <;> decide
theorem pickA {vs : List V} {r : Int} (h0 : 0 ≤ r) (h1 : r < (vs.length : Int)) : ∃ v, vs[r.toNat]? = some v ∧ atI vs r = some v := by
  have hl : r.toNat < vs.length := by omega
  exact ⟨_, List.getElem?_eq_getElem hl, atI_at (j := r.toNat) (by omega) (List.getElem?_eq_getElem hl)⟩
abbrev jF8 : J := .rn true 1000000000000000000000000000000 (.rn false 0 (.st 5))
theorem good_F8 : Good jF8 ∧ jF8.steps ≤ 400 := by
  refine ⟨⟨?_, ?_, ?_⟩, ?_⟩ <;> simp only [J.ok, J.okL, J.steps, J.stepsL, J.nodes, J.nodesL, J.deep, J.deepL, M30, List.length_cons, List.length_nil] <;> decide
theorem adr_F8 : jF8.adr = [] := by
  have e : ¬ 0 < (J.rn false 0 (.st 5)).steps := by
    simp only [J.steps]
    decide
  simp only [J.adr]
  rw [if_neg e]
  rfl
abbrev jG8 : J := .rn true 400 (.st 1)
theorem good_G8 : Good jG8 ∧ jG8.steps ≤ 400 := by
  refine ⟨⟨?_, ?_, ?_⟩, ?_⟩ <;> simp only [J.ok, J.okL, J.steps, J.stepsL, J.nodes, J.nodesL, J.deep, J.deepL, M30, List.length_cons, List.length_nil] <;> decide
def ones (n : Nat) : List (List Int) := (List.range n).map fun (m : Nat) => [(m : Int)]
theorem ones_succ (n : Nat) : ones (n + 1) = ones n ++ [[(n : Int)]] := by
  unfold ones
  rw [List.range_succ, List.map_append]
  rfl
theorem idx_ones : ∀ n : Nat, idx (List.replicate n [[]]) 0 = ones n
  | 0 => rfl
  | n + 1 => by
    rw [List.replicate_succ', idx_app, idx_ones n, ones_succ, List.length_replicate]
    simp [idx]
theorem adr_G8 : jG8.adr = ones 400 := by
  have e : 0 < (J.st 1).steps := by
    simp only [J.steps]
    decide
  simp only [J.adr]
  rw [if_pos e]
  exact idx_ones 400
theorem good_m4 : Good (.st (-4)) ∧ (J.st (-4)).steps ≤ 400 := by
  refine ⟨⟨?_, ?_, ?_⟩, ?_⟩ <;> simp only [J.ok, J.steps, J.nodes, J.deep, M30] <;> decide

/-! block WJob: _law_step, _law_wide_job of the laws over runs (behind bSrc, bJob, bSteps2) -/
def TW : Nat → Nat
  | 0 => 20
  | n + 1 => 20 + 4 * TW n
def NW : Nat → Int
  | 0 => 1
  | 1 => 1
  | n + 2 => 1 + 4 * NW (n + 1)
abbrev csW : List Int := [2, 1, 3, 0]
structure WOk (n : Nat) (j : J) : Prop where
  cin : j.cin csW
  deep : j.deep ≤ max n 1
  nodes : j.nodes ≤ NW n
  small : j.small
structure WsOk (n : Nat) (js : List J) : Prop where
  cin : J.cinL csW js
  deep : J.deepL js ≤ max n 1
  nodes : J.nodesL js ≤ js.length * NW n
  small : J.smallL js
theorem NW_pos : ∀ n, 1 ≤ NW n
  | 0 => by decide
  | 1 => by decide
  | n + 2 => by
    have := NW_pos (n + 1)
    simp only [NW]
    omega
theorem WsOk.nil {n : Nat} : WsOk n [] := ⟨trivial, by simp [J.deepL], by simp [J.nodesL], trivial⟩
theorem WsOk.snoc {n : Nat} {js : List J} {j : J} (h : WsOk n js) (g : WOk n j) : WsOk n (js ++ [j]) := by
  refine ⟨(J.cinL_app _ _ _).mpr ⟨h.cin, g.cin, trivial⟩, ?_, ?_, ?_⟩
  · rw [J.deepL_app]
    have := h.deep
    have := g.deep
    simp only [J.deepL]
    omega
  · rw [J.nodesL_app, List.length_append, List.length_singleton]
    have h1 := h.nodes
    have h2 := g.nodes
    simp only [J.nodesL]
    have e : (((js.length + 1 : Nat) : Int)) * NW n = js.length * NW n + NW n := by
      rw [Int.natCast_add, Int.add_mul]
      simp
    rw [e]
    omega
  · rw [J.smallL_app]
    exact ⟨h.small, g.small, trivial⟩
theorem WOk.step {n : Nat} {i : Int} (h1 : -M30 ≤ i) (h2 : i ≤ M30) : WOk n (.st i) := by
  refine ⟨trivial, ?_, ?_, ?_⟩
  · simp only [J.deep]
    omega
  · simp only [J.nodes]
    exact NW_pos n
  · simp only [J.small]
    exact ⟨h1, h2⟩
theorem WOk.parts {n : Nat} {k : Bool} {js : List J} (h : WsOk (n + 1) js) (hl : js.length ≤ 4) : WOk (n + 2) (.ps k js) := by
  have h1 := h.deep
  have h2 := h.nodes
  refine ⟨h.cin, ?_, ?_, ?_⟩
  · simp only [J.deep]
    omega
  · simp only [J.nodes]
    have p := NW_pos (n + 1)
    have b : (js.length : Int) * NW (n + 1) ≤ 4 * NW (n + 1) := Int.mul_le_mul_of_nonneg_right (by omega) (by omega)
    simp only [NW]
    omega
  · simp only [J.small]
    exact ⟨by omega, h.small⟩
theorem WOk.rounds {n : Nat} {k : Bool} {c : Int} {x : J} (h : WOk (n + 1) x) (hc : c ∈ csW) : WOk (n + 2) (.rn k c x) := by
  have h2 := h.deep
  have h3 := h.nodes
  refine ⟨⟨hc, h.cin⟩, ?_, ?_, ?_⟩
  · simp only [J.deep]
    omega
  · simp only [J.nodes]
    have p := NW_pos (n + 1)
    simp only [NW]
    omega
  · simp only [J.small]
    refine ⟨?_, h.small⟩
    simp only [List.mem_cons, List.not_mem_nil, or_false] at hc
    simp only [M30]
    omega
structure RowW (K : PySem.W.Frag) (H0 : Hp) (p D : Addr) (n m : Nat) (js : List J) (H : Hp) : Prop where
  sx : Sx p H0 H
  pot : Pot H p m
  gen : WsOk n js
  lst : ∃ vs, H D = some (.lst vs) ∧ DpAll K H vs (J.toDs js)
theorem RowW.snoc {K : PySem.W.Frag} {H0 H H' : Hp} {p D : Addr} {n m m' : Nat} {js : List J} {r : V} {j : J} (R : RowW K H0 p D n m js H) (d0 : H0 D = none) (nDp : D ≠ p) (s : Sx p H H') (hp : Pot H' p m') (hd : Dp K H' r j.toD) (g : WOk n j) :
    ∃ acc, H' D = some (.lst acc) ∧ acc.length = js.length ∧ RowW K H0 p D n m' (js ++ [j]) (upd H' D (.lst (acc ++ [r]))) := by
  obtain ⟨vs, h1, h2⟩ := R.lst
  obtain ⟨l, hl⟩ := R.pot.lst
  have h3 : H' D = some (.lst vs) := s D _ nDp h1
  refine ⟨vs, h3, ?_, ?_, ?_, R.gen.snoc g, _, upd_same, ?_⟩
  · rw [dpAll_length h2, J.toDs_eq, List.length_map]
  · intro b o nb hb
    have nbD : b ≠ D := fun e => by rw [e, d0] at hb; cases hb
    rw [upd_ne nbD]
    exact s b o nb (R.sx b o nb hb)
  · obtain ⟨a, b, c, z1, z2⟩ := hp
    exact ⟨a, b, c, by rw [upd_ne nDp.symm]; exact z1, z2⟩
  · have k1 : ∀ a xs, SqT K H a xs → SqT K H' a xs := fun a xs z => s.sqT hl z
    have k2 : ∀ a xs, SqT K H' a xs → SqT K (upd H' D (.lst (vs ++ [r]))) a xs := fun a xs z => (sx_upd (p := D)).sqT h3 z
    rw [J.toDs_app]
    exact dpAll_append (dpAll_keep k2 (J.noLs _) (dpAll_keep k1 (J.noLs _) h2)) (dpAll_one (dp_keep k2 j.noL hd))
def spStepW : Sp := fun vs H Q _ => ∃ (p : Addr) (n : Nat), vs = [.ref p] ∧ Pot H p n ∧ n + 2 ≤ 1099511627776 ∧
  ∀ (H' : Hp) (r : Int), Sx p H H' → Pot H' p (n + 2) → -M30 ≤ r → r ≤ M30 → Q (.int r) H'
def spWJob (K : PySem.W.Frag) (n : Nat) : Sp := fun vs H Q _ => ∃ (p : Addr) (m : Nat), vs = [.ref p, .int (n : Int)] ∧ Pot H p m ∧ m + TW n ≤ 1099511627776 ∧
  ∀ (H' : Hp) (r : V) (j : J), Sx p H H' → Pot H' p (m + TW n) → Dp K H' r j.toD → WOk n j → Q r H'
def spWJobs (K : PySem.W.Frag) (n : Nat) : Sp := fun vs H Q E => ∃ d, d < n ∧ spWJob K d vs H Q E
section
variable {P : Program} {w : World} {K : PySem.W.Frag} {mg : Str → Option Value} {base : Heap}
theorem ok_stepW (T : Txt K mg) : FnOk P w K mg base CX0 2 T.f__law_step T.d__law_step ["_law_source_here"] spStepW := by
  have g__law_draw : FnOk P w K mg base CX0 1 T.f__law_draw T.d__law_draw ["_law_source_here", "_law_many"] spTake := ok_take T
  refine T.F__law_step.ok sc__law_step (fun vs H Q E h => ?_) (fun cdv A outer s H vs Q E hr h => ?_)
  · obtain ⟨p, n, rfl, _⟩ := h
    rfl
  obtain ⟨p, n, rfl, hp, hn, q⟩ := h
  have e30 : (10 : Int) ^ (30 : Int).toNat = M30 := by decide
  refine ⟨_, (pss_cons (ps_set (i := 1) sc__law_step.nd rfl (Or.inl rfl) (pe_call g__law_draw (hr.mono (by omega)) rfl T.m__law_draw T.F__law_draw.kp T.b__law_draw .nil pass0 (pa_cons (pv 0) (pa_cons pe_int pa_nil))))
      (pss_cons (ps_if (pt_cmpR op_eq (pv 1) pe_int (nomark _)) (pss_one (ps_ret (pe_ix (r := rIxL K) ix_list (pe_lst (pa_cons (pe_op op_powW pe_int pe_int) (pa_cons (pe_op op_sub pe_int (pe_op op_powW pe_int pe_int)) (pa_cons pe_int pa_nil)))) (pe_call g__law_draw (hr.mono (by omega)) rfl T.m__law_draw T.F__law_draw.kp T.b__law_draw .nil pass0 (pa_cons (pv 0) (pa_cons pe_int pa_nil))) (fun _ _ => rfl)))) pss_nil)
      (pss_one (ps_ret (pe_op op_sub (pe_call g__law_draw (hr.mono (by omega)) rfl T.m__law_draw T.F__law_draw.kp T.b__law_draw .nil pass0 (pa_cons (pv 0) (pa_cons (pe_ix (r := rIxL K) ix_list (pe_lst (pa_cons pe_int (pa_cons pe_int (pa_cons pe_int (pa_cons pe_int pa_nil))))) (pe_op op_mod (pv 1) pe_int) (fun _ _ => rfl)) pa_nil))) (pe_ix (r := rIxL K) ix_list (pe_lst (pa_cons pe_int (pa_cons pe_int (pa_cons pe_int (pa_cons pe_int pa_nil))))) (pe_op op_mod (pv 1) pe_int) (fun _ _ => rfl))))))), ?_⟩
  refine ⟨_, rfl, p, n, 8, rfl, hp, by omega, by decide, by decide, fun H1 r1 s1 hp1 h0 h1 => ?_⟩
  refine ⟨_, rfl, rfl, _, rfl, ?_⟩
  obtain ⟨lp, hlp⟩ := hp1.lst
  refine ite2 (fun g => ?_) (fun g => ?_)
  · refine ⟨_, _, rfl, rfl, powW_of 4 (by decide) (by decide) (by decide), ?_⟩
    dsimp only
    rw [e30]
    refine ⟨_, _, rfl, rfl, powW_of 4 (by decide) (by decide) (by decide), ?_⟩
    dsimp only
    rw [e30]
    refine ⟨_, _, rfl, rfl, (by show 3 ≤ sizeLine; decide), fun l hl => ?_⟩
    have el : upd H1 l (.lst [.int M30, .int (0 - M30), .int 0]) l = some (.lst ([M30, 0 - M30, 0].map V.int)) := upd_same
    have hp2 := hp1.same (same_new (o := .lst [.int M30, .int (0 - M30), .int 0]) hl)
    refine ⟨_, rfl, p, _, 3, rfl, hp2, by omega, by decide, by decide, fun H2 r2 s2 hp3 k0 k1 => ?_⟩
    obtain ⟨z, hz, ez⟩ := atI_int (ns := [M30, 0 - M30, 0]) k0 k1
    have nlp : l ≠ p := fun e => by rw [e, hlp] at hl; cases hl
    refine ⟨_, _, _, _, rfl, rfl, SqL.of (s2 l _ nlp el), ez, ?_⟩
    refine q _ _ (s1.trans ((sx_new hl).trans s2)) hp3 ?_ ?_ <;> simp only [List.mem_cons, List.not_mem_nil, or_false, M30] at hz <;> simp only [M30] <;> omega
  · refine ⟨_, rfl, (by show 4 ≤ sizeLine; decide), fun l hl => ?_⟩
    refine ⟨_, rfl, _, _, rfl, rfl, (by show (0 : Int) < 4; decide), ?_⟩
    obtain ⟨z, hz, ez⟩ := atI_int (ns := [3, 7, 13, 25]) (k := r1 % 4) (by omega) (by show r1 % 4 < 4; omega)
    have hz' : 3 ≤ z ∧ z ≤ 25 := by
      simp only [List.mem_cons, List.not_mem_nil, or_false] at hz
      omega
    refine ⟨_, _, _, _, rfl, rfl, SqL.of upd_same, ez, ?_⟩
    have hp2 := hp1.same (same_new (o := .lst ([3, 7, 13, 25].map V.int)) hl)
    refine ⟨p, _, z, rfl, hp2, by omega, by omega, Nat.lt_of_le_of_lt (show z.natAbs ≤ 25 by omega) (by decide), fun H2 r2 s2 hp3 k0 k1 => ?_⟩
    refine ⟨(by show 4 ≤ sizeLine; decide), fun l2 hl2 => ?_⟩
    refine ⟨_, rfl, _, _, rfl, rfl, (by show (0 : Int) < 4; decide), ?_⟩
    obtain ⟨z2, hz2, ez2⟩ := atI_int (ns := [1, 3, 6, 12]) (k := r1 % 4) (by omega) (by show r1 % 4 < 4; omega)
    refine ⟨_, _, _, _, rfl, rfl, SqL.of upd_same, ez2, ?_⟩
    refine ⟨_, _, rfl, rfl, ?_⟩
    refine q _ _ (s1.trans ((sx_new hl).trans (s2.trans (sx_new hl2)))) (hp3.same (same_new hl2)) ?_ ?_ <;> simp only [List.mem_cons, List.not_mem_nil, or_false] at hz2 <;> simp only [M30] <;> omega
theorem ok_wjob_next (T : Txt K mg) {n : Nat} (g__law_wide_job : FnOk P w K mg base CX0 (n + 2) T.f__law_wide_job T.d__law_wide_job ["_law_source_here", "_law_deep"] (spWJobs K n)) :
    FnOk P w K mg base CX0 (n + 3) T.f__law_wide_job T.d__law_wide_job ["_law_source_here", "_law_deep"] (spWJobs K (n + 1)) := by
  have g__law_draw : FnOk P w K mg base CX0 1 T.f__law_draw T.d__law_draw ["_law_source_here", "_law_many"] spTake := ok_take T
  have g__law_step : FnOk P w K mg base CX0 2 T.f__law_step T.d__law_step ["_law_source_here"] spStepW := ok_stepW T
  refine T.F__law_wide_job.ok sc__law_wide_job (fun vs H Q E h => ?_) (fun cdv A outer s H vs Q E hr h => ?_)
  · obtain ⟨d, _, p, m, rfl, _⟩ := h
    rfl
  obtain ⟨d, hd, p, m, rfl, hp, hm, q⟩ := h
  refine ⟨_, (pss_cons (ps_set (i := 2) sc__law_wide_job.nd rfl (Or.inl rfl) (pe_call g__law_draw (hr.mono (by omega)) rfl T.m__law_draw T.F__law_draw.kp T.b__law_draw .nil pass0 (pa_cons (pv 0) (pa_cons pe_int pa_nil))))
      (pss_cons (ps_if (PW.pt (pw_or (pt_cmpR op_lt (pv 1) pe_int (nomark _)) (pw_or1 (pt_cmpR op_eq (pv 2) pe_int (nomark _))))) (pss_one (ps_ret (pe_call g__law_step (hr.mono (by omega)) rfl T.m__law_step T.F__law_step.kp T.b__law_step .nil pass0 (pa_cons (pv 0) pa_nil)))) pss_nil)
      (pss_cons (ps_if (pt_cmpR op_lt (pv 2) pe_int (nomark _)) (pss_cons (ps_set (i := 3) sc__law_wide_job.nd rfl (Or.inl rfl) (pe_callTy (r := rTupS K) call_tupS (by rfl) T.n_tuple (by decide +kernel) (pa_cons (pe_lc (own := [("_law_turn", 5)]) (g := (gName 5)) (by rfl) sc__law_wide_job.nd (pi_range1 rfl T.n_range (pa_cons (pe_ix (r := rIxL K) ix_list (pe_lst (pa_cons pe_int (pa_cons pe_int (pa_cons pe_int (pa_cons pe_int (pa_cons pe_int (pa_cons pe_int pa_nil))))))) (pe_call g__law_draw (hr.mono (by omega)) rfl T.m__law_draw T.F__law_draw.kp T.b__law_draw .nil pass0 (pa_cons (pv 0) (pa_cons pe_int pa_nil))) (fun _ _ => rfl)) pa_nil)) (blkOk_by (N := N__law_wide_job) (sc := (defScope s__law_wide_job)) (by decide +kernel)) (fun _ _ _ _ _ => (pg_name (i := 5) sc__law_wide_job.nd rfl (Or.inl rfl))) (fun _ _ _ _ _ => pts_nil) (fun _ _ _ _ _ => (pe_call g__law_wide_job (hr.mono (by omega)) rfl T.m__law_wide_job T.F__law_wide_job.kp T.b__law_wide_job .nil pass0 (pa_cons (pv 0) (pa_cons (pe_op op_sub (pv 1) pe_int) pa_nil))))) pa_nil)))
        (pss_one (ps_ret (pe_tup (pa_cons (pe_ix (r := rIxL K) ix_list (pe_lst (pa_cons pe_str (pa_cons pe_str pa_nil))) (pe_op op_mod (pv 2) pe_int) (fun _ _ => rfl)) (pa_cons (pv 3) pa_nil)))))) pss_nil)
      (pss_cons (ps_set (i := 4) sc__law_wide_job.nd rfl (Or.inl rfl) (pe_ix (r := rIxL K) ix_list (pe_lst (pa_cons pe_int (pa_cons pe_int (pa_cons pe_int (pa_cons pe_int pa_nil))))) (pe_call g__law_draw (hr.mono (by omega)) rfl T.m__law_draw T.F__law_draw.kp T.b__law_draw .nil pass0 (pa_cons (pv 0) (pa_cons pe_int pa_nil))) (fun _ _ => rfl)))
      (pss_one (ps_ret (pe_tup (pa_cons (pe_ix (r := rIxL K) ix_list (pe_lst (pa_cons pe_str (pa_cons pe_str pa_nil))) (pe_op op_sub (pv 2) pe_int) (fun _ _ => rfl)) (pa_cons (pv 4) (pa_cons (pe_call g__law_wide_job (hr.mono (by omega)) rfl T.m__law_wide_job T.F__law_wide_job.kp T.b__law_wide_job .nil pass0 (pa_cons (pv 0) (pa_cons (pe_op op_sub (pv 1) pe_int) pa_nil))) pa_nil)))))))))), ?_⟩
  have tb : 20 ≤ TW d := by cases d <;> simp only [TW] <;> omega
  refine ⟨_, rfl, p, m, 10, rfl, hp, by omega, by decide, by decide, fun H1 r1 s1 hp1 h0 h1 => ?_⟩
  refine ⟨_, rfl, _, _, rfl, rfl, _, rfl, ?_⟩
  -- one step
  have one : ∀ (R : V → Hp → Prop), R = Q → spStepW [.ref p] H1 R E0 := by
    rintro R rfl
    exact ⟨p, m + 1, rfl, hp1, by omega, fun H2 r2 s2 hp2 k0 k1 => q _ _ (.st r2) (s1.trans s2) (hp2.mono (by omega)) (.int _) (.step k0 k1)⟩
  refine ite2 (fun g => ?_) (fun g => ?_)
  · refine iteT ⟨_, rfl, ?_⟩
    exact one _ rfl
  have d2 : 2 ≤ d := by
    have g' : ¬ ((d : Int) < 2) := fun z => g (decide_eq_true z)
    omega
  obtain ⟨e, rfl⟩ : ∃ e, d = e + 2 := ⟨d - 2, by omega⟩
  refine ⟨_, rfl, rfl, _, rfl, ?_⟩
  refine ite2 (fun g => ?_) (fun g => ?_)
  · refine ⟨_, rfl, ?_⟩
    exact one _ rfl
  refine ⟨_, rfl, _, _, rfl, rfl, _, rfl, ?_⟩
  have etb : TW (e + 2) = 20 + 4 * TW (e + 1) := rfl
  have tb1 : 20 ≤ TW (e + 1) := by simp only [TW]; omega
  obtain ⟨lp, hlp⟩ := hp1.lst
  refine ite2 (fun g => ?_) (fun g => ?_)
  · -- parts
    refine ⟨(by show 6 ≤ sizeLine; decide), fun l hl => ?_⟩
    have nlp : l ≠ p := fun z => by rw [z, hlp] at hl; cases hl
    refine ⟨_, rfl, p, m + 1, _, rfl, hp1.same (same_new hl), by omega, by decide, by decide, fun H2 r2 s2 hp2 k0 k1 => ?_⟩
    obtain ⟨z, hz, ez⟩ := atI_int (ns := [2, 3, 1, 0, 4, 2]) k0 k1
    have hz4 : 0 ≤ z ∧ z ≤ 4 := by
      simp only [List.mem_cons, List.not_mem_nil, or_false] at hz
      omega
    refine ⟨_, _, _, _, rfl, rfl, SqL.of (s2 l _ nlp upd_same), ez, ?_⟩
    have s02 : Sx p H H2 := s1.trans ((sx_new hl).trans s2)
    refine ⟨z, rfl, by omega, by omega, fun D hD => ?_⟩
    have nDp : D ≠ p := fun y => by
      obtain ⟨_, y2⟩ := hp2.lst
      rw [y, y2] at hD
      cases hD
    refine lc_range (lo := 0) (n := z.toNat) (fun i H' => ∃ js, js.length = i ∧ RowW K H2 p D (e + 1) (m + 1 + 1 + TW (e + 1) * i) js H') ?_ ?_ ?_
    · exact ⟨[], rfl, fun b o nb hb => by rw [upd_ne (ne_of_none hb hD)]; exact hb, (hp2.same (same_new hD)), .nil, [], upd_same, .nil⟩
    · rintro i H' hi ⟨js, ejs, R⟩
      have hi3 : i ≤ 3 := by omega
      have hmul : TW (e + 1) * i ≤ TW (e + 1) * 3 := Nat.mul_le_mul_left _ hi3
      have hmul2 : TW (e + 1) * (i + 1) = TW (e + 1) * i + TW (e + 1) := Nat.mul_succ _ _
      refine ⟨rfl, ?_⟩
      unfold tYes
      refine iteT ?_
      refine ⟨_, rfl, _, rfl, _, _, rfl, rfl, e + 1, by omega, p, m + 1 + 1 + TW (e + 1) * i, ?_, R.pot, by omega, fun H4 r4 j4 s4 hp4 d4 g4 => ?_⟩
      · have ee : ((e + 2 : Nat) : Int) - 1 = ((e + 1 : Nat) : Int) := by omega
        rw [← ee]
        rfl
      obtain ⟨acc, x1, x2, x3⟩ := R.snoc hD nDp s4 hp4 d4 g4
      rw [Nat.add_assoc _ (TW (e + 1) * i), ← hmul2] at x3
      exact ⟨acc, x1, small1000 (by omega), _, by rw [List.length_append, List.length_singleton, ejs], x3⟩
    · rintro H' ⟨js, ejs, R⟩
      obtain ⟨vs, y1, y2⟩ := R.lst
      obtain ⟨lp2, hlp2⟩ := R.pot.lst
      refine ⟨D, vs, rfl, .inl ⟨SqL.of y1, fun t ht => ?_⟩⟩
      refine ⟨(by show 2 ≤ sizeLine; decide), fun l2 hl2 => ?_⟩
      refine ⟨_, rfl, _, _, rfl, rfl, (by show (0 : Int) < 2; decide), ?_⟩
      obtain ⟨kb, ekb⟩ := pick2 kwP (r := r1 % 2) (by omega) (by omega)
      refine ⟨_, _, _, _, rfl, rfl, SqL.of upd_same, ekb, ?_⟩
      refine ⟨_, rfl, (by show 2 ≤ sizeLine; decide), fun u hu => ?_⟩
      have st1 : Same H' (upd (upd H' t (.tup vs)) l2 (.lst [.str "seq", .str "par"])) := (same_new ht).trans (same_new hl2)
      have st : Same H' (upd (upd (upd H' t (.tup vs)) l2 (.lst [.str "seq", .str "par"])) u (.tup [.str (kwP kb), .ref t])) := st1.trans (same_new hu)
      have hz3 : z.toNat ≤ 4 := by omega
      have hmul : TW (e + 1) * z.toNat ≤ TW (e + 1) * 4 := Nat.mul_le_mul_left _ hz3
      refine q _ _ (.ps kb js) (s02.trans (R.sx.trans (Same.sx st))) ((R.pot.same st).mono (by omega)) ?_ (WOk.parts R.gen (by omega))
      refine dp_ps (k := kb) (v := .ref t) upd_same (.tup (.inl (.inl ?_)) (dpAll_same st y2))
      exact ((same_new hl2).trans (same_new hu)) _ _ upd_same
  · -- rounds, copies
    refine ⟨(by show 4 ≤ sizeLine; decide), fun l hl => ?_⟩
    have nlp : l ≠ p := fun z => by rw [z, hlp] at hl; cases hl
    refine ⟨_, rfl, p, m + 1, _, rfl, hp1.same (same_new hl), by omega, by decide, by decide, fun H2 r2 s2 hp2 k0 k1 => ?_⟩
    obtain ⟨z, hz, ez⟩ := atI_int (ns := csW) k0 k1
    refine ⟨_, _, _, _, rfl, rfl, SqL.of (s2 l _ nlp upd_same), ez, ?_⟩
    have s02 : Sx p H H2 := s1.trans ((sx_new hl).trans s2)
    have g8 : ¬ r1 < 8 := fun z => by
      rename_i gg
      exact absurd (decide_eq_true z) (by assumption)
    refine ⟨(by show 2 ≤ sizeLine; decide), fun l2 hl2 => ?_⟩
    refine ⟨_, rfl, _, _, rfl, rfl, ?_⟩
    obtain ⟨kb, ekb⟩ := pick2 kwR (r := r1 - 8) (by omega) (by omega)
    refine ⟨_, _, _, _, rfl, rfl, SqL.of upd_same, ekb, ?_⟩
    have s03 := s02.trans (sx_new (o := .lst [.str "repeat", .str "copies"]) hl2)
    have hp3 := hp2.same (same_new (o := .lst [.str "repeat", .str "copies"]) hl2)
    generalize (upd H2 l2 (.lst [.str "repeat", .str "copies"])) = H3 at s03 hp3 ⊢
    refine ⟨_, rfl, _, rfl, _, rfl, _, _, rfl, rfl, e + 1, by omega, p, m + 1 + 1, ?_, hp3, by omega, fun H4 r4 j4 s4 hp4 d4 g4 => ?_⟩
    · have ee : ((e + 2 : Nat) : Int) - 1 = ((e + 1 : Nat) : Int) := by omega
      rw [← ee]
      rfl
    refine ⟨(by show 3 ≤ sizeLine; decide), fun u hu => ?_⟩
    have st : Same H4 (upd H4 u (.tup [.str (kwR kb), .int z, r4])) := same_new hu
    exact q _ _ (.rn kb z j4) (s03.trans (s4.trans (Same.sx st))) ((hp4.same st).mono (by omega)) (dp_rn upd_same (dp_same st d4)) (WOk.rounds g4 hz)
theorem ok_wjobs (T : Txt K mg) : ∀ n : Nat, FnOk P w K mg base CX0 (n + 2) T.f__law_wide_job T.d__law_wide_job ["_law_source_here", "_law_deep"] (spWJobs K n)
  | 0 => ⟨fun vs H Q E h => (nomatch h.choose_spec.1), fun A outer s H args us vs Q E _ _ _ _ h => (nomatch h.choose_spec.1)⟩
  | n + 1 => ok_wjob_next T (ok_wjobs T n)
theorem ok_wjob (T : Txt K mg) (n : Nat) : FnOk P w K mg base CX0 (n + 3) T.f__law_wide_job T.d__law_wide_job ["_law_source_here", "_law_deep"] (spWJob K n) :=
  (ok_wjobs T (n + 1)).imp fun vs H Q E h => ⟨n, Nat.lt_succ_self n, h⟩
end

/-! block WSmall: _law_count, _law_small_job of the laws over runs (behind bWJob, bLaw08M) -/
abbrev jF : J := .ps true [.ps false [.st 2, .st (-3)], .rn false 2 (.ps false [.st 1, .st 0]), .st (-1)]
structure SmJ (most : Int) (j : J) : Prop where
  cin : j.cin csW
  deep : j.deep ≤ 4
  nodes : j.nodes ≤ 85
  small : j.small
  nn : 0 ≤ j.steps
  le : j.steps ≤ most
theorem SmJ.stb {most : Int} {j : J} (h : SmJ most j) : j.stb := (J.few j csW h.small h.cin (by decide) (by have := h.deep; omega)).1
theorem SmJ.good {most : Int} {j : J} (h : SmJ most j) : Good j := ⟨J.few_ok j csW h.small h.cin (by decide) (by have := h.deep; omega), by have := h.nodes; omega, by have := h.deep; omega⟩
def spWC (K : PySem.W.Frag) (n : Nat) : Sp := fun vs H Q _ => ∃ (v : V) (j : J), vs = [v] ∧ Dp K H v j.toD ∧ j.deep ≤ n ∧ j.stb ∧ ∀ H', Same H H' → Q (.int j.steps) H'
def spWSmall (K : PySem.W.Frag) : Sp := fun vs H Q _ => ∃ (p : Addr) (m : Nat) (most : Int), vs = [.ref p, .int 4, .int most] ∧ Pot H p m ∧ m + 3 * TW 4 ≤ 1099511627776 ∧ 7 ≤ most ∧
  ∀ (H' : Hp) (r : V) (j : J), Sx p H H' → Pot H' p (m + 3 * TW 4) → Dp K H' r j.toD → SmJ most j → Q r H'
section
variable {P : Program} {w : World} {K : PySem.W.Frag} {mg : Str → Option Value} {base : Heap}
theorem ok_wc_next (T : Txt K mg) {n : Nat} (g__law_count : FnOk P w K mg base CX0 n T.f__law_count T.d__law_count ["_law_job"] (spWC K n)) :
    FnOk P w K mg base CX0 (n + 1) T.f__law_count T.d__law_count ["_law_job"] (spWC K (n + 1)) := by
  refine T.F__law_count.ok sc__law_count (fun vs H Q E h => ?_) (fun cdv A outer s H vs Q E hr h => ?_)
  · obtain ⟨v, j, rfl, _⟩ := h
    rfl
  obtain ⟨v, j, rfl, hd, hn, hok, q⟩ := h
  refine ⟨_, (pss_cons (ps_if (pt_val (pe_callB (r := rIsD K) call_isD (by rfl) T.n_isinstance (by decide +kernel) (pa_cons (pv 0) (pa_cons (pe_bltn (v := .ty "int") (by rfl) T.n_int (by decide +kernel) rfl) pa_nil)))) (pss_one (ps_ret pe_int)) pss_nil)
      (pss_cons (ps_if (pt_cmpR (r := rIn K false) op_in_seq (pe_ix (r := rIxT K) ix_tup (pv 0) pe_int (fun _ _ => rfl)) (pe_tup (pa_cons pe_str (pa_cons pe_str pa_nil))) (by rfl)) (pss_one (ps_ret (pe_callB (r := rSum K) (cr_sum rfl) (by rfl) T.n_sum (by decide +kernel) (pa_cons (pe_lc (own := [("_law_part", 1)]) (g := (gName 1)) (by rfl) sc__law_count.nd (pi_tup (pe_ix (r := rIxT K) ix_tup (pv 0) pe_int (fun _ _ => rfl))) (blkOk_by (N := N__law_count) (sc := (defScope s__law_count)) (by decide +kernel)) (fun _ _ _ _ _ => (pg_name (i := 1) sc__law_count.nd rfl (Or.inl rfl))) (fun _ _ _ _ _ => pts_nil) (fun _ _ _ _ _ => (pe_call g__law_count (hr.mono (by omega)) rfl T.m__law_count T.F__law_count.kp T.b__law_count .nil pass0 (pa_cons (pv 1) pa_nil)))) pa_nil)))) pss_nil)
      (pss_one (ps_ret (pe_op op_mulW (pe_ix (r := rIxT K) ix_tup (pv 0) pe_int (fun _ _ => rfl)) (pe_call g__law_count (hr.mono (by omega)) rfl T.m__law_count T.F__law_count.kp T.b__law_count .nil pass0 (pa_cons (pe_ix (r := rIxT K) ix_tup (pv 0) pe_int (fun _ _ => rfl)) pa_nil))))))), ?_⟩
  cases j with
  | st i =>
    refine ⟨_, rfl, _, _, _, _, rfl, hd, kit_int _, _, rfl, ?_⟩
    refine iteT ?_
    simp only [J.steps] at q
    exact q _ (Same.refl _)
  | ps k xs =>
    simp only [J.deep] at hn
    simp only [J.stb] at hok
    simp only [J.steps] at q
    rw [J.toD] at hd
    obtain ⟨a, ys, rfl, hys, hall⟩ := dp_tup_inv hd
    refine ⟨_, rfl, _, _, _, _, rfl, hd, kit_int _, _, rfl, ?_⟩
    refine iteF ?_
    cases hall with
    | cons e1 hall =>
      obtain rfl := dp_str_inv e1
      cases hall with
      | cons e2 hall =>
        cases hall
        obtain ⟨b, vs, rfl, hvs, hall2⟩ := dp_tup_inv e2
        refine ⟨_, rfl, _, _, _, _, rfl, rfl, hys, rfl, (by show 2 ≤ sizeLine; decide), fun t ht => ?_⟩
        refine ⟨t, _, rfl, .inr (SqT.of upd_same), rfl, rfl, _, rfl, ?_⟩
        have s1 : Same H (upd H t (.tup [.str "seq", .str "par"])) := same_new ht
        show if inV (.str (kwP k)) [.str "seq", .str "par"] = true then _ else _
        rw [kwP_in]
        refine iteT ?_
        generalize (upd H t (.tup [.str "seq", .str "par"])) = H1 at s1 ⊢
        refine ⟨_, rfl, _, _, _, _, rfl, rfl, same_sqT s1 hys, rfl, b, rfl, ⟨vs, same_sqT s1 hvs⟩, fun D hD => ?_⟩
        refine lc_tup (K := K) (a := b) (xs := vs) (fun i H' => Same H1 H' ∧ H' D = some (.lst (((xs.take i).map J.steps).map V.int))) ?_ ?_ ?_ ?_
        · exact ⟨same_new hD, upd_same⟩
        · rintro i H' _ ⟨s2, _⟩
          exact same_sqT s2 (same_sqT s1 hvs)
        · rintro i x H' hi ⟨s2, eD⟩
          obtain ⟨j, ej, mj, dj⟩ := part_at hall2 hi
          refine ⟨rfl, ?_⟩
          unfold tYes
          refine iteT ?_
          refine ⟨_, rfl, x, j, rfl, dp_same (s1.trans s2) dj, by have := J.deepL_mem mj; omega, J.stbL_mem hok.2 mj, fun H3 s3 => ?_⟩
          refine ⟨_, s3 _ _ eD, ?_, ?_, ?_⟩
          · rw [List.length_map, List.length_map, List.length_take]
            have : i < vs.length := (List.getElem?_eq_some_iff.mp hi).1
            exact small1000 (by omega)
          · intro c o hc
            rw [upd_ne (ne_of_none hc hD)]
            exact s3 _ _ (s2 _ _ hc)
          · rw [upd_same, take_map J.steps ej, List.map_append]
            rfl
        · rintro H' ⟨s2, eD⟩
          have el : vs.length = xs.length := by rw [dpAll_length hall2, J.toDs_eq, List.length_map]
          rw [el, List.take_length] at eD
          refine ⟨D, xs.map J.steps, rfl, SqL.of eD, ?_⟩
          rw [J.stepsL_sum]
          exact q _ (s1.trans s2)
  | rn k c x =>
    simp only [J.deep] at hn
    simp only [J.stb] at hok
    simp only [J.steps] at q
    rw [J.toD] at hd
    obtain ⟨a, ys, rfl, hys, hall⟩ := dp_tup_inv hd
    refine ⟨_, rfl, _, _, _, _, rfl, hd, kit_int _, _, rfl, ?_⟩
    refine iteF ?_
    cases hall with
    | cons e1 hall =>
      obtain rfl := dp_str_inv e1
      cases hall with
      | cons e2 hall =>
        obtain rfl := dp_int_inv e2
        cases hall with
        | cons e3 hall =>
          cases hall
          refine ⟨_, rfl, _, _, _, _, rfl, rfl, hys, rfl, (by show 2 ≤ sizeLine; decide), fun t ht => ?_⟩
          refine ⟨t, _, rfl, .inr (SqT.of upd_same), rfl, rfl, _, rfl, ?_⟩
          have s1 : Same H (upd H t (.tup [.str "seq", .str "par"])) := same_new ht
          show if inV (.str (kwR k)) [.str "seq", .str "par"] = true then _ else _
          rw [kwR_in]
          refine iteF ?_
          refine ⟨_, rfl, _, _, _, _, rfl, rfl, same_sqT s1 hys, rfl, _, rfl, _, _, _, _, rfl, rfl, same_sqT s1 hys, rfl, _, x, rfl, dp_same s1 e3, by omega, hok.2.1, fun H2 s2 => ?_⟩
          have hb0 := hok.2.2.1
          have hb1 := hok.2.2.2
          have h1 := hok.1
          simp only [M30] at hb1 h1
          have e1 : x.steps.natAbs < 2 ^ 128 := Nat.lt_of_le_of_lt (show x.steps.natAbs ≤ 1000000000000000000000000000000 by omega) (by decide)
          have e2 : c.natAbs < 2 ^ 128 := Nat.lt_of_le_of_lt (show c.natAbs ≤ 1000000000000000000000000000000 by omega) (by decide)
          refine ⟨_, _, rfl, rfl, wide_mul (a := 128) (b := 128) e2 e1 (by decide) (by decide) (by decide), ?_⟩
          show Q (.int (c * x.steps)) _
          rw [Int.mul_comm]
          exact q _ (s1.trans s2)
theorem ok_wc (T : Txt K mg) : ∀ n : Nat, FnOk P w K mg base CX0 n T.f__law_count T.d__law_count ["_law_job"] (spWC K n)
  | 0 => by
    have no : ∀ vs H Q E, ¬ spWC K 0 vs H Q E := by
      rintro vs H Q E ⟨v, j, _, _, h, _⟩
      have := J.deep_pos j
      omega
    exact ⟨fun vs H Q E h => absurd h (no vs H Q E), fun A outer s H args us vs Q E _ _ _ _ h => absurd h (no vs H Q E)⟩
  | n + 1 => ok_wc_next T (ok_wc T n)
theorem ok_wsmall (T : Txt K mg) : FnOk P w K mg base CX0 10 T.f__law_small_job T.d__law_small_job ["_law_source_here", "_law_deep", "_law_most"] (spWSmall K) := by
  have g__law_wide_job : FnOk P w K mg base CX0 7 T.f__law_wide_job T.d__law_wide_job ["_law_source_here", "_law_deep"] (spWJob K 4) := ok_wjob T 4
  have g__law_count : FnOk P w K mg base CX0 8 T.f__law_count T.d__law_count ["_law_job"] (spWC K 8) := ok_wc T 8
  refine T.F__law_small_job.ok sc__law_small_job (fun vs H Q E h => ?_) (fun cdv A outer s H vs Q E hr h => ?_)
  · obtain ⟨p, m, most, rfl, _⟩ := h
    rfl
  obtain ⟨p, m, most, rfl, hp, hm, h7, q⟩ := h
  refine ⟨_, (pss_cons (ps_for PassesOwn.never rfl (pi_range1 rfl T.n_range (pa_cons pe_int pa_nil)) (pg_name (i := 3) sc__law_small_job.nd rfl (Or.inl rfl))
        (pss_cons (ps_set (i := 4) sc__law_small_job.nd rfl (Or.inl rfl) (pe_call g__law_wide_job (hr.mono (by omega)) rfl T.m__law_wide_job T.F__law_wide_job.kp T.b__law_wide_job .nil pass0 (pa_cons (pv 0) (pa_cons (pv 1) pa_nil))))
        (pss_one (ps_if (pt_cmpR op_le (pe_call g__law_count (hr.mono (by omega)) rfl T.m__law_count T.F__law_count.kp T.b__law_count .nil pass0 (pa_cons (pv 4) pa_nil)) (pv 2) (nomark _)) (pss_one (ps_ret (pv 4))) pss_nil))))
      (pss_one (ps_ret (pe_tup (pa_cons pe_str (pa_cons (pe_tup (pa_cons (pe_tup (pa_cons pe_str (pa_cons (pe_tup (pa_cons pe_int (pa_cons (pe_un un_neg pe_int) pa_nil))) pa_nil))) (pa_cons (pe_tup (pa_cons pe_str (pa_cons pe_int (pa_cons (pe_tup (pa_cons pe_str (pa_cons (pe_tup (pa_cons pe_int (pa_cons pe_int pa_nil))) pa_nil))) pa_nil)))) (pa_cons (pe_un un_neg pe_int) pa_nil)))) pa_nil)))))), ?_⟩
  refine ⟨_, rfl, by decide, by decide, ?_⟩
  refine for_range (lo := 0) (n := (3 : Int).toNat) (fun i σ H' => ∃ y3 y4 : Option V, σ = [some (.ref p), some (.int 4), some (.int most), y3, y4] ∧ Sx p H H' ∧ Pot H' p (m + i * TW 4)) ⟨none, none, rfl, Sx.refl, by simpa using hp⟩ ?_ ?_
  · rintro i σ H' hi ⟨y3, y4, rfl, s1, hp1⟩
    have hi4 : i < 3 := hi
    have hmul : (i + 1) * TW 4 = i * TW 4 + TW 4 := Nat.succ_mul i (TW 4)
    have hmul4 : (i + 1) * TW 4 ≤ 3 * TW 4 := Nat.mul_le_mul_right _ (by omega)
    refine ⟨_, rfl, _, rfl, p, m + i * TW 4, rfl, hp1, by omega, fun H2 r j s2 hp2 dj gj => ?_⟩
    have gd := gj.deep
    have hdeep : j.deep ≤ 4 := by omega
    obtain ⟨hst, h0, _⟩ := J.few j csW gj.small gj.cin (by decide) (by omega)
    refine ⟨_, rfl, r, j, rfl, dj, by omega, hst, fun H3 s3 => ?_⟩
    have X3 : Sx p H H3 := s1.trans (s2.trans (Same.sx s3))
    have hp3 : Pot H3 p (m + (i + 1) * TW 4) := (hp2.same s3).mono (by omega)
    refine ⟨_, rfl, _, _, rfl, rfl, _, rfl, ?_⟩
    refine ite2 (fun g1 => ?_) (fun g1 => ?_)
    · refine ⟨_, rfl, ?_⟩
      exact q _ r j X3 (hp3.mono (by omega)) (dp_same s3 dj) ⟨gj.cin, hdeep, gj.nodes, gj.small, h0, of_decide_eq_true g1⟩
    · exact ⟨_, _, rfl, X3, hp3⟩
  · rintro σ H' ⟨y3, y4, rfl, s1, hp1⟩
    have hp4 : Pot H' p (m + 3 * TW 4) := hp1
    refine ⟨_, rfl, (by show 2 ≤ sizeLine; decide), fun t1 h1 => ?_⟩
    obtain ⟨u1, d1⟩ := tup_fresh (K := K) (ds := [.int 2, .int (-3)]) h1 (.cons (.int _) (.cons (.int _) .nil))
    generalize (upd H' t1 _) = H1 at u1 d1 ⊢
    refine ⟨(by show 2 ≤ sizeLine; decide), fun t2 h2 => ?_⟩
    obtain ⟨u2, d2⟩ := tup_fresh (K := K) (ds := [.str "seq", .tuple [.int 2, .int (-3)]]) h2 (.cons (.str _) (.cons d1 .nil))
    generalize (upd H1 t2 _) = H2 at u2 d2 ⊢
    refine ⟨(by show 2 ≤ sizeLine; decide), fun t3 h3 => ?_⟩
    obtain ⟨u3, d3⟩ := tup_fresh (K := K) (ds := [.int 1, .int 0]) h3 (.cons (.int _) (.cons (.int _) .nil))
    generalize (upd H2 t3 _) = H3 at u3 d3 ⊢
    refine ⟨(by show 2 ≤ sizeLine; decide), fun t4 h4 => ?_⟩
    obtain ⟨u4, d4⟩ := tup_fresh (K := K) (ds := [.str "seq", .tuple [.int 1, .int 0]]) h4 (.cons (.str _) (.cons d3 .nil))
    generalize (upd H3 t4 _) = H4 at u4 d4 ⊢
    refine ⟨(by show 3 ≤ sizeLine; decide), fun t5 h5 => ?_⟩
    obtain ⟨u5, d5⟩ := tup_fresh (K := K) (ds := [.str "repeat", .int 2, .tuple [.str "seq", .tuple [.int 1, .int 0]]]) h5 (.cons (.str _) (.cons (.int _) (.cons d4 .nil)))
    generalize (upd H4 t5 _) = H5 at u5 d5 ⊢
    refine ⟨_, rfl, (by show 3 ≤ sizeLine; decide), fun t6 h6 => ?_⟩
    obtain ⟨u6, d6⟩ := tup_fresh (K := K) (ds := [.tuple [.str "seq", .tuple [.int 2, .int (-3)]], .tuple [.str "repeat", .int 2, .tuple [.str "seq", .tuple [.int 1, .int 0]]], .int (-1)]) h6 (.cons (dp_same (u3.trans (u4.trans u5)) d2) (.cons d5 (.cons (.int _) .nil)))
    generalize (upd H5 t6 _) = H6 at u6 d6 ⊢
    refine ⟨(by show 2 ≤ sizeLine; decide), fun t7 h7 => ?_⟩
    obtain ⟨u7, d7⟩ := tup_fresh (K := K) (ds := [.str "par", .tuple [.tuple [.str "seq", .tuple [.int 2, .int (-3)]], .tuple [.str "repeat", .int 2, .tuple [.str "seq", .tuple [.int 1, .int 0]]], .int (-1)]]) h7 (.cons (.str _) (.cons d6 .nil))
    have uall := u1.trans (u2.trans (u3.trans (u4.trans (u5.trans (u6.trans u7)))))
    have d7' : Dp K _ (.ref t7) jF.toD := d7
    have js : jF.steps = 7 := by
      simp only [J.steps, J.stepsL]
      decide
    refine q _ _ jF (s1.trans (Same.sx uall)) (hp4.same uall) d7' ⟨?_, ?_, ?_, ?_, by rw [js]; decide, by rw [js]; omega⟩
    · simp only [J.cin, J.cinL, and_true, true_and]
      decide
    · simp only [J.deep, J.deepL]
      decide
    · simp only [J.nodes, J.nodesL]
      decide
    · simp only [J.small, J.smallL, M30, List.length_cons, List.length_nil, and_true]
      decide
end

/-! block WAddr: _law_addresses, _law_precedes of the laws over runs (behind bWSmall; with Dw) -/
theorem ite_mid {c : Bool} {te1 te2 : TE} {σ : L2.St} {H : Hp} {Q : VK} (R : V → Hp → Prop) (h1 : c = true → ∀ Q : VK, (∀ x H', R x H' → Q x H') → te1 σ H Q) (h2 : c = false → ∀ Q : VK, (∀ x H', R x H' → Q x H') → te2 σ H Q)
    (h : ∀ x H', R x H' → Q x H') : if c = true then te1 σ H Q else te2 σ H Q := by
  cases c with
  | true => exact h1 rfl Q h
  | false => exact h2 rfl Q h
theorem idx_rep {x : J} (h : x.stb) (c : Nat) : ∀ i : Int, idx (J.adrs (List.replicate c x)) i = idx (J.adrs (List.replicate (if 0 < x.steps then c else 0) x)) i := by
  intro i
  by_cases e : 0 < x.steps
  · rw [if_pos e]
  · rw [if_neg e]
    have hl := J.adr_len x h
    have hn : x.adr = [] := List.length_eq_zero_iff.mp (by omega)
    rw [J.adrs_eq, J.adrs_eq, List.map_replicate, List.map_replicate, hn]
    simp only [List.replicate_zero]
    have : ∀ (c : Nat) (i : Int), idx (List.replicate c []) i = [] := by
      intro c
      induction c with
      | zero => intro i; rfl
      | succ c ih =>
        intro i
        rw [List.replicate_succ]
        simp only [idx, List.map_nil, List.nil_append]
        exact ih _
    rw [this]
    rfl
section
variable {P : Program} {w : World} {K : PySem.W.Frag} {mg : Str → Option Value} {base : Heap}
theorem ok_wadr_next (T : Txt K mg) {n : Nat} (g__law_addresses : FnOk P w K mg base CX0 n T.f__law_addresses T.d__law_addresses ["_law_job"] (spAdr K n)) (hn : n < 8) :
    FnOk P w K mg base CX0 (n + 1) T.f__law_addresses T.d__law_addresses ["_law_job"] (spAdr K (n + 1)) := by
  refine T.F__law_addresses.ok sc__law_addresses (fun vs H Q E h => ?_) (fun cdv A outer s H vs Q E hr h => ?_)
  · obtain ⟨v, j, rfl, _⟩ := h
    rfl
  obtain ⟨v, j, rfl, hd, hdeep, hstb, hst, hrd, q⟩ := h
  refine ⟨_, (pss_cons (ps_if (pt_val (pe_callB (r := rIsD K) call_isD (by rfl) T.n_isinstance (by decide +kernel) (pa_cons (pv 0) (pa_cons (pe_bltn (v := .ty "int") (by rfl) T.n_int (by decide +kernel) rfl) pa_nil)))) (pss_one (ps_ret (pe_lst (pa_cons (pe_tup pa_nil) pa_nil)))) pss_nil)
      (pss_cons (ps_set (i := 1) sc__law_addresses.nd rfl (Or.inl rfl) (pe_ifExp (pt_cmpR (r := rIn K false) op_in_seq (pe_ix (r := rIxT K) ix_tup (pv 0) pe_int (fun _ _ => rfl)) (pe_tup (pa_cons pe_str (pa_cons pe_str pa_nil))) (by rfl)) (pe_ix (r := rIxT K) ix_tup (pv 0) pe_int (fun _ _ => rfl)) (pe_op (r := rRepZ K) op_repZ (pe_tup (pa_cons (pe_ix (r := rIxT K) ix_tup (pv 0) pe_int (fun _ _ => rfl)) pa_nil)) (pe_ix (r := rIxT K) ix_tup (pv 0) pe_int (fun _ _ => rfl)))))
      (pss_cons (ps_set (i := 2) sc__law_addresses.nd rfl (Or.inl rfl) (pe_lst pa_nil))
      (pss_cons (ps_for PassesOwn.never rfl (pi_enumT (by rfl) T.n_enumerate (pa_cons (pv 1) pa_nil)) (pg_tup (by rfl) (pgs_cons (pg_name (i := 3) sc__law_addresses.nd rfl (Or.inr rfl)) (pgs_cons (pg_name (i := 4) sc__law_addresses.nd rfl (Or.inl rfl)) pgs_nil)))
        (pss_one (ps_expr (pe_bm PySem.F.plainAttrs_list PySem.F.slot_list_extend PySem.F.type_list_extend mt_extend (pv 2) (pa_cons (pe_lc (own := [("_law_rest", 5)]) (g := (gName 5)) (by rfl) sc__law_addresses.nd (pi_list (pe_call g__law_addresses (hr.mono (by omega)) rfl T.m__law_addresses T.F__law_addresses.kp T.b__law_addresses .nil pass0 (pa_cons (pv 4) pa_nil))) (blkOk_by (N := N__law_addresses) (sc := (defScope s__law_addresses)) (by decide +kernel)) (fun _ _ _ _ _ => (pg_name (i := 5) sc__law_addresses.nd rfl (Or.inl rfl))) (fun _ _ _ _ _ => pts_nil) (fun _ _ _ _ _ => (pe_op (r := rCatA K) op_catA (pe_tup (pa_cons (pv 3) pa_nil)) (pv 5)))) pa_nil)))))
      (pss_one (ps_ret (pv 2))))))), ?_⟩
  refine ⟨_, rfl, _, _, _, _, rfl, hd, kit_int _, _, rfl, ?_⟩
  have etu : isInt j.toD = !isTup j.toD := by cases j <;> rfl
  rw [etu]
  cases ej : isTup j.toD with
  | false =>
    refine iteT ?_
    refine ⟨(by show 0 ≤ sizeLine; decide), fun t ht => ?_⟩
    obtain ⟨s1, d1⟩ := tup_fresh (K := K) (ds := []) ht .nil
    generalize (upd H t _) = H1 at s1 d1 ⊢
    refine ⟨(by show 1 ≤ sizeLine; decide), fun l hl => ?_⟩
    have s2 : Same H1 (upd H1 l (.lst [.ref t])) := same_new hl
    cases j with
    | ps k xs => cases ej
    | rn k c x => cases ej
    | st i => exact q _ l [.ref t] (s1.trans s2) (Same.free' s1 hl) upd_same (.cons (dp_same s2 d1) .nil)
  | true =>
  refine iteF ?_
  -- the word
  obtain ⟨a, zs, x0, rfl, hzs, hz0, hcs⟩ : ∃ (a : Addr) (zs : List V) (x0 : Str), v = .ref a ∧ SqT K H a zs ∧ atI zs 0 = some (.str x0) ∧
      ((∃ (k : Bool) (xs : List J) (b : Addr) (us : List V), j = .ps k xs ∧ x0 = kwP k ∧ zs = [.str x0, .ref b] ∧ SqT K H b us ∧ DpAll K H us (J.toDs xs)) ∨
       (∃ (k : Bool) (c : Int) (x : J) (vx : V), j = .rn k c x ∧ x0 = kwR k ∧ zs = [.str x0, .int c, vx] ∧ Dp K H vx x.toD)) := by
    cases j with
    | st i => cases ej
    | ps k xs =>
      obtain ⟨a, b, us, rfl, h1, h2, h3⟩ := ps_inv hd
      exact ⟨a, _, _, rfl, h1, rfl, .inl ⟨k, xs, b, us, rfl, rfl, rfl, h2, h3⟩⟩
    | rn k c x =>
      obtain ⟨a, vx, rfl, h1, h2⟩ := rn_inv hd
      exact ⟨a, _, _, rfl, h1, rfl, .inr ⟨k, c, x, vx, rfl, rfl, rfl, h2⟩⟩
  refine ⟨_, rfl, _, _, _, _, rfl, rfl, hzs, hz0, (by show 2 ≤ sizeLine; decide), fun t ht => ?_⟩
  refine ⟨t, _, rfl, .inr (SqT.of upd_same), rfl, rfl, _, rfl, ?_⟩
  have s1 : Same H (upd H t (.tup [.str "seq", .str "par"])) := same_new ht
  generalize (upd H t (.tup [.str "seq", .str "par"])) = H1 at s1 ⊢
  refine ite_mid (fun x H' => ∃ (li : Addr) (ys : List V) (js : List J), x = .ref li ∧ Same H H' ∧ SqT K H' li ys ∧ DpAll K H' ys (J.toDs js) ∧
    (∀ y ∈ js, y.deep ≤ n ∧ y.stb ∧ y.steps ≤ 1000 ∧ y.rounded) ∧ j.adr = idx (J.adrs js) 0 ∧ js.length ≤ 1000) (fun hc Q' go => ?_) (fun hc Q' go => ?_) ?_
  · rcases hcs with ⟨k, xs, b, us, rfl, rfl, rfl, hus, hall⟩ | ⟨k, c, x, vx, rfl, rfl, rfl, hvx⟩
    · simp only [J.deep] at hdeep
      simp only [J.stb] at hstb
      simp only [J.rounded] at hrd
      simp only [J.steps] at hst
      refine ⟨_, rfl, _, _, _, _, rfl, rfl, same_sqT s1 hzs, rfl, ?_⟩
      refine go _ _ ⟨b, us, xs, rfl, s1, same_sqT s1 hus, dpAll_same s1 hall, fun y hy => ?_, rfl, by omega⟩
      have h1 := J.deepL_mem hy
      exact ⟨by omega, J.stbL_mem hstb.2 hy, J.steps_mem hstb.2 hst hy, J.roundedL_mem hrd hy⟩
    · have hc' : inV (.str (kwR k)) [.str "seq", .str "par"] = true := hc
      rw [kwR_in] at hc'
      cases hc'
  · rcases hcs with ⟨k, xs, b, us, rfl, rfl, rfl, hus, hall⟩ | ⟨k, c, x, vx, rfl, rfl, rfl, hvx⟩
    · have hc' : inV (.str (kwP k)) [.str "seq", .str "par"] = false := hc
      rw [kwP_in] at hc'
      cases hc'
    · simp only [J.deep] at hdeep
      simp only [J.stb] at hstb
      simp only [J.rounded] at hrd
      simp only [J.steps] at hst
      refine ⟨_, rfl, _, _, _, _, rfl, rfl, same_sqT s1 hzs, rfl, (by show 1 ≤ sizeLine; decide), fun t2 ht2 => ?_⟩
      have s2 : Same H1 (upd H1 t2 (.tup [vx])) := same_new ht2
      have q2 : SqT K (upd H1 t2 (.tup [vx])) t2 [vx] := SqT.of upd_same
      generalize (upd H1 t2 (.tup [vx])) = H2 at s2 q2 ⊢
      have s12 := s1.trans s2
      refine ⟨_, rfl, _, _, _, _, rfl, rfl, same_sqT s12 hzs, rfl, t2, c, [vx], rfl, rfl, q2, by simp, hstb.1.1, hrd.1, (by show 1 ≤ 1000; decide), fun H3 p s3 hp => ?_⟩
      have e1 : (List.replicate c.toNat [vx]).flatten = List.replicate c.toNat vx := by
        generalize c.toNat = m
        induction m with
        | zero => rfl
        | succ m ih => simp [List.replicate_succ, ih]
      refine go _ _ ⟨p, _, List.replicate c.toNat x, rfl, s12.trans s3, hp, dpAll_rep' (dp_same (s12.trans s3) hvx) _, fun y hy => ?_, ?_, by rw [List.length_replicate]; have := hrd.1; omega⟩
      · obtain ⟨hne, rfl⟩ := List.mem_replicate.mp hy
        have hc1 : 1 ≤ c := by omega
        have hx0 := J.steps_nn' y hstb.2.1
        refine ⟨by omega, hstb.2.1, ?_, hrd.2⟩
        have h1 : y.steps * 1 ≤ y.steps * c := Int.mul_le_mul_of_nonneg_left hc1 hx0
        omega
      · rw [idx_rep hstb.2.1, J.adrs_eq, List.map_replicate]
        rfl
  · rintro x H' ⟨li, ys, js, rfl, s2, hli, hys, hjs, ead, hjl⟩
    have ylen : ys.length = js.length := by rw [dpAll_length hys, J.toDs_eq, List.length_map]
    have hlen : j.adr.length ≤ 1000 := by
      have := J.adr_len j hstb
      omega
    refine ⟨(by show 0 ≤ sizeLine; decide), fun f hf => ?_⟩
    have s3 : Same H' (upd H' f (.lst [])) := same_new hf
    have ef : upd H' f (.lst []) f = some (.lst []) := upd_same
    refine ⟨_, rfl, li, ys, rfl, same_sqT s3 hli, ?_⟩
    refine for_it (walk_enumT (xs := ys)) (fun i σ G => ∃ (y3 y4 y5 : Option V) (fs : List V), σ = [some (.ref a), some (.ref li), some (.ref f), y3, y4, y5] ∧ Same H' G ∧ G f = some (.lst fs) ∧ DpAll K G fs (adDs (idx (J.adrs (js.take i)) 0)))
      ⟨none, none, none, [], rfl, s3, ef, .nil⟩ ?_ ?_ ?_
    · rintro i σ G _ ⟨_, _, _, _, _, s4, _⟩
      exact same_sqT s4 hli
    · rintro i z σ G G' hi ⟨y3, y4, y5, fs, rfl, s4, efs, hfs⟩ ⟨t3, x1, x, rfl, ht3, rfl, hx1, hx⟩
      obtain rfl : V.int (i : Int) = x1 := Option.some.inj hx1
      dsimp only at hx
      have s5 : Same G (upd G t3 (.tup [.int i, x])) := same_new ht3
      have q5 : SqT K (upd G t3 (.tup [.int i, x])) t3 [.int i, x] := SqT.of upd_same
      generalize (upd G t3 (.tup [.int i, x])) = G1 at s5 q5 ⊢
      refine ⟨t3, _, rfl, q5, rfl, _, _, rfl, _, _, rfl, rfl, ?_⟩
      obtain ⟨y, ey, my, dy⟩ := part_at hys hx
      obtain ⟨ydeep, ystb, yst, yrd⟩ := hjs y my
      have efs1 := s5 _ _ efs
      refine ⟨_, rfl, .inl ⟨rfl, fs, SqL.of efs1⟩, ?_⟩
      refine ⟨_, rfl, x, y, rfl, dp_same (s4.trans s5) dy, ydeep, ystb, yst, yrd, fun G2 l4 as4 s6 n6 e6 d6 => ?_⟩
      have as4len : as4.length = y.adr.length := by rw [dpAll_length d6, adDs, List.length_map]
      have yl : y.adr.length ≤ 1000 := by
        have := J.adr_len y ystb
        omega
      refine ⟨l4, rfl, ⟨as4, SqL.of e6⟩, fun D hD => ?_⟩
      refine lc_list (K := K) (a := l4) (xs := as4) (fun k G3 => Same G2 G3 ∧ ∃ ws, G3 D = some (.lst ws) ∧ DpAll K G3 ws (adDs ((y.adr.take k).map ((i : Int) :: ·)))) ?_ ?_ ?_ ?_
      · exact ⟨same_new hD, [], upd_same, .nil⟩
      · rintro k G3 _ ⟨s7, _⟩
        exact SqL.of (s7 _ _ e6)
      · rintro k r G3 hk ⟨s7, ws, eD, hws⟩
        obtain ⟨d, ed, hdr⟩ := dpAll_get d6 hk
        rw [adDs, List.getElem?_map] at ed
        obtain ⟨ad, er, rfl⟩ := Option.map_eq_some_iff.mp ed
        obtain ⟨ra, rs, rfl, hrs, hra⟩ := dp_tup_inv hdr
        have kl : k < y.adr.length := (List.getElem?_eq_some_iff.mp er).1
        have wl' : ws.length = k := by
          rw [dpAll_length hws, adDs, List.length_map, List.length_map, List.length_take]
          omega
        refine ⟨rfl, ?_⟩
        unfold tYes
        refine iteT ?_
        refine ⟨_, rfl, (by show 1 ≤ sizeLine; decide), fun t1 h1 => ?_⟩
        have s8 : Same G3 (upd G3 t1 (.tup [.int i])) := same_new h1
        have q8 : SqT K (upd G3 t1 (.tup [.int i])) t1 [.int i] := SqT.of upd_same
        generalize (upd G3 t1 (.tup [.int i])) = G4 at s8 q8 ⊢
        refine ⟨_, rfl, ?_⟩
        refine rCatA_d (xs := [.int i]) (ys := rs) q8 (same_sqT (s7.trans s8) hrs) ?_ (fun G5 t2 s9 q9 => ?_)
        · have h1 := dpAll_length hra
          rw [List.length_map] at h1
          have h2 := J.adr_deep y ad (List.mem_of_getElem? er)
          have h3 := J.adr_deep y ad (List.mem_of_getElem? er)
          exact small (by simp only [List.length_singleton]; omega)
        refine ⟨ws, (s8.trans s9) _ _ eD, small1000 (by omega), ?_, ws ++ [.ref t2], upd_same, ?_⟩
        · intro c o hc
          rw [upd_ne (ne_of_none hc hD)]
          exact (s7.trans (s8.trans s9)) _ _ hc
        · rw [adDs, take_map (fun a => (i : Int) :: a) er, List.map_append]
          have hold : DpAll K G5 ws (adDs ((y.adr.take k).map ((i : Int) :: ·))) := dpAll_same (s8.trans s9) hws
          have hnew : Dp K G5 (.ref t2) (adD ((i : Int) :: ad)) := .tup q9 (.cons (.int _) (dpAll_same (s7.trans (s8.trans s9)) hra))
          have kk : ∀ a xs, SqT K G5 a xs → SqT K (upd G5 D (.lst (ws ++ [.ref t2]))) a xs := fun a xs z => (sx_upd (p := D)).sqT ((s8.trans s9) _ _ eD) z
          exact dpAll_append (dpAll_keep kk (noLs_ad _) hold) (.cons (dp_keep kk (noL_ad _) hnew) .nil)
      · rintro G3 ⟨s7, ws, eD, hws⟩
        rw [as4len, List.take_length] at hws
        have efs3 := (s6.trans s7) _ _ efs1
        have etake : adDs (idx (J.adrs (js.take (i + 1))) 0) = adDs (idx (J.adrs (js.take i)) 0) ++ adDs (y.adr.map ((i : Int) :: ·)) := by
          have hi' : i < js.length := (List.getElem?_eq_some_iff.mp ey).1
          rw [J.adrs_eq, J.adrs_eq, take_map J.adr ey, idx_app]
          simp only [idx, List.append_nil, adDs, List.map_append, List.length_map, List.length_take]
          rw [show (0 : Int) + ((min i js.length : Nat) : Int) = (i : Int) by omega]
        have tot : fs.length + ws.length ≤ 1000 := by
          have h1 : fs.length + ws.length = (adDs (idx (J.adrs (js.take (i + 1))) 0)).length := by
            rw [etake, List.length_append, dpAll_length hfs, dpAll_length hws]
          have h2 : (adDs (idx (J.adrs (js.take (i + 1))) 0)).length ≤ (idx (J.adrs js) 0).length := by
            rw [adDs, List.length_map]
            have e3 : js = js.take (i + 1) ++ js.drop (i + 1) := (List.take_append_drop _ _).symm
            conv =>
              rhs
              rw [e3, J.adrs_eq, List.map_append, idx_app, List.length_append]
            rw [J.adrs_eq]
            omega
          rw [← ead] at h2
          omega
        refine ⟨f, D, fs, ws, rfl, rfl, efs3, eD, small tot, ?_⟩
        have kk : ∀ a xs, SqT K G3 a xs → SqT K (upd G3 f (.lst (fs ++ ws))) a xs := fun a xs z => (sx_upd (p := f)).sqT efs3 z
        refine ⟨_, _, _, fs ++ ws, rfl, ?_, upd_same, ?_⟩
        · intro c o hc
          rw [upd_ne (ne_of_none hc hf)]
          exact (s4.trans (s5.trans (s6.trans s7))) _ _ hc
        · rw [etake]
          exact dpAll_append (dpAll_keep kk (noLs_ad _) (dpAll_same (s5.trans (s6.trans s7)) hfs)) (dpAll_keep kk (noLs_ad _) hws)
    · rintro σ G ⟨y3, y4, y5, fs, rfl, s4, efs, hfs⟩
      rw [ylen, List.take_length, ← ead] at hfs
      refine ⟨_, rfl, ?_⟩
      exact q G f fs (s2.trans s4) (Same.free' s2 hf) efs hfs
theorem ok_wadr (T : Txt K mg) : ∀ n : Nat, n ≤ 8 → FnOk P w K mg base CX0 n T.f__law_addresses T.d__law_addresses ["_law_job"] (spAdr K n)
  | 0, _ => by
    have no : ∀ vs H Q E, ¬ spAdr K 0 vs H Q E := by
      rintro vs H Q E ⟨v, j, _, _, h, _⟩
      have := J.deep_pos j
      omega
    exact ⟨fun vs H Q E h => absurd h (no vs H Q E), fun A outer s H args us vs Q E _ _ _ _ h => absurd h (no vs H Q E)⟩
  | n + 1, h => ok_wadr_next T (ok_wadr T n (by omega)) (by omega)
theorem ok_wprec (T : Txt K mg) : FnOk P w K mg base CX0 1 T.f__law_precedes T.d__law_precedes ["_law_job", "_law_first", "_law_second"] (spAhead K) := by
  refine T.F__law_precedes.ok sc__law_precedes (fun vs H Q E h => ?_) (fun cdv A outer s H vs Q E hr h => ?_)
  · obtain ⟨v, j, t1, t2, a, b, rfl, _⟩ := h
    rfl
  obtain ⟨v, j, t1, t2, a, b, rfl, hd, h1, h2, ha, hb, hdeep, q⟩ := h
  refine ⟨_, (pss_cons (ps_for PassesOwn.never rfl (RZ.pi_zipA (by rfl) T.n_zip (pa_cons (pv 1) (pa_cons (pv 2) pa_nil))) (pg_tup (by rfl) (pgs_cons (pg_name (i := 3) sc__law_precedes.nd rfl (Or.inl rfl)) (pgs_cons (pg_name (i := 4) sc__law_precedes.nd rfl (Or.inl rfl)) pgs_nil)))
        (pss_cons (ps_if (pt_cmpR op_ne (pv 3) (pv 4) (nomark _)) (pss_one (ps_ret (pe_and (pe_cmpR op_lt (pv 3) (pv 4) (nomark _)) (pe_one (pe_cmpR (r := rIn K false) op_in_seq (pe_ix (r := rIxT K) ix_tup (pv 0) pe_int (fun _ _ => rfl)) (pe_tup (pa_cons pe_str (pa_cons pe_str pa_nil))) (by rfl)))))) pss_nil)
        (pss_one (ps_set (i := 0) sc__law_precedes.nd rfl (Or.inl rfl) (pe_ifExp (pt_cmpR (r := rIn K false) op_in_seq (pe_ix (r := rIxT K) ix_tup (pv 0) pe_int (fun _ _ => rfl)) (pe_tup (pa_cons pe_str (pa_cons pe_str pa_nil))) (by rfl)) (pe_ix (r := rIxT K) ix_tup (pe_ix (r := rIxT K) ix_tup (pv 0) pe_int (fun _ _ => rfl)) (pv 3) (fun _ _ => rfl)) (pe_ix (r := rIxT K) ix_tup (pv 0) pe_int (fun _ _ => rfl)))))))
      (pss_one (ps_ret pe_bl))), ?_⟩
  refine ⟨_, rfl, _, rfl, t1, t2, _, _, rfl, .inr ⟨h1, h2, ?_⟩⟩
  refine for_zipT2 (K := K) (xs := a.map V.int) (ys := b.map V.int) (fun i σ H' => ∃ (u : V) (y : J) (y3 y4 : Option V), σ = [some u, some (.ref t1), some (.ref t2), y3, y4] ∧ Same H H' ∧ Dp K H' u y.toD ∧
      a.drop i ∈ y.adr ∧ b.drop i ∈ y.adr ∧ j.sys.ahead a b = y.sys.ahead (a.drop i) (b.drop i))
    ⟨v, j, none, none, rfl, Same.refl _, hd, by simpa using ha, by simpa using hb, by simp⟩ (fun i σ H' ⟨_, _, _, _, _, s1, _⟩ => ⟨same_sqT s1 h1, same_sqT s1 h2⟩) ?_ ?_
  · rintro i x x2 t σ H' hi hi2 ⟨u, y, y3, y4, rfl, s1, hu, hya, hyb, hah⟩ ht
    rw [List.getElem?_map] at hi hi2
    obtain ⟨k, ek, rfl⟩ := Option.map_eq_some_iff.mp hi
    obtain ⟨m, em, rfl⟩ := Option.map_eq_some_iff.mp hi2
    obtain ⟨hlt, ek'⟩ := List.getElem?_eq_some_iff.mp ek
    obtain ⟨hlt2, em'⟩ := List.getElem?_eq_some_iff.mp em
    have da : a.drop i = k :: a.drop (i + 1) := by rw [← ek']; exact List.drop_eq_getElem_cons hlt
    have db : b.drop i = m :: b.drop (i + 1) := by rw [← em']; exact List.drop_eq_getElem_cons hlt2
    rw [da] at hya
    rw [db] at hyb
    rw [da, db] at hah
    have s2 : Same H' (upd H' t (.tup [.int k, .int m])) := same_new ht
    have qt : SqT K (upd H' t (.tup [.int k, .int m])) t [.int k, .int m] := SqT.of upd_same
    generalize (upd H' t (.tup [.int k, .int m])) = H2 at s2 qt ⊢
    refine ⟨t, _, rfl, qt, rfl, _, _, rfl, _, _, rfl, rfl, ?_⟩
    refine ⟨_, rfl, _, rfl, rfl, _, rfl, ?_⟩
    rw [w_dec_int]
    cases y with
    | st z => exact absurd (adr_st hya) (by simp)
    | ps kb xs =>
      obtain ⟨k0, y', ey, hya'⟩ := adr_ps hya
      obtain ⟨m0, y'', ey2, hyb'⟩ := adr_ps hyb
      rw [ahead_ps k0 ey] at hah
      obtain ⟨c, d, vs, rfl, hys, hvs, hall⟩ := ps_inv hu
      by_cases km : k = m
      · subst km
        rw [ey] at ey2
        obtain rfl := Option.some.inj ey2
        simp only [ne_eq, not_true_eq_false, if_false] at hah
        rw [decide_eq_true rfl]
        refine iteF ?_
        have len : vs.length = xs.length := parts_len hall
        have hlt3 : k.toNat < xs.length := (List.getElem?_eq_some_iff.mp ey).1
        obtain ⟨z, ez, eat⟩ := atI_ex (vs := vs) k0 (by omega)
        obtain ⟨j', ej', _, dj'⟩ := parts_at hall ez
        rw [ey] at ej'
        obtain rfl := Option.some.inj ej'
        refine ⟨_, rfl, _, _, _, _, rfl, rfl, same_sqT s2 hys, rfl, (by show 2 ≤ sizeLine; decide), fun t3 ht3 => ?_⟩
        refine ⟨t3, _, rfl, .inr (SqT.of upd_same), rfl, rfl, _, rfl, ?_⟩
        have s3 : Same H2 (upd H2 t3 (.tup [.str "seq", .str "par"])) := same_new ht3
        show if inV (.str (kwP kb)) [.str "seq", .str "par"] = true then _ else _
        rw [w_in_parts]
        refine iteT ?_
        generalize (upd H2 t3 (.tup [.str "seq", .str "par"])) = H3 at s3 ⊢
        have s23 := s2.trans s3
        refine ⟨_, rfl, _, _, _, _, rfl, rfl, same_sqT s23 hys, rfl, _, rfl, _, _, _, _, rfl, rfl, same_sqT s23 hvs, eat, ?_⟩
        exact ⟨_, _, _, _, rfl, s1.trans s23, dp_same s23 dj', hya', hyb', hah⟩
      · simp only [ne_eq, km, not_false_eq_true, if_true] at hah
        rw [decide_eq_false km]
        refine iteT ?_
        refine ⟨_, rfl, _, rfl, _, _, rfl, rfl, _, rfl, ?_⟩
        by_cases lt : k < m
        · rw [decide_eq_true lt]
          refine iteT ?_
          refine ⟨_, rfl, _, _, _, _, rfl, rfl, same_sqT s2 hys, rfl, (by show 2 ≤ sizeLine; decide), fun t3 ht3 => ?_⟩
          refine ⟨t3, _, rfl, .inr (SqT.of upd_same), rfl, rfl, ?_⟩
          have hq := q _ (s1.trans (s2.trans (same_new (o := .tup [.str "seq", .str "repeat"]) ht3)))
          rw [hah, decide_eq_true lt, Bool.and_true, ← w_in_sr kb] at hq
          exact hq
        · rw [decide_eq_false lt]
          refine iteF ?_
          have hq := q _ (s1.trans s2)
          rw [hah, decide_eq_false lt, Bool.and_false] at hq
          exact hq
    | rn kb n x =>
      obtain ⟨k0, hya', ey⟩ := adr_rn hya
      obtain ⟨m0, hyb', ey2⟩ := adr_rn hyb
      rw [ahead_rn k0 ey] at hah
      obtain ⟨c, z, rfl, hys, hx⟩ := rn_inv hu
      by_cases km : k = m
      · subst km
        simp only [ne_eq, not_true_eq_false, if_false] at hah
        rw [decide_eq_true rfl]
        refine iteF ?_
        refine ⟨_, rfl, _, _, _, _, rfl, rfl, same_sqT s2 hys, rfl, (by show 2 ≤ sizeLine; decide), fun t3 ht3 => ?_⟩
        refine ⟨t3, _, rfl, .inr (SqT.of upd_same), rfl, rfl, _, rfl, ?_⟩
        have s3 : Same H2 (upd H2 t3 (.tup [.str "seq", .str "par"])) := same_new ht3
        show if inV (.str (kwR kb)) [.str "seq", .str "par"] = true then _ else _
        rw [w_in_parts_no]
        refine iteF ?_
        generalize (upd H2 t3 (.tup [.str "seq", .str "par"])) = H3 at s3 ⊢
        have s23 := s2.trans s3
        refine ⟨_, rfl, _, _, _, _, rfl, rfl, same_sqT s23 hys, rfl, ?_⟩
        exact ⟨_, _, _, _, rfl, s1.trans s23, dp_same s23 hx, hya', hyb', hah⟩
      · simp only [ne_eq, km, not_false_eq_true, if_true] at hah
        rw [decide_eq_false km]
        refine iteT ?_
        refine ⟨_, rfl, _, rfl, _, _, rfl, rfl, _, rfl, ?_⟩
        by_cases lt : k < m
        · rw [decide_eq_true lt]
          refine iteT ?_
          refine ⟨_, rfl, _, _, _, _, rfl, rfl, same_sqT s2 hys, rfl, (by show 2 ≤ sizeLine; decide), fun t3 ht3 => ?_⟩
          refine ⟨t3, _, rfl, .inr (SqT.of upd_same), rfl, rfl, ?_⟩
          have hq := q _ (s1.trans (s2.trans (same_new (o := .tup [.str "seq", .str "repeat"]) ht3)))
          rw [hah, decide_eq_true lt, Bool.and_true, ← w_in_sr2 kb] at hq
          exact hq
        · rw [decide_eq_false lt]
          refine iteF ?_
          have hq := q _ (s1.trans s2)
          rw [hah, decide_eq_false lt, Bool.and_false] at hq
          exact hq
  · rintro i σ H' hi hi2 e ⟨u, y, y3, y4, rfl, s1, hu, hya, hyb, hah⟩
    rw [List.length_map] at hi hi2 e
    rw [List.length_map] at e
    have hq := q _ s1
    rw [hah, ahead_nil hya hyb (by rcases e with e | e <;> (subst e; simp))] at hq
    exact hq
end

/-! block WEarl: _law_earlier: for each step those that come ahead of it (behind bWAddr; with Dv) -/
def befA (j : J) (a : List Int) : List (List Int) := j.adr.filter fun o => j.sys.ahead o a
structure Earl (P : Program) (w : World) (K : PySem.W.Frag) (ne : Addr → Prop) (H : Hp) (ea : Addr) (j : J) (rs : List DRow) : Prop where
  dict : Rd H ea (DtO P w ea rs)
  keys : KeysAt K H rs
  names : rs.map (·.1) = j.adr
  vals : ∀ r ∈ rs, ∃ (l : Addr) (ws : List V), r.2.2 = .ref l ∧ ne l ∧ H l = some (.lst ws) ∧ DpAll K H ws (adDs (befA j r.1))
theorem Earl.same {P : Program} {w : World} {K : PySem.W.Frag} {ne : Addr → Prop} {H H' : Hp} {ea : Addr} {j : J} {rs : List DRow} (E : Earl P w K ne H ea j rs) (s : Same H H') : Earl P w K ne H' ea j rs := by
  refine ⟨rd_same s E.dict, E.keys.keep fun a xs h => same_sqT s h, E.names, fun r hr => ?_⟩
  obtain ⟨l, ws, h1, h2, h3, h4⟩ := E.vals r hr
  exact ⟨l, ws, h1, h2, s _ _ h3, dpAll_same s h4⟩
def spEarl (P : Program) (w : World) (K : PySem.W.Frag) : Sp := fun vs H Q _ => ∃ (v : V) (j : J), vs = [v] ∧ Dp K H v j.toD ∧ j.deep ≤ 8 ∧ j.stb ∧ j.steps ≤ 40 ∧ j.rounded ∧
  ∀ (H' : Hp) (ea : Addr) (rs : List DRow), Same H H' → H' ea = some (DtO P w ea rs) → H ea = none → Earl P w K (fun l => H l = none) H' ea j rs → Q (.ref ea) H'
theorem paired_imp {α β : Type} {R S : α → β → Prop} (h : ∀ a b, R a b → S a b) : ∀ {xs : List α} {ys : List β}, Paired R xs ys → Paired S xs ys
  | _, _, .nil => .nil
  | _, _, .cons h1 t => .cons (h _ _ h1) (paired_imp h t)
theorem paired_app {α β : Type} {R : α → β → Prop} : ∀ {xs xs' : List α} {ys ys' : List β}, Paired R xs ys → Paired R xs' ys' → Paired R (xs ++ xs') (ys ++ ys')
  | _, _, _, _, .nil, h => h
  | _, _, _, _, .cons h1 t, h => .cons h1 (paired_app t h)
section
variable {P : Program} {w : World} {K : PySem.W.Frag} {mg : Str → Option Value} {base : Heap}
theorem ok_earl (T : Txt K mg) : FnOk P w K mg base CX0 9 T.f__law_earlier T.d__law_earlier ["_law_job"] (spEarl P w K) := by
  have g__law_addresses : FnOk P w K mg base CX0 8 T.f__law_addresses T.d__law_addresses ["_law_job"] (spAdr K 8) := ok_wadr T 8 (by decide)
  have g__law_precedes := ok_wprec (P := P) (w := w) (base := base) T
  refine T.F__law_earlier.ok sc__law_earlier (fun vs H Q E h => ?_) (fun cdv A outer s H vs Q E hr h => ?_)
  · obtain ⟨v, j, rfl, _⟩ := h
    rfl
  obtain ⟨v, j, rfl, hd, h8, hstb, h40, hrd, q⟩ := h
  refine ⟨_, (pss_cons (ps_set (i := 1) sc__law_earlier.nd rfl (Or.inr rfl) (pe_call g__law_addresses (hr.mono (by omega)) rfl T.m__law_addresses T.F__law_addresses.kp T.b__law_addresses .nil pass0 (pa_cons (pv 0) pa_nil)))
      (pss_one (ps_ret (pe_callTy (r := rDictPs K P w) (cr_dictPs rfl (room66 hr)) (by rfl) T.n_dict (by decide +kernel) (pa_cons (pe_lc (own := [("_law_one", 2)]) (g := (gName 2)) (by rfl) sc__law_earlier.nd (pi_list (pv 1)) (blkOk_by (N := N__law_earlier) (sc := (defScope s__law_earlier)) (by decide +kernel)) (fun _ _ _ _ _ => (pg_name (i := 2) sc__law_earlier.nd rfl (Or.inr rfl))) (fun _ _ _ _ _ => pts_nil) (fun _ _ _ _ _ => (pe_tup (pa_cons (pv 2) (pa_cons (pe_lc (own := [("_law_other", 3)]) (g := (gName 3)) (by rfl) sc__law_earlier.nd (pi_listK K rfl (pv 1)) (blkOk_by (N := N__law_earlier) (sc := (relS _ (defScope s__law_earlier))) (by decide +kernel)) (fun _ _ _ _ _ => (pg_name (i := 3) sc__law_earlier.nd rfl (Or.inl rfl))) (fun _ _ _ _ _ => (pts_one (pt_val (pe_call g__law_precedes (hr.mono (by omega)) rfl T.m__law_precedes T.F__law_precedes.kp T.b__law_precedes .nil pass0 (pa_cons (pv 0) (pa_cons (pv 3) (pa_cons (pv 2) pa_nil))))))) (fun _ _ _ _ _ => (pv 3))) pa_nil))))) pa_nil))))), ?_⟩
  have alen := J.adr_len j hstb
  refine ⟨_, rfl, v, j, rfl, hd, h8, hstb, by omega, hrd, fun H1 l0 as0 s1 n0 e0 d0 => ?_⟩
  have lenA : as0.length = j.adr.length := by rw [dpAll_length d0, adDs, List.length_map]
  refine ⟨_, rfl, l0, rfl, ⟨_, SqL.of e0⟩, fun D hD => ?_⟩
  refine lc_list (K := K) (a := l0) (xs := as0) (fun i G => Same H1 G ∧ ∃ (ts : List Addr) (rs : List DRow), G D = some (.lst (ts.map V.ref)) ∧ ts.length = i ∧ Paired (PairT K G) ts rs ∧ rs.map (·.1) = j.adr.take i ∧ KeysAt K G rs ∧
    ∀ r ∈ rs, ∃ (l : Addr) (ws : List V), r.2.2 = .ref l ∧ (H1 l = none ∧ l ≠ D) ∧ G l = some (.lst ws) ∧ DpAll K G ws (adDs (befA j r.1))) ?_ ?_ ?_ ?_
  · exact ⟨same_new hD, [], [], upd_same, rfl, .nil, by simp, KeysAt.nil, fun r h => nomatch h⟩
  · rintro i G _ ⟨sG, _⟩
    exact SqL.of (sG _ _ e0)
  · rintro i x G hi ⟨sG, ts, rs, eD, lt, hp, en, hk, hv⟩
    obtain ⟨tb, b, eb, rfl, htb⟩ := ad_at (dpAll_same sG d0) hi
    have hb := List.mem_of_getElem? eb
    have il := (List.getElem?_eq_some_iff.mp eb).1
    refine ⟨rfl, ?_⟩
    unfold tYes
    refine iteT ?_
    refine ⟨_, rfl, ?_⟩
    refine ⟨_, rfl, l0, rfl, ⟨_, SqL.of (sG _ _ e0)⟩, fun D2 hD2 => ?_⟩
    have nD2 : D2 ≠ D := fun z => by rw [z, eD] at hD2; cases hD2
    refine lc_list (K := K) (a := l0) (xs := as0) (fun n G2 => Same G G2 ∧ ∃ zs, G2 D2 = some (.lst zs) ∧ DpAll K G2 zs (adDs ((j.adr.take n).filter fun o => j.sys.ahead o b))) ?_ ?_ ?_ ?_
    · exact ⟨same_new hD2, [], upd_same, by simpa [adDs] using .nil⟩
    · rintro n G2 _ ⟨s2, _⟩
      exact SqL.of ((sG.trans s2) _ _ e0)
    · rintro n y G2 hn ⟨s2, zs, eZ, hzs⟩
      have sG2 := sG.trans s2
      obtain ⟨tc, c, ec, rfl, htc⟩ := ad_at (dpAll_same sG2 d0) hn
      have hc := List.mem_of_getElem? ec
      have nl := (List.getElem?_eq_some_iff.mp ec).1
      have etk : j.adr.take (n + 1) = j.adr.take n ++ [c] := by rw [List.take_add_one, ec]; rfl
      have zl : zs.length ≤ 400 := by
        rw [dpAll_length hzs, adDs, List.length_map]
        refine Nat.le_trans (List.length_filter_le _ _) ?_
        rw [List.length_take]
        omega
      refine ⟨rfl, ?_⟩
      refine ⟨_, rfl, _, rfl, _, rfl, v, j, tc, tb, c, b, rfl, dp_same (s1.trans sG2) hd, htc, same_sqT s2 htb, hc, hb, by omega, fun G3 s3 => ?_⟩
      refine ⟨_, rfl, ?_⟩
      have eZ3 := s3 _ _ eZ
      cases ea : j.sys.ahead c b with
      | true =>
        refine iteT ?_
        refine ⟨_, rfl, zs, eZ3, small1000 (by omega), ?_, zs ++ [.ref tc], upd_same, ?_⟩
        · intro a o ha
          rw [upd_ne (ne_of_none ha hD2)]
          exact s3 _ _ (s2 _ _ ha)
        · rw [etk, List.filter_append, List.filter_cons_of_pos (p := fun o => j.sys.ahead o b) ea, List.filter_nil, adDs, List.map_append]
          have k7 : ∀ a xs, SqT K G3 a xs → SqT K (upd G3 D2 (.lst (zs ++ [.ref tc]))) a xs := fun a xs h => (sx_upd (p := D2)).sqT eZ3 h
          exact dpAll_append (dpAll_keep k7 (noLs_ad _) (dpAll_same s3 hzs)) (.cons (dp_keep k7 (noL_ad _) (.tup (same_sqT s3 htc) (ints_dp' c))) .nil)
      | false =>
        refine iteF ?_
        refine ⟨s2.trans s3, zs, eZ3, ?_⟩
        rw [etk, List.filter_append, List.filter_cons_of_neg (p := fun o => j.sys.ahead o b) (by show ¬ j.sys.ahead c b = true; rw [ea]; exact Bool.false_ne_true), List.filter_nil, List.append_nil]
        exact dpAll_same s3 hzs
    · rintro G2 ⟨s2, zs, eZ, hzs⟩
      rw [lenA, List.take_length] at hzs
      refine ⟨(by show 2 ≤ sizeLine; decide), fun tp htp => ?_⟩
      have s3 : Same G2 (upd G2 tp (.tup [.ref tb, .ref D2])) := same_new htp
      have q3 : SqT K (upd G2 tp (.tup [.ref tb, .ref D2])) tp [.ref tb, .ref D2] := SqT.of upd_same
      generalize (upd G2 tp (.tup [.ref tb, .ref D2])) = G3 at s3 q3 ⊢
      have s23 := s2.trans s3
      have eD3 := s23 _ _ eD
      have etk : j.adr.take (i + 1) = j.adr.take i ++ [b] := by rw [List.take_add_one, eb]; rfl
      have k7 : ∀ a xs, SqT K G3 a xs → SqT K (upd G3 D (.lst (ts.map V.ref ++ [.ref tp]))) a xs := fun a xs h => (sx_upd (p := D)).sqT eD3 h
      refine ⟨_, eD3, small1000 (by rw [List.length_map]; omega), ?_, ts ++ [tp], rs ++ [(b, tb, .ref D2)], by rw [upd_same, List.map_append]; rfl, by rw [List.length_append, List.length_singleton, lt], ?_, by rw [List.map_append, en, etk]; rfl, ?_, ?_⟩
      · intro a o ha
        rw [upd_ne (ne_of_none ha hD)]
        exact (sG.trans s23) _ _ ha
      · exact paired_app (paired_imp (fun t r h => k7 _ _ (same_sqT s23 h)) hp) (.cons (k7 _ _ q3) .nil)
      · intro r hr
        rcases List.mem_append.mp hr with hr | hr
        · exact k7 _ _ (same_sqT s23 (hk r hr))
        · rw [List.mem_singleton.mp hr]
          exact k7 _ _ (same_sqT s23 htb)
      · intro r hr
        rcases List.mem_append.mp hr with hr | hr
        · obtain ⟨l, ws, h1, h2, h3, h4⟩ := hv r hr
          exact ⟨l, ws, h1, h2, by rw [upd_ne h2.2]; exact s23 _ _ h3, dpAll_keep k7 (noLs_ad _) (dpAll_same s23 h4)⟩
        · rw [List.mem_singleton.mp hr]
          exact ⟨D2, zs, rfl, ⟨Same.free' sG hD2, nD2⟩, by rw [upd_ne nD2]; exact s3 _ _ eZ, dpAll_keep k7 (noLs_ad _) (dpAll_same s3 hzs)⟩
  · rintro G ⟨sG, ts, rs, eD, lt, hp, en, hk, hv⟩
    rw [lenA, List.take_length] at en
    refine ⟨D, ts, rs, rfl, SqL.of eD, hp, hk, ?_, fun ea hea => ?_⟩
    · rw [en, ← J.sys_adr j]
      exact J.sys_nodup j
    · have se : Same G (upd G ea (DtO P w ea rs)) := same_new hea
      have E0 : Earl P w K (fun l => H l = none) G ea j rs → True := fun _ => trivial
      refine q _ ea rs (s1.trans (sG.trans se)) upd_same (Same.free' (s1.trans sG) hea) ⟨.inl upd_same, hk.keep fun a xs h => same_sqT se h, en, fun r hr => ?_⟩
      obtain ⟨l, ws, h1, h2, h3, h4⟩ := hv r hr
      exact ⟨l, ws, h1, Same.free' s1 h2.1, se _ _ h3, dpAll_same se h4⟩
end

/-! block WReady: _law_is_ready (behind bWEarl) -/
def rdy (j : J) (done : List (List Int)) (one : List Int) : Bool := !done.contains one && (befA j one).all fun o => done.contains o
theorem look_row {rs : List DRow} {k : List Int} (h : k ∈ rs.map (·.1)) : ∃ r ∈ rs, r.1 = k ∧ look rs k = some r.2.2 := by
  obtain ⟨r, hr, e⟩ := List.mem_map.mp h
  have hs : (rs.find? fun r => decide (r.1 = k)).isSome = true := by
    rw [List.find?_isSome]
    exact ⟨r, hr, decide_eq_true e⟩
  obtain ⟨r', hr'⟩ := Option.isSome_iff_exists.mp hs
  refine ⟨r', List.mem_of_find?_eq_some hr', of_decide_eq_true (List.find?_some (p := fun r : DRow => decide (r.1 = k)) hr'), ?_⟩
  unfold look
  rw [hr']
  rfl
theorem shaped_adW (S : List (List Int)) : SeqAt.shaped (.list (adDs S)) = true := by
  have h1 := ads_lay S
  have h2 : PyData.depthAll (adDs S) ≤ 2 := by
    clear h1
    induction S with
    | nil => simp [adDs, PyData.depthAll]
    | cons a S ih =>
      have := ad_depth a
      simp only [adDs, List.map_cons, PyData.depthAll] at ih ⊢
      omega
  unfold SeqAt.shaped
  simp only [PyData.canLay0, PyData.depth, h1, Bool.true_and, decide_eq_true_eq]
  exact decide_eq_true (by omega)
theorem eqv_nonW {as : List (List Int)} : PyData.eqv (.list (adDs as)) (.list []) = decide (as = []) := by
  cases as <;> simp [adDs, PyData.eqv, PyData.eqvAll]
def spReady (P : Program) (w : World) (K : PySem.W.Frag) : Sp := fun vs H Q _ => ∃ (ea dl t : Addr) (j : J) (rs : List DRow) (ne : Addr → Prop) (ws : List V) (done : List (List Int)) (one : List Int), vs = [.ref ea, .ref dl, .ref t] ∧ Earl P w K ne H ea j rs ∧ H dl = some (.lst ws) ∧ DpAll K H ws (adDs done) ∧
  SqT K H t (one.map V.int) ∧ one ∈ j.adr ∧ j.adr.length ≤ 400 ∧ ∀ H', Same H H' → Q (.bl (rdy j done one)) H'
section
variable {P : Program} {w : World} {K : PySem.W.Frag} {mg : Str → Option Value} {base : Heap}
theorem ok_ready (T : Txt K mg) : FnOk P w K mg base CX0 1 T.f__law_is_ready T.d__law_is_ready ["_law_earlier_here", "_law_done", "_law_one"] (spReady P w K) := by
  refine T.F__law_is_ready.ok sc__law_is_ready (fun vs H Q E h => ?_) (fun cdv A outer s H vs Q E hr h => ?_)
  · obtain ⟨ea, dl, t, j, rs, ne, ws, done, one, rfl, _⟩ := h
    rfl
  obtain ⟨ea, dl, t, j, rs, ne, ws, done, one, rfl, El, hdl, hws, ht, hone, h400, q⟩ := h
  have hu := hu_of hr
  refine ⟨_, (pss_one (ps_ret (pe_and (pe_cmpR (r := rNotLD K) (op_notInLD (room66 hr)) (pv 2) (pv 1) (by rfl)) (pe_one (pe_cmpR (r := rEqD K) (op_eqD hr.units) (pe_lc (own := [("_law_other", 3)]) (g := (gName 3)) (by rfl) sc__law_is_ready.nd (pi_list (pe_dtGet hu (pv 0) (pv 2) (fun _ _ => rfl))) (blkOk_by (N := N__law_is_ready) (sc := (defScope s__law_is_ready)) (by decide +kernel)) (fun _ _ _ _ _ => (pg_name (i := 3) sc__law_is_ready.nd rfl (Or.inl rfl))) (fun _ _ _ _ _ => (pts_one (pt_cmpR (r := rNotLD K) (op_notInLD (room66 hr)) (pv 3) (pv 1) (by rfl)))) (fun _ _ _ _ _ => (pv 3))) (pe_lst pa_nil) (nomark _)))))), ?_⟩
  have dl0 : Dp K H (.ref dl) (.list (adDs done)) := .lst (SqL.of hdl) hws
  have bl : (befA j one).length ≤ 400 := Nat.le_trans (List.length_filter_le _ _) h400
  refine ⟨_, rfl, _, rfl, adDs done, adD one, dl0, .tup ht (ints_dp' one), ads_lay done, ad_lay one, Nat.le_trans (ad_depth one) (by decide), _, rfl, ?_⟩
  rw [any_ad]
  unfold rdy at q
  cases e0 : done.contains one with
  | true =>
    refine iteF ?_
    rw [e0] at q
    exact q _ (Same.refl _)
  | false =>
  refine iteT ?_
  rw [e0] at q
  simp only [Bool.not_false, Bool.true_and] at q
  obtain ⟨r, hr2, rfl, el⟩ := look_row (rs := rs) (k := one) (by rw [El.names]; exact hone)
  obtain ⟨l, us, h1, h2, h3, h4⟩ := El.vals r hr2
  have ul : us.length = (befA j r.1).length := by rw [dpAll_length h4, adDs, List.length_map]
  rw [h1] at el
  refine ⟨_, rfl, _, rfl, .ref l, ⟨ea, t, rs, r.1, rfl, rfl, El.dict, El.keys, ht, el.symm⟩, l, rfl, ⟨us, SqL.of h3⟩, fun D hD => ?_⟩
  refine lc_list (K := K) (a := l) (xs := us) (fun n G => Same H G ∧ ∃ zs, G D = some (.lst zs) ∧ DpAll K G zs (adDs (((befA j r.1).take n).filter fun o => !done.contains o))) ?_ ?_ ?_ ?_
  · exact ⟨same_new hD, [], upd_same, by simpa [adDs] using .nil⟩
  · rintro n G _ ⟨sG, _⟩
    exact SqL.of (sG _ _ h3)
  · rintro n y G hn ⟨sG, zs, eZ, hzs⟩
    obtain ⟨tc, c, ec, rfl, htc⟩ := ad_at (dpAll_same sG h4) hn
    have nl := (List.getElem?_eq_some_iff.mp ec).1
    have etk : (befA j r.1).take (n + 1) = (befA j r.1).take n ++ [c] := by rw [List.take_add_one, ec]; rfl
    have zl : zs.length ≤ 400 := by
      rw [dpAll_length hzs, adDs, List.length_map]
      refine Nat.le_trans (List.length_filter_le _ _) ?_
      rw [List.length_take]
      omega
    refine ⟨rfl, ?_⟩
    refine ⟨_, rfl, _, rfl, adDs done, adD c, dp_same sG dl0, .tup htc (ints_dp' c), ads_lay done, ad_lay c, Nat.le_trans (ad_depth c) (by decide), _, rfl, ?_⟩
    rw [any_ad]
    cases ea' : done.contains c with
    | false =>
      refine iteT ?_
      refine ⟨_, rfl, zs, eZ, small1000 (by omega), ?_, zs ++ [.ref tc], upd_same, ?_⟩
      · intro a o ha
        rw [upd_ne (ne_of_none ha hD)]
        exact sG _ _ ha
      · rw [etk, List.filter_append, List.filter_cons_of_pos (p := fun o => !done.contains o) (by show (!done.contains c) = true; rw [ea']; rfl), List.filter_nil, adDs, List.map_append]
        have k7 : ∀ a xs, SqT K G a xs → SqT K (upd G D (.lst (zs ++ [.ref tc]))) a xs := fun a xs h => (sx_upd (p := D)).sqT eZ h
        exact dpAll_append (dpAll_keep k7 (noLs_ad _) hzs) (.cons (dp_keep k7 (noL_ad _) (.tup htc (ints_dp' c))) .nil)
    | true =>
      refine iteF ?_
      refine ⟨sG, zs, eZ, ?_⟩
      rw [etk, List.filter_append, List.filter_cons_of_neg (p := fun o => !done.contains o) (by show ¬ (!done.contains c) = true; rw [ea']; exact Bool.false_ne_true), List.filter_nil, List.append_nil]
      exact hzs
  · rintro G ⟨sG, zs, eZ, hzs⟩
    rw [ul, List.take_length] at hzs
    refine ⟨(by show 0 ≤ sizeLine; decide), fun z hz => ?_⟩
    have uz : Same G (upd G z (.lst [])) := same_new hz
    have ez : upd G z (.lst []) z = some (.lst []) := upd_same
    generalize (upd G z (.lst [])) = G1 at uz ez ⊢
    refine ⟨_, _, .lst (SqL.of (uz _ _ eZ)) (dpAll_same uz hzs), .lst (SqL.of ez) .nil, shaped_adW _, shaped_adW [], ?_⟩
    rw [eqv_nonW]
    have e : decide ((befA j r.1).filter (fun o => !done.contains o) = []) = (befA j r.1).all fun o => done.contains o := by
      rw [Bool.eq_iff_iff, decide_eq_true_eq, List.filter_eq_nil_iff, List.all_eq_true]
      simp
    rw [e]
    exact q _ (sG.trans uz)
end

/-! block WRun: _law_random_run, _law_random_state (behind bWReady) -/
def RunF (j : J) : List (List Int) → List (List Int) → Prop
  | _, [] => True
  | done, a :: as => (a ∈ j.adr ∧ rdy j done a = true) ∧ RunF j (done ++ [a]) as
theorem RunF.snoc {j : J} {a : List Int} : ∀ {as done : List (List Int)}, RunF j done as → a ∈ j.adr → rdy j (done ++ as) a = true → RunF j done (as ++ [a])
  | [], done, _, h1, h2 => ⟨⟨h1, by simpa using h2⟩, trivial⟩
  | b :: as, done, h, h1, h2 => ⟨h.1, RunF.snoc h.2 h1 (by simpa using h2)⟩
theorem RunF.mem {j : J} : ∀ {as done : List (List Int)}, RunF j done as → ∀ a ∈ as, a ∈ j.adr
  | [], _, _, _, h => by cases h
  | b :: as, done, h, a, ha => by
    rcases List.mem_cons.mp ha with rfl | ha
    · exact h.1.1
    · exact RunF.mem h.2 a ha
theorem Earl.sx {P : Program} {w : World} {K : PySem.W.Frag} {ne : Addr → Prop} {H G : Hp} {p ea : Addr} {j : J} {rs : List DRow} {lp : List V} (E : Earl P w K ne H ea j rs) (hea : H ea = some (DtO P w ea rs)) (hlp : H p = some (.lst lp)) (hne : ∀ l, ne l → l ≠ p) (s : Sx p H G) :
    Earl P w K ne G ea j rs ∧ G ea = some (DtO P w ea rs) := by
  have nep : ea ≠ p := fun z => by rw [z, hlp] at hea; exact dtO_lst (Option.some.inj hea).symm
  have k := fun b xs (h : SqT K H b xs) => s.sqT hlp h
  have e := s _ _ nep hea
  refine ⟨⟨.inl e, E.keys.keep k, E.names, fun r hr => ?_⟩, e⟩
  obtain ⟨l, ws, h1, h2, h3, h4⟩ := E.vals r hr
  exact ⟨l, ws, h1, h2, s _ _ (hne l h2) h3, dpAll_keep k (noLs_ad _) h4⟩
/-- the same, the dict locked -/
theorem Earl.lock {P : Program} {w : World} {K : PySem.W.Frag} {ne : Addr → Prop} {H : Hp} {ea : Addr} {j : J} {rs : List DRow} (E : Earl P w K ne H ea j rs) (hea : H ea = some (DtO P w ea rs)) (od : Obj) : Earl P w K ne (upd H ea (.frz od (DtO P w ea rs))) ea j rs := by
  have k : ∀ b xs, SqT K H b xs → SqT K (upd H ea (.frz od (DtO P w ea rs))) b xs := fun b xs h => dt_sqT hea h
  refine ⟨.inr ⟨od, upd_same⟩, E.keys.keep k, E.names, fun r hr => ?_⟩
  obtain ⟨l, ws, h1, h2, h3, h4⟩ := E.vals r hr
  exact ⟨l, ws, h1, h2, by rw [upd_ne (fun z => by rw [z, hea] at h3; exact dtO_lst (Option.some.inj h3))]; exact h3, dpAll_keep k (noLs_ad _) h4⟩
theorem fzW_sqT {P : Program} {w : World} {K : PySem.W.Frag} {H : Hp} {p a c : Addr} {rs : List DRow} {od : Obj} {z : HO} {xs : List V} (e : H p = some (.frz od (DtO P w c rs))) (h : SqT K H a xs) : SqT K (upd H p z) a xs := by
  rcases h with (h | ⟨o, h⟩) | h
  · refine .inl (.inl ?_)
    rw [upd_ne (fun q => by rw [q, e] at h; cases h)]
    exact h
  · refine .inl (.inr ⟨o, ?_⟩)
    rw [upd_ne (fun q => by
      rw [q, e] at h
      injection h with h
      injection h with h1 h2
      exact dtO_tup h2)]
    exact h
  · exact .inr h
/-- an address and its step's value -/
theorem sxW_new {p D : Addr} {H G : Hp} {o : HO} (hD : H D = none) (s : Sx p H G) : Sx p H (upd G D o) := by
  intro b u nb hb
  rw [upd_ne (fun z => by rw [z, hD] at hb; cases hb)]
  exact s _ _ nb hb
theorem Pot.updW {H : Hp} {p D : Addr} {n : Nat} {o : HO} (h : Pot H p n) (ne : D ≠ p) : Pot (upd H D o) p n := by
  obtain ⟨a, b, c, h1, h2⟩ := h
  exact ⟨a, b, c, by rw [upd_ne ne.symm]; exact h1, h2⟩
def spRun (P : Program) (w : World) (K : PySem.W.Frag) : Sp := fun vs H Q _ => ∃ (p ea dt : Addr) (m mo : Nat) (j : J) (rs : List DRow) (ne : Addr → Prop) (done : List (List Int)), vs = [.ref p, .ref ea, .ref dt, .int (mo : Int)] ∧ Pot H p m ∧ m + mo ≤ 1099511627776 ∧ mo ≤ 400 ∧
  Earl P w K ne H ea j rs ∧ H ea = some (DtO P w ea rs) ∧ (∀ l, ne l → l ≠ p) ∧ Dp K H (.ref dt) (.tuple (adDs done)) ∧ j.adr.length ≤ 400 ∧ done.length ≤ 400 ∧
  ∀ (H' : Hp) (t : Addr) (xs : List V) (as : List (List Int)), Sx p H H' → Pot H' p (m + mo) → SqT K H' t xs → DpAll K H' xs (adDs as) → RunF j done as → as.length ≤ mo → Q (.ref t) H'
section
variable {P : Program} {w : World} {K : PySem.W.Frag} {mg : Str → Option Value} {base : Heap}
theorem ok_run (T : Txt K mg) : FnOk P w K mg base CX0 2 T.f__law_random_run T.d__law_random_run ["_law_source_here", "_law_earlier_here", "_law_done", "_law_most"] (spRun P w K) := by
  have g__law_draw : FnOk P w K mg base CX0 1 T.f__law_draw T.d__law_draw ["_law_source_here", "_law_many"] spTake := ok_take T
  have g__law_is_ready := ok_ready (P := P) (w := w) (base := base) T
  refine T.F__law_random_run.ok sc__law_random_run (fun vs H Q E h => ?_) (fun cdv A outer s H vs Q E hr h => ?_)
  · obtain ⟨p, ea, dt, m, mo, j, rs, ne, done, rfl, _⟩ := h
    rfl
  obtain ⟨p, ea, dt, m, mo, j, rs, ne, done, rfl, hp, hm, hmo, El, hea, hne, hdt, h400, hd400, q⟩ := h
  have hu := hu_of hr
  refine ⟨_, (pss_cons (ps_asg (pe_tup (pa_cons (pe_callTy (r := rListS K) call_listS (by rfl) T.n_list (by decide +kernel) (pa_cons (pv 2) pa_nil)) (pa_cons (pe_lst pa_nil) pa_nil))) (pg_tup (by rfl) (pgs_cons (pg_name (i := 2) sc__law_random_run.nd rfl (Or.inr rfl)) (pgs_cons (pg_name (i := 4) sc__law_random_run.nd rfl (Or.inl rfl)) pgs_nil))))
      (pss_cons (ps_for PassesOwn.never rfl (pi_range1 rfl T.n_range (pa_cons (pv 3) pa_nil)) (pg_name (i := 5) sc__law_random_run.nd rfl (Or.inl rfl))
        (pss_cons (ps_lock (ps_setLc (i := 6) (own := [("_law_one", 7)]) (g := (gName 7)) (by rfl) sc__law_random_run.nd rfl rfl (sw_true rfl rfl rfl (by decide +kernel)) (pi_dk (pv 1)) (blkOk_by (N := N__law_random_run) (sc := (defScope s__law_random_run)) (by decide +kernel)) (fun _ _ _ _ _ => (pg_name (i := 7) sc__law_random_run.nd rfl (Or.inl rfl))) (fun _ _ _ _ _ => (pts_one (pt_val (pe_call g__law_is_ready (hr.mono (by omega)) rfl T.m__law_is_ready T.F__law_is_ready.kp T.b__law_is_ready .nil pass0 (pa_cons (pv 1) (pa_cons (pv 2) (pa_cons (pv 7) pa_nil))))))) (fun _ _ _ _ _ => (pv 7))))
        (pss_one (ps_if (pt_cmpR (r := rNeD K) (op_neD hr.units) (pv 6) (pe_lst pa_nil) (nomark _)) (pss_cons (ps_expr (pe_bm PySem.F.plainAttrs_list PySem.F.slot_list_append PySem.F.type_list_append mt_append (pv 4) (pa_cons (pe_ix (r := rIxL K) ix_list (pv 6) (pe_call g__law_draw (hr.mono (by omega)) rfl T.m__law_draw T.F__law_draw.kp T.b__law_draw .nil pass0 (pa_cons (pv 0) (pa_cons (pe_callB (r := rLenS K) call_lenS (by rfl) T.n_len (by decide +kernel) (pa_cons (pv 6) pa_nil)) pa_nil))) (fun _ _ => rfl)) pa_nil)))
          (pss_one (ps_expr (pe_bm PySem.F.plainAttrs_list PySem.F.slot_list_append PySem.F.type_list_append mt_append (pv 2) (pa_cons (pe_ix (r := rIxL K) ix_list (pv 4) (pe_un un_neg pe_int) (fun _ _ => rfl)) pa_nil))))) pss_nil))))
      (pss_one (ps_ret (pe_callTy (r := rTupS K) call_tupS (by rfl) T.n_tuple (by decide +kernel) (pa_cons (pv 4) pa_nil)))))), ?_⟩
  obtain ⟨td, us, etd, hus, hall⟩ := dp_tup_inv hdt
  cases etd
  have ul : us.length = done.length := by rw [dpAll_length hall, adDs, List.length_map]
  obtain ⟨lp, hlp⟩ := hp.lst
  refine ⟨_, rfl, dt, us, rfl, .inr hus, fun dl hdl => ?_⟩
  have u1 : Same H (upd H dl (.lst us)) := same_new hdl
  have e1 : upd H dl (.lst us) dl = some (.lst us) := upd_same
  have ndl : dl ≠ p := fun z => by rw [z, hlp] at hdl; cases hdl
  generalize (upd H dl (.lst us)) = H1 at u1 e1 ⊢
  refine ⟨(by show 0 ≤ sizeLine; decide), fun fl hfl => ?_⟩
  have nfl : fl ≠ p := fun z => by rw [z, u1 _ _ hlp] at hfl; cases hfl
  have nfd : fl ≠ dl := fun z => by rw [z, e1] at hfl; cases hfl
  have u2 : Same H1 (upd H1 fl (.lst [])) := same_new hfl
  have e2 : upd H1 fl (.lst []) fl = some (.lst []) := upd_same
  generalize (upd H1 fl (.lst [])) = H2 at u2 e2 ⊢
  refine ⟨(by show 2 ≤ sizeLine; decide), fun tt htt => ?_⟩
  have u3 : Same H2 (upd H2 tt (.tup [.ref dl, .ref fl])) := same_new htt
  have q3 : SqT K (upd H2 tt (.tup [.ref dl, .ref fl])) tt [.ref dl, .ref fl] := SqT.of upd_same
  generalize (upd H2 tt (.tup [.ref dl, .ref fl])) = H3 at u3 q3 ⊢
  refine ⟨tt, _, rfl, q3, rfl, _, _, rfl, _, _, rfl, rfl, ?_⟩
  have u13 := u1.trans (u2.trans u3)
  have ed3 := (u2.trans u3) _ _ e1
  have ef3 := u3 _ _ e2
  refine ⟨_, rfl, (mo : Int), rfl, by omega, by omega, ?_⟩
  refine for_range (lo := 0) (n := ((mo : Int)).toNat) (fun i σ G => ∃ (y5 y6 y7 : Option V) (as : List (List Int)) (fs : List V), σ = [some (.ref p), some (.ref ea), some (.ref dl), some (.int (mo : Int)), some (.ref fl), y5, y6, y7] ∧ Sx p H G ∧ Pot G p (m + i) ∧
      G dl = some (.lst (us ++ fs)) ∧ G fl = some (.lst fs) ∧ DpAll K G (us ++ fs) (adDs (done ++ as)) ∧ DpAll K G fs (adDs as) ∧ RunF j done as ∧ as.length ≤ i)
    ⟨none, none, none, [], [], rfl, Same.sx u13, hp.same u13, by simpa using ed3, ef3, by simpa using dpAll_same u13 hall, .nil, trivial, by simp⟩ ?_ ?_
  · rintro i σ G hi ⟨y5, y6, y7, as, fs, rfl, sG, hpG, edG, efG, hdG, hfG, hrun, las⟩
    have hi' : i < mo := by omega
    obtain ⟨ElG, eaG⟩ := El.sx hea hlp hne sG
    obtain ⟨lG, hlG⟩ := hpG.lst
    have fsl : fs.length = as.length := by rw [dpAll_length hfG, adDs, List.length_map]
    -- the ready ones
    refine ⟨ea, DtO P w ea rs, eaG, trivial, fun od => ?_⟩
    have ElL := ElG.lock eaG od
    have eL : upd G ea (.frz od (DtO P w ea rs)) ea = some (.frz od (DtO P w ea rs)) := upd_same
    have ndea : dl ≠ ea := fun z => by rw [z, eaG] at edG; exact dtO_lst (Option.some.inj edG)
    have nfea : fl ≠ ea := fun z => by rw [z, eaG] at efG; exact dtO_lst (Option.some.inj efG)
    have kL : ∀ b xs, SqT K G b xs → SqT K (upd G ea (.frz od (DtO P w ea rs))) b xs := fun b xs h => dt_sqT eaG h
    have edL : upd G ea (.frz od (DtO P w ea rs)) dl = some (.lst (us ++ fs)) := by rw [upd_ne ndea]; exact edG
    have hdL := dpAll_keep kL (noLs_ad _) hdG
    have back : ∀ F : Hp, Same (upd G ea (.frz od (DtO P w ea rs))) F → Same G (upd F ea (DtO P w ea rs)) := by
      intro F sF a o ha
      by_cases e : a = ea
      · rw [e, upd_same]
        rw [e, eaG] at ha
        exact ha
      · rw [upd_ne e]
        exact sF _ _ (by rw [upd_ne e]; exact ha)
    have npea : p ≠ ea := fun z => by rw [z, eaG] at hlG; exact dtO_lst (Option.some.inj hlG)
    have hpL : upd G ea (.frz od (DtO P w ea rs)) p = some (.lst lG) := by rw [upd_ne npea]; exact hlG
    generalize upd G ea (.frz od (DtO P w ea rs)) = L at ElL eL kL edL hdL back hpL ⊢
    refine ⟨_, rfl, ea, od, rs, rfl, eL, fun C hC => ?_⟩
    refine lc_it walk_dk (fun n F => Same L F ∧ ∃ zs : List V, F C = some (.lst zs) ∧ DpAll K F zs (adDs ((j.adr.take n).filter fun a => rdy j (done ++ as) a))) ?_ ?_ ?_ ?_
    · exact ⟨same_new hC, [], upd_same, by simpa [adDs] using .nil⟩
    · rintro n F _ ⟨sF, _⟩
      exact sF _ _ eL
    · rintro n x F F' hn ⟨sF, zs, eC, hzs⟩ ⟨rfl, k, b, vv, hkv, rfl⟩
      have mk := List.mem_of_getElem? hkv
      have ek : j.adr[n]? = some k := by rw [← El.names, List.getElem?_map, hkv]; rfl
      have kl := (List.getElem?_eq_some_iff.mp ek).1
      have hk := List.mem_of_getElem? ek
      have hb := ElL.keys _ mk
      have etk : j.adr.take (n + 1) = j.adr.take n ++ [k] := by rw [List.take_add_one, ek]; rfl
      have zl : zs.length ≤ 400 := by
        rw [dpAll_length hzs, adDs, List.length_map]
        refine Nat.le_trans (List.length_filter_le _ _) ?_
        rw [List.length_take]
        omega
      refine ⟨rfl, ?_⟩
      refine ⟨_, rfl, _, rfl, _, rfl, ea, dl, b, j, rs, ne, us ++ fs, done ++ as, k, rfl, ElL.same sF, sF _ _ edL, dpAll_same sF hdL, same_sqT sF hb, hk, h400, fun F2 s2 => ?_⟩
      refine ⟨_, rfl, ?_⟩
      have eC2 := s2 _ _ eC
      cases er : rdy j (done ++ as) k with
      | true =>
        refine iteT ?_
        refine ⟨_, rfl, zs, eC2, small1000 (by omega), ?_, zs ++ [.ref b], upd_same, ?_⟩
        · intro c o hc
          rw [upd_ne (ne_of_none hc hC)]
          exact s2 _ _ (sF _ _ hc)
        · rw [etk, List.filter_append, List.filter_cons_of_pos (p := fun a => rdy j (done ++ as) a) er, List.filter_nil, adDs, List.map_append]
          have k7 : ∀ a xs, SqT K F2 a xs → SqT K (upd F2 C (.lst (zs ++ [.ref b]))) a xs := fun a xs h => (sx_upd (p := C)).sqT eC2 h
          exact dpAll_append (dpAll_keep k7 (noLs_ad _) (dpAll_same s2 hzs)) (.cons (dp_keep k7 (noL_ad _) (.tup (same_sqT (sF.trans s2) hb) (ints_dp' k))) .nil)
      | false =>
        refine iteF ?_
        refine ⟨sF.trans s2, zs, eC2, ?_⟩
        rw [etk, List.filter_append, List.filter_cons_of_neg (p := fun a => rdy j (done ++ as) a) (by show ¬ rdy j (done ++ as) k = true; rw [er]; exact Bool.false_ne_true), List.filter_nil, List.append_nil]
        exact dpAll_same s2 hzs
    · rintro F ⟨sF, zs, eC, hzs⟩
      have rl : rs.length = j.adr.length := by rw [← El.names, List.length_map]
      rw [rl, List.take_length] at hzs
      have eF := sF _ _ eL
      have nC : C ≠ ea := fun z => by rw [z, eL] at hC; cases hC
      have ncp : C ≠ p := fun z => by rw [z, hpL] at hC; cases hC
      refine ⟨eF, ?_⟩
      have sN := back F sF
      have kN : ∀ a xs, SqT K F a xs → SqT K (upd F ea (DtO P w ea rs)) a xs := fun a xs h => fzW_sqT eF h
      have eCN : upd F ea (DtO P w ea rs) C = some (.lst zs) := by rw [upd_ne nC]; exact eC
      have hzN := dpAll_keep kN (noLs_ad _) hzs
      generalize upd F ea (DtO P w ea rs) = N at sN eCN hzN ⊢
      clear eC hzs sF eF kN ElL eL kL edL hdL back hC
      have edN := sN _ _ edG
      have efN := sN _ _ efG
      have hpN := hpG.same sN
      have hlN := sN _ _ hlG
      have hdN := dpAll_same sN hdG
      have hfN := dpAll_same sN hfG
      refine ⟨_, rfl, (by show 0 ≤ sizeLine; decide), fun z hz => ?_⟩
      have uz : Same N (upd N z (.lst [])) := same_new hz
      have ez : upd N z (.lst []) z = some (.lst []) := upd_same
      generalize (upd N z (.lst [])) = N1 at uz ez ⊢
      refine ⟨_, _, .lst (SqL.of (uz _ _ eCN)) (dpAll_same uz hzN), .lst (SqL.of ez) .nil, shaped_adW _, shaped_adW [], ?_⟩
      rw [eqv_nonW]
      have s0 : Sx p H N1 := sG.trans (Same.sx (sN.trans uz))
      have eC1 := uz _ _ eCN
      have ed1 := uz _ _ edN
      have ef1 := uz _ _ efN
      have hp1 := hpN.same uz
      have hl1 := uz _ _ hlN
      have hz1 := dpAll_same uz hzN
      have hd1 := dpAll_same uz hdN
      have hf1 := dpAll_same uz hfN
      clear eCN edN efN hpN hlN hzN hdN hfN ez uz hz sN
      refine ⟨_, rfl, ?_⟩
      have zl : zs.length = (j.adr.filter fun a => rdy j (done ++ as) a).length := by rw [dpAll_length hz1, adDs, List.length_map]
      have zl4 : zs.length ≤ 400 := by
        rw [zl]
        exact Nat.le_trans (List.length_filter_le _ _) h400
      by_cases en : (j.adr.filter fun a => rdy j (done ++ as) a) = []
      · rw [decide_eq_true en]
        refine iteF ?_
        exact ⟨_, _, _, as, fs, rfl, s0, hp1.mono (by omega), ed1, ef1, hd1, hf1, hrun, by omega⟩
      · rw [decide_eq_false en]
        refine iteT ?_
        have zpos : 0 < zs.length := by
          rw [zl]
          exact List.length_pos_iff.mpr en
        refine ⟨_, rfl, .inl ⟨rfl, fs, SqL.of ef1⟩, ?_⟩
        refine ⟨_, rfl, _, rfl, _, rfl, C, zs, rfl, .inl (SqL.of eC1), p, _, _, rfl, hp1, by omega, by omega, by rw [Int.natAbs_natCast]; exact Nat.lt_of_le_of_lt zl4 (by decide), fun N2 r s2 hp2 r0 r1 => ?_⟩
        obtain ⟨x, hx, ex⟩ := pick r0 r1
        obtain ⟨a, ea', ha', tb, rfl, htb1⟩ : ∃ (b : List Int) (_ : (j.adr.filter fun a => rdy j (done ++ as) a)[r.toNat]? = some b) (_ : b ∈ j.adr ∧ rdy j (done ++ as) b = true) (t : Addr), x = .ref t ∧ SqT K N1 t (b.map V.int) := by
          obtain ⟨t, b, eb, e2, hb⟩ := ad_at hz1 hx
          have := List.mem_filter.mp (List.mem_of_getElem? eb)
          exact ⟨b, eb, ⟨this.1, this.2⟩, t, e2, hb⟩
        have k12 := fun b xs (h : SqT K N1 b xs) => s2.sqT hl1 h
        refine ⟨_, _, _, _, rfl, rfl, SqL.of (s2 _ _ ncp eC1), ex, ?_⟩
        have ed2 := s2 _ _ ndl ed1
        have ef2 := s2 _ _ nfl ef1
        have hd2 := dpAll_keep k12 (noLs_ad _) hd1
        have hf2 := dpAll_keep k12 (noLs_ad _) hf1
        have htb2 := k12 _ _ htb1
        have s02 := s0.trans s2
        have hdlH : H dl = none := hdl
        have hflH : H fl = none := Same.free' u1 hfl
        refine ⟨fl, fs, .ref tb, rfl, rfl, ef2, small1000 (by omega), ?_⟩
        have k23 : ∀ b xs, SqT K N2 b xs → SqT K (upd N2 fl (.lst (fs ++ [.ref tb]))) b xs := fun b xs h => (sx_upd (p := fl)).sqT ef2 h
        have s03 := sxW_new (o := .lst (fs ++ [.ref tb])) hflH s02
        have hp3 := hp2.updW (o := .lst (fs ++ [.ref tb])) nfl
        have ed3 : upd N2 fl (.lst (fs ++ [.ref tb])) dl = some (.lst (us ++ fs)) := by rw [upd_ne nfd.symm]; exact ed2
        have ef3 : upd N2 fl (.lst (fs ++ [.ref tb])) fl = some (.lst (fs ++ [.ref tb])) := upd_same
        have hd3 := dpAll_keep k23 (noLs_ad _) hd2
        have hf3 := dpAll_keep k23 (noLs_ad _) hf2
        have htb3 := k23 _ _ htb2
        generalize (upd N2 fl (.lst (fs ++ [.ref tb]))) = N3 at s03 hp3 ed3 ef3 hd3 hf3 htb3 ⊢
        refine ⟨_, rfl, .inl ⟨rfl, us ++ fs, SqL.of ed3⟩, ?_⟩
        refine ⟨_, rfl, _, rfl, _, _, _, _, rfl, rfl, SqL.of ef3, atI_last _ _, ?_⟩
        refine ⟨dl, us ++ fs, .ref tb, rfl, rfl, ed3, small1000 (by rw [List.length_append]; omega), ?_⟩
        have k34 : ∀ b xs, SqT K N3 b xs → SqT K (upd N3 dl (.lst (us ++ fs ++ [.ref tb]))) b xs := fun b xs h => (sx_upd (p := dl)).sqT ed3 h
        have one : DpAll K (upd N3 dl (.lst (us ++ fs ++ [.ref tb]))) [.ref tb] (adDs [a]) := .cons (.tup (k34 _ _ htb3) (ints_dp' a)) .nil
        refine ⟨_, _, _, as ++ [a], fs ++ [.ref tb], rfl, sxW_new hdlH s03, (hp3.updW ndl).mono (by omega), by rw [upd_same, List.append_assoc], by rw [upd_ne nfd]; exact ef3, ?_, ?_, hrun.snoc ha'.1 ha'.2, by rw [List.length_append, List.length_singleton]; omega⟩
        · rw [← List.append_assoc, ← List.append_assoc, adDs, List.map_append]
          exact dpAll_append (dpAll_keep k34 (noLs_ad _) hd3) one
        · rw [adDs, List.map_append]
          exact dpAll_append (dpAll_keep k34 (noLs_ad _) hf3) one
  · rintro σ G ⟨y5, y6, y7, as, fs, rfl, sG, hpG, edG, efG, hdG, hfG, hrun, las⟩
    have emo : ((mo : Int)).toNat = mo := by omega
    rw [emo] at hpG las
    refine ⟨_, rfl, fl, fs, rfl, .inl ⟨SqL.of efG, fun t ht => ?_⟩⟩
    have ut : Same G (upd G t (.tup fs)) := same_new ht
    exact q _ t fs as (sG.trans (Same.sx ut)) (hpG.same ut) (SqT.of upd_same) (dpAll_same ut hfG) hrun las
end

/-! block WState: _law_random_state (behind bWRun; with Dv) -/
theorem rdy_iff {j : J} {done : List (List Int)} {a : List Int} : rdy j done a = true ↔ a ∉ done ∧ ∀ o ∈ j.adr, j.sys.ahead o a = true → o ∈ done := by
  unfold rdy befA
  rw [Bool.and_eq_true, List.all_eq_true]
  simp only [Bool.not_eq_true', List.mem_filter, List.contains_iff_mem, and_imp]
  refine and_congr ?_ Iff.rfl
  rw [← Bool.not_eq_true, List.contains_iff_mem]
theorem RunF.clo {j : J} : ∀ {as done : List (List Int)}, RunF j done as → Clo j done → done.Nodup → Clo j (done ++ as) ∧ (done ++ as).Nodup
  | [], done, _, c, nd => by rw [List.append_nil]; exact ⟨c, nd⟩
  | a :: as, done, h, c, nd => by
    obtain ⟨⟨ha, hr⟩, ht⟩ := h
    obtain ⟨na, hb⟩ := rdy_iff.mp hr
    have c2 : Clo j (done ++ [a]) := by
      intro x hx y hy hxy
      rcases List.mem_append.mp hy with hy | hy
      · exact List.mem_append_left _ (c x hx y hy hxy)
      · rw [List.mem_singleton.mp hy] at hxy
        exact List.mem_append_left _ (hb x hx hxy)
    have n2 : (done ++ [a]).Nodup := by
      rw [List.nodup_append]
      exact ⟨nd, by simp, fun b hb c hc e => na (by rw [List.mem_singleton.mp hc] at e; exact e ▸ hb)⟩
    have := RunF.clo ht c2 n2
    rwa [List.append_assoc] at this
theorem adr_tup {j : J} (h : isTup j.toD = true) : ∀ a ∈ j.adr, a ≠ [] := by
  have go : ∀ (as : List (List (List Int))) (i : Int), ∀ a ∈ idx as i, a ≠ [] := by
    intro as i a ha e
    obtain ⟨r, _, b, _, hl⟩ := idx_mem ha
    rw [e] at hl
    simp at hl
  cases j with
  | st i => cases h
  | ps k xs => intro a ha; exact go _ _ a ha
  | rn k c x => intro a ha; exact go _ _ a ha
theorem keysW_dp {K : PySem.W.Frag} {H : Hp} : ∀ {xs : List V} {ks : List (List Int)}, KeysT K H xs ks → DpAll K H xs (adDs ks)
  | _, _, .nil => .nil
  | _, _, .cons h _ r => .cons (.tup h (ints_dp' _)) (keysW_dp r)
def spWSt (P : Program) (w : World) (K : PySem.W.Frag) : Sp := fun vs H Q _ => ∃ (p ea : Addr) (m : Nat) (j : J) (rs : List DRow) (ne : Addr → Prop), vs = [.ref p, .ref ea] ∧ Pot H p m ∧ m + 50 ≤ 1099511627776 ∧
  Earl P w K ne H ea j rs ∧ H ea = some (DtO P w ea rs) ∧ (∀ l, ne l → l ≠ p) ∧ j.adr.length ≤ 40 ∧ j.stb ∧
  ∀ (H' : Hp) (t : Addr) (xs : List V) (as : List (List Int)), Sx p H H' → Pot H' p (m + 50) → SqT K H' t xs → DpAll K H' xs (adDs as) → stB j (.tuple (adDs as)) = true → Q (.ref t) H'
section
variable {P : Program} {w : World} {K : PySem.W.Frag} {mg : Str → Option Value} {base : Heap}
theorem ok_wst (T : Txt K mg) : FnOk P w K mg base CX0 3 T.f__law_random_state T.d__law_random_state ["_law_source_here", "_law_earlier_here"] (spWSt P w K) := by
  have g__law_draw : FnOk P w K mg base CX0 1 T.f__law_draw T.d__law_draw ["_law_source_here", "_law_many"] spTake := ok_take T
  have g__law_random_run := ok_run (P := P) (w := w) (base := base) T
  refine T.F__law_random_state.ok sc__law_random_state (fun vs H Q E h => ?_) (fun cdv A outer s H vs Q E hr h => ?_)
  · obtain ⟨p, ea, m, j, rs, ne, rfl, _⟩ := h
    rfl
  obtain ⟨p, ea, m, j, rs, ne, rfl, hp, hm, El, hea, hne, h40, hstb, q⟩ := h
  have hu := hu_of hr
  refine ⟨_, (pss_cons (ps_set (i := 2) sc__law_random_state.nd rfl (Or.inl rfl) (pe_lst (pa_cons (pe_callB (r := rLenDt P w K) cr_lenDt (by rfl) T.n_len (by decide +kernel) (pa_cons (pv 1) pa_nil)) (pa_cons pe_int (pa_cons (pe_call g__law_draw (hr.mono (by omega)) rfl T.m__law_draw T.F__law_draw.kp T.b__law_draw .nil pass0 (pa_cons (pv 0) (pa_cons (pe_op op_add (pe_callB (r := rLenDt P w K) cr_lenDt (by rfl) T.n_len (by decide +kernel) (pa_cons (pv 1) pa_nil)) pe_int) pa_nil))) (pa_cons (pe_call g__law_draw (hr.mono (by omega)) rfl T.m__law_draw T.F__law_draw.kp T.b__law_draw .nil pass0 (pa_cons (pv 0) (pa_cons (pe_op op_add (pe_callB (r := rLenDt P w K) cr_lenDt (by rfl) T.n_len (by decide +kernel) (pa_cons (pv 1) pa_nil)) pe_int) pa_nil))) pa_nil))))))
      (pss_one (ps_ret (pe_callTy (r := rTupS K) call_tupS (by rfl) T.n_tuple (by decide +kernel) (pa_cons (pe_callB (r := rSortTZ K) cr_sortTZ (by rfl) T.n_sorted (by decide +kernel) (pa_cons (pe_call g__law_random_run (hr.mono (by omega)) rfl T.m__law_random_run T.F__law_random_run.kp T.b__law_random_run .nil pass0 (pa_cons (pv 0) (pa_cons (pv 1) (pa_cons (pe_tup pa_nil) (pa_cons (pe_ix (r := rIxL K) ix_list (pv 2) (pe_call g__law_draw (hr.mono (by omega)) rfl T.m__law_draw T.F__law_draw.kp T.b__law_draw .nil pass0 (pa_cons (pv 0) (pa_cons pe_int pa_nil))) (fun _ _ => rfl)) pa_nil))))) pa_nil)) pa_nil))))), ?_⟩
  have rl : rs.length = j.adr.length := by rw [← El.names, List.length_map]
  obtain ⟨lp, hlp⟩ := hp.lst
  refine ⟨_, rfl, ea, rs, rfl, .inl hea, El.keys, ?_⟩
  refine ⟨_, rfl, _, rfl, ea, rs, rfl, .inl hea, El.keys, ?_⟩
  refine ⟨_, _, rfl, rfl, p, m, _, rfl, hp, by omega, by omega, ?_, fun H1 r1 s1 hp1 a0 a1 => ?_⟩
  · exact Nat.lt_of_le_of_lt (show (((rs.length : Nat) : Int) + 1).natAbs ≤ 41 by omega) (by decide)
  obtain ⟨El1, hea1⟩ := El.sx hea hlp hne s1
  obtain ⟨lp1, hlp1⟩ := hp1.lst
  refine ⟨_, rfl, _, rfl, ea, rs, rfl, .inl hea1, El1.keys, ?_⟩
  refine ⟨_, _, rfl, rfl, p, _, _, rfl, hp1, by omega, by omega, ?_, fun H2 r2 s2 hp2 b0 b1 => ?_⟩
  · exact Nat.lt_of_le_of_lt (show (((rs.length : Nat) : Int) + 1).natAbs ≤ 41 by omega) (by decide)
  obtain ⟨El2, hea2⟩ := El1.sx hea1 hlp1 hne s2
  obtain ⟨lp2, hlp2⟩ := hp2.lst
  refine ⟨(by show 4 ≤ sizeLine; decide), fun ml hml => ?_⟩
  have nml : ml ≠ p := fun z => by rw [z, hlp2] at hml; cases hml
  have u3 : Same H2 (upd H2 ml (.lst [.int ((rs.length : Nat) : Int), .int 0, .int r1, .int r2])) := same_new hml
  have e3 : upd H2 ml (.lst [.int ((rs.length : Nat) : Int), .int 0, .int r1, .int r2]) ml = some (.lst ([((rs.length : Nat) : Int), 0, r1, r2].map V.int)) := upd_same
  generalize (upd H2 ml (.lst [.int ((rs.length : Nat) : Int), .int 0, .int r1, .int r2])) = H3 at u3 e3 ⊢
  refine ⟨_, rfl, _, rfl, (by show 0 ≤ sizeLine; decide), fun z hz => ?_⟩
  obtain ⟨u4, d4⟩ := tup_fresh (K := K) (ds := adDs []) hz .nil
  generalize (upd H3 z (.tup [])) = H4 at u4 d4 ⊢
  have hp4 := hp2.same (u3.trans u4)
  have hlp4 := (u3.trans u4) _ _ hlp2
  have s04 : Sx p H H4 := s1.trans (s2.trans (Same.sx (u3.trans u4)))
  refine ⟨_, rfl, _, rfl, p, _, 4, rfl, hp4, by omega, by decide, by decide, fun H5 r5 s5 hp5 c0 c1 => ?_⟩
  obtain ⟨mo, hmo, emo⟩ := atI_int (ns := [((rs.length : Nat) : Int), 0, r1, r2]) c0 c1
  have mo0 : 0 ≤ mo ∧ mo ≤ 40 := by
    simp only [List.mem_cons, List.not_mem_nil, or_false] at hmo
    omega
  refine ⟨_, _, _, _, rfl, rfl, SqL.of (s5 _ _ nml (u4 _ _ e3)), emo, ?_⟩
  have s05 := s04.trans s5
  obtain ⟨El5, hea5⟩ := El.sx hea hlp hne s05
  have d5 : Dp K H5 (.ref z) (.tuple (adDs [])) := dp_keep (fun b xs h => s5.sqT hlp4 h) (by rfl) d4
  have emo2 : V.int mo = V.int ((mo.toNat : Nat) : Int) := by rw [Int.toNat_of_nonneg mo0.1]
  refine ⟨p, ea, z, _, mo.toNat, j, rs, ne, [], by rw [emo2]; rfl, hp5, by omega, by omega, El5, hea5, hne, d5, by omega, by simp, fun H6 t xs as s6 hp6 ht hxs hrun las => ?_⟩
  obtain ⟨clo, nd⟩ := hrun.clo (fun x _ y hy => nomatch hy) List.nodup_nil
  rw [List.nil_append] at clo nd
  have hm := hrun.mem
  have xl : xs.length = as.length := by rw [dpAll_length hxs, adDs, List.length_map]
  have s06 := s05.trans s6
  have fin : ∀ (F : Hp) (l : Addr) (ys : List V) (ls : List (List Int)), Same H6 F → F l = some (.lst ys) → DpAll K F ys (adDs ls) → stB j (.tuple (adDs ls)) = true → rTupS K [.ref l] F Q := by
    intro F l ys ls sF el hys hst
    refine ⟨l, ys, rfl, .inl ⟨SqL.of el, fun t2 ht2 => ?_⟩⟩
    have ut : Same F (upd F t2 (.tup ys)) := same_new ht2
    exact q _ t2 ys ls (s06.trans (Same.sx (sF.trans ut))) ((hp6.same (sF.trans ut)).mono (by omega)) (SqT.of upd_same) (dpAll_same ut hys) hst
  by_cases h1 : as.length ≤ 1
  · refine .inr ⟨t, xs, rfl, ht, by omega, fun l hl => ?_⟩
    have ul : Same H6 (upd H6 l (.lst xs)) := same_new hl
    refine fin _ l xs as ul upd_same (dpAll_same ul hxs) ((stB_ad hstb as).mpr ⟨hm, (ascB_iff as).mpr ?_, clo⟩)
    match as, h1 with
    | [], _ => exact .nil
    | [x], _ => exact List.pairwise_singleton _ _
  · have etu : isTup j.toD = true := by
      cases j with
      | st i =>
        exfalso
        have : as.length ≤ (J.st i).adr.length := nodup_len as _ nd hm
        have : (J.st i).adr.length = 1 := rfl
        omega
      | ps k xs => rfl
      | rn k c x => rfl
    refine .inl ⟨t, xs, as, rfl, ht, keys_of hxs fun k hk => adr_tup etu k (hm k hk), fun ys ls l hk pw pm hl => ?_⟩
    have ul : Same H6 (upd H6 l (.lst ys)) := same_new hl
    refine fin _ l ys ls ul upd_same (dpAll_same ul (keysW_dp hk)) ((stB_ad hstb ls).mpr ⟨fun a ha => hm a (pm.mem_iff.mp ha), (ascB_iff ls).mpr (asc_weak (pm.nodup_iff.mpr nd) pw), fun x hx y hy hxy => ?_⟩)
    exact pm.mem_iff.mpr (clo x hx y (pm.mem_iff.mp hy) hxy)
end

/-! block WIsRun: _law_is_address, _law_is_run (behind bWState) -/
def isAdr (j : J) (d : PyData) : Bool := isIdx d && j.adr.contains (intsOf d)
def walkL (j : J) : List (List Int) → List PyData → Bool
  | _, [] => true
  | done, d :: ds => if (isAdr j d && rdy j done (intsOf d)) = true then walkL j (done ++ [intsOf d]) ds else false
def isRunL (j : J) (done : List (List Int)) : PyData → Bool
  | .tuple ds => walkL j done ds
  | _ => false
theorem lay_ones : ∀ n : Nat, PyData.canLayAll0 (List.replicate n (.int 1)) = true
  | 0 => rfl
  | n + 1 => by
    rw [List.replicate_succ]
    simp only [PyData.canLayAll0, PyData.canLay0, lay_ones n, Bool.and_self]
theorem shaped_onesW (n : Nat) : SeqAt.shaped (.list (List.replicate n (.int 1))) = true := by
  have h2 : ∀ n : Nat, PyData.depthAll (List.replicate n (.int 1)) ≤ 1 := by
    intro n
    induction n with
    | zero => simp [PyData.depthAll]
    | succ n ih =>
      rw [List.replicate_succ]
      simp only [PyData.depthAll, PyData.depth]
      omega
  have := h2 n
  unfold SeqAt.shaped
  simp only [PyData.canLay0, PyData.depth, lay_ones n, Bool.true_and, decide_eq_true_eq]
  exact decide_eq_true (by omega)
theorem eqv_onesW (n : Nat) : PyData.eqv (.list (List.replicate n (.int 1))) (.list []) = decide (n = 0) := by
  cases n <;> simp [List.replicate_succ, PyData.eqv, PyData.eqvAll]
theorem dp_ones {K : PySem.W.Frag} {H : Hp} : ∀ n : Nat, DpAll K H (List.replicate n (.int 1)) (List.replicate n (.int 1))
  | 0 => .nil
  | n + 1 => .cons (.int 1) (dp_ones n)
def spIsAdr (P : Program) (w : World) (K : PySem.W.Frag) : Sp := fun vs H Q _ => ∃ (ea p : Addr) (v : V) (d : PyData) (j : J) (rs : List DRow) (ne : Addr → Prop), vs = [.ref ea, v] ∧ Earl P w K ne H ea j rs ∧ Dq K p H v d ∧ d.bulk ≤ 80000 ∧
  ∀ H', Same H H' → Q (.bl (isAdr j d)) H'
section
variable {P : Program} {w : World} {K : PySem.W.Frag} {mg : Str → Option Value} {base : Heap}
def spIsRunL (P : Program) (w : World) (K : PySem.W.Frag) : Sp := fun vs H Q _ => ∃ (ea p bt : Addr) (v : V) (d : PyData) (j : J) (rs : List DRow) (ne : Addr → Prop) (as : List (List Int)), vs = [.ref ea, .ref bt, v] ∧ Earl P w K ne H ea j rs ∧ Dp K H (.ref bt) (.tuple (adDs as)) ∧ Dq K p H v d ∧ d.bulk ≤ 80000 ∧
  j.adr.length ≤ 400 ∧ as.length ≤ 400 ∧ ∀ H', Same H H' → Q (.bl (isRunL j as d)) H'
end

/-! block WMath: the program's walk and the law's (behind bWIsRun) -/
theorem mayD_eq {j : J} (hs : j.stb) {done : List (List Int)} (c : Clo j done) (d : PyData) : mayD j done d = (isAdr j d && rdy j done (intsOf d)) := by
  unfold mayD isAdr
  rw [Bool.and_assoc]
  congr 1
  by_cases h : intsOf d ∈ j.adr
  · rw [List.contains_iff_mem.mpr h, Bool.true_and, Bool.eq_iff_iff, may_iff hs c h, rdy_iff]
  · have e1 : j.adr.contains (intsOf d) = false := by
      rw [← Bool.not_eq_true, List.contains_iff_mem]
      exact h
    have e2 : mayA j done (intsOf d) = false := by
      rw [← Bool.not_eq_true]
      exact fun z => h (mayA_adr hs z)
    rw [e1, e2]
    rfl
theorem clo_snoc {j : J} {done : List (List Int)} {a : List Int} (c : Clo j done) (h : rdy j done a = true) : Clo j (done ++ [a]) := by
  obtain ⟨_, hb⟩ := rdy_iff.mp h
  intro x hx y hy hxy
  rcases List.mem_append.mp hy with hy | hy
  · exact List.mem_append_left _ (c x hx y hy hxy)
  · rw [List.mem_singleton.mp hy] at hxy
    exact List.mem_append_left _ (hb x hx hxy)
theorem walk_eq {j : J} (hs : j.stb) : ∀ (ds : List PyData) (done : List (List Int)), Clo j done → (walkD j done ds).1 = walkL j done ds
  | [], _, _ => rfl
  | d :: ds, done, c => by
    rw [walkD, walkL, mayD_eq hs c]
    cases e : isAdr j d && rdy j done (intsOf d) with
    | false => rfl
    | true =>
      rw [if_pos rfl, if_pos rfl]
      rw [Bool.and_eq_true] at e
      exact walk_eq hs ds _ (clo_snoc c e.2)
theorem walk_len {j : J} : ∀ (ds : List PyData) (done : List (List Int)), (walkD j done ds).1 = true → (walkD j done ds).2.length = done.length + ds.length
  | [], _, _ => rfl
  | d :: ds, done, h => by
    rw [walkD] at h ⊢
    cases e : mayD j done d with
    | false => rw [e, if_neg Bool.false_ne_true] at h; cases h
    | true =>
      rw [e, if_pos rfl] at h
      rw [if_pos rfl, walk_len ds _ h, List.length_append, List.length_singleton, List.length_cons]
      omega
theorem allF_eq {j : J} (hs : j.stb) {as : List (List Int)} (c : Clo j as) (d : PyData) : (allF j as d).1 = isRunL j as d := by
  cases d <;> first | rfl | exact walk_eq hs _ _ c
/-- what the law expects of is_complete_run -/
def compL (j : J) (as : List (List Int)) : PyData → Bool
  | .tuple ds => walkL j as ds && decide (((as.length : Nat) : Int) + ((ds.length : Nat) : Int) = ((j.adr.length : Nat) : Int))
  | _ => false
theorem allF_comp {j : J} (hs : j.stb) {as : List (List Int)} (c : Clo j as) (d : PyData) : ((allF j as d).1 && (!true || decide ((allF j as d).2.length = j.srows.length))) = compL j as d := by
  have hl : j.srows.length = j.adr.length := by rw [← J.srows_adr j hs, List.length_map]
  cases d with
  | tuple ds =>
    show ((walkD j as ds).1 && (!true || decide ((walkD j as ds).2.length = j.srows.length))) = (walkL j as ds && decide (((as.length : Nat) : Int) + ((ds.length : Nat) : Int) = ((j.adr.length : Nat) : Int)))
    rw [← walk_eq hs ds as c, hl]
    cases e : (walkD j as ds).1 with
    | false => rfl
    | true =>
      rw [walk_len ds as e]
      simp only [Bool.not_true, Bool.false_or, Bool.true_and]
      rw [Bool.eq_iff_iff, decide_eq_true_eq, decide_eq_true_eq]
      omega
  | _ => rfl

/-! block Vals: the rows of the steps tell their values (behind bDone, bAtM) -/
abbrev p2 (r : SRow) : Row1 := (r.1, r.2.1)
theorem packs_p2 (sq : Bool) : ∀ (rss : List (List SRow)) (Ss : List Sys) (i : Int) (acc : List SRow), rss.map (fun rs => rs.map p2) = Ss.map (·.rows) → (packs sq rss i acc).map p2 = acc.map p2 ++ cRows Ss i
  | [], [], i, acc, _ => by simp [packs, cRows]
  | [], S :: Ss, _, _, h => by simp at h
  | rs :: r, [], _, _, h => by simp at h
  | rs :: r, S :: Ss, i, acc, h => by
    simp only [List.map_cons, List.cons.injEq] at h
    rw [packs, packs_p2 sq r Ss (i + 1) _ h.2, List.map_append, cRows, List.append_assoc, ← h.1, pre]
    congr 2
    simp [wRow, p2, Function.comp_def]
mutual
theorem J.srows_p2 : ∀ j : J, j.stb → j.srows.map p2 = j.sys.rows
  | .st i, _ => by simp [J.srows, J.sys, p2]
  | .ps b xs, h => by
    simp only [J.stb] at h
    rw [J.srows, packs_p2 _ _ _ _ _ (J.srowss_p2 xs h.2)]
    rfl
  | .rn b n x, h => by
    simp only [J.stb] at h
    have ih := J.srows_p2 x h.2.1
    have hl := J.adr_len x h.2.1
    have e : x.srows.isEmpty = true ↔ ¬ 0 < x.steps := by
      rw [List.isEmpty_iff_length_eq_zero, ← List.length_map (f := (·.1)), J.srows_adr x h.2.1]
      omega
    have e2 : (if x.srows.isEmpty = true then 0 else n.toNat) = (if 0 < x.steps then n.toNat else 0) := by
      by_cases z : 0 < x.steps
      · rw [if_neg (fun y => e.mp y z), if_pos z]
      · rw [if_pos (e.mpr z), if_neg z]
    rw [J.srows, e2, packs_p2 _ _ (List.replicate (if 0 < x.steps then n.toNat else 0) x.sys) _ _ (by rw [List.map_replicate, List.map_replicate, ih])]
    rfl
theorem J.srowss_p2 : ∀ xs : List J, J.stbL xs → (J.srowss xs).map (fun rs => rs.map p2) = (J.syss xs).map (·.rows)
  | [], _ => rfl
  | x :: xs, h => by
    rw [J.srowss, List.map_cons, J.syss, List.map_cons, J.srows_p2 x h.1, J.srowss_p2 xs h.2]
end
theorem val_row {j : J} (hs : j.stb) {a : List Int} (ha : a ∈ j.adr) : (a, valR j.srows a) ∈ j.sys.rows := by
  obtain ⟨r, er⟩ := rowOf_some (R := j.srows) (a := a) (by rw [J.srows_adr j hs]; exact ha)
  obtain ⟨mr, rfl⟩ := rowOf_mem er
  unfold valR
  rw [er, ← J.srows_p2 j hs]
  exact List.mem_map.mpr ⟨r, mr, rfl⟩

/-! block WVal: _law_value, _law_usage, _law_usages of the laws over runs (behind bWMath, bAt, bVals) -/
theorem sumsR_drop (R : List SRow) : ∀ (as run : List (List Int)) (t : Int), (sumsR R (as ++ run) t).drop as.length = sumsR R run (t + useR R as)
  | [], run, t => by simp [useR]
  | a :: as, run, t => by
    rw [List.cons_append, sumsR, List.length_cons, List.drop_succ_cons, sumsR_drop R as run]
    congr 1
    simp only [useR, List.map_cons, List.sum_cons]
    omega
def spWUse (K : PySem.W.Frag) : Sp := fun vs H Q _ => ∃ (v u : V) (j : J) (as : List (List Int)), vs = [v, u] ∧ Dp K H v j.toD ∧ Dp K H u (.tuple (adDs as)) ∧ (∀ a ∈ as, a ∈ j.adr) ∧ j.stb ∧ as.length ≤ 400 ∧ ∀ H', Same H H' → Q (.int (useR j.srows as)) H'
def spWUses (K : PySem.W.Frag) : Sp := fun vs H Q _ => ∃ (v u r : V) (j : J) (as run : List (List Int)), vs = [v, u, r] ∧ Dp K H v j.toD ∧ Dp K H u (.tuple (adDs as)) ∧ Dp K H r (.tuple (adDs run)) ∧ (∀ a ∈ as, a ∈ j.adr) ∧ (∀ a ∈ run, a ∈ j.adr) ∧ j.stb ∧ as.length ≤ 400 ∧ run.length ≤ 400 ∧
  ∀ (H' : Hp) (t : Addr), Same H H' → SqT K H' t ((sumsR j.srows run (useR j.srows as)).map V.int) → Q (.ref t) H'
section
variable {P : Program} {w : World} {K : PySem.W.Frag} {mg : Str → Option Value} {base : Heap}
end

/-! block Run14: _steps_after, run_usages, run_peak, state_after, some_run (behind bWVal) -/
theorem same_of_sorted {as ls ms : List (List Int)} (h1 : ls.Perm as) (a1 : Asc ls) (h2 : ms.Perm as) (a2 : Asc ms) : ls = ms := by
  refine (h1.trans h2.symm).eq_of_pairwise (fun a b _ _ h1 h2 => ?_) a1 a2
  have := lex_trans h1 h2
  rw [lex_self] at this
  cases this
theorem pairedW_at {α β : Type} {F : α → β → Prop} {l : List α} {m : List β} (h : Paired F l m) : ∀ {i : Nat} {x : α}, l[i]? = some x → ∃ y, m[i]? = some y ∧ F x y := by
  induction h with
  | nil => intro i x e; simp at e
  | @cons a b l m h1 h2 ih =>
    intro i x e
    cases i with
    | zero =>
      have e : some a = some x := e
      obtain rfl := Option.some.inj e
      exact ⟨b, rfl, h1⟩
    | succ i => exact ih (by simpa using e)
theorem cut_fromW {us : List V} {n : Nat} (h : n ≤ us.length) : cutV us (some (n : Int)) none = us.drop n := by
  unfold cutV HT.sIx
  dsimp only
  rw [if_neg (by omega), Int.toNat_natCast, Nat.min_eq_left h, List.take_of_length_le]
  rw [List.length_drop]
  omega
theorem sortZ {K : PySem.W.Frag} {H : Hp} {Q : VK} {t : Addr} {xs : List V} {ks : List (List Int)} {j : J} (ht : SqT K H t xs) (hx : DpAll K H xs (adDs ks)) (hm : ∀ a ∈ ks, a ∈ j.adr) (nd : ks.Nodup)
    (go : ∀ (H' : Hp) (l : Addr) (ys : List V) (ls : List (List Int)), Same H H' → H' l = some (.lst ys) → DpAll K H' ys (adDs ls) → ls.Perm ks → Asc ls → Q (.ref l) H') : rSortTZ K [.ref t] H Q := by
  have xl : xs.length = ks.length := by rw [dpAll_length hx, adDs, List.length_map]
  by_cases h1 : ks.length ≤ 1
  · refine .inr ⟨t, xs, rfl, ht, by omega, fun l hl => ?_⟩
    have ul : Same H (upd H l (.lst xs)) := same_new hl
    refine go _ l xs ks ul upd_same (dpAll_same ul hx) (List.Perm.refl _) ?_
    match ks, h1 with
    | [], _ => exact .nil
    | [x], _ => exact List.pairwise_singleton _ _
  · have etu : isTup j.toD = true := by
      cases j with
      | st i =>
        exfalso
        have : ks.length ≤ (J.st i).adr.length := nodup_len ks _ nd hm
        have : (J.st i).adr.length = 1 := rfl
        omega
      | ps k xs => rfl
      | rn k c x => rfl
    refine .inl ⟨t, xs, ks, rfl, ht, keys_of hx fun k hk => adr_tup etu k (hm k hk), fun ys ls l hk pw pm hl => ?_⟩
    have ul : Same H (upd H l (.lst ys)) := same_new hl
    exact go _ l ys ls ul upd_same (dpAll_same ul (keysW_dp hk)) pm (asc_weak (pm.nodup_iff.mpr nd) pw)
/-- what a run from a state asks for -/
structure RunAt (K : PySem.W.Frag) (H : Hp) (v r s : V) (j : J) (as run : List (List Int)) : Prop where
  dv : Dp K H v j.toD
  dr : Dp K H r (.tuple (adDs run))
  ds : Dp K H s (.tuple (adDs as))
  d20 : j.deep ≤ 20
  stb : j.stb
  sz : (szJ j 400 13).isSome = true
  st : j.steps ≤ 400
  b1 : (PyData.tuple (adDs as)).bulk ≤ 80000
  b2 : (PyData.tuple (adDs run)).bulk ≤ 80000
  ok : stB j (.tuple (adDs as)) = true
  go : walkL j as (adDs run) = true
theorem walkL_run {j : J} : ∀ {run as : List (List Int)}, walkL j as (adDs run) = true → RunF j as run
  | [], _, _ => trivial
  | a :: run, as, h => by
    have h' : walkL j as (adD a :: adDs run) = true := h
    rw [walkL] at h'
    cases e : isAdr j (adD a) && rdy j as (intsOf (adD a)) with
    | false => rw [e, if_neg Bool.false_ne_true] at h'; cases h'
    | true =>
      rw [e, if_pos rfl, intsOf_ad] at h'
      rw [Bool.and_eq_true, intsOf_ad] at e
      have e1 := e.1
      unfold isAdr at e1
      rw [Bool.and_eq_true, List.contains_iff_mem, intsOf_ad] at e1
      exact ⟨⟨e1.2, e.2⟩, walkL_run h'⟩
section
variable {P : Program} {w : World} {K : PySem.W.Frag} {mg : Str → Option Value} {base : Heap}
theorem RunAt.facts {H : Hp} {v r s : V} {j : J} {as run : List (List Int)} (R : RunAt K H v r s j as run) : (∀ a ∈ as ++ run, a ∈ j.adr) ∧ Clo j (as ++ run) ∧ (as ++ run).Nodup ∧ Clo j as ∧ as.Nodup ∧ (as ++ run).length ≤ 400 := by
  obtain ⟨hm, asc, clo⟩ := (stB_ad R.stb as).mp R.ok
  have nd := asc_nodup ((ascB_iff as).mp asc)
  have rf := walkL_run R.go
  obtain ⟨c2, n2⟩ := rf.clo clo nd
  have m2 : ∀ a ∈ as ++ run, a ∈ j.adr := fun a ha => by
    rcases List.mem_append.mp ha with h | h
    · exact hm a h
    · exact rf.mem a h
  have := nodup_len _ _ n2 m2
  have := J.adr_len j R.stb
  have := R.st
  exact ⟨m2, c2, n2, clo, nd, by omega⟩
theorem RunAt.same {H H' : Hp} {v r s : V} {j : J} {as run : List (List Int)} (R : RunAt K H v r s j as run) (t : Same H H') : RunAt K H' v r s j as run :=
  ⟨dp_same t R.dv, dp_same t R.dr, dp_same t R.ds, R.d20, R.stb, R.sz, R.st, R.b1, R.b2, R.ok, R.go⟩
def spSA (P : Program) (w : World) (K : PySem.W.Frag) (C : Addr) : Sp := fun vs H Q _ => ∃ (v r s : V) (j : J) (as run : List (List Int)), vs = [v, r, s] ∧ RunAt K H v r s j as run ∧ ∀ H' x, DoneAt P w K C H H' x j (as ++ run) → Q (.ref x) H'
theorem ok_sa (T : Txt K mg) : FnOk P w K mg base (L2.CX P w) 47 T.f__steps_after T.d__steps_after ["job", "run", "state"] (spSA P w K T.c_DoneSteps) := by
  have g__state_steps := ok_ss (P := P) (w := w) (base := base) T
  have g_DoneSteps_do_all := ok_all (P := P) (w := w) (base := base) T
  refine T.F__steps_after.okX sc__steps_after (fun vs H Q E h => ?_) (fun cdv A outer s H vs Q E hr h => ?_)
  · obtain ⟨v, r, s, j, as, run, rfl, _⟩ := h
    rfl
  obtain ⟨v, r, st, j, as, run, rfl, R, q⟩ := h
  refine ⟨_, (pss_cons (ps_set (i := 3) sc__steps_after.nd rfl (Or.inl rfl) (pe_call g__state_steps (hr.mono (by omega)) rfl T.m__state_steps T.F__state_steps.kp T.b__state_steps .nil pass0 (pa_cons (pv 0) (pa_cons (pv 2) pa_nil))))
      (pss_cons (ps_if (pt_not (pt_val (pe_meth (pv 3) T.cl_DoneSteps T.mt_DoneSteps_do_all g_DoneSteps_do_all (hr.mono (by omega)) T.b_DoneSteps_do_all .nil pass0 (pa_cons (pv 1) pa_nil)))) (pss_one (ps_raise rfl (takes_of rfl rfl rfl rfl) (pmk_own PySem.F.excBase_ValueError T.x_InvalidRun T.g_InvalidRun T.k_InvalidRun (raises_own T.bb_InvalidRun T.tt_InvalidRun) rfl))) pss_nil)
      (pss_one (ps_ret (pv 3))))), ?_⟩
  obtain ⟨hm, asc, clo⟩ := (stB_ad R.stb as).mp R.ok
  have nd := asc_nodup ((ascB_iff as).mp asc)
  refine ⟨_, rfl, _, rfl, v, st, as, j, rfl, R.dv, R.ds, R.b1, R.d20, R.stb, R.sz, R.st, R.ok, fun H1 x D => ?_⟩
  obtain ⟨_, dx, ra, da, ba, ua, rr, dd, bb, h1, _⟩ := id D
  refine ⟨_, rfl, x, dx, _, rfl, h1, dl_no _ _ _ _ (by decide +kernel) (by decide +kernel) (by decide +kernel) (by decide +kernel), _, rfl, x, r, 0, .tuple (adDs run), H, j, as, rfl, D, nd, hm, dq_of (ads_noLR run) R.dr, R.b2, R.d20, R.stb, R.st, fun H2 D2 => ?_⟩
  have e1 : (allF j as (.tuple (adDs run))).1 = true := by rw [allF_eq R.stb clo]; exact R.go
  have e2 : (allF j as (.tuple (adDs run))).2 = as ++ run := by
    have e1' : (walkD j as (adDs run)).1 = true := e1
    obtain ⟨bs, e3, e4⟩ := walkD_all e1'
    have e5 : bs = run := by
      have : (adDs run).map intsOf = (adDs bs).map intsOf := by rw [e3]
      simpa [adDs, List.map_map, Function.comp_def, intsOf_ad] using this.symm
    rw [e5] at e4
    exact e4
  rw [e2] at D2
  rw [e1]
  refine ⟨_, rfl, ?_⟩
  refine iteF ?_
  exact ⟨_, rfl, q _ x D2⟩
def spRU (K : PySem.W.Frag) : Sp := fun vs H Q _ => ∃ (v r s : V) (j : J) (as run : List (List Int)), vs = [v, r, s] ∧ RunAt K H v r s j as run ∧ ∀ (H' : Hp) (t : Addr), Same H H' → SqT K H' t ((sumsR j.srows run (useR j.srows as)).map V.int) → Q (.ref t) H'
theorem ok_ru (T : Txt K mg) : FnOk P w K mg base CX0 48 T.f_run_usages T.d_run_usages ["job", "run", "state"] (spRU K) := by
  have g__steps_after := ok_sa (P := P) (w := w) (base := base) T
  refine T.F_run_usages.ok sc_run_usages (fun vs H Q E h => ?_) (fun cdv A outer s H vs Q E hr h => ?_)
  · obtain ⟨v, r, s, j, as, run, rfl, _⟩ := h
    rfl
  obtain ⟨v, r, st, j, as, run, rfl, R, q⟩ := h
  refine ⟨_, (pss_cons (ps_set (i := 3) sc_run_usages.nd rfl (Or.inl rfl) (pe_call g__steps_after (hr.mono (by omega)) rfl T.m__steps_after T.F__steps_after.kp T.b__steps_after .nil passN (pa_cons (pv 0) (pa_cons (pv 1) (pa_cons (pv 2) pa_nil)))))
      (pss_one (ps_ret (pe_callTy (r := rTupS K) call_tupS (by rfl) T.n_tuple (by decide +kernel) (pa_cons (pe_slice (r := rSlL K) sl_list (pe_fld (pv 3) rfl) (po_some (pe_callB (r := rLenS K) call_lenS (by rfl) T.n_len (by decide +kernel) (pa_cons (pv 2) pa_nil))) po_none) pa_nil))))), ?_⟩
  refine ⟨_, rfl, _, rfl, _, rfl, v, r, st, j, as, run, rfl, R, fun H1 x D => ?_⟩
  obtain ⟨_, _, nd2, _, _, l400⟩ := R.facts
  rw [List.length_append] at l400
  obtain ⟨ts, us, ets, hus, hua⟩ := dp_tup_inv R.ds
  cases ets
  have ul : us.length = as.length := by rw [dpAll_length hua, adDs, List.length_map]
  obtain ⟨S1, dx, ra, da, ba, ua, rr, dd, bb, h1, _, _, _, h10, _⟩ := D
  have sl := sumsR_len j.srows (as ++ run) 0
  rw [List.length_append] at sl
  refine ⟨_, rfl, x, _, dx, _, _, rfl, h1, T.cl_DoneSteps, T.na_DoneSteps_usages, dl_usages _ _ _ _, ?_⟩
  refine ⟨_, rfl, ts, us, rfl, .inr (same_sqT S1 hus), _, rfl, ?_⟩
  try unfold tNoPart
  try dsimp only
  have ecut : cutV ((sumsR j.srows (as ++ run) 0).map V.int) (some ((us.length : Nat) : Int)) none = (sumsR j.srows run (useR j.srows as)).map V.int := by
    rw [cut_fromW (by rw [List.length_map]; omega), ul, ← List.map_drop, sumsR_drop, Int.zero_add]
  refine ⟨ua, _, rfl, SqL.of h10, fun l hl => ?_⟩
  rw [ecut]
  have ul2 : Same H1 (upd H1 l (.lst ((sumsR j.srows run (useR j.srows as)).map V.int))) := same_new hl
  have el : upd H1 l (.lst ((sumsR j.srows run (useR j.srows as)).map V.int)) l = some (.lst ((sumsR j.srows run (useR j.srows as)).map V.int)) := upd_same
  refine ⟨l, _, rfl, .inl ⟨SqL.of el, fun t2 ht2 => ?_⟩⟩
  exact q _ t2 (S1.trans (ul2.trans (same_new ht2))) (SqT.of upd_same)
def spRP (K : PySem.W.Frag) : Sp := fun vs H Q _ => ∃ (v r s : V) (j : J) (as run : List (List Int)), vs = [v, r, s] ∧ RunAt K H v r s j as run ∧ ∀ (H' : Hp) (m : Int), Same H H' → m ∈ sumsR j.srows run (useR j.srows as) → (∀ y ∈ sumsR j.srows run (useR j.srows as), y ≤ m) → Q (.int m) H'
theorem ok_rp (T : Txt K mg) : FnOk P w K mg base CX0 48 T.f_run_peak T.d_run_peak ["job", "run", "state"] (spRP K) := by
  have g__steps_after := ok_sa (P := P) (w := w) (base := base) T
  refine T.F_run_peak.ok sc_run_peak (fun vs H Q E h => ?_) (fun cdv A outer s H vs Q E hr h => ?_)
  · obtain ⟨v, r, s, j, as, run, rfl, _⟩ := h
    rfl
  obtain ⟨v, r, st, j, as, run, rfl, R, q⟩ := h
  refine ⟨_, (pss_cons (ps_set (i := 3) sc_run_peak.nd rfl (Or.inl rfl) (pe_call g__steps_after (hr.mono (by omega)) rfl T.m__steps_after T.F__steps_after.kp T.b__steps_after .nil passN (pa_cons (pv 0) (pa_cons (pv 1) (pa_cons (pv 2) pa_nil)))))
      (pss_one (ps_ret (pe_callB (r := rMax K) (cr_max rfl) (by rfl) T.n_max (by decide +kernel) (pa_cons (pe_slice (r := rSlL K) sl_list (pe_fld (pv 3) rfl) (po_some (pe_callB (r := rLenS K) call_lenS (by rfl) T.n_len (by decide +kernel) (pa_cons (pv 2) pa_nil))) po_none) pa_nil))))), ?_⟩
  refine ⟨_, rfl, _, rfl, _, rfl, v, r, st, j, as, run, rfl, R, fun H1 x D => ?_⟩
  obtain ⟨_, _, nd2, _, _, l400⟩ := R.facts
  rw [List.length_append] at l400
  obtain ⟨ts, us, ets, hus, hua⟩ := dp_tup_inv R.ds
  cases ets
  have ul : us.length = as.length := by rw [dpAll_length hua, adDs, List.length_map]
  obtain ⟨S1, dx, ra, da, ba, ua, rr, dd, bb, h1, _, _, _, h10, _⟩ := D
  have sl := sumsR_len j.srows (as ++ run) 0
  rw [List.length_append] at sl
  refine ⟨_, rfl, x, _, dx, _, _, rfl, h1, T.cl_DoneSteps, T.na_DoneSteps_usages, dl_usages _ _ _ _, ?_⟩
  refine ⟨_, rfl, ts, us, rfl, .inr (same_sqT S1 hus), _, rfl, ?_⟩
  try unfold tNoPart
  try dsimp only
  have ecut : cutV ((sumsR j.srows (as ++ run) 0).map V.int) (some ((us.length : Nat) : Int)) none = (sumsR j.srows run (useR j.srows as)).map V.int := by
    rw [cut_fromW (by rw [List.length_map]; omega), ul, ← List.map_drop, sumsR_drop, Int.zero_add]
  refine ⟨ua, _, rfl, SqL.of h10, fun l hl => ?_⟩
  rw [ecut]
  have ul2 : Same H1 (upd H1 l (.lst ((sumsR j.srows run (useR j.srows as)).map V.int))) := same_new hl
  have el : upd H1 l (.lst ((sumsR j.srows run (useR j.srows as)).map V.int)) l = some (.lst ((sumsR j.srows run (useR j.srows as)).map V.int)) := upd_same
  refine ⟨l, _, rfl, SqL.of el, by rw [sumsR_len]; omega, fun m hm1 hm2 => q _ m (S1.trans ul2) hm1 hm2⟩
def spStA (K : PySem.W.Frag) : Sp := fun vs H Q _ => ∃ (v r s : V) (j : J) (as run : List (List Int)), vs = [v, r, s] ∧ RunAt K H v r s j as run ∧ ∀ (H' : Hp) (t : Addr) (xs : List V) (ls : List (List Int)), Same H H' → SqT K H' t xs → DpAll K H' xs (adDs ls) → ls.Perm (as ++ run) → Asc ls → Q (.ref t) H'
theorem ok_sta (T : Txt K mg) : FnOk P w K mg base CX0 48 T.f_state_after T.d_state_after ["job", "run", "state"] (spStA K) := by
  have g__steps_after := ok_sa (P := P) (w := w) (base := base) T
  refine T.F_state_after.ok sc_state_after (fun vs H Q E h => ?_) (fun cdv A outer s H vs Q E hr h => ?_)
  · obtain ⟨v, r, s, j, as, run, rfl, _⟩ := h
    rfl
  obtain ⟨v, r, st, j, as, run, rfl, R, q⟩ := h
  refine ⟨_, (pss_cons (ps_expr (pe_call g__steps_after (hr.mono (by omega)) rfl T.m__steps_after T.F__steps_after.kp T.b__steps_after .nil passN (pa_cons (pv 0) (pa_cons (pv 1) (pa_cons (pv 2) pa_nil)))))
      (pss_one (ps_ret (pe_callTy (r := rTupS K) call_tupS (by rfl) T.n_tuple (by decide +kernel) (pa_cons (pe_callB (r := rSortTZ K) cr_sortTZ (by rfl) T.n_sorted (by decide +kernel) (pa_cons (pe_op (r := rCatA K) op_catA (pv 2) (pv 1)) pa_nil)) pa_nil))))), ?_⟩
  refine ⟨_, rfl, _, rfl, _, rfl, v, r, st, j, as, run, rfl, R, fun H1 x D => ?_⟩
  obtain ⟨m2, _, nd2, _, _, l400⟩ := R.facts
  obtain ⟨ts, us, ets, hus, hua⟩ := dp_tup_inv R.ds
  cases ets
  obtain ⟨tr, ws, etr, hws, hwa⟩ := dp_tup_inv R.dr
  cases etr
  have ul : us.length = as.length := by rw [dpAll_length hua, adDs, List.length_map]
  have wl : ws.length = run.length := by rw [dpAll_length hwa, adDs, List.length_map]
  rw [List.length_append] at l400
  have S1 := D.same
  refine ⟨_, rfl, _, rfl, ?_⟩
  refine rCatA_q (same_sqT S1 hus) (same_sqT S1 hws) (small (by omega)) (fun H2 t s2 q2 => ?_)
  have S2 := S1.trans s2
  have d2 : DpAll K H2 (us ++ ws) (adDs (as ++ run)) := by
    rw [adDs, List.map_append]
    exact dpAll_append (dpAll_same S2 hua) (dpAll_same S2 hwa)
  refine sortZ q2 d2 m2 nd2 fun H3 l ys ls s3 el hys pm asc => ?_
  refine ⟨l, ys, rfl, .inl ⟨SqL.of el, fun t2 ht2 => ?_⟩⟩
  have ut : Same H3 (upd H3 t2 (.tup ys)) := same_new ht2
  exact q _ t2 ys ls (S2.trans (s3.trans ut)) (SqT.of upd_same) (dpAll_same ut hys) pm asc
def spSome (K : PySem.W.Frag) : Sp := fun vs H Q _ => ∃ (v s : V) (j : J) (as : List (List Int)), vs = [v, s] ∧ Dp K H v j.toD ∧ Dp K H s (.tuple (adDs as)) ∧ (PyData.tuple (adDs as)).bulk ≤ 80000 ∧ j.deep ≤ 20 ∧ j.stb ∧ (szJ j 400 13).isSome = true ∧ j.steps ≤ 400 ∧
  stB j (.tuple (adDs as)) = true ∧ ∀ (H' : Hp) (t : Addr) (xs : List V), Same H H' → SqT K H' t xs → DpAll K H' xs (adDs (j.adr.filter fun a => !as.contains a)) → Q (.ref t) H'
theorem ok_some (T : Txt K mg) : FnOk P w K mg base CX0 47 T.f_some_run T.d_some_run ["job", "state"] (spSome K) := by
  have g__state_steps := ok_ss (P := P) (w := w) (base := base) T
  refine T.F_some_run.ok sc_some_run (fun vs H Q E h => ?_) (fun cdv A outer s H vs Q E hr h => ?_)
  · obtain ⟨v, s, j, as, rfl, _⟩ := h
    rfl
  obtain ⟨v, st, j, as, rfl, hv, hs0, hb, h20, hstb, hsz, h400, hst, q⟩ := h
  have hu := hu_of hr
  refine ⟨_, (pss_cons (ps_set (i := 2) sc_some_run.nd rfl (Or.inr rfl) (pe_call g__state_steps (hr.mono (by omega)) rfl T.m__state_steps T.F__state_steps.kp T.b__state_steps .nil pass0 (pa_cons (pv 0) (pa_cons (pv 1) pa_nil))))
      (pss_one (ps_lock (ps_ret (pe_callTy (r := rTupS K) call_tupS (by rfl) T.n_tuple (by decide +kernel) (pa_cons (pe_lc (own := [("address", 3)]) (g := (gName 3)) (by rfl) sc_some_run.nd (pi_dk (pe_fld (pv 2) rfl)) (blkOk_by (N := N_some_run) (sc := (defScope s_some_run)) (by decide +kernel)) (fun _ _ _ _ _ => (pg_name (i := 3) sc_some_run.nd rfl (Or.inl rfl))) (fun _ _ _ _ _ => (pts_one (pt_cmp (pc_dtNotInK P w K rfl rfl rfl hu (pv 3) (pe_fldK K rfl (pv 2) rfl))))) (fun _ _ _ _ _ => (pv 3))) pa_nil)))))), ?_⟩
  refine ⟨_, rfl, _, rfl, v, st, as, j, rfl, hv, hs0, hb, h20, hstb, hsz, h400, hst, fun H1 x D => ?_⟩
  obtain ⟨S1, dx, ra, da, ba, ua, rr, dd, bb, h1, ⟨h2, h3⟩, ⟨h4, h5, h6, _⟩, _, _, ⟨n1, _, _⟩, _⟩ := D
  have nx : x ≠ ra := fun z => by rw [z, h2] at h1; exact dtO_ins (Option.some.inj h1)
  refine ⟨ra, _, h2, trivial, fun od => ?_⟩
  have kL : ∀ a xs, SqT K H1 a xs → SqT K (upd H1 ra (.frz od (DtO P w ra rr))) a xs := fun a xs h => dt_sqT h2 h
  have eL : upd H1 ra (.frz od (DtO P w ra rr)) ra = some (.frz od (DtO P w ra rr)) := upd_same
  have h1L : upd H1 ra (.frz od (DtO P w ra rr)) x = some (.ins T.c_DoneSteps dx (dflds ra da ba ua)) := by rw [upd_ne nx]; exact h1
  have h4L : upd H1 ra (.frz od (DtO P w ra rr)) da = some (DtO P w da dd) := by rw [upd_ne (Ne.symm n1)]; exact h4
  have h3L := h3.keep kL
  have h5L := h5.keep kL
  have lr : rr.length = j.srows.length := Paired.length h3
  have hl : j.srows.length = j.adr.length := by rw [← J.srows_adr j hstb, List.length_map]
  have alen := J.adr_len j hstb
  have back : ∀ F : Hp, Same (upd H1 ra (.frz od (DtO P w ra rr))) F → Same H1 (upd F ra (DtO P w ra rr)) := by
    intro F sF a o ha
    by_cases e : a = ra
    · rw [e, upd_same]
      rw [e, h2] at ha
      exact ha
    · rw [upd_ne e]
      exact sF _ _ (by rw [upd_ne e]; exact ha)
  generalize upd H1 ra (.frz od (DtO P w ra rr)) = L at kL eL h1L h4L h3L h5L back ⊢
  refine ⟨_, rfl, x, _, dx, _, _, rfl, h1L, T.cl_DoneSteps, T.na_DoneSteps_rows, dl_rows _ _ _ _, ra, od, rr, rfl, eL, fun C hC => ?_⟩
  refine lc_it walk_dk (fun n F => Same L F ∧ ∃ zs : List V, F C = some (.lst zs) ∧ DpAll K F zs (adDs ((j.adr.take n).filter fun a => !as.contains a))) ?_ ?_ ?_ ?_
  · exact ⟨same_new hC, [], upd_same, by simpa [adDs] using .nil⟩
  · rintro n F _ ⟨sF, _⟩
    exact sF _ _ eL
  · rintro n y F F' hn ⟨sF, zs, eC, hzs⟩ ⟨rfl, k, b, vv, hkv, rfl⟩
    obtain ⟨rw', er, ek, hb2, hvv⟩ := pairedW_at h3L hkv
    have hb3 := same_sqT sF (h3L.keys (k, b, vv) (List.mem_of_getElem? hkv))
    have eadr : j.adr[n]? = some k := by
      rw [← J.srows_adr j hstb, List.getElem?_map, er]
      exact congrArg some ek.symm
    have nl := (List.getElem?_eq_some_iff.mp eadr).1
    have etk : j.adr.take (n + 1) = j.adr.take n ++ [k] := by rw [List.take_add_one, eadr]; rfl
    have zl : zs.length ≤ 400 := by
      rw [dpAll_length hzs, adDs, List.length_map]
      refine Nat.le_trans (List.length_filter_le _ _) ?_
      rw [List.length_take]
      omega
    refine ⟨rfl, ?_⟩
    refine ⟨_, rfl, _, rfl, x, _, dx, _, _, rfl, sF _ _ h1L, T.cl_DoneSteps, T.na_DoneSteps_done, dl_done _ _ _ _, look dd k, ⟨da, b, dd, k, rfl, rfl, .inl (sF _ _ h4L), h5L.keep (fun a xs h => same_sqT sF h), hb3, rfl⟩, _, rfl, ?_⟩
    rw [h6]
    cases ec : as.contains k with
    | false =>
      refine iteT ?_
      refine ⟨_, rfl, zs, eC, small1000 (by omega), ?_, zs ++ [.ref b], upd_same, ?_⟩
      · intro c o hc
        rw [upd_ne (ne_of_none hc hC)]
        exact sF _ _ hc
      · rw [etk, List.filter_append, List.filter_cons_of_pos (p := fun a => !as.contains a) (by show (!as.contains k) = true; rw [ec]; rfl), List.filter_nil, adDs, List.map_append]
        have k7 : ∀ a xs, SqT K F' a xs → SqT K (upd F' C (.lst (zs ++ [.ref b]))) a xs := fun a xs h => (sx_upd (p := C)).sqT eC h
        exact dpAll_append (dpAll_keep k7 (noLs_ad _) hzs) (.cons (dp_keep k7 (noL_ad _) (.tup hb3 (ints_dp' k))) .nil)
    | true =>
      refine iteF ?_
      refine ⟨sF, zs, eC, ?_⟩
      rw [etk, List.filter_append, List.filter_cons_of_neg (p := fun a => !as.contains a) (by show ¬ (!as.contains k) = true; rw [ec]; exact Bool.false_ne_true), List.filter_nil, List.append_nil]
      exact hzs
  rintro F ⟨sF, zs, eC, hzs⟩
  rw [lr, hl, List.take_length] at hzs
  have eF := sF _ _ eL
  have nC : C ≠ ra := fun z => by rw [z, eL] at hC; cases hC
  refine ⟨C, zs, rfl, .inl ⟨SqL.of eC, fun t ht => ?_⟩⟩
  have ut : Same F (upd F t (.tup zs)) := same_new ht
  have nt : t ≠ ra := fun z => by rw [z, eF] at ht; cases ht
  have eF2 := ut _ _ eF
  refine ⟨eF2, ?_⟩
  have k9 : ∀ a xs, SqT K (upd F t (.tup zs)) a xs → SqT K (upd (upd F t (.tup zs)) ra (DtO P w ra rr)) a xs := fun a xs h => fzW_sqT eF2 h
  exact q _ t zs (S1.trans (back _ (sF.trans ut))) (k9 _ _ (SqT.of upd_same)) (dpAll_keep k9 (noLs_ad _) (dpAll_same ut hzs))
end

/-! block Num: is_short_integer, check_number at integers of at most 61 digits (behind bJob) -/
def B61 : Int := 9999999999999999999999999999999999999999999999999999999999999
def spNum1 : Sp := fun vs H Q _ => ∃ i : Int, vs = [.int i] ∧ -B61 ≤ i ∧ i ≤ B61 ∧ Q .non H
def spShort1 : Sp := fun vs H Q _ => ∃ i : Int, vs = [.int i] ∧ -B61 ≤ i ∧ i ≤ B61 ∧ Q (.bl true) H
section
variable {P : Program} {w : World} {K : PySem.W.Frag} {mg : Str → Option Value} {base : Heap}
theorem ok_short1 (T : Txt K mg) : FnOk P w K mg base CX0 2 T.f_is_short_integer T.d_is_short_integer ["value"] spShort1 := by
  have g_is_integer := ok_isint (P := P) (w := w) (base := base) T
  refine T.F_is_short_integer.ok sc_is_short_integer (fun vs H Q E h => ?_) (fun cdv A outer s H vs Q E hr h => ?_)
  · obtain ⟨i, rfl, _⟩ := h
    rfl
  obtain ⟨i, rfl, h1, h2, q⟩ := h
  simp only [B61] at h1 h2
  refine ⟨_, (pss_one (ps_ret (pe_and (pe_call g_is_integer (hr.mono (by omega)) rfl T.m_is_integer T.F_is_integer.kp T.b_is_integer .nil pass0 (pa_cons (pv 0) pa_nil)) (pe_one (pe_chain op_lt op_lt (pe_un un_neg (pe_glob (v := .int 10000000000000000000000000000000000000000000000000000000000000) rfl T.g_NUMBER_END ⟨_, rfl⟩)) (pv 0) (pe_glob (v := .int 10000000000000000000000000000000000000000000000000000000000000) rfl T.g_NUMBER_END ⟨_, rfl⟩)))))), ?_⟩
  refine ⟨_, rfl, _, .int i, rfl, .int _, _, rfl, ?_⟩
  refine iteT ?_
  refine ⟨_, rfl, _, rfl, _, _, rfl, rfl, _, rfl, ?_⟩
  refine ite2 (fun g => ?_) (fun g => absurd (decide_eq_true (by omega)) g)
  refine ⟨_, _, rfl, rfl, ?_⟩
  have e : decide (i < 10000000000000000000000000000000000000000000000000000000000000) = true := decide_eq_true (by omega)
  dsimp only
  rw [e]
  exact q
theorem ok_num1 (T : Txt K mg) : FnOk P w K mg base CX0 3 T.f_check_number T.d_check_number ["value"] spNum1 := by
  have g_is_short_integer := ok_short1 (P := P) (w := w) (base := base) T
  refine T.F_check_number.ok sc_check_number (fun vs H Q E h => ?_) (fun cdv A outer s H vs Q E hr h => ?_)
  · obtain ⟨i, rfl, _⟩ := h
    rfl
  obtain ⟨i, rfl, h1, h2, q⟩ := h
  refine ⟨_, (pss_one (ps_if (pt_not (pt_val (pe_call g_is_short_integer (hr.mono (by omega)) rfl T.m_is_short_integer T.F_is_short_integer.kp T.b_is_short_integer .nil pass0 (pa_cons (pv 0) pa_nil)))) (pss_one ps_never) pss_nil)), ?_⟩
  refine ⟨_, rfl, i, rfl, h1, h2, _, rfl, ?_⟩
  refine iteF ?_
  exact q
end

/-! block Avail: available (behind bState, bNum, with Dw) -/
def leO : Option Int → Int → Bool
  | none, _ => true
  | some m, i => decide (i ≤ m)
def moV : Option Int → V
  | none => .non
  | some m => .int m
/-- the steps that may be done next, of at most this value -/
def avail (j : J) (as : List (List Int)) (mo : Option Int) : List (List Int) := (j.srows.filter fun r => mayA j as r.1 && leO mo r.2.1).map (·.1)
theorem all_ad10 {j : J} {as : List (List Int)} (h : stB j (.tuple (adDs as)) = true) : (allD j (.tuple (adDs as))).2 = as := by
  unfold stB at h
  rw [Bool.and_eq_true] at h
  have h1 : (walkD j [] (adDs as)).1 = true := h.1
  obtain ⟨bs, e1, e2⟩ := walkD_all h1
  have e3 : bs = as := by
    have : (adDs as).map intsOf = (adDs bs).map intsOf := by rw [e1]
    simpa [adDs, List.map_map, Function.comp_def, intsOf_ad] using this.symm
  subst e3
  exact e2
theorem ads_noL (as : List (List Int)) : noL (.tuple (adDs as)) = true := by
  simp only [noL]
  exact noLs_ad _
theorem paired_at {α β : Type} {F : α → β → Prop} {l : List α} {m : List β} (h : Paired F l m) : ∀ {i : Nat} {x : α}, l[i]? = some x → ∃ y, m[i]? = some y ∧ F x y := by
  induction h with
  | nil => intro i x e; simp at e
  | @cons a b l m h1 h2 ih =>
    intro i x e
    cases i with
    | zero =>
      simp at e
      subst e
      exact ⟨b, rfl, h1⟩
    | succ i =>
      obtain ⟨y, e1, e2⟩ := ih (i := i) (by simpa using e)
      exact ⟨y, by simpa using e1, e2⟩
theorem fz_sqT {P : Program} {w : World} {K : PySem.W.Frag} {H : Hp} {p a c : Addr} {rs : List DRow} {od : Obj} {z : HO} {xs : List V} (e : H p = some (.frz od (DtO P w c rs))) (h : SqT K H a xs) : SqT K (upd H p z) a xs := by
  rcases h with (h | ⟨o, h⟩) | h
  · refine .inl (.inl ?_)
    rw [upd_ne (fun q => by rw [q, e] at h; cases h)]
    exact h
  · refine .inl (.inr ⟨o, ?_⟩)
    rw [upd_ne (fun q => by
      rw [q, e] at h
      injection h with h
      injection h with h1 h2
      exact dtO_tup h2)]
    exact h
  · exact .inr h
/-- an address and its step's value -/
def foundD (rs : List SRow) : List PyData := rs.map fun r => .tuple [adD r.1, .int r.2.1]
theorem noLs_found : ∀ rs : List SRow, noLs (foundD rs) = true
  | [] => rfl
  | r :: rs => by
    have h := noLs_found rs
    show noLs (.tuple [adD r.1, .int r.2.1] :: foundD rs) = true
    simp only [noLs, noL, noL_ad, h, Bool.and_self]
section
variable {P : Program} {w : World} {K : PySem.W.Frag} {mg : Str → Option Value} {base : Heap}
def spAvail (K : PySem.W.Frag) : Sp := fun vs H Q _ => ∃ (v u : V) (as : List (List Int)) (j : J) (mo : Option Int), vs = [v, u, moV mo] ∧ Dp K H v j.toD ∧ Dp K H u (.tuple (adDs as)) ∧ (PyData.tuple (adDs as)).bulk ≤ 80000 ∧ j.deep ≤ 20 ∧ j.stb ∧ (szJ j 400 13).isSome = true ∧ j.steps ≤ 400 ∧
  stB j (.tuple (adDs as)) = true ∧ (∀ m, mo = some m → -B61 ≤ m ∧ m ≤ B61) ∧ ∀ (H' : Hp) (t : Addr) (xs : List V), Same H H' → SqT K H' t xs → DpAll K H' xs (adDs (avail j as mo)) → Q (.ref t) H'
theorem ok_avail (T : Txt K mg) : FnOk P w K mg base CX0 46 T.f_available T.d_available ["job", "state", "most"] (spAvail K) := by
  have g_check_small := ok_cksmall (P := P) (w := w) (base := base) T
  have g_checked_state := ok_ckst (P := P) (w := w) (base := base) T
  have g_check_number := ok_num1 (P := P) (w := w) (base := base) T
  have g_DoneSteps_may_do := ok_may (P := P) (w := w) (base := base) T
  refine T.F_available.ok sc_available (fun vs H Q E h => ?_) (fun cdv A outer s H vs Q E hr h => ?_)
  · obtain ⟨v, u, as, j, mo, rfl, _⟩ := h
    rfl
  obtain ⟨v, u, as, j, mo, rfl, hv, hu0, hb, h20, hstb, hsz, h400, hst, hmo, q⟩ := h
  have hu := hu_of hr
  refine ⟨_, (pss_cons (ps_expr (pe_call g_check_small (hr.mono (by omega)) rfl T.m_check_small T.F_check_small.kp T.b_check_small .nil pass0 (pa_cons (pv 0) pa_nil)))
      (pss_cons (ps_set (i := 3) sc_available.nd rfl (Or.inr rfl) (pe_call g_checked_state (hr.mono (by omega)) rfl T.m_checked_state T.F_checked_state.kp T.b_checked_state .nil passN (pa_cons (pv 0) (pa_cons (pv 1) pa_nil))))
      (C8.pss_cut (ps_if (pt_cmpR op_notN (pv 2) pe_non (nomark _)) (pss_one (ps_expr (pe_call g_check_number (hr.mono (by omega)) rfl T.m_check_number T.F_check_number.kp T.b_check_number .nil pass0 (pa_cons (pv 2) pa_nil)))) pss_nil)
      (pss_cons (ps_lock (ps_setLc (i := 4) (own := [("address", 5), ("row", 6)]) (g := (gTup K 2 (gCons (gName 5) (gCons (gName 6) gNil)))) (by rfl) sc_available.nd rfl rfl (sw_true rfl rfl rfl (by decide +kernel)) (pi_di (pe_fld (pv 3) rfl)) (blkOk_by (N := N_available) (sc := (defScope s_available)) (by decide +kernel)) (fun _ _ _ _ _ => (pg_tup (by rfl) (pgs_cons (pg_name (i := 5) sc_available.nd rfl (Or.inl rfl)) (pgs_cons (pg_name (i := 6) sc_available.nd rfl (Or.inl rfl)) pgs_nil)))) (fun _ _ _ _ _ => (pts_one (pt_val (pe_meth (pv 3) T.cl_DoneSteps T.mt_DoneSteps_may_do g_DoneSteps_may_do (hr.mono (by omega)) T.b_DoneSteps_may_do .nil pass0 (pa_cons (pv 5) pa_nil))))) (fun _ _ _ _ _ => (pe_tup (pa_cons (pv 5) (pa_cons (pe_ix (r := rIxT K) ix_tup (pv 6) pe_int (fun _ _ => rfl)) pa_nil))))))
      (pss_one (ps_ret (pe_callTy (r := rTupS K) call_tupS (by rfl) T.n_tuple (by decide +kernel) (pa_cons (pe_lc (own := [("address", 5), ("step", 7)]) (g := (gTup K 2 (gCons (gName 5) (gCons (gName 7) gNil)))) (by rfl) sc_available.nd (pi_list (pv 4)) (blkOk_by (N := N_available) (sc := (defScope s_available)) (by decide +kernel)) (fun _ _ _ _ _ => (pg_tup (by rfl) (pgs_cons (pg_name (i := 5) sc_available.nd rfl (Or.inl rfl)) (pgs_cons (pg_name (i := 7) sc_available.nd rfl (Or.inl rfl)) pgs_nil)))) (fun _ _ _ _ _ => (pts_one (PW.pt (pw_or (pt_cmpR op_isN (pv 2) pe_non (nomark _)) (pw_or1 (pt_cmpR op_le (pv 7) (pv 2) (nomark _))))))) (fun _ _ _ _ _ => (pv 5))) pa_nil)))))))), ?_⟩
  refine ⟨_, rfl, v, j, rfl, hv, h20, hsz, h400, fun H1 s1 => ?_⟩
  refine ⟨_, rfl, _, rfl, v, u, 0, _, j, rfl, dp_same s1 hv, dq_of (ads_noL as) (dp_same s1 hu0), hb, h20, hstb, h400, fun _ H2 x D => ?_, fun e => by rw [hst] at e; cases e⟩
  rw [all_ad10 hst] at D
  have S2 : Same H H2 := s1.trans D.same
  refine ⟨fun σ' G => σ' = [some v, some u, some (moV mo), some (.ref x), none, none, none, none] ∧ G = H2, ?_, ?_⟩
  · cases mo with
    | none =>
      refine ⟨_, rfl, rfl, _, rfl, ?_⟩
      refine iteF ?_
      exact ⟨rfl, rfl⟩
    | some m =>
      refine ⟨_, rfl, rfl, _, rfl, ?_⟩
      refine iteT ?_
      obtain ⟨b1, b2⟩ := hmo m rfl
      exact ⟨_, rfl, m, rfl, b1, b2, rfl, rfl⟩
  rintro σ' G ⟨rfl, rfl⟩
  obtain ⟨_, dx, ra, da, ba, ua, rr, dd, bb, h1, ⟨h2, h3⟩, h4, h7, h10, ⟨n1, n2, n3⟩, _⟩ := id D
  have nx : x ≠ ra := fun z => by rw [z, h2] at h1; exact dtO_ins (Option.some.inj h1)
  refine ⟨ra, _, h2, trivial, fun od => ?_⟩
  have kL : ∀ a xs, SqT K G a xs → SqT K (upd G ra (.frz od (DtO P w ra rr))) a xs := fun a xs h => dt_sqT h2 h
  have eL : upd G ra (.frz od (DtO P w ra rr)) ra = some (.frz od (DtO P w ra rr)) := upd_same
  have gL : ∀ a, a ≠ ra → upd G ra (.frz od (DtO P w ra rr)) a = G a := fun a h => upd_ne h
  have DR : DoneR P w K T.c_DoneSteps (upd G ra (.frz od (DtO P w ra rr))) x j as :=
    ⟨dx, ra, da, ba, ua, rr, dd, bb, by rw [gL x nx]; exact h1, ⟨.inr ⟨od, eL⟩, h3.keep kL⟩, ⟨by rw [gL da (Ne.symm n1)]; exact h4.1, h4.2.1.keep kL, h4.2.2⟩, by rw [gL ba (Ne.symm n2)]; exact h7.1, h7.2.1.keep kL, h7.2.2⟩
  have h1L : upd G ra (.frz od (DtO P w ra rr)) x = some (.ins T.c_DoneSteps dx (dflds ra da ba ua)) := by rw [gL x nx]; exact h1
  have h3L := h3.keep kL
  have lr : rr.length = j.srows.length := Paired.length h3
  have l400 : (j.srows.length : Int) ≤ 400 := by rw [J.srows_len j hstb]; exact h400
  have back : ∀ F : Hp, Same (upd G ra (.frz od (DtO P w ra rr))) F → Same G (upd F ra (DtO P w ra rr)) := by
    intro F sF a o ha
    by_cases e : a = ra
    · rw [e, upd_same]
      rw [e, h2] at ha
      exact ha
    · rw [upd_ne e]
      exact sF _ _ (by rw [gL a e]; exact ha)
  generalize upd G ra (.frz od (DtO P w ra rr)) = L at kL eL DR h1L h3L back gL ⊢
  refine ⟨_, rfl, x, _, dx, _, _, rfl, h1L, T.cl_DoneSteps, T.na_DoneSteps_rows, dl_rows _ _ _ _, ra, od, rr, rfl, eL, fun C hC => ?_⟩
  refine lc_it walk_di (fun i F => Same L F ∧ ∃ ts : List V, F C = some (.lst ts) ∧ DpAll K F ts (foundD ((j.srows.take i).filter fun r => mayA j as r.1))) ?_ ?_ ?_ ?_
  · exact ⟨same_new hC, [], upd_same, .nil⟩
  · rintro i F _ ⟨sF, _⟩
    exact sF _ _ eL
  · rintro i y F F' hi ⟨sF, ts, eC, hts⟩ ⟨t2, k, b, vv, hkv, rfl, ht2, rfl⟩
    obtain ⟨r, er, ek, hb2, hvv⟩ := paired_at h3L hkv
    have il := (List.getElem?_eq_some_iff.mp er).1
    have etk : j.srows.take (i + 1) = j.srows.take i ++ [r] := by rw [List.take_add_one, er]; rfl
    have s4 : Same F (upd F t2 (.tup [.ref b, vv])) := same_new ht2
    have kt : SqT K (upd F t2 (.tup [.ref b, vv])) t2 [.ref b, vv] := SqT.of upd_same
    have eC4 := s4 _ _ eC
    generalize (upd F t2 (.tup [.ref b, vv])) = F2 at s4 kt eC4 ⊢
    have sF2 := sF.trans s4
    have tl : ts.length ≤ 400 := by
      rw [dpAll_length hts, foundD, List.length_map]
      refine Nat.le_trans (List.length_filter_le _ _) ?_
      rw [List.length_take]
      omega
    have bd := J.srows_bd j r (List.mem_of_getElem? er)
    have bk : (adD r.1).bulk ≤ 80000 := by
      have h := adDs_bulk (n := 20) [r.1] fun a ha => by
        rw [List.mem_singleton.mp ha]
        omega
      simp only [adDs, List.map_cons, List.map_nil, PyData.bulkAll, List.length_cons, List.length_nil] at h
      omega
    have hb3 := same_sqT sF2 hb2
    refine ⟨t2, _, rfl, kt, rfl, _, _, rfl, _, _, rfl, rfl, rfl, ?_⟩
    refine ⟨_, rfl, x, dx, _, rfl, sF2 _ _ h1L, dl_no _ _ _ _ (by decide +kernel) (by decide +kernel) (by decide +kernel) (by decide +kernel), _, rfl, x, .ref b, 0, adD r.1, j, as, rfl, DR.go sF2, dq_of (noL_ad _) (.tup hb3 (ints_dp' r.1)), bk, h20, fun F3 s5 => ?_⟩
    rw [mayD_ad]
    refine ⟨_, rfl, ?_⟩
    have eC5 := s5 _ _ eC4
    have s45 := s4.trans s5
    cases em : mayA j as r.1 with
    | false =>
      refine iteF ?_
      refine ⟨sF.trans s45, ts, eC5, ?_⟩
      rw [etk, List.filter_append, List.filter_cons_of_neg (by rw [em]; exact Bool.false_ne_true), List.filter_nil, List.append_nil]
      exact dpAll_same s45 hts
    | true =>
      refine iteT ?_
      obtain ⟨tv, xv, rfl, qv, hv2⟩ := dp_tup_inv (dp_same (sF2.trans s5) hvv)
      cases hv2 with
      | cons dvv hv2 =>
      obtain rfl := dp_int_inv dvv
      refine ⟨_, rfl, _, rfl, _, _, _, _, rfl, rfl, qv, atI_at (j := 0) rfl rfl, (by show 2 ≤ sizeLine; decide), fun q2 hq2 => ?_⟩
      have s6 : Same F3 (upd F3 q2 (.tup [.ref b, .int r.2.1])) := same_new hq2
      have k6 : SqT K (upd F3 q2 (.tup [.ref b, .int r.2.1])) q2 [.ref b, .int r.2.1] := SqT.of upd_same
      have eC6 := s6 _ _ eC5
      generalize (upd F3 q2 (.tup [.ref b, .int r.2.1])) = F4 at s6 k6 eC6 ⊢
      have s46 := s45.trans s6
      refine ⟨ts, eC6, small1000 (by omega), ?_, ts ++ [.ref q2], upd_same, ?_⟩
      · intro c o hc
        rw [upd_ne (ne_of_none hc hC)]
        exact s46 _ _ (sF _ _ hc)
      · rw [etk, List.filter_append, List.filter_cons_of_pos (p := fun r : SRow => mayA j as r.1) em, List.filter_nil, foundD, List.map_append]
        have k7 : ∀ b xs, SqT K F4 b xs → SqT K (upd F4 C (.lst (ts ++ [.ref q2]))) b xs := fun b xs h => (sx_upd (p := C)).sqT eC6 h
        have dn : Dp K F4 (.ref q2) (.tuple [adD r.1, .int r.2.1]) := .tup k6 (.cons (.tup (same_sqT (s5.trans s6) hb3) (ints_dp' r.1)) (.cons (.int _) .nil))
        exact dpAll_append (dpAll_keep k7 (noLs_found _) (dpAll_same s46 hts)) (.cons (dp_keep k7 (by simp only [noL, noLs, noL_ad, Bool.and_self]) dn) .nil)
  rintro F ⟨sF, ts, eC, hts⟩
  rw [lr, List.take_length] at hts
  have eF := sF _ _ eL
  have nC : C ≠ ra := fun z => by rw [z, eL] at hC; cases hC
  refine ⟨eF, ?_⟩
  have sN := back F sF
  have kN : ∀ a xs, SqT K F a xs → SqT K (upd F ra (DtO P w ra rr)) a xs := fun a xs h => fz_sqT eF h
  have eCN : upd F ra (DtO P w ra rr) C = some (.lst ts) := by rw [upd_ne nC]; exact eC
  have htsN := dpAll_keep kN (noLs_found _) hts
  generalize upd F ra (DtO P w ra rr) = N at sN eCN htsN ⊢
  have SN : Same H N := S2.trans sN
  have tl : ts.length = (j.srows.filter fun r => mayA j as r.1).length := by rw [dpAll_length htsN, foundD, List.length_map]
  have tl4 : ts.length ≤ 400 := by
    rw [tl]
    have := List.length_filter_le (fun r : SRow => mayA j as r.1) j.srows
    omega
  clear hts eC sF eF DR h1L h3L eL kL gL back hC
  refine ⟨_, rfl, C, rfl, ⟨ts, SqL.of eCN⟩, fun E2 hE2 => ?_⟩
  refine lc_list (K := K) (a := C) (xs := ts) (fun i F => Same N F ∧ ∃ zs : List V, F E2 = some (.lst zs) ∧ DpAll K F zs (adDs ((((j.srows.filter fun r => mayA j as r.1).take i).filter fun r => leO mo r.2.1).map (·.1)))) ?_ ?_ ?_ ?_
  · exact ⟨same_new hE2, [], upd_same, by simpa [adDs] using .nil⟩
  · rintro i F _ ⟨sF, _⟩
    exact SqL.of (sF _ _ eCN)
  · rintro i y F hi ⟨sF, zs, eE, hzs⟩
    obtain ⟨d, ed, hy⟩ := dpAll_get htsN hi
    rw [foundD, List.getElem?_map] at ed
    obtain ⟨r, er, rfl⟩ := Option.map_eq_some_iff.mp ed
    obtain ⟨tq, xq, rfl, qq, hq⟩ := dp_tup_inv hy
    cases hq with
    | cons ha hq =>
    cases hq with
    | cons hb3 hq =>
    cases hq
    obtain rfl := dp_int_inv hb3
    rename_i va
    have il := (List.getElem?_eq_some_iff.mp er).1
    have etk : (j.srows.filter fun r => mayA j as r.1).take (i + 1) = (j.srows.filter fun r => mayA j as r.1).take i ++ [r] := by rw [List.take_add_one, er]; rfl
    have zl : zs.length ≤ 400 := by
      rw [dpAll_length hzs, adDs, List.length_map, List.length_map]
      refine Nat.le_trans (List.length_filter_le _ _) ?_
      rw [List.length_take]
      omega
    have haF := dp_same sF ha
    have put : ∃ acc, F E2 = some (.lst acc) ∧ acc.length < sizeLine ∧ (leO mo r.2.1 = true → Same N (upd F E2 (.lst (acc ++ [va]))) ∧ ∃ zs : List V, upd F E2 (.lst (acc ++ [va])) E2 = some (.lst zs) ∧ DpAll K (upd F E2 (.lst (acc ++ [va]))) zs (adDs ((((j.srows.filter fun r => mayA j as r.1).take (i + 1)).filter fun r => leO mo r.2.1).map (·.1)))) := by
      refine ⟨zs, eE, small1000 (by omega), fun hle => ⟨?_, zs ++ [va], upd_same, ?_⟩⟩
      · intro c o hc
        rw [upd_ne (ne_of_none hc hE2)]
        exact sF _ _ hc
      · rw [etk, List.filter_append, List.filter_cons_of_pos (p := fun r : SRow => leO mo r.2.1) hle, List.filter_nil, List.map_append, adDs, List.map_append]
        have k7 : ∀ b xs, SqT K F b xs → SqT K (upd F E2 (.lst (zs ++ [va]))) b xs := fun b xs h => (sx_upd (p := E2)).sqT eE h
        exact dpAll_append (dpAll_keep k7 (noLs_ad _) hzs) (.cons (dp_keep k7 (noL_ad _) haF) .nil)
    refine ⟨tq, _, rfl, same_sqT sF qq, rfl, _, _, rfl, _, _, rfl, rfl, rfl, ?_⟩
    cases mo with
    | none =>
      refine ⟨_, rfl, rfl, _, rfl, ?_⟩
      refine iteT ?_
      refine iteT ?_
      obtain ⟨acc, e1, e2, e3⟩ := put
      exact ⟨_, rfl, acc, e1, e2, e3 rfl⟩
    | some m =>
      refine ⟨_, rfl, rfl, _, rfl, ?_⟩
      refine iteF ?_
      refine ⟨_, rfl, _, rfl, _, _, rfl, rfl, _, rfl, ?_⟩
      cases el : decide (r.2.1 ≤ m) with
      | true =>
        refine iteT ?_
        obtain ⟨acc, e1, e2, e3⟩ := put
        exact ⟨_, rfl, acc, e1, e2, e3 el⟩
      | false =>
        refine iteF ?_
        refine ⟨sF, zs, eE, ?_⟩
        rw [etk, List.filter_append, List.filter_cons_of_neg (p := fun r : SRow => leO (some m) r.2.1) (by show ¬ decide (r.2.1 ≤ m) = true; rw [el]; exact Bool.false_ne_true), List.filter_nil, List.append_nil]
        exact hzs
  rintro F ⟨sF, zs, eE, hzs⟩
  rw [tl, List.take_length, List.filter_filter] at hzs
  have ea : avail j as mo = (j.srows.filter fun a => leO mo a.2.1 && mayA j as a.1).map (·.1) := by
    unfold avail
    congr 1
    refine List.filter_congr fun r _ => ?_
    exact Bool.and_comm _ _
  refine ⟨E2, zs, rfl, .inl ⟨SqL.of eE, fun t ht => ?_⟩⟩
  refine q _ t zs (SN.trans (sF.trans (same_new ht))) (SqT.of upd_same) ?_
  rw [ea]
  exact dpAll_same (same_new ht) hzs
end

/-! block Lift: _steps_of_run_and_state, lift_run, cut_run (behind bRun14) -/
/-- what a run from nothing and a state ask for -/
structure BothAt (K : PySem.W.Frag) (H : Hp) (v r s : V) (j : J) (as run : List (List Int)) : Prop where
  dv : Dp K H v j.toD
  dr : Dp K H r (.tuple (adDs run))
  ds : Dp K H s (.tuple (adDs as))
  d20 : j.deep ≤ 20
  stb : j.stb
  sz : (szJ j 400 13).isSome = true
  st : j.steps ≤ 400
  b1 : (PyData.tuple (adDs as)).bulk ≤ 80000
  b2 : (PyData.tuple (adDs run)).bulk ≤ 80000
  ok : stB j (.tuple (adDs as)) = true
  go : walkL j [] (adDs run) = true
theorem stB_none {j : J} (hs : j.stb) : stB j (.tuple (adDs [])) = true :=
  (stB_ad hs []).mpr ⟨fun a ha => absurd ha List.not_mem_nil, rfl, fun a _ b hb _ => absurd hb List.not_mem_nil⟩
theorem BothAt.same {K : PySem.W.Frag} {H H' : Hp} {v r s : V} {j : J} {as run : List (List Int)} (R : BothAt K H v r s j as run) (t : Same H H') : BothAt K H' v r s j as run :=
  ⟨dp_same t R.dv, dp_same t R.dr, dp_same t R.ds, R.d20, R.stb, R.sz, R.st, R.b1, R.b2, R.ok, R.go⟩
theorem BothAt.none {K : PySem.W.Frag} {H : Hp} {v r s e : V} {j : J} {as run : List (List Int)} (R : BothAt K H v r s j as run) (he : Dp K H e (.tuple [])) : RunAt K H v r e j [] run :=
  ⟨R.dv, R.dr, he, R.d20, R.stb, R.sz, R.st, by simp [adDs, PyData.bulk, PyData.bulkAll], R.b2, stB_none R.stb, R.go⟩
theorem BothAt.facts {K : PySem.W.Frag} {H : Hp} {v r s : V} {j : J} {as run : List (List Int)} (R : BothAt K H v r s j as run) : (∀ a ∈ run, a ∈ j.adr) ∧ Clo j run ∧ run.Nodup ∧ run.length ≤ 400 := by
  have rf := walkL_run R.go
  obtain ⟨c, n⟩ := rf.clo (fun a _ b hb _ => absurd hb List.not_mem_nil) List.nodup_nil
  have m := rf.mem
  have := nodup_len _ _ n m
  have := J.adr_len j R.stb
  have := R.st
  exact ⟨m, c, n, by simp at *; omega⟩
section
variable {P : Program} {w : World} {K : PySem.W.Frag} {mg : Str → Option Value} {base : Heap}
def spSR (P : Program) (w : World) (K : PySem.W.Frag) : Sp := fun vs H Q _ => ∃ (v r s : V) (j : J) (as run : List (List Int)), vs = [v, r, s] ∧ BothAt K H v r s j as run ∧
  ∀ H' da dd, Same H H' → H' da = some (DtO P w da dd) → KeysAt K H' dd → (∀ k, (look dd k).isSome = as.contains k) → Q (.ref da) H'
theorem ok_sr (T : Txt K mg) : FnOk P w K mg base CX0 48 T.f__steps_of_run_and_state T.d__steps_of_run_and_state ["job", "run", "state"] (spSR P w K) := by
  have g__steps_after := ok_sa (P := P) (w := w) (base := base) T
  have g_checked_state := ok_ckst (P := P) (w := w) (base := base) T
  refine T.F__steps_of_run_and_state.ok sc__steps_of_run_and_state (fun vs H Q E h => ?_) (fun cdv A outer s H vs Q E hr h => ?_)
  · obtain ⟨v, r, s, j, as, run, rfl, _⟩ := h
    rfl
  obtain ⟨v, r, st, j, as, run, rfl, R, q⟩ := h
  refine ⟨_, (pss_cons (ps_expr (pe_call g__steps_after (hr.mono (by omega)) rfl T.m__steps_after T.F__steps_after.kp T.b__steps_after .nil passN (pa_cons (pv 0) (pa_cons (pv 1) (pa_cons (pe_tup pa_nil) pa_nil)))))
      (pss_one (ps_ret (pe_fld (pe_call g_checked_state (hr.mono (by omega)) rfl T.m_checked_state T.F_checked_state.kp T.b_checked_state .nil passN (pa_cons (pv 0) (pa_cons (pv 2) pa_nil))) rfl)))), ?_⟩
  refine ⟨_, rfl, _, rfl, Nat.zero_le _, fun e he => ?_⟩
  have s1 : Same H (upd H e (.tup [])) := same_new he
  have R1 := R.same s1
  have e1 : Dp K (upd H e (.tup [])) (.ref e) (.tuple []) := .tup (SqT.of upd_same) .nil
  refine ⟨v, r, .ref e, j, [], run, rfl, R1.none e1, fun H2 x D => ?_⟩
  have R2 := R1.same D.same
  refine ⟨_, rfl, _, rfl, v, st, 0, _, j, rfl, R2.dv, dq_of (ads_noLR as) R2.ds, R2.b1, R2.d20, R2.stb, R2.st, fun _ H3 x3 D3 => ?_, fun e => by rw [R2.ok] at e; cases e⟩
  rw [all_adR R2.ok] at D3
  obtain ⟨S3, dx, ra, da, ba, ua, rr, dd, bb, h1, _, ⟨h4, h5, h6, _⟩, _⟩ := D3
  refine ⟨x3, _, dx, _, _, rfl, h1, T.cl_DoneSteps, T.na_DoneSteps_done, dl_done _ _ _ _, q H3 da dd (s1.trans (D.same.trans S3)) h4 h5 h6⟩
def spLift (K : PySem.W.Frag) (f : List (List Int) → List Int → Bool) : Sp := fun vs H Q _ => ∃ (v r s : V) (j : J) (as run : List (List Int)), vs = [v, r, s] ∧ BothAt K H v r s j as run ∧
  ∀ (H' : Hp) (t : Addr) (xs : List V), Same H H' → SqT K H' t xs → DpAll K H' xs (adDs (run.filter (f as))) → Q (.ref t) H'
theorem ok_lift (T : Txt K mg) : FnOk P w K mg base CX0 49 T.f_lift_run T.d_lift_run ["job", "run", "state"] (spLift K fun as a => !as.contains a) := by
  have g__steps_of_run_and_state := ok_sr (P := P) (w := w) (base := base) T
  refine T.F_lift_run.ok sc_lift_run (fun vs H Q E h => ?_) (fun cdv A outer s H vs Q E hr h => ?_)
  · obtain ⟨v, r, s, j, as, run, rfl, _⟩ := h
    rfl
  obtain ⟨v, r, st, j, as, run, rfl, R, q⟩ := h
  have hu := hu_of hr
  refine ⟨_, (pss_cons (ps_set (i := 3) sc_lift_run.nd rfl (Or.inr rfl) (pe_call g__steps_of_run_and_state (hr.mono (by omega)) rfl T.m__steps_of_run_and_state T.F__steps_of_run_and_state.kp T.b__steps_of_run_and_state .nil pass0 (pa_cons (pv 0) (pa_cons (pv 1) (pa_cons (pv 2) pa_nil)))))
      (pss_one (ps_ret (pe_callTy (r := rTupS K) call_tupS (by rfl) T.n_tuple (by decide +kernel) (pa_cons (pe_lc (own := [("address", 4)]) (g := (gName 4)) (by rfl) sc_lift_run.nd (pi_tup (pv 1)) (blkOk_by (N := N_lift_run) (sc := (defScope s_lift_run)) (by decide +kernel)) (fun _ _ _ _ _ => (pg_name (i := 4) sc_lift_run.nd rfl (Or.inl rfl))) (fun _ _ _ _ _ => (pts_one (pt_cmp (pc_dtNotInK P w K rfl rfl rfl hu (pv 4) (pv 3))))) (fun _ _ _ _ _ => (pv 4))) pa_nil))))), ?_⟩
  refine ⟨_, rfl, _, rfl, _, rfl, v, r, st, j, as, run, rfl, R, fun H1 da dd S1 h4 h5 h6 => ?_⟩
  obtain ⟨tr, ws, etr, hws, hwa⟩ := dp_tup_inv R.dr
  cases etr
  have hws := same_sqT S1 hws
  have hwa := dpAll_same S1 hwa
  have wl : ws.length = run.length := by rw [dpAll_length hwa, adDs, List.length_map]
  have r400 := R.facts.2.2.2
  refine ⟨_, rfl, _, rfl, ⟨ws, hws⟩, fun C hC => ?_⟩
  refine lc_tup (K := K) (a := tr) (xs := ws) (fun n F => Same H1 F ∧ ∃ zs : List V, F C = some (.lst zs) ∧ DpAll K F zs (adDs ((run.take n).filter fun a => !as.contains a))) ?_ ?_ ?_ ?_
  · exact ⟨same_new hC, [], upd_same, by simpa [adDs] using .nil⟩
  · rintro n F _ ⟨sF, _⟩
    exact same_sqT sF hws
  · rintro n y F hn ⟨sF, zs, eC, hzs⟩
    obtain ⟨tb, a, ea, rfl, htb⟩ := ad_at hwa hn
    have htb := same_sqT sF htb
    have nl := (List.getElem?_eq_some_iff.mp ea).1
    have etk : run.take (n + 1) = run.take n ++ [a] := by rw [List.take_add_one, ea]; rfl
    have zl : zs.length ≤ 400 := by
      rw [dpAll_length hzs, adDs, List.length_map]
      refine Nat.le_trans (List.length_filter_le _ _) ?_
      rw [List.length_take]
      omega
    refine ⟨rfl, ?_⟩
    refine ⟨_, rfl, _, rfl, look dd a, ⟨da, tb, dd, a, rfl, rfl, .inl (sF _ _ h4), h5.keep (fun a xs h => same_sqT sF h), htb, rfl⟩, _, rfl, ?_⟩
    rw [h6]
    cases ec : as.contains a with
    | false =>
      refine iteT ?_
      refine ⟨_, rfl, zs, eC, small1000 (by omega), ?_, zs ++ [.ref tb], upd_same, ?_⟩
      · intro c o hc
        rw [upd_ne (ne_of_none hc hC)]
        exact sF _ _ hc
      · rw [etk, List.filter_append, List.filter_cons_of_pos (p := fun a => !as.contains a) (by show (!as.contains a) = true; rw [ec]; rfl), List.filter_nil, adDs, List.map_append]
        have k7 : ∀ a xs, SqT K F a xs → SqT K (upd F C (.lst (zs ++ [.ref tb]))) a xs := fun a xs h => (sx_upd (p := C)).sqT eC h
        exact dpAll_append (dpAll_keep k7 (noLs_ad _) hzs) (.cons (dp_keep k7 (noL_ad _) (.tup htb (ints_dp' a))) .nil)
    | true =>
      refine iteF ?_
      refine ⟨sF, zs, eC, ?_⟩
      rw [etk, List.filter_append, List.filter_cons_of_neg (p := fun a => !as.contains a) (by show ¬ (!as.contains a) = true; rw [ec]; exact Bool.false_ne_true), List.filter_nil, List.append_nil]
      exact hzs
  rintro F ⟨sF, zs, eC, hzs⟩
  rw [wl, List.take_length] at hzs
  refine ⟨C, zs, rfl, .inl ⟨SqL.of eC, fun t ht => ?_⟩⟩
  have ut : Same F (upd F t (.tup zs)) := same_new ht
  exact q _ t zs (S1.trans (sF.trans ut)) (SqT.of upd_same) (dpAll_same ut hzs)
theorem ok_cut (T : Txt K mg) : FnOk P w K mg base CX0 49 T.f_cut_run T.d_cut_run ["job", "run", "state"] (spLift K fun as a => as.contains a) := by
  have g__steps_of_run_and_state := ok_sr (P := P) (w := w) (base := base) T
  refine T.F_cut_run.ok sc_cut_run (fun vs H Q E h => ?_) (fun cdv A outer s H vs Q E hr h => ?_)
  · obtain ⟨v, r, s, j, as, run, rfl, _⟩ := h
    rfl
  obtain ⟨v, r, st, j, as, run, rfl, R, q⟩ := h
  have hu := hu_of hr
  refine ⟨_, (pss_cons (ps_set (i := 3) sc_cut_run.nd rfl (Or.inr rfl) (pe_call g__steps_of_run_and_state (hr.mono (by omega)) rfl T.m__steps_of_run_and_state T.F__steps_of_run_and_state.kp T.b__steps_of_run_and_state .nil pass0 (pa_cons (pv 0) (pa_cons (pv 1) (pa_cons (pv 2) pa_nil)))))
      (pss_one (ps_ret (pe_callTy (r := rTupS K) call_tupS (by rfl) T.n_tuple (by decide +kernel) (pa_cons (pe_lc (own := [("address", 4)]) (g := (gName 4)) (by rfl) sc_cut_run.nd (pi_tup (pv 1)) (blkOk_by (N := N_cut_run) (sc := (defScope s_cut_run)) (by decide +kernel)) (fun _ _ _ _ _ => (pg_name (i := 4) sc_cut_run.nd rfl (Or.inl rfl))) (fun _ _ _ _ _ => (pts_one (pt_cmp (pc_dtInK P w K rfl rfl rfl hu (pv 4) (pv 3))))) (fun _ _ _ _ _ => (pv 4))) pa_nil))))), ?_⟩
  refine ⟨_, rfl, _, rfl, _, rfl, v, r, st, j, as, run, rfl, R, fun H1 da dd S1 h4 h5 h6 => ?_⟩
  obtain ⟨tr, ws, etr, hws, hwa⟩ := dp_tup_inv R.dr
  cases etr
  have hws := same_sqT S1 hws
  have hwa := dpAll_same S1 hwa
  have wl : ws.length = run.length := by rw [dpAll_length hwa, adDs, List.length_map]
  have r400 := R.facts.2.2.2
  refine ⟨_, rfl, _, rfl, ⟨ws, hws⟩, fun C hC => ?_⟩
  refine lc_tup (K := K) (a := tr) (xs := ws) (fun n F => Same H1 F ∧ ∃ zs : List V, F C = some (.lst zs) ∧ DpAll K F zs (adDs ((run.take n).filter fun a => as.contains a))) ?_ ?_ ?_ ?_
  · exact ⟨same_new hC, [], upd_same, by simpa [adDs] using .nil⟩
  · rintro n F _ ⟨sF, _⟩
    exact same_sqT sF hws
  · rintro n y F hn ⟨sF, zs, eC, hzs⟩
    obtain ⟨tb, a, ea, rfl, htb⟩ := ad_at hwa hn
    have htb := same_sqT sF htb
    have nl := (List.getElem?_eq_some_iff.mp ea).1
    have etk : run.take (n + 1) = run.take n ++ [a] := by rw [List.take_add_one, ea]; rfl
    have zl : zs.length ≤ 400 := by
      rw [dpAll_length hzs, adDs, List.length_map]
      refine Nat.le_trans (List.length_filter_le _ _) ?_
      rw [List.length_take]
      omega
    refine ⟨rfl, ?_⟩
    refine ⟨_, rfl, _, rfl, look dd a, ⟨da, tb, dd, a, rfl, rfl, .inl (sF _ _ h4), h5.keep (fun a xs h => same_sqT sF h), htb, rfl⟩, _, rfl, ?_⟩
    rw [h6]
    cases ec : as.contains a with
    | true =>
      refine iteT ?_
      refine ⟨_, rfl, zs, eC, small1000 (by omega), ?_, zs ++ [.ref tb], upd_same, ?_⟩
      · intro c o hc
        rw [upd_ne (ne_of_none hc hC)]
        exact sF _ _ hc
      · rw [etk, List.filter_append, List.filter_cons_of_pos (p := fun a => as.contains a) (ec), List.filter_nil, adDs, List.map_append]
        have k7 : ∀ a xs, SqT K F a xs → SqT K (upd F C (.lst (zs ++ [.ref tb]))) a xs := fun a xs h => (sx_upd (p := C)).sqT eC h
        exact dpAll_append (dpAll_keep k7 (noLs_ad _) hzs) (.cons (dp_keep k7 (noL_ad _) (.tup htb (ints_dp' a))) .nil)
    | false =>
      refine iteF ?_
      refine ⟨sF, zs, eC, ?_⟩
      rw [etk, List.filter_append, List.filter_cons_of_neg (p := fun a => as.contains a) (by rw [ec]; exact Bool.false_ne_true), List.filter_nil, List.append_nil]
      exact hzs
  rintro F ⟨sF, zs, eC, hzs⟩
  rw [wl, List.take_length] at hzs
  refine ⟨C, zs, rfl, .inl ⟨SqL.of eC, fun t ht => ?_⟩⟩
  have ut : Same F (upd F t (.tup zs)) := same_new ht
  exact q _ t zs (S1.trans (sF.trans ut)) (SqT.of upd_same) (dpAll_same ut hzs)
end

/-! block LiftM: the mathematics of lift_run and cut_run (behind bLift) -/
theorem lift_go {j : J} {as : List (List Int)} : ∀ (run done done' : List (List Int)), (∀ x, x ∈ done' ↔ x ∈ as ∨ x ∈ done) → RunF j done run → RunF j done' (run.filter fun a => !as.contains a)
  | [], _, _, _, _ => trivial
  | a :: run, done, done', hd, h => by
    obtain ⟨⟨ha, hr⟩, ht⟩ := h
    obtain ⟨na, hb⟩ := rdy_iff.mp hr
    by_cases e : a ∈ as
    · rw [List.filter_cons_of_neg (by simp [e])]
      refine lift_go run (done ++ [a]) done' (fun x => ?_) ht
      rw [hd, List.mem_append, List.mem_singleton]
      constructor
      · rintro (h | h)
        · exact .inl h
        · exact .inr (.inl h)
      · rintro (h | h | rfl)
        · exact .inl h
        · exact .inr h
        · exact .inl e
    · rw [List.filter_cons_of_pos (by simp [e])]
      refine ⟨⟨ha, rdy_iff.mpr ⟨fun z => ?_, fun o ho hoa => (hd o).mpr (.inr (hb o ho hoa))⟩⟩, lift_go run (done ++ [a]) (done' ++ [a]) (fun x => by simp [hd, or_assoc]) ht⟩
      rcases (hd a).mp z with z | z
      · exact e z
      · exact na z
theorem cut_go {j : J} {as : List (List Int)} (c : Clo j as) : ∀ (run done done' : List (List Int)), (∀ x, x ∈ done' ↔ x ∈ as ∧ x ∈ done) → RunF j done run → RunF j done' (run.filter fun a => as.contains a)
  | [], _, _, _, _ => trivial
  | a :: run, done, done', hd, h => by
    obtain ⟨⟨ha, hr⟩, ht⟩ := h
    obtain ⟨na, hb⟩ := rdy_iff.mp hr
    by_cases e : a ∈ as
    · rw [List.filter_cons_of_pos (by simp [e])]
      refine ⟨⟨ha, rdy_iff.mpr ⟨fun z => na ((hd a).mp z).2, fun o ho hoa => (hd o).mpr ⟨c o ho a e hoa, hb o ho hoa⟩⟩⟩, cut_go c run (done ++ [a]) (done' ++ [a]) (fun x => ?_) ht⟩
      rw [List.mem_append, List.mem_append, List.mem_singleton, hd]
      constructor
      · rintro (⟨h1, h2⟩ | rfl)
        · exact ⟨h1, .inl h2⟩
        · exact ⟨e, .inr rfl⟩
      · rintro ⟨h1, h2 | h2⟩
        · exact .inl ⟨h1, h2⟩
        · exact .inr h2
    · rw [List.filter_cons_of_neg (by simp [e])]
      refine cut_go c run (done ++ [a]) done' (fun x => ?_) ht
      rw [hd, List.mem_append, List.mem_singleton]
      constructor
      · rintro ⟨h1, h2⟩
        exact ⟨h1, .inl h2⟩
      · rintro ⟨h1, h2 | rfl⟩
        · exact ⟨h1, h2⟩
        · exact absurd h1 e
theorem runF_walk15 {j : J} : ∀ {run as : List (List Int)}, RunF j as run → walkL j as (adDs run) = true
  | [], _, _ => rfl
  | a :: run, as, h => by
    show walkL j as (adD a :: adDs run) = true
    rw [walkL, intsOf_ad]
    have e1 : isAdr j (adD a) = true := by
      unfold isAdr
      rw [Bool.and_eq_true, List.contains_iff_mem, intsOf_ad]
      exact ⟨isIdx_ad a, h.1.1⟩
    rw [if_pos (by rw [e1, h.1.2]; rfl)]
    exact runF_walk15 h.2
theorem sumsR_get (R : List SRow) : ∀ (run : List (List Int)) (t : Int) (k : Nat), k ≤ run.length → (sumsR R run t)[k]? = some (t + useR R (run.take k))
  | [], t, k, h => by
    have e : k = 0 := by simpa using h
    subst e
    simp [sumsR, useR]
  | a :: run, t, 0, _ => by simp [sumsR, useR]
  | a :: run, t, k + 1, h => by
    rw [sumsR, List.getElem?_cons_succ, sumsR_get R run _ k (by simpa using h), List.take_succ_cons]
    simp only [useR, List.map_cons, List.sum_cons]
    congr 1
    omega
theorem use_split (R : List SRow) (p : List Int → Bool) : ∀ l : List (List Int), useR R (l.filter fun a => !p a) + useR R (l.filter p) = useR R l
  | [] => by simp [useR]
  | a :: l => by
    have ih := use_split R p l
    cases e : p a with
    | true =>
      rw [List.filter_cons_of_neg (by simp [e]), List.filter_cons_of_pos (p := p) e]
      simp only [useR, List.map_cons, List.sum_cons] at ih ⊢
      omega
    | false =>
      rw [List.filter_cons_of_pos (by simp [e]), List.filter_cons_of_neg (p := p) (by simp [e])]
      simp only [useR, List.map_cons, List.sum_cons] at ih ⊢
      omega
theorem filter_take_len {α : Type} (p : α → Bool) (l : List α) (n : Nat) : (l.filter p).take ((l.take n).filter p).length = (l.take n).filter p := by
  have e : l.filter p = (l.take n).filter p ++ (l.drop n).filter p := by rw [← List.filter_append, List.take_append_drop]
  rw [e, List.take_left]
theorem filter_take_le {α : Type} (p : α → Bool) (l : List α) (n : Nat) : ((l.take n).filter p).length ≤ (l.filter p).length := by
  have e : l.filter p = (l.take n).filter p ++ (l.drop n).filter p := by rw [← List.filter_append, List.take_append_drop]
  rw [e, List.length_append]
  omega

/-! block LiftP: _law_prefixes_right (behind bLiftM) -/
structure Lifted (K : PySem.W.Frag) (H : Hp) (l c : V) (as run : List (List Int)) : Prop where
  dl : Dp K H l (.tuple (adDs (run.filter fun a => !as.contains a)))
  dc : Dp K H c (.tuple (adDs (run.filter fun a => as.contains a)))
theorem Lifted.same {K : PySem.W.Frag} {H H' : Hp} {l c : V} {as run : List (List Int)} (L : Lifted K H l c as run) (s : Same H H') : Lifted K H' l c as run := ⟨dp_same s L.dl, dp_same s L.dc⟩
theorem filt_bulk {as : List (List Int)} (p : List Int → Bool) : ∀ l : List (List Int), (PyData.tuple (adDs (l.filter p))).bulk ≤ (PyData.tuple (adDs l)).bulk
  | [] => Nat.le_refl _
  | a :: l => by
    have ih := filt_bulk (as := as) p l
    cases e : p a with
    | true =>
      rw [List.filter_cons_of_pos e]
      simp only [adDs, List.map_cons, PyData.bulk, PyData.bulkAll] at ih ⊢
      omega
    | false =>
      rw [List.filter_cons_of_neg (by simp [e])]
      simp only [adDs, List.map_cons, PyData.bulk, PyData.bulkAll] at ih ⊢
      omega
theorem BothAt.lifted {K : PySem.W.Frag} {H : Hp} {v r s l c : V} {j : J} {as run : List (List Int)} (R : BothAt K H v r s j as run) (L : Lifted K H l c as run) : RunAt K H v l s j as (run.filter fun a => !as.contains a) := by
  refine ⟨R.dv, L.dl, R.ds, R.d20, R.stb, R.sz, R.st, R.b1, Nat.le_trans (filt_bulk (as := as) _ run) R.b2, R.ok, ?_⟩
  exact runF_walk15 (lift_go run [] as (fun x => by simp) (walkL_run R.go))
theorem BothAt.cut {K : PySem.W.Frag} {H : Hp} {v r s l c e : V} {j : J} {as run : List (List Int)} (R : BothAt K H v r s j as run) (L : Lifted K H l c as run) (he : Dp K H e (.tuple [])) : RunAt K H v c e j [] (run.filter fun a => as.contains a) := by
  obtain ⟨hm, asc, clo⟩ := (stB_ad R.stb as).mp R.ok
  refine ⟨R.dv, L.dc, he, R.d20, R.stb, R.sz, R.st, by simp [adDs, PyData.bulk, PyData.bulkAll], Nat.le_trans (filt_bulk (as := as) _ run) R.b2, stB_none R.stb, ?_⟩
  exact runF_walk15 (cut_go clo run [] [] (fun x => by simp) (walkL_run R.go))
theorem sums_pt (R : List SRow) (as run : List (List Int)) (n : Nat) (h : n ≤ run.length) :
    (sumsR R (run.filter fun a => !as.contains a) (useR R as))[((run.take n).filter fun a => !as.contains a).length]? = some (useR R as + useR R ((run.take n).filter fun a => !as.contains a)) ∧
    (sumsR R (run.filter fun a => as.contains a) (useR R []))[((run.take n).filter fun a => as.contains a).length]? = some (useR R ((run.take n).filter fun a => as.contains a)) ∧
    (sumsR R run (useR R []))[n]? = some (useR R (run.take n)) := by
  have e0 : useR R [] = 0 := rfl
  refine ⟨?_, ?_, ?_⟩
  · rw [sumsR_get R _ _ _ (filter_take_le _ run n), filter_take_len]
  · rw [sumsR_get R _ _ _ (filter_take_le _ run n), filter_take_len, e0, Int.zero_add]
  · rw [sumsR_get R _ _ _ h, e0, Int.zero_add]
section
variable {P : Program} {w : World} {K : PySem.W.Frag} {mg : Str → Option Value} {base : Heap}
def spPre (K : PySem.W.Frag) : Sp := fun vs H Q _ => ∃ (v r s l c : V) (j : J) (as run : List (List Int)), vs = [v, r, s, l, c] ∧ BothAt K H v r s j as run ∧ Lifted K H l c as run ∧ ∀ H', Same H H' → Q (.bl true) H'
end

/-! block Union: _check_two_states, union, common (behind bLiftP) -/
/-- two states -/
structure TwoAt (K : PySem.W.Frag) (H : Hp) (v a b : V) (j : J) (as bs : List (List Int)) : Prop where
  dv : Dp K H v j.toD
  da : Dp K H a (.tuple (adDs as))
  db : Dp K H b (.tuple (adDs bs))
  d20 : j.deep ≤ 20
  stb : j.stb
  sz : (szJ j 400 13).isSome = true
  st : j.steps ≤ 60
  b1 : (PyData.tuple (adDs as)).bulk ≤ 80000
  b2 : (PyData.tuple (adDs bs)).bulk ≤ 80000
  oka : stB j (.tuple (adDs as)) = true
  okb : stB j (.tuple (adDs bs)) = true
theorem TwoAt.same {K : PySem.W.Frag} {H H' : Hp} {v a b : V} {j : J} {as bs : List (List Int)} (R : TwoAt K H v a b j as bs) (t : Same H H') : TwoAt K H' v a b j as bs :=
  ⟨dp_same t R.dv, dp_same t R.da, dp_same t R.db, R.d20, R.stb, R.sz, R.st, R.b1, R.b2, R.oka, R.okb⟩
theorem ksU_of {K : PySem.W.Frag} {H : Hp} : ∀ {xs : List V} {as : List (List Int)}, DpAll K H xs (adDs as) → ∃ ks : List (Addr × List Int), xs = ks.map (fun p => V.ref p.1) ∧ ks.map (·.2) = as ∧ ∀ p ∈ ks, SqT K H p.1 (p.2.map V.int)
  | _, [], h => by
    cases h
    exact ⟨[], rfl, rfl, fun p hp => nomatch hp⟩
  | _, a :: as, h => by
    cases h with
    | cons hx hr =>
    obtain ⟨t, ys, rfl, ht, hys⟩ := dp_tup_inv hx
    obtain rfl := Lw.ints_vals hys
    obtain ⟨ks, rfl, e2, h3⟩ := ksU_of hr
    refine ⟨(t, a) :: ks, rfl, by rw [List.map_cons, e2], fun p hp => ?_⟩
    rcases List.mem_cons.mp hp with rfl | hp
    · exact ht
    · exact h3 p hp
theorem ksU_dp {K : PySem.W.Frag} {H : Hp} : ∀ {ks : List (Addr × List Int)}, (∀ p ∈ ks, SqT K H p.1 (p.2.map V.int)) → DpAll K H (ks.map fun p => V.ref p.1) (adDs (ks.map (·.2)))
  | [], _ => .nil
  | p :: ks, h => .cons (.tup (h p (List.mem_cons_self ..)) (ints_dp' p.2)) (ksU_dp fun q hq => h q (List.mem_cons_of_mem _ hq))
theorem two_tup {j : J} {l : List (List Int)} (hm : ∀ a ∈ l, a ∈ j.adr) (nd : l.Nodup) (h2 : 2 ≤ l.length) : ∀ a ∈ l, a ≠ [] := by
  have etu : isTup j.toD = true := by
    cases j with
    | st i =>
      exfalso
      have : l.length ≤ (J.st i).adr.length := nodup_len l _ nd hm
      have : (J.st i).adr.length = 1 := rfl
      omega
    | ps k xs => rfl
    | rn k c x => rfl
  exact fun a ha => adr_tup etu a (hm a ha)
section
variable {P : Program} {w : World} {K : PySem.W.Frag} {mg : Str → Option Value} {base : Heap}
def spTwo (K : PySem.W.Frag) : Sp := fun vs H Q _ => ∃ (v a b : V) (j : J) (as bs : List (List Int)), vs = [v, a, b] ∧ TwoAt K H v a b j as bs ∧ ∀ H', Same H H' → Q .non H'
theorem ok_two (T : Txt K mg) : FnOk P w K mg base CX0 46 T.f__check_two_states T.d__check_two_states ["job", "first", "second"] (spTwo K) := by
  have g_check_small := ok_cksmall (P := P) (w := w) (base := base) T
  have g_checked_state := ok_ckst (P := P) (w := w) (base := base) T
  refine T.F__check_two_states.ok sc__check_two_states (fun vs H Q E h => ?_) (fun cdv A outer s H vs Q E hr h => ?_)
  · obtain ⟨v, a, b, j, as, bs, rfl, _⟩ := h
    rfl
  obtain ⟨v, a, b, j, as, bs, rfl, R, q⟩ := h
  refine ⟨_, (pss_cons (ps_expr (pe_call g_check_small (hr.mono (by omega)) rfl T.m_check_small T.F_check_small.kp T.b_check_small .nil pass0 (pa_cons (pv 0) pa_nil)))
      (pss_cons (ps_expr (pe_call g_checked_state (hr.mono (by omega)) rfl T.m_checked_state T.F_checked_state.kp T.b_checked_state .nil passN (pa_cons (pv 0) (pa_cons (pv 1) pa_nil))))
      (pss_one (ps_expr (pe_call g_checked_state (hr.mono (by omega)) rfl T.m_checked_state T.F_checked_state.kp T.b_checked_state .nil passN (pa_cons (pv 0) (pa_cons (pv 2) pa_nil))))))), ?_⟩
  have s400 : j.steps ≤ 400 := by have := R.st; omega
  refine ⟨_, rfl, v, j, rfl, R.dv, R.d20, R.sz, s400, fun H1 s1 => ?_⟩
  have R1 := R.same s1
  refine ⟨_, rfl, _, rfl, v, a, 0, _, j, rfl, R1.dv, dq_of (ads_noLR as) R1.da, R1.b1, R1.d20, R1.stb, s400, fun _ H2 x2 D2 => ?_, fun e => by rw [R1.oka] at e; cases e⟩
  have R2 := R1.same D2.same
  refine ⟨_, rfl, _, rfl, v, b, 0, _, j, rfl, R2.dv, dq_of (ads_noLR bs) R2.db, R2.b2, R2.d20, R2.stb, s400, fun _ H3 x3 D3 => ?_, fun e => by rw [R2.okb] at e; cases e⟩
  exact q _ (s1.trans (D2.same.trans D3.same))
def spUni (K : PySem.W.Frag) (f : List (List Int) → List (List Int) → List Int → Prop) : Sp := fun vs H Q _ => ∃ (v a b : V) (j : J) (as bs : List (List Int)), vs = [v, a, b] ∧ TwoAt K H v a b j as bs ∧
  ∀ (H' : Hp) (t : Addr) (xs : List V) (ls : List (List Int)), Same H H' → SqT K H' t xs → DpAll K H' xs (adDs ls) → (∀ x, x ∈ ls ↔ f as bs x) → ls.Nodup → Asc ls → Q (.ref t) H'
/-- a set of addresses, sorted and laid in a tuple -/
theorem union_end {H3 : Hp} {Q : VK} {S : Addr} {L : List (Addr × List Int)} {j : J} {H : Hp} {f : List Int → Prop} (S3 : Same H H3) (e3 : H3 S = some (SetTO P w S L)) (hk : ∀ r ∈ L, SqT K H3 r.1 (r.2.map V.int)) (ha : ∀ r ∈ L, r.2 ∈ j.adr) (hf : ∀ x, x ∈ L.map (·.2) ↔ f x)
    (go : ∀ (H' : Hp) (t : Addr) (xs : List V) (ls : List (List Int)), Same H3 H' → SqT K H' t xs → DpAll K H' xs (adDs ls) → (∀ x, x ∈ ls ↔ f x) → ls.Nodup → Asc ls → Q (.ref t) H') :
    rSortSZ K P w [.ref S] H3 (fun x H1 => rTupS K [x] H1 Q) := by
  refine ⟨S, L, rfl, e3, hk, fun ndL h2 p hp => ?_, fun M B pm nd pw lM hB => ?_⟩
  · refine two_tup (j := j) (l := L.map (·.2)) (fun a ha' => ?_) ndL (by rw [List.length_map]; exact h2) p.2 (List.mem_map.mpr ⟨p, hp, rfl⟩)
    obtain ⟨r, hr, rfl⟩ := List.mem_map.mp ha'
    exact ha r hr
  have sB : Same H3 (upd H3 B (.lst (M.map fun q => V.ref q.1))) := same_new hB
  have eB : upd H3 B (.lst (M.map fun q => V.ref q.1)) B = some (.lst (M.map fun q => V.ref q.1)) := upd_same
  generalize (upd H3 B (.lst (M.map fun q => V.ref q.1))) = H4 at sB eB ⊢
  refine ⟨B, _, rfl, .inl ⟨SqL.of eB, fun t ht => ?_⟩⟩
  have ut : Same H4 (upd H4 t (.tup (M.map fun q => V.ref q.1))) := same_new ht
  refine go _ t _ (M.map (·.2)) (sB.trans ut) (SqT.of upd_same) (ksU_dp fun r hr => same_sqT (sB.trans ut) (hk r (pm.mem_iff.mp hr))) (fun x => by rw [(pm.map (·.2)).mem_iff, hf]) nd (asc_weak nd (List.pairwise_map.mpr pw))
theorem ok_union (T : Txt K mg) : FnOk P w K mg base CX0 47 T.f_union T.d_union ["job", "first", "second"] (spUni K fun as bs x => x ∈ as ∨ x ∈ bs) := by
  have g__check_two_states := ok_two (P := P) (w := w) (base := base) T
  refine T.F_union.ok sc_union (fun vs H Q E h => ?_) (fun cdv A outer s H vs Q E hr h => ?_)
  · obtain ⟨v, a, b, j, as, bs, rfl, _⟩ := h
    rfl
  obtain ⟨v, a, b, j, as, bs, rfl, R, q⟩ := h
  refine ⟨_, (pss_cons (ps_expr (pe_call g__check_two_states (hr.mono (by omega)) rfl T.m__check_two_states T.F__check_two_states.kp T.b__check_two_states .nil pass0 (pa_cons (pv 0) (pa_cons (pv 1) (pa_cons (pv 2) pa_nil)))))
      (pss_one (ps_ret (pe_callTy (r := rTupS K) call_tupS (by rfl) T.n_tuple (by decide +kernel) (pa_cons (pe_callB (r := rSortSZ K P w) (cr_sortSZ rfl) (by rfl) T.n_sorted (by decide +kernel) (pa_cons (pe_callTy (r := rSetTW K P w) (cr_setTW rfl (Nat.lt_of_le_of_lt (Nat.add_le_add_left (by decide) _) (room66 hr))) (by rfl) T.n_set (by decide +kernel) (pa_cons (pe_op (r := rCatA K) op_catA (pv 1) (pv 2)) pa_nil)) pa_nil)) pa_nil))))), ?_⟩
  refine ⟨_, rfl, _, rfl, _, rfl, v, a, b, j, as, bs, rfl, R, fun H1 s1 => ?_⟩
  have R1 := R.same s1
  obtain ⟨ha, asca, cloa⟩ := (stB_ad R.stb as).mp R.oka
  obtain ⟨hb, ascb, clob⟩ := (stB_ad R.stb bs).mp R.okb
  obtain ⟨ta, us, eta, hus, hua⟩ := dp_tup_inv R1.da
  cases eta
  obtain ⟨tb, ws, etb, hws, hwa⟩ := dp_tup_inv R1.db
  cases etb
  obtain ⟨ka, rfl, eka, hka⟩ := ksU_of hua
  obtain ⟨kb, rfl, ekb, hkb⟩ := ksU_of hwa
  have alen := J.adr_len j R.stb
  have st := R.st
  have la := nodup_len as _ (asc_nodup ((ascB_iff as).mp asca)) ha
  have lb := nodup_len bs _ (asc_nodup ((ascB_iff bs).mp ascb)) hb
  have la2 : ka.length = as.length := by rw [← eka, List.length_map]
  have lb2 : kb.length = bs.length := by rw [← ekb, List.length_map]
  refine ⟨_, rfl, _, rfl, ?_⟩
  refine rCatA_q hus hws (small (by simp only [List.length_map]; omega)) (fun H2 t s2 q2 => ?_)
  have hk2 : ∀ p ∈ ka ++ kb, SqT K H2 p.1 (p.2.map V.int) := fun p hp => by
    rcases List.mem_append.mp hp with hp | hp
    · exact same_sqT s2 (hka p hp)
    · exact same_sqT s2 (hkb p hp)
  have adr_ : ∀ p ∈ ka ++ kb, p.2 ∈ j.adr := fun p hp => by
    rcases List.mem_append.mp hp with hp | hp
    · exact ha _ (by rw [← eka]; exact List.mem_map.mpr ⟨p, hp, rfl⟩)
    · exact hb _ (by rw [← ekb]; exact List.mem_map.mpr ⟨p, hp, rfl⟩)
  refine ⟨t, ka ++ kb, rfl, by rw [List.map_append]; exact q2, hk2, fun L hL nd => ?_, fun S L hS hL1 hL2 => ?_⟩
  · have := nodup_len (L.map (·.2)) _ nd fun a ha => by
      obtain ⟨r, hr, rfl⟩ := List.mem_map.mp ha
      exact adr_ r (hL r hr)
    rw [List.length_map] at this
    omega
  have s3 : Same H2 (upd H2 S (SetTO P w S L)) := same_new hS
  have e3 : upd H2 S (SetTO P w S L) S = some (SetTO P w S L) := upd_same
  generalize (upd H2 S (SetTO P w S L)) = H3 at s3 e3 ⊢
  have S3 := s1.trans (s2.trans s3)
  refine union_end (j := j) S3 e3 (fun r hr => same_sqT s3 (hk2 r (hL1 r hr))) (fun r hr => adr_ r (hL1 r hr)) (fun x => ?_) fun H' u xs ls sm hu hx hf nd asc => q H' u xs ls (S3.trans sm) hu hx hf nd asc
  show x ∈ L.map (·.2) ↔ x ∈ as ∨ x ∈ bs
  rw [← eka, ← ekb, ← List.mem_append, ← List.map_append]
  constructor
  · intro h
    obtain ⟨r, hr, rfl⟩ := List.mem_map.mp h
    exact List.mem_map.mpr ⟨r, hL1 r hr, rfl⟩
  · intro h
    obtain ⟨r, hr, rfl⟩ := List.mem_map.mp h
    exact hL2 r hr
theorem ok_common (T : Txt K mg) : FnOk P w K mg base CX0 47 T.f_common T.d_common ["job", "first", "second"] (spUni K fun as bs x => x ∈ as ∧ x ∈ bs) := by
  have g__check_two_states := ok_two (P := P) (w := w) (base := base) T
  refine T.F_common.ok sc_common (fun vs H Q E h => ?_) (fun cdv A outer s H vs Q E hr h => ?_)
  · obtain ⟨v, a, b, j, as, bs, rfl, _⟩ := h
    rfl
  obtain ⟨v, a, b, j, as, bs, rfl, R, q⟩ := h
  refine ⟨_, (pss_cons (ps_expr (pe_call g__check_two_states (hr.mono (by omega)) rfl T.m__check_two_states T.F__check_two_states.kp T.b__check_two_states .nil pass0 (pa_cons (pv 0) (pa_cons (pv 1) (pa_cons (pv 2) pa_nil)))))
      (pss_one (ps_ret (pe_callTy (r := rTupS K) call_tupS (by rfl) T.n_tuple (by decide +kernel) (pa_cons (pe_callB (r := rSortSZ K P w) (cr_sortSZ rfl) (by rfl) T.n_sorted (by decide +kernel) (pa_cons (pe_op (r := rSetAnd K P w) (op_setand rfl (room66 hr)) (pe_callTy (r := rSetTT K P w) (cr_setTT rfl (Nat.lt_of_le_of_lt (Nat.add_le_add_left (by decide) _) (room66 hr))) (by rfl) T.n_set (by decide +kernel) (pa_cons (pv 1) pa_nil)) (pe_callTy (r := rSetTT K P w) (cr_setTT rfl (Nat.lt_of_le_of_lt (Nat.add_le_add_left (by decide) _) (room66 hr))) (by rfl) T.n_set (by decide +kernel) (pa_cons (pv 2) pa_nil))) pa_nil)) pa_nil))))), ?_⟩
  refine ⟨_, rfl, _, rfl, _, rfl, v, a, b, j, as, bs, rfl, R, fun H1 s1 => ?_⟩
  have R1 := R.same s1
  obtain ⟨ha, asca, cloa⟩ := (stB_ad R.stb as).mp R.oka
  obtain ⟨hb, ascb, clob⟩ := (stB_ad R.stb bs).mp R.okb
  obtain ⟨ta, us, eta, hus, hua⟩ := dp_tup_inv R1.da
  cases eta
  obtain ⟨tb, ws, etb, hws, hwa⟩ := dp_tup_inv R1.db
  cases etb
  obtain ⟨ka, rfl, eka, hka⟩ := ksU_of hua
  obtain ⟨kb, rfl, ekb, hkb⟩ := ksU_of hwa
  have alen := J.adr_len j R.stb
  have st := R.st
  have la := nodup_len as _ (asc_nodup ((ascB_iff as).mp asca)) ha
  have lb := nodup_len bs _ (asc_nodup ((ascB_iff bs).mp ascb)) hb
  have la2 : ka.length = as.length := by rw [← eka, List.length_map]
  have lb2 : kb.length = bs.length := by rw [← ekb, List.length_map]
  refine ⟨_, rfl, ta, ka, rfl, hus, hka, by omega, fun S L hS hL1 hL2 => ?_⟩
  have s2 : Same H1 (upd H1 S (SetTO P w S L)) := same_new hS
  have e2 : upd H1 S (SetTO P w S L) S = some (SetTO P w S L) := upd_same
  generalize (upd H1 S (SetTO P w S L)) = H2 at s2 e2 ⊢
  refine ⟨_, rfl, tb, kb, rfl, same_sqT s2 hws, fun p hp => same_sqT s2 (hkb p hp), by omega, fun S2 L2 hS2 hM1 hM2 => ?_⟩
  have s3 : Same H2 (upd H2 S2 (SetTO P w S2 L2)) := same_new hS2
  have e3 : upd H2 S2 (SetTO P w S2 L2) S2 = some (SetTO P w S2 L2) := upd_same
  have ne : S ≠ S2 := fun z => by rw [← z, e2] at hS2; cases hS2
  generalize (upd H2 S2 (SetTO P w S2 L2)) = H3 at s3 e3 ⊢
  have adrA : ∀ p ∈ ka, p.2 ∈ j.adr := fun p hp => ha _ (by rw [← eka]; exact List.mem_map.mpr ⟨p, hp, rfl⟩)
  have adrB : ∀ p ∈ kb, p.2 ∈ j.adr := fun p hp => hb _ (by rw [← ekb]; exact List.mem_map.mpr ⟨p, hp, rfl⟩)
  have few : ∀ (M kk : List (Addr × List Int)), (∀ p ∈ M, p ∈ kk) → (∀ p ∈ kk, p.2 ∈ j.adr) → (M.map (·.2)).Nodup → M.length < 63 := fun M kk h1 h2 nd => by
    have := nodup_len (M.map (·.2)) _ nd fun a ha => by
      obtain ⟨r, hr, rfl⟩ := List.mem_map.mp ha
      exact h2 r (h1 r hr)
    rw [List.length_map] at this
    omega
  have hk3 : ∀ p, p ∈ ka ∨ p ∈ kb → SqT K H3 p.1 (p.2.map V.int) := fun p hp => by
    rcases hp with hp | hp
    · exact same_sqT (s2.trans s3) (hka p hp)
    · exact same_sqT (s2.trans s3) (hkb p hp)
  have inAB : ∀ p, p ∈ L ∨ p ∈ L2 → p ∈ ka ∨ p ∈ kb := fun p hp => hp.imp (hL1 p) (hM1 p)
  refine ⟨S, S2, L, L2, rfl, rfl, ne, s3 _ _ e2, e3, fun p hp => hk3 p (inAB p (List.mem_append.mp hp)), few L ka hL1 adrA, few L2 kb hM1 adrB, fun R3 N hR hN1 hN2 => ?_⟩
  have s4 : Same H3 (upd H3 R3 (SetTO P w R3 N)) := same_new hR
  have e4 : upd H3 R3 (SetTO P w R3 N) R3 = some (SetTO P w R3 N) := upd_same
  generalize (upd H3 R3 (SetTO P w R3 N)) = H4 at s4 e4 ⊢
  have S4 := s1.trans (s2.trans (s3.trans s4))
  refine union_end (j := j) S4 e4 (fun r hr => same_sqT s4 (hk3 r (inAB r (hN1 r hr)))) (fun r hr => (inAB r (hN1 r hr)).elim (adrA r) (adrB r)) (fun x => ?_) fun H' u xs ls sm hu hx hf nd asc => q H' u xs ls (S4.trans sm) hu hx hf nd asc
  show x ∈ N.map (·.2) ↔ x ∈ as ∧ x ∈ bs
  have eL : ∀ (M kk : List (Addr × List Int)), (∀ p ∈ M, p ∈ kk) → (∀ p ∈ kk, p.2 ∈ M.map (·.2)) → (x ∈ M.map (·.2) ↔ x ∈ kk.map (·.2)) := fun M kk h1 h2 => by
    constructor
    · intro h
      obtain ⟨r, hr, rfl⟩ := List.mem_map.mp h
      exact List.mem_map.mpr ⟨r, h1 r hr, rfl⟩
    · intro h
      obtain ⟨r, hr, rfl⟩ := List.mem_map.mp h
      exact h2 r hr
  rw [hN2, eL L ka hL1 hL2, eL L2 kb hM1 hM2, eka, ekb]
end

/-! block Rest: what is left is a run; sums of runs in parts (behind bRun14) -/
theorem adrW_asc (j : J) : Asc j.adr := asc_weak (by rw [← J.sys_adr j]; exact J.sys_nodup j) (J.adr_ord j)
/-- what is left, in the order of the addresses, is a run -/
theorem rest_run {j : J} {as : List (List Int)} (clo : Clo j as) : RunF j as (j.adr.filter fun a => !as.contains a) := by
  have asc : Asc (j.adr.filter fun a => !as.contains a) := (adrW_asc j).sublist List.filter_sublist
  have nd := asc_nodup asc
  have mem : ∀ a, a ∈ (j.adr.filter fun a => !as.contains a) ↔ a ∈ j.adr ∧ a ∉ as := by
    intro a
    rw [List.mem_filter]
    refine and_congr Iff.rfl ?_
    show (!as.contains a) = true ↔ _
    rw [Bool.not_eq_true', ← Bool.not_eq_true, List.contains_iff_mem]
  generalize (j.adr.filter fun a => !as.contains a) = rest at asc nd mem
  have go : ∀ (suf pre : List (List Int)), rest = pre ++ suf → RunF j (as ++ pre) suf := by
    intro suf
    induction suf with
    | nil => intro pre _; exact trivial
    | cons a suf ih =>
      intro pre e
      have ha := (mem a).mp (by rw [e]; exact List.mem_append_right _ (List.mem_cons_self ..))
      have e2 : rest = (pre ++ [a]) ++ suf := by rw [e, List.append_assoc]; rfl
      have npre : a ∉ pre := fun h => by
        rw [e, List.nodup_append] at nd
        exact nd.2.2 a h a (List.mem_cons_self ..) rfl
      refine ⟨⟨ha.1, rdy_iff.mpr ⟨fun h => ?_, fun o ho hoa => ?_⟩⟩, by have := ih (pre ++ [a]) e2; rwa [← List.append_assoc] at this⟩
      · rcases List.mem_append.mp h with h | h
        · exact ha.2 h
        · exact npre h
      · by_cases hin : o ∈ as
        · exact List.mem_append_left _ hin
        · have hr := (mem o).mpr ⟨ho, hin⟩
          have hlt := J.ahead_lt j o a hoa
          have := asc_split (pre := pre ++ [a]) (suf := suf) (by rw [← e2]; exact asc) (by rw [← e2]; exact hr) (List.mem_append_right _ (List.mem_singleton.mpr rfl)) hlt
          rcases List.mem_append.mp this with h | h
          · exact List.mem_append_right _ h
          · rw [List.mem_singleton.mp h, lex_self] at hlt
            cases hlt
  have := go rest [] rfl
  rwa [List.append_nil] at this
theorem filter_two {α : Type} (p : α → Bool) : ∀ l : List α, (l.filter p).length + (l.filter fun a => !p a).length = l.length
  | [] => rfl
  | x :: l => by
    have ih := filter_two p l
    cases e : p x with
    | true =>
      rw [List.filter_cons_of_pos e, List.filter_cons_of_neg (by rw [e]; exact Bool.false_ne_true), List.length_cons, List.length_cons]
      omega
    | false =>
      rw [List.filter_cons_of_neg (by rw [e]; exact Bool.false_ne_true), List.filter_cons_of_pos (by rw [e]; rfl), List.length_cons, List.length_cons]
      omega
theorem rest_len {j : J} {as : List (List Int)} (nd : as.Nodup) (hm : ∀ a ∈ as, a ∈ j.adr) : as.length + (j.adr.filter fun a => !as.contains a).length = j.adr.length := by
  have h1 := filter_two (fun a => as.contains a) j.adr
  have h2 : (j.adr.filter fun a => as.contains a).Perm as := by
    refine (List.perm_ext_iff_of_nodup ((asc_nodup (adrW_asc j)).sublist List.filter_sublist) nd).mpr fun a => ?_
    rw [List.mem_filter]
    show a ∈ j.adr ∧ as.contains a = true ↔ _
    rw [List.contains_iff_mem]
    exact ⟨fun h => h.2, fun h => ⟨hm a h, h⟩⟩
  rw [h2.length_eq] at h1
  omega
theorem max_one {l : List Int} {m n : Int} (h1 : m ∈ l) (h2 : ∀ y ∈ l, y ≤ m) (k1 : n ∈ l) (k2 : ∀ y ∈ l, y ≤ n) : m = n := by
  have := h2 n k1
  have := k2 m h1
  omega
theorem use_perm (R : List SRow) {as bs : List (List Int)} (h : as.Perm bs) : useR R as = useR R bs := by
  unfold useR
  induction h with
  | nil => rfl
  | cons x _ ih => simp only [List.map_cons, List.sum_cons, ih]
  | swap x y l => simp only [List.map_cons, List.sum_cons]; omega
  | trans _ _ h1 h2 => exact h1.trans h2
theorem use_app (R : List SRow) (as bs : List (List Int)) : useR R (as ++ bs) = useR R as + useR R bs := by
  unfold useR
  rw [List.map_append, List.sum_append]
/-- the data that are compared -/
theorem RunF.app {j : J} : ∀ {as bs done : List (List Int)}, RunF j done as → RunF j (done ++ as) bs → RunF j done (as ++ bs)
  | [], bs, done, _, h => by rwa [List.append_nil] at h
  | a :: as, bs, done, h, k => ⟨h.1, RunF.app h.2 (by rwa [List.append_assoc])⟩
theorem sumsR_app (R : List SRow) : ∀ (as bs : List (List Int)) (t : Int), sumsR R as t ++ (sumsR R bs (t + useR R as)).drop 1 = sumsR R (as ++ bs) t
  | [], bs, t => by
    have e : t + useR R [] = t := by simp [useR]
    rw [e]
    cases bs <;> rfl
  | a :: as, bs, t => by
    have ih := sumsR_app R as bs (t + valR R a)
    have e : t + useR R (a :: as) = t + valR R a + useR R as := by
      simp only [useR, List.map_cons, List.sum_cons]
      omega
    rw [List.cons_append, sumsR, sumsR, List.cons_append, e, ih]
/-- a run depends on what is done, not on its order -/
theorem RunF.congr {j : J} : ∀ {run done done' : List (List Int)}, (∀ x, x ∈ done' ↔ x ∈ done) → RunF j done run → RunF j done' run
  | [], _, _, _, _ => trivial
  | a :: run, done, done', hd, h => by
    obtain ⟨⟨ha, hr⟩, ht⟩ := h
    obtain ⟨na, hb⟩ := rdy_iff.mp hr
    exact ⟨⟨ha, rdy_iff.mpr ⟨fun z => na ((hd a).mp z), fun o ho hoa => (hd o).mpr (hb o ho hoa)⟩⟩, RunF.congr (fun x => by simp [hd]) ht⟩
theorem sums_dpE {K : PySem.W.Frag} {H : Hp} {t : Addr} {l : List Int} (h : SqT K H t (l.map V.int)) : Dp K H (.ref t) (.tuple (l.map .int)) := .tup h (ints_dp' l)
theorem ints_depthR : ∀ l : List Int, PyData.depthAll (l.map PyData.int) ≤ 1
  | [] => by simp [PyData.depthAll]
  | y :: l => by
    have := ints_depthR l
    simp only [List.map_cons, PyData.depthAll, PyData.depth]
    omega
theorem ints_shaped (l : List Int) : SeqAt.shaped (.tuple (l.map .int)) = true := by
  have h := ints_depthR l
  have e : (PyData.tuple (l.map .int)).depth ≤ 64 := by
    simp only [PyData.depth]
    omega
  unfold SeqAt.shaped
  rw [decide_eq_true e]
  simp only [PyData.canLay0, ints_lay l, Bool.and_self]
theorem ints_self (l : List Int) : PyData.eqv (.tuple (l.map .int)) (.tuple (l.map .int)) = true := SeqAt.eqv_refl _ (by simp only [PyData.canLay0, ints_lay l])
theorem adT_selfB (as : List (List Int)) : (!PyData.eqv (.tuple (adDs as)) (.tuple (adDs as))) = false := by
  rw [adT_self]; rfl
theorem ints_selfB (l : List Int) : (!PyData.eqv (.tuple (l.map .int)) (.tuple (l.map .int))) = false := by
  rw [ints_self]; rfl

/-! block St18: _law_states_right (behind bUnion) -/
theorem BothAt.of_state {K : PySem.W.Frag} {H : Hp} {v r s s' : V} {j : J} {as bs run : List (List Int)} (R : BothAt K H v r s j as run) (ds : Dp K H s' (.tuple (adDs bs))) (b : (PyData.tuple (adDs bs)).bulk ≤ 80000) (ok : stB j (.tuple (adDs bs)) = true) : BothAt K H v r s' j bs run :=
  ⟨R.dv, R.dr, ds, R.d20, R.stb, R.sz, R.st, b, R.b2, ok, R.go⟩
theorem BothAt.of_run {K : PySem.W.Frag} {H : Hp} {v r r' s : V} {j : J} {as run run' : List (List Int)} (R : BothAt K H v r s j as run) (dr : Dp K H r' (.tuple (adDs run'))) (b : (PyData.tuple (adDs run')).bulk ≤ 80000) (go : walkL j [] (adDs run') = true) : BothAt K H v r' s j as run' :=
  ⟨R.dv, dr, R.ds, R.d20, R.stb, R.sz, R.st, R.b1, b, R.ok, go⟩
theorem bulk20 {j : J} (d : j.deep ≤ 20) {as : List (List Int)} (hm : ∀ a ∈ as, a ∈ j.adr) (l : as.length ≤ 400) : (PyData.tuple (adDs as)).bulk ≤ 80000 := by
  have h3 := adDs_bulk (n := 20) (as := as) fun a ha => Nat.le_trans (J.adr_deep j a (hm a ha)) d
  have : as.length * 45 ≤ 400 * 45 := Nat.mul_le_mul_right _ l
  simp only [PyData.bulk]
  omega
section
variable {P : Program} {w : World} {K : PySem.W.Frag} {mg : Str → Option Value} {base : Heap}
def spSt18 (K : PySem.W.Frag) : Sp := fun vs H Q _ => ∃ (v r s u : V) (j : J) (as bs run : List (List Int)), vs = [v, r, s, u] ∧ BothAt K H v r s j as run ∧ BothAt K H v r u j bs run ∧ j.steps ≤ 40 ∧ ∀ H', Same H H' → Q (.bl true) H'
theorem ok_st18 (T : Txt K mg) : FnOk P w K mg base CX0 50 T.f__law_states_right T.d__law_states_right ["_law_job", "_law_run", "_law_one", "_law_other"] (spSt18 K) := by
  have g_lift_run := ok_lift (P := P) (w := w) (base := base) T
  have g_cut_run := ok_cut (P := P) (w := w) (base := base) T
  have g_union := ok_union (P := P) (w := w) (base := base) T
  have g_common := ok_common (P := P) (w := w) (base := base) T
  refine T.F__law_states_right.ok sc__law_states_right (fun vs H Q E h => ?_) (fun cdv A outer s H vs Q E hr h => ?_)
  · obtain ⟨v, r, s, u, j, as, bs, run, rfl, _⟩ := h
    rfl
  obtain ⟨v, r, st, u, j, as, bs, run, rfl, R, B, j40, q⟩ := h
  refine ⟨_, (pss_cons (ps_par (i := 4) (j := 5) (by rfl) sc__law_states_right.nd rfl rfl (by decide) rfl rfl (pa_cons (pe_call g_union (hr.mono (by omega)) rfl T.m_union T.F_union.kp T.b_union .nil pass0 (pa_cons (pv 0) (pa_cons (pv 2) (pa_cons (pv 3) pa_nil)))) (pa_cons (pe_call g_common (hr.mono (by omega)) rfl T.m_common T.F_common.kp T.b_common .nil pass0 (pa_cons (pv 0) (pa_cons (pv 2) (pa_cons (pv 3) pa_nil)))) pa_nil)) (by rfl))
      (pss_cons (ps_set (i := 6) sc__law_states_right.nd rfl (Or.inl rfl) (pe_callTy (r := rTupS K) call_tupS (by rfl) T.n_tuple (by decide +kernel) (pa_cons (pe_lc (own := [("_law_address", 7)]) (g := (gName 7)) (by rfl) sc__law_states_right.nd (pi_tup (pe_call g_lift_run (hr.mono (by omega)) rfl T.m_lift_run T.F_lift_run.kp T.b_lift_run .nil pass0 (pa_cons (pv 0) (pa_cons (pv 1) (pa_cons (pv 2) pa_nil))))) (blkOk_by (N := N__law_states_right) (sc := (defScope s__law_states_right)) (by decide +kernel)) (fun _ _ _ _ _ => (pg_name (i := 7) sc__law_states_right.nd rfl (Or.inl rfl))) (fun _ _ _ _ _ => (pts_one (pt_cmpR (r := rNotTD K) (op_notInTD (room66 hr)) (pv 7) (pv 3) (by rfl)))) (fun _ _ _ _ _ => (pv 7))) pa_nil)))
      (pss_cons (ps_if (pt_cmpR (r := rNeD K) (op_neD hr.units) (pe_call g_lift_run (hr.mono (by omega)) rfl T.m_lift_run T.F_lift_run.kp T.b_lift_run .nil pass0 (pa_cons (pv 0) (pa_cons (pv 1) (pa_cons (pv 4) pa_nil)))) (pv 6) (nomark _)) (pss_one (ps_ret pe_bl)) pss_nil)
      (pss_cons (ps_if (pt_cmpR (r := rNeD K) (op_neD hr.units) (pe_call g_cut_run (hr.mono (by omega)) rfl T.m_cut_run T.F_cut_run.kp T.b_cut_run .nil pass0 (pa_cons (pv 0) (pa_cons (pe_call g_cut_run (hr.mono (by omega)) rfl T.m_cut_run T.F_cut_run.kp T.b_cut_run .nil pass0 (pa_cons (pv 0) (pa_cons (pv 1) (pa_cons (pv 2) pa_nil)))) (pa_cons (pv 3) pa_nil)))) (pe_call g_cut_run (hr.mono (by omega)) rfl T.m_cut_run T.F_cut_run.kp T.b_cut_run .nil pass0 (pa_cons (pv 0) (pa_cons (pv 1) (pa_cons (pv 5) pa_nil)))) (nomark _)) (pss_one (ps_ret pe_bl)) pss_nil)
      (pss_one (ps_ret (pe_cmpR (r := rEqD K) (op_eqD hr.units) (pe_callB (r := rSortTZ K) cr_sortTZ (by rfl) T.n_sorted (by decide +kernel) (pa_cons (pe_op (r := rCatA K) op_catA (pe_call g_lift_run (hr.mono (by omega)) rfl T.m_lift_run T.F_lift_run.kp T.b_lift_run .nil pass0 (pa_cons (pv 0) (pa_cons (pv 1) (pa_cons (pv 4) pa_nil)))) (pe_call g_cut_run (hr.mono (by omega)) rfl T.m_cut_run T.F_cut_run.kp T.b_cut_run .nil pass0 (pa_cons (pv 0) (pa_cons (pv 1) (pa_cons (pv 4) pa_nil))))) pa_nil)) (pe_callB (r := rSortTZ K) cr_sortTZ (by rfl) T.n_sorted (by decide +kernel) (pa_cons (pv 1) pa_nil)) (nomark _)))))))), ?_⟩
  obtain ⟨mr, clor, ndr, r400⟩ := R.facts
  obtain ⟨hm, asc, clo⟩ := (stB_ad R.stb as).mp R.ok
  obtain ⟨hm2, asc2, clo2⟩ := (stB_ad R.stb bs).mp B.ok
  refine ⟨_, rfl, _, rfl, _, rfl, v, st, u, j, as, bs, rfl, ⟨R.dv, R.ds, B.ds, R.d20, R.stb, R.sz, by omega, R.b1, B.b1, R.ok, B.ok⟩, fun H1 tu xu lu s1 qu hu' memU ndU ascU => ?_⟩
  have R1 := R.same s1
  have B1 := B.same s1
  refine ⟨_, rfl, _, rfl, _, rfl, v, st, u, j, as, bs, rfl, ⟨R1.dv, R1.ds, B1.ds, R.d20, R.stb, R.sz, by omega, R.b1, B.b1, R.ok, B.ok⟩, fun H2 tc xc lc s2 qc hc memC ndC ascC => ?_⟩
  have R2 := R1.same s2
  have B2 := B1.same s2
  have dU : Dp K H2 (.ref tu) (.tuple (adDs lu)) := .tup (same_sqT s2 qu) (dpAll_same s2 hu')
  have dC : Dp K H2 (.ref tc) (.tuple (adDs lc)) := .tup qc hc
  have S2 := s1.trans s2
  have alen := J.adr_len j R.stb
  have mU : ∀ a ∈ lu, a ∈ j.adr := fun a ha => ((memU a).mp ha).elim (hm a) (hm2 a)
  have mC : ∀ a ∈ lc, a ∈ j.adr := fun a ha => hm a ((memC a).mp ha).1
  have nU := nodup_len lu _ ndU mU
  have nC := nodup_len lc _ ndC mC
  have bU := bulk20 R.d20 mU (by omega)
  have bC := bulk20 R.d20 mC (by omega)
  have okU : stB j (.tuple (adDs lu)) = true := (stB_ad R.stb lu).mpr ⟨mU, (ascB_iff lu).mpr ascU, fun a ha b hb hab => (memU a).mpr (((memU b).mp hb).imp (fun h => clo a ha b h hab) fun h => clo2 a ha b h hab)⟩
  have okC : stB j (.tuple (adDs lc)) = true := (stB_ad R.stb lc).mpr ⟨mC, (ascB_iff lc).mpr ascC, fun a ha b hb hab => (memC a).mpr ⟨clo a ha b ((memC b).mp hb).1 hab, clo2 a ha b ((memC b).mp hb).2 hab⟩⟩
  refine ⟨_, _, rfl, ?_⟩
  -- lifted by the one, what is not in the other
  refine ⟨_, rfl, _, rfl, _, rfl, v, r, st, j, as, run, rfl, R2, fun H3 tl xl s3 ql hl => ?_⟩
  have xlen : xl.length = (run.filter fun a => !as.contains a).length := by rw [dpAll_length hl, adDs, List.length_map]
  have flen := List.length_filter_le (fun a => !as.contains a) run
  have B3 := B2.same s3
  refine ⟨tl, rfl, ⟨xl, ql⟩, fun C hC => ?_⟩
  refine lc_tup (K := K) (a := tl) (xs := xl) (fun n F => Same H3 F ∧ ∃ zs : List V, F C = some (.lst zs) ∧ DpAll K F zs (adDs (((run.filter fun a => !as.contains a).take n).filter fun a => (!bs.contains a)))) ?_ ?_ ?_ ?_
  · exact ⟨same_new hC, [], upd_same, by simpa [adDs] using .nil⟩
  · rintro n F _ ⟨sF, _⟩
    exact same_sqT sF ql
  · rintro n y F hn ⟨sF, zs, eC, hzs⟩
    obtain ⟨tb, a, ea, rfl, htb⟩ := ad_at hl hn
    have htb := same_sqT sF htb
    have nl := (List.getElem?_eq_some_iff.mp ea).1
    have etk : (run.filter fun a => !as.contains a).take (n + 1) = (run.filter fun a => !as.contains a).take n ++ [a] := by rw [List.take_add_one, ea]; rfl
    have zl : zs.length ≤ 400 := by
      rw [dpAll_length hzs, adDs, List.length_map]
      refine Nat.le_trans (List.length_filter_le _ _) ?_
      rw [List.length_take]
      omega
    refine ⟨rfl, ?_⟩
    refine ⟨_, rfl, _, rfl, adDs bs, adD a, dp_same sF B3.ds, .tup htb (ints_dp' a), ads_lay bs, ad_lay a, Nat.le_trans (ad_depth a) (by decide), _, rfl, ?_⟩
    rw [any_ad]
    cases ec : bs.contains a with
    | false =>
      refine iteT ?_
      refine ⟨_, rfl, zs, eC, small1000 (by omega), ?_, zs ++ [.ref tb], upd_same, ?_⟩
      · intro c o hc
        rw [upd_ne (ne_of_none hc hC)]
        exact sF _ _ hc
      · rw [etk, List.filter_append, List.filter_cons_of_pos (p := fun a => (!bs.contains a)) (by show (!bs.contains a) = true; rw [ec]; rfl), List.filter_nil, adDs, List.map_append]
        have k7 : ∀ a xs, SqT K F a xs → SqT K (upd F C (.lst (zs ++ [.ref tb]))) a xs := fun a xs h => (sx_upd (p := C)).sqT eC h
        exact dpAll_append (dpAll_keep k7 (noLs_ad _) hzs) (.cons (dp_keep k7 (noL_ad _) (.tup htb (ints_dp' a))) .nil)
    | true =>
      refine iteF ?_
      refine ⟨sF, zs, eC, ?_⟩
      rw [etk, List.filter_append, List.filter_cons_of_neg (p := fun a => (!bs.contains a)) (by show ¬ (!bs.contains a) = true; rw [ec]; exact Bool.false_ne_true), List.filter_nil, List.append_nil]
      exact hzs
  rintro H4 ⟨s4, zs, eC, hzs⟩
  rw [xlen, List.take_length] at hzs
  refine ⟨C, zs, rfl, .inl ⟨SqL.of eC, fun t5 ht5 => ?_⟩⟩
  have ut : Same H4 (upd H4 t5 (.tup zs)) := same_new ht5
  have dz : Dp K (upd H4 t5 (.tup zs)) (.ref t5) (.tuple (adDs ((run.filter fun a => !as.contains a).filter fun a => !bs.contains a))) := .tup (SqT.of upd_same) (dpAll_same ut hzs)
  generalize (upd H4 t5 (.tup zs)) = H5 at ut dz ⊢
  have s25 := s3.trans (s4.trans ut)
  have R5 := R2.same s25
  have B5 := B2.same s25
  have dU5 := dp_same s25 dU
  have dC5 := dp_same s25 dC
  have e1 : (run.filter fun a => !lu.contains a) = (run.filter fun a => !as.contains a).filter fun a => !bs.contains a := by
    rw [List.filter_filter]
    refine List.filter_congr fun a _ => ?_
    rw [Bool.eq_iff_iff]
    simp [memU, not_or, and_comm]
  have RU := R5.of_state dU5 bU okU
  have RC := R5.of_state dC5 bC okC
  refine ⟨_, rfl, _, rfl, _, rfl, v, r, .ref tu, j, lu, run, rfl, RU, fun H6 t6 x6 s6 q6 h6 => ?_⟩
  have h6 : DpAll K H6 x6 (adDs (run.filter fun a => !lu.contains a)) := h6
  rw [e1] at h6
  refine ⟨_, rfl, _, _, .tup q6 h6, dp_same s6 dz, adT_shaped _, adT_shaped _, _, rfl, ?_⟩
  rw [adT_selfB]
  refine iteF ?_
  have R6 := R5.same s6
  have B6 := B5.same s6
  have RC6 := RC.same s6
  have RU6 := RU.same s6
  -- cut to the one, then to the other
  refine ⟨_, rfl, _, rfl, _, rfl, _, rfl, v, r, st, j, as, run, rfl, R6, fun H7 t7 x7 s7 q7 h7 => ?_⟩
  have B7 := B6.same s7
  have go7 := runF_walk15 (cut_go clo run [] [] (fun x => by simp) (walkL_run R.go))
  have b7 := Nat.le_trans (filt_bulk (as := as) (fun a => as.contains a) run) R.b2
  have h7 : DpAll K H7 x7 (adDs (run.filter fun a => as.contains a)) := h7
  have B7' : BothAt K H7 v (.ref t7) u j bs (run.filter fun a => as.contains a) := B7.of_run (.tup q7 h7) b7 go7
  refine ⟨_, rfl, v, .ref t7, u, j, bs, _, rfl, B7', fun H8 t8 x8 s8 q8 h8 => ?_⟩
  have RC8 := (RC6.same s7).same s8
  refine ⟨_, rfl, _, rfl, _, rfl, v, r, .ref tc, j, lc, run, rfl, RC8, fun H9 t9 x9 s9 q9 h9 => ?_⟩
  have e2 : (run.filter fun a => lc.contains a) = (run.filter fun a => as.contains a).filter fun a => bs.contains a := by
    rw [List.filter_filter]
    refine List.filter_congr fun a _ => ?_
    rw [Bool.eq_iff_iff]
    simp [memC, and_comm]
  have h9 : DpAll K H9 x9 (adDs (run.filter fun a => lc.contains a)) := h9
  rw [e2] at h9
  refine ⟨_, _, .tup (same_sqT s9 q8) (dpAll_same s9 h8), .tup q9 h9, adT_shaped _, adT_shaped _, _, rfl, ?_⟩
  rw [adT_selfB]
  refine iteF ?_
  have RU9 := ((RU6.same s7).same s8).same s9
  -- lifted and cut: all steps again
  refine ⟨_, rfl, _, rfl, _, rfl, v, r, .ref tu, j, lu, run, rfl, RU9, fun H10 t10 x10 s10 q10 h10 => ?_⟩
  have RU10 := RU9.same s10
  refine ⟨_, rfl, _, rfl, _, rfl, v, r, .ref tu, j, lu, run, rfl, RU10, fun H11 t11 x11 s11 q11 h11 => ?_⟩
  have RU11 := RU10.same s11
  have h10 : DpAll K H10 x10 (adDs (run.filter fun a => !lu.contains a)) := h10
  have h11 : DpAll K H11 x11 (adDs (run.filter fun a => lu.contains a)) := h11
  have l10 : x10.length ≤ run.length := by rw [dpAll_length h10, adDs, List.length_map]; exact List.length_filter_le _ _
  have l11 : x11.length ≤ run.length := by rw [dpAll_length h11, adDs, List.length_map]; exact List.length_filter_le _ _
  refine rCatA_q (same_sqT s11 q10) q11 (small (by omega)) (fun H12 t12 s12 q12 => ?_)
  have d12 : DpAll K H12 (x10 ++ x11) (adDs ((run.filter fun a => !lu.contains a) ++ run.filter fun a => lu.contains a)) := by
    rw [adDs, List.map_append]
    exact dpAll_append (dpAll_same (s11.trans s12) h10) (dpAll_same s12 h11)
  have pm : ((run.filter fun a => !lu.contains a) ++ run.filter fun a => lu.contains a).Perm run := by
    refine List.perm_append_comm.trans ?_
    exact List.filter_append_perm _ _
  refine sortZ (j := j) q12 d12 (fun a ha => mr a (pm.mem_iff.mp ha)) (pm.nodup_iff.mpr ndr) fun H13 l13 y13 k13 s13 e13 h13 p13 a13 => ?_
  have RU13 := (RU11.same s12).same s13
  obtain ⟨tr, ws, etr, hws, hwa⟩ := dp_tup_inv RU13.dr
  cases etr
  refine ⟨_, rfl, ?_⟩
  refine sortZ (j := j) hws hwa mr ndr fun H14 l14 y14 k14 s14 e14 h14 p14 a14 => ?_
  obtain rfl : k13 = k14 := same_of_sorted (p13.trans pm) a13 p14 a14
  have S14 := S2.trans (s25.trans (s6.trans (s7.trans (s8.trans (s9.trans (s10.trans (s11.trans (s12.trans (s13.trans s14)))))))))
  refine ⟨_, _, .lst (.inl (.inl (s14 _ _ e13))) (dpAll_same s14 h13), .lst (.inl (.inl e14)) h14, adL_shaped _, adL_shaped _, ?_⟩
  rw [adL_self]
  exact q _ S14
end

/-! block Step18: _law_steps_right (behind bAvail, bRest) -/
/-- a job and a state of it -/
structure StAt (K : PySem.W.Frag) (H : Hp) (v s : V) (j : J) (as : List (List Int)) : Prop where
  dv : Dp K H v j.toD
  ds : Dp K H s (.tuple (adDs as))
  d20 : j.deep ≤ 20
  stb : j.stb
  sz : (szJ j 400 13).isSome = true
  st : j.steps ≤ 400
  b1 : (PyData.tuple (adDs as)).bulk ≤ 80000
  ok : stB j (.tuple (adDs as)) = true
theorem StAt.same {K : PySem.W.Frag} {H H' : Hp} {v s : V} {j : J} {as : List (List Int)} (R : StAt K H v s j as) (t : Same H H') : StAt K H' v s j as :=
  ⟨dp_same t R.dv, dp_same t R.ds, R.d20, R.stb, R.sz, R.st, R.b1, R.ok⟩
theorem avail_none (j : J) (hs : j.stb) (as : List (List Int)) : avail j as none = j.adr.filter fun a => mayA j as a := by
  unfold avail
  rw [← J.srows_adr j hs, List.filter_map]
  congr 1
  refine List.filter_congr fun r _ => ?_
  simp [leO]
section
variable {P : Program} {w : World} {K : PySem.W.Frag} {mg : Str → Option Value} {base : Heap}
def spStep18 (K : PySem.W.Frag) : Sp := fun vs H Q _ => ∃ (v s : V) (j : J) (as : List (List Int)), vs = [v, s] ∧ StAt K H v s j as ∧ ∀ H', Same H H' → Q (.bl true) H'
theorem ok_step18 (T : Txt K mg) : FnOk P w K mg base CX0 50 T.f__law_steps_right T.d__law_steps_right ["_law_job", "_law_begun"] (spStep18 K) := by
  have g_all_addresses := ok_alladr (P := P) (w := w) (base := base) T
  have g_is_run := ok_isrun (P := P) (w := w) (base := base) T
  have g_available := ok_avail (P := P) (w := w) (base := base) T
  refine T.F__law_steps_right.ok sc__law_steps_right (fun vs H Q E h => ?_) (fun cdv A outer s H vs Q E hr h => ?_)
  · obtain ⟨v, s, j, as, rfl, _⟩ := h
    rfl
  obtain ⟨v, st, j, as, rfl, R, q⟩ := h
  refine ⟨_, (pss_cons (ps_setLc (i := 2) (own := [("_law_address", 3)]) (g := (gName 3)) (by rfl) sc__law_steps_right.nd rfl rfl (sw_true rfl rfl rfl (by decide +kernel)) (pi_tup (pe_call g_all_addresses (hr.mono (by omega)) rfl T.m_all_addresses T.F_all_addresses.kp T.b_all_addresses .nil pass0 (pa_cons (pv 0) pa_nil))) (blkOk_by (N := N__law_steps_right) (sc := (defScope s__law_steps_right)) (by decide +kernel)) (fun _ _ _ _ _ => (pg_name (i := 3) sc__law_steps_right.nd rfl (Or.inl rfl))) (fun _ _ _ _ _ => (pts_one (pt_val (pe_callN g_is_run (hr.mono (by omega)) rfl T.m_is_run T.F_is_run.kp T.kn_is_run pass0 (pa_cons (pv 0) (pa_cons (pe_tup (pa_cons (pv 3) pa_nil)) pa_nil)) (pk_cons (pv 1) pk_nil))))) (fun _ _ _ _ _ => (pv 3)))
      (pss_one (ps_ret (pe_cmpR (r := rEqD K) (op_eqD hr.units) (pe_call g_available (hr.mono (by omega)) rfl T.m_available T.F_available.kp T.b_available T.vd_available pass0 (pa_cons (pv 0) (pa_cons (pv 1) pa_nil))) (pe_callTy (r := rTupS K) call_tupS (by rfl) T.n_tuple (by decide +kernel) (pa_cons (pv 2) pa_nil)) (nomark _))))), ?_⟩
  have alen := J.adr_len j R.stb
  have h400 := R.st
  refine ⟨_, rfl, v, j, rfl, R.dv, R.sz, R.st, fun H1 x s1 dx => ?_⟩
  obtain ⟨ta, us, rfl, qa, ha⟩ := dp_tup_inv dx
  have ul : us.length = j.adr.length := by rw [dpAll_length ha, adDs, List.length_map]
  have R1 := R.same s1
  refine ⟨ta, rfl, ⟨us, qa⟩, fun C hC => ?_⟩
  refine lc_tup (K := K) (a := ta) (xs := us) (fun n F => Same H1 F ∧ ∃ zs : List V, F C = some (.lst zs) ∧ DpAll K F zs (adDs ((j.adr.take n).filter fun a => mayA j as a))) ?_ ?_ ?_ ?_
  · exact ⟨same_new hC, [], upd_same, by simpa [adDs] using .nil⟩
  · rintro n F _ ⟨sF, _⟩
    exact same_sqT sF qa
  · rintro n y F hn ⟨sF, zs, eC, hzs⟩
    obtain ⟨tb, a, ea, rfl, htb⟩ := ad_at ha hn
    have htb := same_sqT sF htb
    have nl := (List.getElem?_eq_some_iff.mp ea).1
    have etk : j.adr.take (n + 1) = j.adr.take n ++ [a] := by rw [List.take_add_one, ea]; rfl
    have zl : zs.length ≤ 400 := by
      rw [dpAll_length hzs, adDs, List.length_map]
      refine Nat.le_trans (List.length_filter_le _ _) ?_
      rw [List.length_take]
      omega
    have RF := R1.same sF
    refine ⟨rfl, ?_⟩
    refine ⟨_, rfl, _, rfl, (by show 1 ≤ sizeLine; decide), fun p hp => ?_⟩
    obtain ⟨u5, d5⟩ := tup_fresh (K := K) (ds := adDs [a]) hp (.cons (.tup htb (ints_dp' a)) .nil)
    have eC5 := u5 _ _ eC
    generalize (upd F p (.tup [.ref tb])) = F1 at u5 d5 eC5 ⊢
    have RF1 := RF.same u5
    have b5 : (PyData.tuple (adDs [a])).bulk ≤ 80000 := by
      have h := adDs_bulk (n := 20) [a] fun b hb => by
        rw [List.mem_singleton.mp hb]
        exact Nat.le_trans (J.adr_deep j a (List.mem_of_getElem? ea)) R.d20
      simp only [List.length_cons, List.length_nil] at h
      simp only [PyData.bulk]
      omega
    refine ⟨_, rfl, rfl, rfl, v, .ref p, st, as, j, 0, _, rfl, RF1.dv, RF1.ds, R.b1, R.d20, R.stb, R.sz, R.st, R.ok, dq_of (ads_noLR [a]) d5, b5, fun F2 s6 => ?_⟩
    have eC6 := s6 _ _ eC5
    have s56 := u5.trans s6
    have ev : ((allF j as (.tuple (adDs [a]))).1 && (!false || decide ((allF j as (.tuple (adDs [a]))).2.length = j.srows.length))) = mayA j as a := by
      show ((walkD j as [adD a]).1 && true) = _
      rw [walkD, mayD_ad]
      cases mayA j as a <;> rfl
    rw [ev]
    refine ⟨_, rfl, ?_⟩
    cases ec : mayA j as a with
    | true =>
      refine iteT ?_
      refine ⟨_, rfl, zs, eC6, small1000 (by omega), ?_, zs ++ [.ref tb], upd_same, ?_⟩
      · intro c o hc
        rw [upd_ne (ne_of_none hc hC)]
        exact s56 _ _ (sF _ _ hc)
      · rw [etk, List.filter_append, List.filter_cons_of_pos (p := fun a => mayA j as a) ec, List.filter_nil, adDs, List.map_append]
        have k7 : ∀ a xs, SqT K F2 a xs → SqT K (upd F2 C (.lst (zs ++ [.ref tb]))) a xs := fun a xs h => (sx_upd (p := C)).sqT eC6 h
        exact dpAll_append (dpAll_keep k7 (noLs_ad _) (dpAll_same s56 hzs)) (.cons (dp_keep k7 (noL_ad _) (.tup (same_sqT s56 htb) (ints_dp' a))) .nil)
    | false =>
      refine iteF ?_
      refine ⟨sF.trans s56, zs, eC6, ?_⟩
      rw [etk, List.filter_append, List.filter_cons_of_neg (p := fun a => mayA j as a) (by rw [ec]; exact Bool.false_ne_true), List.filter_nil, List.append_nil]
      exact dpAll_same s56 hzs
  rintro H2 ⟨s2, zs, eC, hzs⟩
  rw [ul, List.take_length] at hzs
  have R2 := R1.same s2
  refine ⟨_, rfl, _, rfl, v, st, as, j, none, rfl, R2.dv, R2.ds, R.b1, R.d20, R.stb, R.sz, R.st, R.ok, (fun m e => nomatch e), fun H3 t3 x3 s3 q3 h3 => ?_⟩
  rw [avail_none j R.stb] at h3
  refine ⟨_, rfl, C, zs, rfl, .inl ⟨SqL.of (s3 _ _ eC), fun t4 ht4 => ?_⟩⟩
  have u4 : Same H3 (upd H3 t4 (.tup zs)) := same_new ht4
  refine ⟨_, _, .tup (same_sqT u4 q3) (dpAll_same u4 h3), .tup (SqT.of upd_same) (dpAll_same (s3.trans u4) hzs), adT_shaped _, adT_shaped _, ?_⟩
  rw [adT_self]
  exact q _ (s1.trans (s2.trans (s3.trans u4)))
end

/-! block Parts18: _law_parts_right (behind bStep18) -/
section
variable {P : Program} {w : World} {K : PySem.W.Frag} {mg : Str → Option Value} {base : Heap}
theorem StAt.run {H : Hp} {v r s : V} {j : J} {as run : List (List Int)} (R : StAt K H v s j as) (dr : Dp K H r (.tuple (adDs run))) (go : RunF j as run) : RunAt K H v r s j as run := by
  obtain ⟨hm, asc, clo⟩ := (stB_ad R.stb as).mp R.ok
  have nd := asc_nodup ((ascB_iff as).mp asc)
  have m2 := go.mem
  obtain ⟨c2, n2⟩ := go.clo clo nd
  have l2 := nodup_len run _ (List.nodup_append.mp n2).2.1 m2
  have := J.adr_len j R.stb
  have := R.st
  exact ⟨R.dv, dr, R.ds, R.d20, R.stb, R.sz, R.st, R.b1, bulk20 R.d20 m2 (by omega), R.ok, runF_walk15 go⟩
def spParts18 (P : Program) (w : World) (K : PySem.W.Frag) : Sp := fun vs H Q _ => ∃ (p ea : Addr) (m : Nat) (v s : V) (j : J) (rs : List DRow) (ne : Addr → Prop) (as : List (List Int)), vs = [.ref p, v, .ref ea, s] ∧ Pot H p m ∧ m + 50 ≤ 1099511627776 ∧
  Earl P w K ne H ea j rs ∧ H ea = some (DtO P w ea rs) ∧ (∀ l, ne l → l ≠ p) ∧ StAt K H v s j as ∧ j.steps ≤ 40 ∧ ∀ H', Sx p H H' → Pot H' p (m + 50) → Q (.bl true) H'
theorem ok_parts18 (T : Txt K mg) : FnOk P w K mg base CX0 50 T.f__law_parts_right T.d__law_parts_right ["_law_source_here", "_law_job", "_law_earlier_here", "_law_begun"] (spParts18 P w K) := by
  have g__law_draw : FnOk P w K mg base CX0 1 T.f__law_draw T.d__law_draw ["_law_source_here", "_law_many"] spTake := ok_take T
  have g__law_random_run := ok_run (P := P) (w := w) (base := base) T
  have g_state_after := ok_sta (P := P) (w := w) (base := base) T
  have g_some_run := ok_some (P := P) (w := w) (base := base) T
  have g_run_usages := ok_ru (P := P) (w := w) (base := base) T
  have g_run_peak := ok_rp (P := P) (w := w) (base := base) T
  have g_all_addresses := ok_alladr (P := P) (w := w) (base := base) T
  have g_is_complete_run := ok_iscrun (P := P) (w := w) (base := base) T
  refine T.F__law_parts_right.ok sc__law_parts_right (fun vs H Q E h => ?_) (fun cdv A outer s H vs Q E hr h => ?_)
  · obtain ⟨p, ea, m, v, s, j, rs, ne, as, rfl, _⟩ := h
    rfl
  obtain ⟨p, ea, m, v, st, j, rs, ne, as, rfl, hp, hm, El, hea, hne, R, j40, q⟩ := h
  have hu := hu_of hr
  refine ⟨_, (pss_cons (ps_set (i := 4) sc__law_parts_right.nd rfl (Or.inl rfl) (pe_call g__law_random_run (hr.mono (by omega)) rfl T.m__law_random_run T.F__law_random_run.kp T.b__law_random_run .nil pass0 (pa_cons (pv 0) (pa_cons (pv 2) (pa_cons (pv 3) (pa_cons (pe_call g__law_draw (hr.mono (by omega)) rfl T.m__law_draw T.F__law_draw.kp T.b__law_draw .nil pass0 (pa_cons (pv 0) (pa_cons (pe_op op_add (pe_callB (r := rLenDt P w K) cr_lenDt (by rfl) T.n_len (by decide +kernel) (pa_cons (pv 2) pa_nil)) pe_int) pa_nil))) pa_nil))))))
      (pss_cons (ps_set (i := 5) sc__law_parts_right.nd rfl (Or.inl rfl) (pe_callN g_state_after (hr.mono (by omega)) rfl T.m_state_after T.F_state_after.kp T.kn_state_after pass0 (pa_cons (pv 1) (pa_cons (pv 4) pa_nil)) (pk_cons (pv 3) pk_nil)))
      (pss_cons (ps_set (i := 6) sc__law_parts_right.nd rfl (Or.inl rfl) (pe_callN g_some_run (hr.mono (by omega)) rfl T.m_some_run T.F_some_run.kp T.kn_some_run pass0 (pa_cons (pv 1) pa_nil) (pk_cons (pv 5) pk_nil)))
      (pss_cons (ps_set (i := 7) sc__law_parts_right.nd rfl (Or.inl rfl) (pe_callN g_run_usages (hr.mono (by omega)) rfl T.m_run_usages T.F_run_usages.kp T.kn_run_usages pass0 (pa_cons (pv 1) (pa_cons (pe_op (r := rCatA K) op_catA (pv 4) (pv 6)) pa_nil)) (pk_cons (pv 3) pk_nil)))
      (pss_cons (ps_if (pt_cmpR (r := rNeD K) (op_neD hr.units) (pe_op (r := rCatA K) op_catA (pe_callN g_run_usages (hr.mono (by omega)) rfl T.m_run_usages T.F_run_usages.kp T.kn_run_usages pass0 (pa_cons (pv 1) (pa_cons (pv 4) pa_nil)) (pk_cons (pv 3) pk_nil)) (pe_slice (r := rSlA K) sl_tupA (pe_callN g_run_usages (hr.mono (by omega)) rfl T.m_run_usages T.F_run_usages.kp T.kn_run_usages pass0 (pa_cons (pv 1) (pa_cons (pv 6) pa_nil)) (pk_cons (pv 5) pk_nil)) (po_some pe_int) po_none)) (pv 7) (nomark _)) (pss_one (ps_ret pe_bl)) pss_nil)
      (pss_cons (ps_if (pt_cmpR op_ne (pe_callN g_run_peak (hr.mono (by omega)) rfl T.m_run_peak T.F_run_peak.kp T.kn_run_peak pass0 (pa_cons (pv 1) (pa_cons (pe_op (r := rCatA K) op_catA (pv 4) (pv 6)) pa_nil)) (pk_cons (pv 3) pk_nil)) (pe_callB (r := rMaxT K) (cr_maxT rfl (room66 hr)) (by rfl) T.n_max (by decide +kernel) (pa_cons (pv 7) pa_nil)) (nomark _)) (pss_one (ps_ret pe_bl)) pss_nil)
      (pss_cons (ps_if (pt_cmpR (r := rNeD K) (op_neD hr.units) (pe_callN g_state_after (hr.mono (by omega)) rfl T.m_state_after T.F_state_after.kp T.kn_state_after pass0 (pa_cons (pv 1) (pa_cons (pv 6) pa_nil)) (pk_cons (pv 5) pk_nil)) (pe_call g_all_addresses (hr.mono (by omega)) rfl T.m_all_addresses T.F_all_addresses.kp T.b_all_addresses .nil pass0 (pa_cons (pv 1) pa_nil)) (nomark _)) (pss_one (ps_ret pe_bl)) pss_nil)
      (pss_one (ps_ret (pe_and (pe_cmpR op_isBl (pe_callN g_is_complete_run (hr.mono (by omega)) rfl T.m_is_complete_run T.F_is_complete_run.kp T.kn_is_complete_run pass0 (pa_cons (pv 1) (pa_cons (pe_op (r := rCatA K) op_catA (pv 4) (pv 6)) pa_nil)) (pk_cons (pv 3) pk_nil)) pe_bl (nomark _)) (pe_one (pe_cmpR op_eq (pe_callB (r := rLenS K) call_lenS (by rfl) T.n_len (by decide +kernel) (pa_cons (pv 7) pa_nil)) (pe_op op_add pe_int (pe_callB (r := rLenS K) call_lenS (by rfl) T.n_len (by decide +kernel) (pa_cons (pe_op (r := rCatA K) op_catA (pv 4) (pv 6)) pa_nil))) (nomark _))))))))))))), ?_⟩
  have alen := J.adr_len j R.stb
  have rl : rs.length = j.adr.length := by rw [← El.names, List.length_map]
  obtain ⟨hma, asc, clo⟩ := (stB_ad R.stb as).mp R.ok
  have nda := asc_nodup ((ascB_iff as).mp asc)
  have la := nodup_len as _ nda hma
  obtain ⟨lp, hlp⟩ := hp.lst
  refine ⟨_, rfl, _, rfl, _, rfl, _, rfl, _, rfl, ea, rs, rfl, .inl hea, El.keys, ?_⟩
  refine ⟨_, _, rfl, rfl, p, m, _, rfl, hp, by omega, by omega, ?_, fun H1 r1 s1 hp1 a0 a1 => ?_⟩
  · exact Nat.lt_of_le_of_lt (show (((rs.length : Nat) : Int) + 1).natAbs ≤ 41 by omega) (by decide)
  obtain ⟨El1, hea1⟩ := El.sx hea hlp hne s1
  obtain ⟨lp1, hlp1⟩ := hp1.lst
  have k1 := fun b xs (h : SqT K H b xs) => s1.sqT hlp h
  have R1 : StAt K H1 v st j as := ⟨dp_keep k1 j.noL R.dv, dp_keep k1 (ads_noLR as) R.ds, R.d20, R.stb, R.sz, R.st, R.b1, R.ok⟩
  obtain ⟨ts, us, ets, hus, hua⟩ := dp_tup_inv R1.ds
  cases ets
  have er : V.int r1 = V.int ((r1.toNat : Nat) : Int) := by rw [Int.toNat_of_nonneg a0]
  refine ⟨p, ea, ts, _, r1.toNat, j, rs, _, as, by rw [er]; rfl, hp1, by omega, by omega, El1, hea1, hne, R1.ds, by omega, by omega, fun H2 t2 x2 r2 s2 hp2 q2 h2 go2 l2 => ?_⟩
  have k2 := fun b xs (h : SqT K H1 b xs) => s2.sqT hlp1 h
  have R2 : StAt K H2 v (.ref ts) j as := ⟨dp_keep k2 j.noL R1.dv, dp_keep k2 (ads_noLR as) R1.ds, R.d20, R.stb, R.sz, R.st, R.b1, R.ok⟩
  have S2 : Sx p H H2 := s1.trans s2
  have d2 : Dp K H2 (.ref t2) (.tuple (adDs r2)) := .tup q2 h2
  have F2 := R2.run d2 go2
  obtain ⟨m2, clo2, nd2, _, _, _⟩ := F2.facts
  have len2 := nodup_len _ _ nd2 m2
  rw [List.length_append] at len2
  -- the middle
  refine ⟨_, rfl, _, rfl, _, rfl, rfl, rfl, v, .ref t2, .ref ts, j, as, r2, rfl, F2, fun H3 t3 x3 ls s3 q3 h3 pm3 asc3 => ?_⟩
  have R3 := R2.same s3
  have ok3 : stB j (.tuple (adDs ls)) = true := (stB_ad R.stb ls).mpr ⟨fun a ha => m2 a (pm3.mem_iff.mp ha), (ascB_iff ls).mpr asc3, fun x hx y hy hxy => pm3.mem_iff.mpr (clo2 x hx y (pm3.mem_iff.mp hy) hxy)⟩
  obtain ⟨hm3, _, clo3⟩ := (stB_ad R.stb ls).mp ok3
  have nd3 := asc_nodup asc3
  have l3 := nodup_len ls _ nd3 hm3
  have M3 : StAt K H3 v (.ref t3) j ls := ⟨R3.dv, .tup q3 h3, R.d20, R.stb, R.sz, R.st, bulk20 R.d20 hm3 (by omega), ok3⟩
  -- the rest
  refine ⟨_, rfl, _, rfl, rfl, rfl, v, .ref t3, j, ls, rfl, M3.dv, M3.ds, M3.b1, R.d20, R.stb, R.sz, R.st, ok3, fun H4 t4 x4 s4 q4 h4 => ?_⟩
  have M4 := M3.same s4
  have R4 := R3.same s4
  have goR : RunF j ls (j.adr.filter fun a => !ls.contains a) := rest_run clo3
  have ndR := (asc_nodup (adrW_asc j)).sublist (List.filter_sublist (p := fun a => !ls.contains a))
  have lenR := rest_len nd3 hm3
  generalize eR : (j.adr.filter fun a => !ls.contains a) = rest at h4 goR ndR lenR
  have goA : RunF j (as ++ r2) rest := goR.congr fun x => by rw [pm3.mem_iff]
  have go12 := go2.app goA
  have lx2 : x2.length = r2.length := by rw [dpAll_length h2, adDs, List.length_map]
  have lx4 : x4.length = rest.length := by rw [dpAll_length h4, adDs, List.length_map]
  have pl := pm3.length_eq
  rw [List.length_append] at pl
  have S24 := s3.trans s4
  have hcat : ∀ {F : Hp} {Q : VK}, Same H4 F → (∀ (F' : Hp) (t : Addr), Same F F' → Dp K F' (.ref t) (.tuple (adDs (r2 ++ rest))) → Q (.ref t) F') → rCatA K (.ref t2) (.ref t4) F Q := fun {F Q} sF go => by
    refine rCatA_q (same_sqT (S24.trans sF) q2) (same_sqT sF q4) (small (by omega)) (fun F' t sF' q' => go F' t sF' ?_)
    refine .tup q' ?_
    rw [adDs, List.map_append]
    exact dpAll_append (dpAll_same ((S24.trans sF).trans sF') h2) (dpAll_same (sF.trans sF') h4)
  -- usages of both
  refine ⟨_, rfl, _, rfl, _, rfl, ?_⟩
  refine hcat (Same.refl _) fun H5 t5 s5 d5 => ?_
  have R5 := R4.same s5
  refine ⟨_, rfl, rfl, rfl, v, .ref t5, .ref ts, j, as, _, rfl, R5.run d5 go12, fun H6 t6 s6 q6 => ?_⟩
  have R6 := R5.same s6
  have M6 := (M4.same s5).same s6
  have S46 := s5.trans s6
  -- usages of the one and of the other
  refine ⟨_, rfl, _, rfl, _, rfl, rfl, rfl, v, .ref t2, .ref ts, j, as, r2, rfl, R6.run (dp_same (S24.trans S46) d2) go2, fun H7 t7 s7 q7 => ?_⟩
  have M7 := M6.same s7
  have R7 := R6.same s7
  refine ⟨_, rfl, _, rfl, _, rfl, rfl, rfl, v, .ref t4, .ref t3, j, ls, rest, rfl, M7.run (.tup (same_sqT (S46.trans s7) q4) (dpAll_same (S46.trans s7) h4)) goR, fun H8 t8 s8 q8 => ?_⟩
  try unfold tNoPart
  try dsimp only
  refine ⟨_, rfl, ?_⟩
  have q8l : ((sumsR j.srows rest (useR j.srows ls)).map V.int).length = rest.length + 1 := by rw [List.length_map, sumsR_len]
  refine rSlA_q q8 (fun H9 t9 s9 q9 => ?_)
  have ec : cutV ((sumsR j.srows rest (useR j.srows ls)).map V.int) (some 1) none = ((sumsR j.srows rest (useR j.srows as + useR j.srows r2)).drop 1).map V.int := by
    rw [show (1 : Int) = ((1 : Nat) : Int) from rfl, cut_fromW (by rw [q8l]; omega), ← List.map_drop, use_perm j.srows pm3, use_app]
  rw [ec] at q9
  refine rCatA_q (same_sqT (s8.trans s9) q7) q9 (small (by simp only [List.length_map, List.length_drop, sumsR_len]; omega)) (fun H10 t10 s10 q10 => ?_)
  rw [← List.map_append, sumsR_app] at q10
  have S610 := s7.trans (s8.trans (s9.trans s10))
  refine ⟨_, rfl, _, _, sums_dpE q10, sums_dpE (same_sqT S610 q6), ints_shaped _, ints_shaped _, _, rfl, ?_⟩
  rw [ints_selfB]
  refine iteF ?_
  -- the peak
  have S410 := S46.trans S610
  refine ⟨_, rfl, _, rfl, _, rfl, ?_⟩
  refine hcat S410 fun H11 t11 s11 d11 => ?_
  have R11 := (R6.same S610).same s11
  refine ⟨_, rfl, rfl, rfl, v, .ref t11, .ref ts, j, as, _, rfl, R11.run d11 go12, fun H12 pk s12 k1' k2' => ?_⟩
  have R12 := R11.same s12
  have S612 := S610.trans (s11.trans s12)
  refine ⟨_, rfl, t6, _, rfl, same_sqT S612 q6, by rw [sumsR_len]; omega, fun pk' a1 a2 => ?_⟩
  obtain rfl : pk' = pk := max_one a1 a2 k1' k2'
  refine ⟨rfl, ?_⟩
  refine ⟨_, rfl, ?_⟩
  rw [decide_eq_true (rfl : V.int pk' = V.int pk')]
  refine iteF ?_
  -- the state at the end
  have M12 := M6.same S612
  have S412 := S46.trans S612
  refine ⟨_, rfl, _, rfl, _, rfl, rfl, rfl, v, .ref t4, .ref t3, j, ls, rest, rfl, M12.run (.tup (same_sqT S412 q4) (dpAll_same S412 h4)) goR, fun H13 t13 x13 ls13 s13 q13 h13 pm13 asc13 => ?_⟩
  have R13 := R12.same s13
  refine ⟨_, rfl, v, j, rfl, R13.dv, R.sz, R.st, fun H14 x14 s14 d14 => ?_⟩
  have R14 := R13.same s14
  have eall : ls13 = j.adr := by
    refine same_of_sorted pm13 asc13 ((List.perm_ext_iff_of_nodup (asc_nodup (adrW_asc j)) ?_).mpr fun a => ?_) (adrW_asc j)
    · rw [← eR]
      refine List.nodup_append.mpr ⟨nd3, (asc_nodup (adrW_asc j)).sublist List.filter_sublist, fun a ha b hb e => ?_⟩
      rw [← e, List.mem_filter] at hb
      simp [ha] at hb
    · rw [List.mem_append, ← eR, List.mem_filter]
      by_cases h : a ∈ ls
      · exact ⟨fun _ => .inl h, fun _ => hm3 a h⟩
      · simp [h]
  subst eall
  refine ⟨_, _, .tup (same_sqT s14 q13) (dpAll_same s14 h13), d14, adT_shaped _, adT_shaped _, _, rfl, ?_⟩
  rw [adT_selfB]
  refine iteF ?_
  have S614 := S612.trans (s13.trans s14)
  have S414 := S46.trans S614
  refine ⟨_, rfl, _, rfl, _, rfl, ?_⟩
  refine hcat S414 fun H15 t15 s15 d15 => ?_
  have R15 := R14.same s15
  have RR := R15.run d15 go12
  refine ⟨_, rfl, rfl, rfl, v, .ref t15, .ref ts, as, j, 0, _, rfl, RR.dv, RR.ds, RR.b1, RR.d20, RR.stb, RR.sz, RR.st, RR.ok, dq_of (ads_noLR _) RR.dr, RR.b2, fun H16 s16 => ?_⟩
  rw [allF_comp R.stb clo]
  have ecomp : compL j as (.tuple (adDs (r2 ++ rest))) = true := by
    show (walkL j as (adDs (r2 ++ rest)) && decide (((as.length : Nat) : Int) + (((adDs (r2 ++ rest)).length : Nat) : Int) = ((j.adr.length : Nat) : Int))) = true
    rw [runF_walk15 go12, Bool.true_and, decide_eq_true_eq, adDs, List.length_map, List.length_append]
    omega
  rw [ecomp]
  refine ⟨_, _, rfl, rfl, _, rfl, ?_⟩
  refine iteT ?_
  have S416 := S414.trans (s15.trans s16)
  have S616 := S614.trans (s15.trans s16)
  refine ⟨_, rfl, t6, _, rfl, .inr (same_sqT S616 q6), ?_⟩
  refine ⟨_, rfl, _, rfl, ?_⟩
  refine hcat S416 fun H17 t17 s17 d17 => ?_
  obtain ⟨t17', x17, e17, q17, h17⟩ := dp_tup_inv d17
  cases e17
  refine ⟨t17, _, rfl, .inr q17, ?_⟩
  refine ⟨_, _, rfl, rfl, ?_⟩
  have S417 := S416.trans s17
  have ex : V.int (((sumsR j.srows (r2 ++ rest) (useR j.srows as)).map V.int).length : Int) = V.int (1 + (x17.length : Int)) := by
    congr 1
    rw [List.length_map, sumsR_len, dpAll_length h17, adDs, List.length_map]
    omega
  refine ⟨rfl, ?_⟩
  rw [decide_eq_true ex]
  have SxE : Sx p H H17 := S2.trans (Same.sx (S24.trans S417))
  exact q _ SxE ((hp2.mono (by omega)).same (S24.trans S417))
end

/-! block DeepM18: the deep job, computed (behind bParts18) -/
/-- the job after so many turns -/
def jD : Nat → J
  | 0 => .ps false [.st 3, .st (-5)]
  | t + 1 => if t % 4 = 0 then .ps false [jD t] else if t % 4 = 1 then .ps true [jD t] else if t % 4 = 2 then .rn false 2 (jD t) else .rn true 2 (jD t)
def jX : J := jD 11
theorem jX_sz : szJ jX 400 13 = some (14, 64) := by decide +kernel
theorem jX_some : (szJ jX 400 13).isSome = true := by rw [jX_sz]; rfl
theorem jX_ok : jX.ok := (szJ_inv jX 400 13 _ _ jX_sz).1
theorem jX_stb : jX.stb := J.stb_ok _ jX_ok
theorem jX_deep : jX.deep ≤ 20 := by have := (szJ_inv jX 400 13 _ _ jX_sz).2.2.1; omega
theorem jX_steps : jX.steps = 64 := (szJ_inv jX 400 13 _ _ jX_sz).2.2.2.2.symm
theorem jX_adr : jX.adr.length = 64 := by have := J.adr_len jX jX_stb; rw [jX_steps] at this; omega
theorem jX_half : stB jX (.tuple (adDs (jX.adr.take 30))) = true := by decide +kernel
theorem jX_twice : walkL jX [] (adDs (jX.adr ++ jX.adr.take 1)) = false := by decide +kernel
theorem jX_back : walkL jX [] (adDs jX.adr.reverse) = false := by decide +kernel
theorem jX_nine : walkL jX [] (adDs (jX.adr.take 9)) = true := by decide +kernel
theorem jX_lift : (jX.adr.filter fun a => !(jX.adr.take 30).contains a) = jX.adr.drop 30 := by decide +kernel
theorem jX_cut : (jX.adr.filter fun a => (jX.adr.take 30).contains a) = jX.adr.take 30 := by decide +kernel
theorem jX_sum : useR jX.srows jX.adr = -64 := by decide +kernel
theorem jX_first : (jX.adr.head?.map List.length) = some 12 := by decide +kernel
theorem dpAll_take {K : PySem.W.Frag} {H : Hp} : ∀ (n : Nat) {vs : List V} {ds : List PyData}, DpAll K H vs ds → DpAll K H (vs.take n) (ds.take n)
  | 0, _, _, _ => by simpa using .nil
  | n + 1, _, _, .nil => by simpa using .nil
  | n + 1, _, _, .cons h t => .cons h (dpAll_take n t)
theorem dpAll_drop {K : PySem.W.Frag} {H : Hp} : ∀ (n : Nat) {vs : List V} {ds : List PyData}, DpAll K H vs ds → DpAll K H (vs.drop n) (ds.drop n)
  | 0, _, _, h => by simpa using h
  | n + 1, _, _, .nil => by simpa using .nil
  | n + 1, _, _, .cons h t => dpAll_drop n t
theorem cut_toN {us : List V} {n : Nat} : cutV us none (some (n : Int)) = us.take n := by
  unfold cutV HT.sIx
  dsimp only
  rw [if_neg (by omega)]
  simp only [Nat.sub_zero, List.drop_zero, Int.toNat_natCast]
  by_cases h : n ≤ us.length
  · rw [Nat.min_eq_left h]
  · rw [Nat.min_eq_right (by omega), List.take_of_length_le (Nat.le_refl _), List.take_of_length_le (by omega)]
theorem cut_fromN {us : List V} {n : Nat} : cutV us (some (n : Int)) none = us.drop n := by
  unfold cutV HT.sIx
  dsimp only
  rw [if_neg (by omega), Int.toNat_natCast]
  by_cases h : n ≤ us.length
  · rw [Nat.min_eq_left h, List.take_of_length_le (by rw [List.length_drop]; exact Nat.le_refl _)]
  · rw [Nat.min_eq_right (by omega), Nat.sub_self, List.take_zero, List.drop_of_length_le (by omega)]
/-- a slice of a tuple of addresses -/
theorem sl_to {K : PySem.W.Frag} {H : Hp} {Q : VK} {t : Addr} {us : List V} {as : List (List Int)} (n : Nat) (ht : SqT K H t us) (hx : DpAll K H us (adDs as))
    (go : ∀ (H' : Hp) (t' : Addr) (xs : List V), Same H H' → SqT K H' t' xs → DpAll K H' xs (adDs (as.take n)) → Q (.ref t') H') : rSlA K (.ref t) none (some (n : Int)) H Q := by
  refine rSlA_q ht fun H' t' s q' => go H' t' _ s q' ?_
  rw [cut_toN, adDs, List.map_take]
  exact dpAll_same s (dpAll_take n hx)
theorem sl_from {K : PySem.W.Frag} {H : Hp} {Q : VK} {t : Addr} {us : List V} {as : List (List Int)} (n : Nat) (ht : SqT K H t us) (hx : DpAll K H us (adDs as))
    (go : ∀ (H' : Hp) (t' : Addr) (xs : List V), Same H H' → SqT K H' t' xs → DpAll K H' xs (adDs (as.drop n)) → Q (.ref t') H') : rSlA K (.ref t) (some (n : Int)) none H Q := by
  refine rSlA_q ht fun H' t' s q' => go H' t' _ s q' ?_
  rw [cut_fromN, adDs, List.map_drop]
  exact dpAll_same s (dpAll_drop n hx)
theorem use_last {j : J} {run as : List (List Int)} : atI ((sumsR j.srows run (useR j.srows as)).map V.int) (-1) = some (.int (useR j.srows as + useR j.srows run)) := by
  obtain ⟨pre, epre⟩ := List.getLast?_eq_some_iff.mp (sumsR_last j.srows run (useR j.srows as))
  rw [epre, List.map_append]
  exact atI_last _ _
theorem StAt.of {K : PySem.W.Frag} {H : Hp} {v s s' : V} {j : J} {as bs : List (List Int)} (R : StAt K H v s j as) (ds : Dp K H s' (.tuple (adDs bs))) (ok : stB j (.tuple (adDs bs)) = true) : StAt K H v s' j bs := by
  obtain ⟨hm, asc, _⟩ := (stB_ad R.stb bs).mp ok
  have l := nodup_len bs _ (asc_nodup ((ascB_iff bs).mp asc)) hm
  have := J.adr_len j R.stb
  have := R.st
  exact ⟨R.dv, ds, R.d20, R.stb, R.sz, R.st, bulk20 R.d20 hm (by omega), ok⟩
theorem StAt.both {K : PySem.W.Frag} {H : Hp} {v r s e : V} {j : J} {as run : List (List Int)} (R : StAt K H v s j as) (dr : Dp K H r (.tuple (adDs run))) (go : RunF j [] run) : BothAt K H v r s j as run := by
  obtain ⟨c2, n2⟩ := go.clo (fun a _ b hb _ => absurd hb List.not_mem_nil) List.nodup_nil
  have l2 := nodup_len run _ n2 go.mem
  have := J.adr_len j R.stb
  have := R.st
  exact ⟨R.dv, dr, R.ds, R.d20, R.stb, R.sz, R.st, R.b1, bulk20 R.d20 go.mem (by omega), R.ok, runF_walk15 go⟩
theorem all_run (j : J) : RunF j [] j.adr := by
  have h := rest_run (j := j) (as := []) (fun a _ b hb _ => absurd hb List.not_mem_nil)
  rwa [show (j.adr.filter fun a => !([] : List (List Int)).contains a) = j.adr from by simp] at h
theorem adr_bulk {j : J} (d : j.deep ≤ 20) {as : List (List Int)} (hm : ∀ a ∈ as, a ∈ j.adr) (l : as.length ≤ 500) : (PyData.tuple (adDs as)).bulk ≤ 80000 := by
  have h3 := adDs_bulk (n := 20) (as := as) fun a ha => Nat.le_trans (J.adr_deep j a (hm a ha)) d
  have : as.length * 45 ≤ 500 * 45 := Nat.mul_le_mul_right _ l
  simp only [PyData.bulk]
  omega
theorem nil_clo (j : J) : Clo j [] := fun a _ b hb _ => absurd hb List.not_mem_nil
/-- what is known of the deep job, the job itself hidden -/
structure DeepJ (j : J) : Prop where
  some : (szJ j 400 13).isSome = true
  stb : j.stb
  deep : j.deep ≤ 20
  steps : j.steps = 64
  adr : j.adr.length = 64
  half : stB j (.tuple (adDs (j.adr.take 30))) = true
  twice : walkL j [] (adDs (j.adr ++ j.adr.take 1)) = false
  back : walkL j [] (adDs j.adr.reverse) = false
  nine : walkL j [] (adDs (j.adr.take 9)) = true
  lift : (j.adr.filter fun a => !(j.adr.take 30).contains a) = j.adr.drop 30
  cut : (j.adr.filter fun a => (j.adr.take 30).contains a) = j.adr.take 30
  sum : useR j.srows j.adr = -64
  first : (j.adr.head?.map List.length) = Option.some 12
theorem jX_deepJ : DeepJ jX := ⟨jX_some, jX_stb, jX_deep, jX_steps, jX_adr, jX_half, jX_twice, jX_back, jX_nine, jX_lift, jX_cut, jX_sum, jX_first⟩
theorem iteFb {c : Bool} {A B : Prop} (h : c = false) (b : B) : if c = true then A else B := by
  subst h
  exact b
theorem iteTb {c : Bool} {A B : Prop} (h : c = true) (a : A) : if c = true then A else B := by
  subst h
  exact a

/-! block Deep18: _law_deep_right (behind bDeepM18) -/
section
variable {P : Program} {w : World} {K : PySem.W.Frag} {mg : Str → Option Value} {base : Heap}
def spDeep18 : Sp := fun vs H Q _ => vs = [] ∧ ∀ H', Same H H' → Q (.bl true) H'
theorem ok_deep18 (T : Txt K mg) : FnOk P w K mg base CX0 50 T.f__law_deep_right T.d__law_deep_right [] spDeep18 := by
  have g_some_run := ok_some (P := P) (w := w) (base := base) T
  have g_run_usages := ok_ru (P := P) (w := w) (base := base) T
  have g_state_after := ok_sta (P := P) (w := w) (base := base) T
  have g_all_addresses := ok_alladr (P := P) (w := w) (base := base) T
  have g_is_run := ok_isrun (P := P) (w := w) (base := base) T
  have g_is_complete_run := ok_iscrun (P := P) (w := w) (base := base) T
  have g_lift_run := ok_lift (P := P) (w := w) (base := base) T
  have g_cut_run := ok_cut (P := P) (w := w) (base := base) T
  refine T.F__law_deep_right.ok sc__law_deep_right (fun vs H Q E h => ?_) (fun cdv A outer s H vs Q E hr h => ?_)
  · obtain ⟨rfl, _⟩ := h
    rfl
  obtain ⟨rfl, q⟩ := h
  refine ⟨_, (pss_cons (ps_set (i := 0) sc__law_deep_right.nd rfl (Or.inl rfl) (pe_tup (pa_cons pe_str (pa_cons (pe_tup (pa_cons pe_int (pa_cons (pe_un un_neg pe_int) pa_nil))) pa_nil))))
      (pss_cons (ps_for PassesOwn.never rfl (pi_range1 rfl T.n_range (pa_cons pe_int pa_nil)) (pg_name (i := 1) sc__law_deep_right.nd rfl (Or.inl rfl))
        (pss_one (ps_set (i := 0) sc__law_deep_right.nd rfl (Or.inl rfl) (pe_ix (r := rIxL K) ix_list (pe_lst (pa_cons (pe_tup (pa_cons pe_str (pa_cons (pe_tup (pa_cons (pv 0) pa_nil)) pa_nil))) (pa_cons (pe_tup (pa_cons pe_str (pa_cons (pe_tup (pa_cons (pv 0) pa_nil)) pa_nil))) (pa_cons (pe_tup (pa_cons pe_str (pa_cons pe_int (pa_cons (pv 0) pa_nil)))) (pa_cons (pe_tup (pa_cons pe_str (pa_cons pe_int (pa_cons (pv 0) pa_nil)))) pa_nil))))) (pe_op op_mod (pv 1) pe_int) (fun _ _ => rfl)))))
      (pss_cons (ps_set (i := 2) sc__law_deep_right.nd rfl (Or.inl rfl) (pe_call g_some_run (hr.mono (by omega)) rfl T.m_some_run T.F_some_run.kp T.b_some_run T.vd_some_run pass0 (pa_cons (pv 0) pa_nil)))
      (pss_cons (ps_if (PW.pt (pw_or (pt_cmpR op_ne (pe_callB (r := rLenS K) call_lenS (by rfl) T.n_len (by decide +kernel) (pa_cons (pv 2) pa_nil)) pe_int (nomark _)) (pw_or (pt_cmpR op_notBl (pe_call g_is_complete_run (hr.mono (by omega)) rfl T.m_is_complete_run T.F_is_complete_run.kp T.b_is_complete_run T.vd_is_complete_run pass0 (pa_cons (pv 0) (pa_cons (pv 2) pa_nil))) pe_bl (nomark _)) (pw_or1 (pt_cmpR (r := rNeD K) (op_neD hr.units) (pe_ix (r := rIxT K) ix_tup (pe_call g_run_usages (hr.mono (by omega)) rfl T.m_run_usages T.F_run_usages.kp T.b_run_usages T.vd_run_usages pass0 (pa_cons (pv 0) (pa_cons (pv 2) pa_nil))) (pe_un un_neg pe_int) (fun _ _ => rfl)) (pe_un un_neg pe_int) (nomark _)))))) (pss_one (ps_ret pe_bl)) pss_nil)
      (pss_cons (ps_if (pt_cmpR (r := rNeD K) (op_neD hr.units) (pe_lst (pa_cons (pe_call g_is_run (hr.mono (by omega)) rfl T.m_is_run T.F_is_run.kp T.b_is_run T.vd_is_run pass0 (pa_cons (pv 0) (pa_cons (pe_op (r := rCatA K) op_catA (pv 2) (pe_slice (r := rSlA K) sl_tupA (pv 2) po_none (po_some pe_int))) pa_nil))) (pa_cons (pe_call g_is_run (hr.mono (by omega)) rfl T.m_is_run T.F_is_run.kp T.b_is_run T.vd_is_run pass0 (pa_cons (pv 0) (pa_cons (pe_revT (pv 2)) pa_nil))) (pa_cons (pe_call g_is_run (hr.mono (by omega)) rfl T.m_is_run T.F_is_run.kp T.b_is_run T.vd_is_run pass0 (pa_cons (pv 0) (pa_cons (pe_slice (r := rSlA K) sl_tupA (pv 2) po_none (po_some pe_int)) pa_nil))) pa_nil)))) (pe_lst (pa_cons pe_bl (pa_cons pe_bl (pa_cons pe_bl pa_nil)))) (nomark _)) (pss_one (ps_ret pe_bl)) pss_nil)
      (pss_cons (ps_set (i := 3) sc__law_deep_right.nd rfl (Or.inl rfl) (pe_callTy (r := rTupS K) call_tupS (by rfl) T.n_tuple (by decide +kernel) (pa_cons (pe_callB (r := rSortTZ K) cr_sortTZ (by rfl) T.n_sorted (by decide +kernel) (pa_cons (pe_slice (r := rSlA K) sl_tupA (pv 2) po_none (po_some pe_int)) pa_nil)) pa_nil)))
      (pss_cons (ps_if (PW.pt (pw_or (pt_cmpR (r := rNeD K) (op_neD hr.units) (pe_call g_lift_run (hr.mono (by omega)) rfl T.m_lift_run T.F_lift_run.kp T.b_lift_run .nil pass0 (pa_cons (pv 0) (pa_cons (pv 2) (pa_cons (pv 3) pa_nil)))) (pe_slice (r := rSlA K) sl_tupA (pv 2) (po_some pe_int) po_none) (nomark _)) (pw_or1 (pt_cmpR (r := rNeD K) (op_neD hr.units) (pe_call g_cut_run (hr.mono (by omega)) rfl T.m_cut_run T.F_cut_run.kp T.b_cut_run .nil pass0 (pa_cons (pv 0) (pa_cons (pv 2) (pa_cons (pv 3) pa_nil)))) (pe_slice (r := rSlA K) sl_tupA (pv 2) po_none (po_some pe_int)) (nomark _))))) (pss_one (ps_ret pe_bl)) pss_nil)
      (pss_cons (ps_if (pt_cmpR (r := rNeD K) (op_neD hr.units) (pe_callN g_run_usages (hr.mono (by omega)) rfl T.m_run_usages T.F_run_usages.kp T.kn_run_usages pass0 (pa_cons (pv 0) (pa_cons (pe_slice (r := rSlA K) sl_tupA (pv 2) (po_some pe_int) po_none) pa_nil)) (pk_cons (pv 3) pk_nil)) (pe_slice (r := rSlA K) sl_tupA (pe_call g_run_usages (hr.mono (by omega)) rfl T.m_run_usages T.F_run_usages.kp T.b_run_usages T.vd_run_usages pass0 (pa_cons (pv 0) (pa_cons (pv 2) pa_nil))) (po_some pe_int) po_none) (nomark _)) (pss_one (ps_ret pe_bl)) pss_nil)
      (pss_one (ps_ret (pe_and (pe_cmpR (r := rEqD K) (op_eqD hr.units) (pe_callN g_state_after (hr.mono (by omega)) rfl T.m_state_after T.F_state_after.kp T.kn_state_after pass0 (pa_cons (pv 0) (pa_cons (pe_slice (r := rSlA K) sl_tupA (pv 2) (po_some pe_int) po_none) pa_nil)) (pk_cons (pv 3) pk_nil)) (pe_call g_all_addresses (hr.mono (by omega)) rfl T.m_all_addresses T.F_all_addresses.kp T.b_all_addresses .nil pass0 (pa_cons (pv 0) pa_nil)) (nomark _)) (pe_one (pe_cmpR op_eq (pe_callB (r := rLenS K) call_lenS (by rfl) T.n_len (by decide +kernel) (pa_cons (pe_ix (r := rIxT K) ix_tup (pv 2) pe_int (fun _ _ => rfl)) pa_nil)) pe_int (nomark _)))))))))))))), ?_⟩
  refine ⟨_, rfl, (by show 2 ≤ sizeLine; decide), fun a1 ha1 => ?_⟩
  obtain ⟨u1, d1⟩ := tup_fresh (K := K) (ds := [.int 3, .int (-5)]) ha1 (.cons (.int _) (.cons (.int _) .nil))
  generalize (upd H a1 (.tup [.int 3, .int (-5)])) = G1 at u1 d1 ⊢
  refine ⟨(by show 2 ≤ sizeLine; decide), fun a2 ha2 => ?_⟩
  obtain ⟨u2, d2⟩ := tup_fresh (K := K) (ds := [.str "seq", .tuple [.int 3, .int (-5)]]) ha2 (.cons (.str _) (.cons d1 .nil))
  generalize (upd G1 a2 (.tup [.str "seq", .ref a1])) = G2 at u2 d2 ⊢
  have d2 : Dp K G2 (.ref a2) (jD 0).toD := d2
  have t2 := u1.trans u2
  refine ⟨_, rfl, by decide, by decide, ?_⟩
  refine for_range (lo := 0) (n := (11 : Int).toNat) (fun i σ G => ∃ (v : V) (y1 : Option V), σ = [some v, y1, none, none] ∧ Same H G ∧ Dp K G v (jD i).toD) ⟨_, _, rfl, t2, d2⟩ ?_ ?_
  · rintro i σ G hi ⟨v, y1, rfl, t, dv⟩
    -- one of four jobs around the job
    refine ⟨_, rfl, (by show 1 ≤ sizeLine; decide), fun b1 hb1 => ?_⟩
    obtain ⟨w1, k1⟩ := tup_fresh (K := K) (ds := [(jD i).toD]) hb1 (.cons dv .nil)
    generalize (upd G b1 (.tup [v])) = F1 at w1 k1 ⊢
    refine ⟨(by show 2 ≤ sizeLine; decide), fun b2 hb2 => ?_⟩
    obtain ⟨w2, k2⟩ := tup_fresh (K := K) (ds := [.str "seq", .tuple [(jD i).toD]]) hb2 (.cons (.str _) (.cons k1 .nil))
    generalize (upd F1 b2 (.tup [.str "seq", .ref b1])) = F2 at w2 k2 ⊢
    refine ⟨_, rfl, (by show 1 ≤ sizeLine; decide), fun b3 hb3 => ?_⟩
    obtain ⟨w3, k3⟩ := tup_fresh (K := K) (ds := [(jD i).toD]) hb3 (.cons (dp_same (w1.trans w2) dv) .nil)
    generalize (upd F2 b3 (.tup [v])) = F3 at w3 k3 ⊢
    refine ⟨(by show 2 ≤ sizeLine; decide), fun b4 hb4 => ?_⟩
    obtain ⟨w4, k4⟩ := tup_fresh (K := K) (ds := [.str "par", .tuple [(jD i).toD]]) hb4 (.cons (.str _) (.cons k3 .nil))
    generalize (upd F3 b4 (.tup [.str "par", .ref b3])) = F4 at w4 k4 ⊢
    have w14 := w1.trans (w2.trans (w3.trans w4))
    refine ⟨_, rfl, (by show 3 ≤ sizeLine; decide), fun b5 hb5 => ?_⟩
    obtain ⟨w5, k5⟩ := tup_fresh (K := K) (ds := [.str "repeat", .int 2, (jD i).toD]) hb5 (.cons (.str _) (.cons (.int _) (.cons (dp_same w14 dv) .nil)))
    generalize (upd F4 b5 (.tup [.str "repeat", .int 2, v])) = F5 at w5 k5 ⊢
    refine ⟨_, rfl, (by show 3 ≤ sizeLine; decide), fun b6 hb6 => ?_⟩
    obtain ⟨w6, k6⟩ := tup_fresh (K := K) (ds := [.str "copies", .int 2, (jD i).toD]) hb6 (.cons (.str _) (.cons (.int _) (.cons (dp_same (w14.trans w5) dv) .nil)))
    generalize (upd F5 b6 (.tup [.str "copies", .int 2, v])) = F6 at w6 k6 ⊢
    refine ⟨(by show 4 ≤ sizeLine; decide), fun b7 hb7 => ?_⟩
    have w7 : Same F6 (upd F6 b7 (.lst [.ref b2, .ref b4, .ref b5, .ref b6])) := same_new hb7
    have e7 : upd F6 b7 (.lst [.ref b2, .ref b4, .ref b5, .ref b6]) b7 = some (.lst [.ref b2, .ref b4, .ref b5, .ref b6]) := upd_same
    generalize (upd F6 b7 (.lst [.ref b2, .ref b4, .ref b5, .ref b6])) = F7 at w7 e7 ⊢
    have w17 := w14.trans (w5.trans (w6.trans w7))
    obtain ⟨z, ez, dz⟩ : ∃ z, atI [V.ref b2, V.ref b4, V.ref b5, V.ref b6] ((0 + (i : Int)) % 4) = some z ∧ Dp K F7 z (jD (i + 1)).toD := by
      have h4 : i % 4 = 0 ∨ i % 4 = 1 ∨ i % 4 = 2 ∨ i % 4 = 3 := by omega
      rcases h4 with h | h | h | h
      · refine ⟨.ref b2, atI_at (j := 0) (by omega) rfl, ?_⟩
        rw [jD, if_pos h]
        exact dp_same (w3.trans (w4.trans (w5.trans (w6.trans w7)))) k2
      · refine ⟨.ref b4, atI_at (j := 1) (by omega) rfl, ?_⟩
        rw [jD, if_neg (by omega), if_pos h]
        exact dp_same (w5.trans (w6.trans w7)) k4
      · refine ⟨.ref b5, atI_at (j := 2) (by omega) rfl, ?_⟩
        rw [jD, if_neg (by omega), if_neg (by omega), if_pos h]
        exact dp_same (w6.trans w7) k5
      · refine ⟨.ref b6, atI_at (j := 3) (by omega) rfl, ?_⟩
        rw [jD, if_neg (by omega), if_neg (by omega), if_neg (by omega)]
        exact dp_same w7 k6
    refine ⟨_, rfl, _, _, rfl, rfl, (by show (0 : Int) < 4; decide), ?_⟩
    refine ⟨_, _, _, _, rfl, rfl, SqL.of e7, ez, ?_⟩
    exact ⟨z, _, rfl, t.trans w17, dz⟩
  · rintro σ G ⟨v, y1, rfl, t, dv⟩
    have dv : Dp K G v jX.toD := dv
    have X := jX_deepJ
    generalize jX = j at dv X
    obtain ⟨hsz, hstb, hdeep, hsteps, hadr, hhalf, htwice, hback, hnine, hlift, hcut, hsum, hfirst⟩ := X
    have go0 := all_run j
    have fAll : (j.adr.filter fun a => !([] : List (List Int)).contains a) = j.adr := by simp
    refine ⟨_, rfl, v, .ref T.e_some_run, j, [], rfl, dv, .tup (T.et_some_run _) .nil, by decide, hdeep, hstb, hsz, by omega, stB_none hstb, fun F1 t1 x1 s1 q1 h1 => ?_⟩
    rw [fAll] at h1
    have xl : x1.length = 64 := by rw [dpAll_length h1, adDs, List.length_map, hadr]
    have A0 : ∀ (F : Hp) (e : Addr), Same G F → SqT K F e [] → StAt K F v (.ref e) j [] := fun F e s he => ⟨dp_same s dv, .tup he .nil, hdeep, hstb, hsz, by omega, by decide, stB_none hstb⟩
    refine ⟨_, rfl, t1, _, rfl, .inr q1, ?_⟩
    refine ⟨rfl, ?_⟩
    refine ⟨_, rfl, ?_⟩
    refine iteFb (by rw [xl]; rfl) ?_
    have R1 := A0 F1 T.e_is_complete_run s1 (T.et_is_complete_run _)
    have D1 : Dp K F1 (.ref t1) (.tuple (adDs j.adr)) := .tup q1 h1
    have B1 := R1.run D1 go0
    refine ⟨_, rfl, _, rfl, v, .ref t1, .ref T.e_is_complete_run, [], j, 0, _, rfl, B1.dv, B1.ds, B1.b1, B1.d20, B1.stb, B1.sz, B1.st, B1.ok, dq_of (ads_noLR _) B1.dr, B1.b2, fun F2 s2 => ?_⟩
    rw [allF_comp hstb (nil_clo j)]
    have ecomp : compL j [] (.tuple (adDs j.adr)) = true := by
      show (walkL j [] (adDs j.adr) && decide (((([] : List (List Int)).length : Nat) : Int) + (((adDs j.adr).length : Nat) : Int) = ((j.adr.length : Nat) : Int))) = true
      rw [runF_walk15 go0, Bool.true_and, decide_eq_true_eq, adDs, List.length_map]
      simp
    rw [ecomp]
    refine ⟨_, _, rfl, rfl, _, rfl, ?_⟩
    refine iteFb rfl ?_
    have S2 := s1.trans s2
    -- the last usage
    refine ⟨_, rfl, _, rfl, v, .ref t1, .ref T.e_run_usages, j, [], j.adr, rfl, (A0 F2 _ S2 (T.et_run_usages _)).run (dp_same s2 D1) go0, fun F3 t3 s3 q3 => ?_⟩
    refine ⟨_, rfl, ?_⟩
    refine ⟨_, _, _, _, rfl, rfl, q3, use_last, ?_⟩
    rw [hsum]
    refine ⟨_, rfl, _, _, .int _, .int _, rfl, rfl, _, rfl, ?_⟩
    refine iteFb (by simp [PyData.eqv, useR]) ?_
    have S3 := S2.trans s3
    have q13 := same_sqT (s2.trans s3) q1
    have h13 := dpAll_same (s2.trans s3) h1
    -- three values, one of them a run
    have eRun : ∀ as : List (List Int), ((allF j [] (.tuple (adDs as))).1 && (!false || decide ((allF j [] (.tuple (adDs as))).2.length = j.srows.length))) = walkL j [] (adDs as) := fun as => by
      rw [allF_eq hstb (nil_clo j)]
      show (walkL j [] (adDs as) && true) = _
      rw [Bool.and_true]
    refine ⟨_, rfl, _, rfl, _, rfl, ?_⟩
    try unfold tNoPart
    try dsimp only
    refine ⟨_, rfl, ?_⟩
    refine sl_to 1 q13 h13 fun F4 t4 x4 s4 q4 h4 => ?_
    have S4 := S3.trans s4
    have l4 : x4.length ≤ 1 := by rw [dpAll_length h4, adDs, List.length_map, List.length_take]; omega
    refine rCatA_q (same_sqT s4 q13) q4 (small (by omega)) (fun F5 t5 s5 q5 => ?_)
    have S5 := S4.trans s5
    have d5 : Dp K F5 (.ref t5) (.tuple (adDs (j.adr ++ j.adr.take 1))) := by
      refine .tup q5 ?_
      rw [adDs, List.map_append]
      exact dpAll_append (dpAll_same (s4.trans s5) h13) (dpAll_same s5 h4)
    have R_F5 := A0 F5 _ S5 (T.et_is_run _)
    refine ⟨v, .ref t5, .ref T.e_is_run, [], j, 0, _, rfl, R_F5.dv, R_F5.ds, R_F5.b1, R_F5.d20, R_F5.stb, R_F5.sz, R_F5.st, R_F5.ok, dq_of (ads_noLR _) d5, adr_bulk hdeep (fun a ha => (List.mem_append.mp ha).elim id fun h => List.mem_of_mem_take h) (by rw [List.length_append, List.length_take]; omega), fun F6 s6 => ?_⟩
    rw [eRun, htwice]
    have S6 := S5.trans s6
    have s36 := s4.trans (s5.trans s6)
    refine ⟨_, rfl, _, rfl, t1, _, rfl, same_sqT s36 q13, fun t7 ht7 => ?_⟩
    have s7 : Same F6 (upd F6 t7 (.tup x1.reverse)) := same_new ht7
    have d7 : Dp K (upd F6 t7 (.tup x1.reverse)) (.ref t7) (.tuple (adDs j.adr.reverse)) := by
      refine .tup (SqT.of upd_same) ?_
      rw [adDs, List.map_reverse]
      exact dpAll_rev (dpAll_same (s36.trans s7) h13)
    generalize (upd F6 t7 (.tup x1.reverse)) = F7 at s7 d7 ⊢
    have S7 := S6.trans s7
    have R_F7 := A0 F7 _ S7 (T.et_is_run _)
    refine ⟨v, .ref t7, .ref T.e_is_run, [], j, 0, _, rfl, R_F7.dv, R_F7.ds, R_F7.b1, R_F7.d20, R_F7.stb, R_F7.sz, R_F7.st, R_F7.ok, dq_of (ads_noLR _) d7, adr_bulk hdeep (fun a ha => List.mem_reverse.mp ha) (by rw [List.length_reverse]; omega), fun F8 s8 => ?_⟩
    rw [eRun, hback]
    have S8 := S7.trans s8
    have s38 := s36.trans (s7.trans s8)
    refine ⟨_, rfl, _, rfl, ?_⟩
    try unfold tNoPart
    try dsimp only
    refine ⟨_, rfl, ?_⟩
    refine sl_to 9 (same_sqT s38 q13) (dpAll_same s38 h13) fun F9 t9 x9 s9 q9 h9 => ?_
    have S9 := S8.trans s9
    have R_F9 := A0 F9 _ S9 (T.et_is_run _)
    refine ⟨v, .ref t9, .ref T.e_is_run, [], j, 0, _, rfl, R_F9.dv, R_F9.ds, R_F9.b1, R_F9.d20, R_F9.stb, R_F9.sz, R_F9.st, R_F9.ok, dq_of (ads_noLR _) (.tup q9 h9), adr_bulk hdeep (fun a ha => List.mem_of_mem_take ha) (by rw [List.length_take]; omega), fun F10 s10 => ?_⟩
    rw [eRun, hnine]
    have S10 := S9.trans s10
    refine ⟨(by show 3 ≤ sizeLine; decide), fun t11 ht11 => ?_⟩
    obtain ⟨s11, d11⟩ := lst_fresh (K := K) (ds := [.bool false, .bool false, .bool true]) ht11 (.cons (.bl _) (.cons (.bl _) (.cons (.bl _) .nil)))
    generalize (upd F10 t11 (.lst [.bl false, .bl false, .bl true])) = F11 at s11 d11 ⊢
    refine ⟨(by show 3 ≤ sizeLine; decide), fun t12 ht12 => ?_⟩
    obtain ⟨s12, d12⟩ := lst_fresh (K := K) (ds := [.bool false, .bool false, .bool true]) ht12 (.cons (.bl _) (.cons (.bl _) (.cons (.bl _) .nil)))
    generalize (upd F11 t12 (.lst [.bl false, .bl false, .bl true])) = F12 at s12 d12 ⊢
    refine ⟨_, _, dp_same s12 d11, d12, rfl, rfl, _, rfl, ?_⟩
    refine iteFb (by rfl) ?_
    have S12 := S10.trans (s11.trans s12)
    have s312 := s38.trans (s9.trans (s10.trans (s11.trans s12)))
    have q112 := same_sqT s312 q13
    have h112 := dpAll_same s312 h13
    clear q13 h13
    -- the half
    have mall : ∀ n, ∀ a ∈ j.adr.take n, a ∈ j.adr := fun n a ha => List.mem_of_mem_take ha
    have mdrop : ∀ n, ∀ a ∈ j.adr.drop n, a ∈ j.adr := fun n a ha => List.mem_of_mem_drop ha
    have asc := adrW_asc j
    refine ⟨_, rfl, ?_⟩
    try unfold tNoPart
    try dsimp only
    refine ⟨_, rfl, ?_⟩
    refine sl_to 30 q112 h112 fun F13 t13 x13 s13 q13 h13 => ?_
    refine sortZ (j := j) q13 h13 (mall 30) (asc_nodup (asc.sublist (List.take_sublist ..))) fun F14 l14 y14 k14 s14 e14 h14 p14 a14 => ?_
    obtain rfl : k14 = j.adr.take 30 := same_of_sorted p14 a14 (List.Perm.refl _) (asc.sublist (List.take_sublist ..))
    refine ⟨l14, _, rfl, .inl ⟨SqL.of e14, fun t15 ht15 => ?_⟩⟩
    have s15 : Same F14 (upd F14 t15 (.tup y14)) := same_new ht15
    have d15 : Dp K (upd F14 t15 (.tup y14)) (.ref t15) (.tuple (adDs (j.adr.take 30))) := .tup (SqT.of upd_same) (dpAll_same s15 h14)
    generalize (upd F14 t15 (.tup y14)) = F15 at s15 d15 ⊢
    have s1215 := s13.trans (s14.trans s15)
    have S15 := S12.trans s1215
    have q115 := same_sqT s1215 q112
    have h115 := dpAll_same s1215 h112
    have W15 : StAt K F15 v (.ref t15) j (j.adr.take 30) := (A0 F15 _ S15 (T.et_run_usages _)).of d15 hhalf
    have B15 := W15.both (r := .ref t1) (e := .ref t1) (.tup q115 h115) go0
    -- lifted, cut
    refine ⟨_, rfl, _, rfl, _, rfl, v, .ref t1, .ref t15, j, _, j.adr, rfl, B15, fun F16 t16 x16 s16 q16 h16 => ?_⟩
    have h16 : DpAll K F16 x16 (adDs (j.adr.filter fun a => !(j.adr.take 30).contains a)) := h16
    rw [hlift] at h16
    refine ⟨_, rfl, ?_⟩
    refine ⟨_, rfl, ?_⟩
    refine sl_from 30 (same_sqT s16 q115) (dpAll_same s16 h115) fun F17 t17 x17 s17 q17 h17 => ?_
    refine ⟨_, _, .tup (same_sqT s17 q16) (dpAll_same s17 h16), .tup q17 h17, adT_shaped _, adT_shaped _, _, rfl, ?_⟩
    refine iteFb (adT_selfB _) ?_
    have s167 := s16.trans s17
    refine ⟨_, rfl, _, rfl, _, rfl, v, .ref t1, .ref t15, j, _, j.adr, rfl, B15.same s167, fun F18 t18 x18 s18 q18 h18 => ?_⟩
    have h18 : DpAll K F18 x18 (adDs (j.adr.filter fun a => (j.adr.take 30).contains a)) := h18
    rw [hcut] at h18
    refine ⟨_, rfl, ?_⟩
    try dsimp only
    refine ⟨_, rfl, ?_⟩
    refine sl_to 30 (same_sqT (s167.trans s18) q115) (dpAll_same (s167.trans s18) h115) fun F19 t19 x19 s19 q19 h19 => ?_
    refine ⟨_, _, .tup (same_sqT s19 q18) (dpAll_same s19 h18), .tup q19 h19, adT_shaped _, adT_shaped _, _, rfl, ?_⟩
    refine iteFb (adT_selfB _) ?_
    have s1519 := s167.trans (s18.trans s19)
    have S19 := S15.trans s1519
    have q119 := same_sqT s1519 q115
    have h119 := dpAll_same s1519 h115
    have W19 := W15.same s1519
    clear q115 h115 q112 h112
    -- usages of the second part
    have goD : RunF j (j.adr.take 30) (j.adr.drop 30) := by
      have h := rest_run (j := j) (as := j.adr.take 30) ((stB_ad hstb _).mp hhalf).2.2
      rwa [hlift] at h
    refine ⟨_, rfl, _, rfl, ?_⟩
    refine ⟨_, rfl, ?_⟩
    refine sl_from 30 q119 h119 fun F20 t20 x20 s20 q20 h20 => ?_
    have goA0 := A0
    refine ⟨_, rfl, rfl, rfl, v, .ref t20, .ref t15, j, _, _, rfl, (W19.same s20).run (.tup q20 h20) goD, fun F21 t21 s21 q21 => ?_⟩
    have S21 := S19.trans (s20.trans s21)
    have q121 := same_sqT (s20.trans s21) q119
    have h121 := dpAll_same (s20.trans s21) h119
    refine ⟨_, rfl, _, rfl, v, .ref t1, .ref T.e_run_usages, j, [], j.adr, rfl, (A0 F21 _ S21 (T.et_run_usages _)).run (.tup q121 h121) go0, fun F22 t22 s22 q22 => ?_⟩
    refine ⟨_, rfl, ?_⟩
    refine rSlA_q q22 (fun F23 t23 s23 q23 => ?_)
    have ecut : cutV ((sumsR j.srows j.adr (useR j.srows [])).map V.int) (some 30) none = (sumsR j.srows (j.adr.drop 30) (useR j.srows (j.adr.take 30))).map V.int := by
      have e := sumsR_drop j.srows (j.adr.take 30) (j.adr.drop 30) (useR j.srows [])
      rw [List.take_append_drop, List.length_take, hadr] at e
      rw [show (30 : Int) = ((30 : Nat) : Int) from rfl, cut_fromN, ← List.map_drop]
      have e' : (sumsR j.srows j.adr (useR j.srows [])).drop 30 = _ := e
      rw [e']
      congr 2
      simp [useR]
    rw [ecut] at q23
    refine ⟨_, _, sums_dpE (same_sqT (s22.trans s23) q21), sums_dpE q23, ints_shaped _, ints_shaped _, _, rfl, ?_⟩
    refine iteFb (ints_selfB _) ?_
    -- the state at the end
    have s1923 := s20.trans (s21.trans (s22.trans s23))
    have S23 := S19.trans s1923
    have W23 := W19.same s1923
    have q123 := same_sqT s1923 q119
    have h123 := dpAll_same s1923 h119
    refine ⟨_, rfl, _, rfl, ?_⟩
    refine ⟨_, rfl, ?_⟩
    refine sl_from 30 q123 h123 fun F24 t24 x24 s24 q24 h24 => ?_
    refine ⟨_, rfl, rfl, rfl, v, .ref t24, .ref t15, j, _, _, rfl, (W23.same s24).run (.tup q24 h24) goD, fun F25 t25 x25 k25 s25 q25 h25 p25 a25 => ?_⟩
    rw [List.take_append_drop] at p25
    obtain rfl : k25 = j.adr := same_of_sorted p25 a25 (List.Perm.refl _) asc
    have S25 := S23.trans (s24.trans s25)
    refine ⟨_, rfl, v, j, rfl, dp_same S25 dv, hsz, by omega, fun F26 x26 s26 d26 => ?_⟩
    refine ⟨_, _, .tup (same_sqT s26 q25) (dpAll_same s26 h25), d26, adT_shaped _, adT_shaped _, ?_⟩
    rw [adT_self]
    refine ⟨_, rfl, ?_⟩
    refine iteTb rfl ?_
    have q126 := same_sqT (s24.trans (s25.trans s26)) q123
    have h126 := dpAll_same (s24.trans (s25.trans s26)) h123
    have x10 : 0 < x1.length := by omega
    have ex0 : x1[0]? = some (x1[0]) := List.getElem?_eq_getElem x10
    obtain ⟨tb, a, ea, eb, htb⟩ := ad_at h126 ex0
    have la : a.length = 12 := by
      rw [← List.head?_eq_getElem?] at ea
      rw [ea] at hfirst
      exact Option.some.inj hfirst
    refine ⟨_, rfl, ?_⟩
    refine ⟨_, _, _, _, rfl, rfl, q126, atI_at (j := 0) rfl ex0, ?_⟩
    rw [eb]
    refine ⟨tb, _, rfl, .inr htb, ?_⟩
    refine ⟨rfl, ?_⟩
    have el : V.int (((a.map V.int).length : Nat) : Int) = V.int 12 := by rw [List.length_map, la]; rfl
    rw [decide_eq_true el]
    exact q _ (t.trans (S25.trans s26))
end

/-! block LargeM18: the large job, computed (behind bDeep18) -/
/-- twenty copies of five rounds of two steps, beside fifty rounds of four copies of a step -/
def jL (u d s : Int) : J := .ps true [.rn true 20 (.rn false 5 (.ps false [.st u, .st d])), .rn false 50 (.rn true 4 (.st s))]
def adL : List (List Int) := (jL 0 0 0).adr
theorem jL_adr (u d s : Int) : (jL u d s).adr = adL := by kernel_rfl
theorem jL_ok {u d s : Int} (hu : 0 ≤ u ∧ u ≤ 1000) (hd : -1000 ≤ d ∧ d ≤ 0) (hs : -1000 ≤ s ∧ s ≤ 0) : (jL u d s).ok := by
  have e1 : J.stepsL [J.rn true 20 (.rn false 5 (.ps false [.st u, .st d])), .rn false 50 (.rn true 4 (.st s))] = 400 := by kernel_rfl
  have e2 : J.stepsL [J.st u, .st d] = 2 := by kernel_rfl
  have e3 : (J.rn false 5 (.ps false [.st u, .st d])).steps * 20 = 200 := by kernel_rfl
  have e4 : (J.ps false [.st u, .st d]).steps * 5 = 10 := by kernel_rfl
  have e5 : (J.rn true 4 (.st s)).steps * 50 = 200 := by kernel_rfl
  have e6 : (J.st s).steps * 4 = 4 := by kernel_rfl
  unfold jL
  rw [J.ok, e1]
  refine ⟨by show (2 : Int) ≤ 400; decide, ?_, by decide⟩
  simp only [J.okL, J.ok, e2, e3, e4, e5, e6, M30, List.length_cons, List.length_nil]
  refine ⟨⟨by omega, ⟨by omega, ⟨by omega, ⟨by omega, by omega, trivial⟩, by omega⟩, by omega⟩, by omega⟩, ⟨by omega, ⟨by omega, by omega, by omega⟩, by omega⟩, trivial⟩
theorem jL_good {u d s : Int} (hu : 0 ≤ u ∧ u ≤ 1000) (hd : -1000 ≤ d ∧ d ≤ 0) (hs : -1000 ≤ s ∧ s ≤ 0) : Good (jL u d s) :=
  ⟨jL_ok hu hd hs, by rw [show (jL u d s).nodes = (jL 0 0 0).nodes by kernel_rfl]; decide +kernel, by rw [show (jL u d s).deep = (jL 0 0 0).deep by kernel_rfl]; decide +kernel⟩
theorem jL_steps (u d s : Int) : (jL u d s).steps = 400 := by kernel_rfl
theorem adL_len : adL.length = 400 := by decide +kernel
/-- each step's value, in the order of the addresses -/
def valsL (u d s : Int) : List Int := (List.replicate 100 [u, d]).flatten ++ List.replicate 200 s
theorem jL_vals0 (u d s : Int) : (jL u d s).srows.map (·.2.1) = valsL u d s := by kernel_rfl
theorem valR_rows {R : List SRow} (nd : (R.map (·.1)).Nodup) : (R.map (·.1)).map (valR R) = R.map (·.2.1) := by
  rw [List.map_map]
  refine List.map_congr_left fun r hr => ?_
  show ((rowOf R r.1).map (·.2.1)).getD 0 = r.2.1
  have : rowOf R r.1 = some r := by
    unfold rowOf
    induction R with
    | nil => cases hr
    | cons x R ih =>
      rw [List.map_cons, List.nodup_cons] at nd
      rw [List.find?_cons]
      by_cases e : x.1 = r.1
      · rw [decide_eq_true e]
        rcases List.mem_cons.mp hr with h | h
        · rw [h]
        · exact absurd (List.mem_map.mpr ⟨r, h, e.symm⟩) nd.1
      · rw [decide_eq_false e]
        rcases List.mem_cons.mp hr with h | h
        · exact absurd (by rw [h]) e
        · exact ih nd.2 h
  rw [this]
  rfl
theorem jL_vals {u d s : Int} (hs : (jL u d s).stb) : adL.map (valR (jL u d s).srows) = valsL u d s := by
  have e := J.srows_adr (jL u d s) hs
  have nd : ((jL u d s).srows.map (·.1)).Nodup := by rw [e]; exact asc_nodup (adrW_asc _)
  have h := valR_rows nd
  rw [e, jL_adr, jL_vals0] at h
  exact h
theorem adL_own : (adL.filter fun a => decide (a.head? = some 0)) = adL.take 200 := by decide +kernel
theorem adL_first : (adL.filter fun a => (adL.take 200).contains a) = adL.take 200 := by decide +kernel
theorem adL_second : (adL.filter fun a => !(adL.take 200).contains a) = adL.drop 200 := by decide +kernel
theorem adL_zero : ∀ a ∈ adL.take 200, a.head? = some 0 := by
  rw [← adL_own]
  intro a ha
  exact of_decide_eq_true (List.mem_filter.mp ha).2
theorem jL_clo (u d s : Int) : Clo (jL u d s) (adL.take 200) := by
  intro a ha b hb hab
  have hb0 := adL_zero b hb
  rw [← adL_own, List.mem_filter]
  rw [jL_adr] at ha
  refine ⟨ha, decide_eq_true ?_⟩
  have h : cAhead false (J.syss [J.rn true 20 (.rn false 5 (.ps false [.st u, .st d])), .rn false 50 (.rn true 4 (.st s))]) 0 a b = true := hab
  cases a with
  | nil => simp [cAhead] at h
  | cons k a =>
    cases b with
    | nil => simp [cAhead] at h
    | cons m b =>
      obtain rfl : m = 0 := by simpa using hb0
      by_cases e : k = 0
      · rw [e]; rfl
      · simp [cAhead, e] at h
theorem jL_own {u d s : Int} (hs : (jL u d s).stb) : stB (jL u d s) (.tuple (adDs (adL.take 200))) = true :=
  (stB_ad hs _).mpr ⟨fun a ha => by rw [jL_adr]; exact List.mem_of_mem_take ha, (ascB_iff _).mpr (by have := adrW_asc (jL u d s); rw [jL_adr] at this; exact this.sublist (List.take_sublist ..)), jL_clo u d s⟩
/-- sums of values -/
def scanV : List Int → Int → List Int
  | [], t => [t]
  | v :: r, t => t :: scanV r (t + v)
theorem sums_scan (R : List SRow) : ∀ (run : List (List Int)) (t : Int), sumsR R run t = scanV (run.map (valR R)) t
  | [], t => rfl
  | a :: run, t => by rw [sumsR, List.map_cons, scanV, sums_scan R run]
theorem scan_pairs (u d : Int) : ∀ (n : Nat) (t : Int), (∀ y ∈ scanV (List.replicate n [u, d]).flatten t, ∃ k : Nat, (k ≤ n ∧ y = t + k * (u + d)) ∨ (k < n ∧ y = t + k * (u + d) + u)) ∧
    (∀ k : Nat, k < n → t + k * (u + d) + u ∈ scanV (List.replicate n [u, d]).flatten t) ∧ t ∈ scanV (List.replicate n [u, d]).flatten t
  | 0, t => by
    refine ⟨fun y hy => ?_, fun k hk => by omega, by simp [scanV]⟩
    have : y = t := by simpa [scanV] using hy
    exact ⟨0, .inl ⟨Nat.le_refl _, by rw [this]; simp⟩⟩
  | n + 1, t => by
    obtain ⟨h1, h2, h3⟩ := scan_pairs u d n (t + u + d)
    have e : scanV (List.replicate (n + 1) [u, d]).flatten t = t :: (t + u) :: scanV (List.replicate n [u, d]).flatten (t + u + d) := by
      rw [List.replicate_succ, List.flatten_cons]
      rfl
    have step : ∀ k : Nat, t + u + d + k * (u + d) = t + (k + 1 : Nat) * (u + d) := fun k => by
      rw [Int.natCast_add, Int.add_mul]
      omega
    rw [e]
    refine ⟨fun y hy => ?_, fun k hk => ?_, List.mem_cons_self ..⟩
    · rcases List.mem_cons.mp hy with rfl | hy
      · exact ⟨0, .inl ⟨Nat.zero_le _, by simp⟩⟩
      rcases List.mem_cons.mp hy with rfl | hy
      · exact ⟨0, .inr ⟨Nat.succ_pos _, by simp⟩⟩
      obtain ⟨k, ⟨hk, rfl⟩ | ⟨hk, rfl⟩⟩ := h1 y hy
      · exact ⟨k + 1, .inl ⟨by omega, step k⟩⟩
      · exact ⟨k + 1, .inr ⟨by omega, by rw [step k]⟩⟩
    · cases k with
      | zero => exact List.mem_cons_of_mem _ (List.mem_cons.mpr (.inl (by simp)))
      | succ k =>
        rw [← step k]
        exact List.mem_cons_of_mem _ (List.mem_cons_of_mem _ (h2 k (by omega)))
/-- the greatest of these sums -/
theorem scan_peak {u d m m' : Int} (h0 : 0 ≤ u) (hd : d ≤ 0) (hm : m ∈ scanV (List.replicate 100 [u, d]).flatten 0) (hmax : ∀ y ∈ scanV (List.replicate 100 [u, d]).flatten 0, y ≤ m)
    (e1 : m' ∈ [u + (u + d) * 0, u + (u + d) * 99]) (e2 : ∀ y ∈ [u + (u + d) * 0, u + (u + d) * 99], y ≤ m') : m = if m' > 0 then m' else 0 := by
  obtain ⟨h1, h2, h3⟩ := scan_pairs u d 100 0
  have a1 := hmax _ h3
  have a2 := hmax _ (h2 0 (by decide))
  have a3 := hmax _ (h2 99 (by decide))
  have b1 := e2 _ (List.mem_cons_self ..)
  have b2 := e2 _ (List.mem_cons_of_mem _ (List.mem_cons_self ..))
  have c : m' = u ∨ m' = u + (u + d) * 99 := by simpa using e1
  have a2 : u ≤ m := by simpa using a2
  have a3 : 0 + 99 * (u + d) + u ≤ m := a3
  obtain ⟨k, ⟨hk, e⟩ | ⟨hk, e⟩⟩ := h1 m hm
  · have g : (k : Int) * (u + d) ≤ 0 ∨ (k : Int) * (u + d) ≤ 100 * (u + d) := by
      by_cases p : 0 ≤ u + d
      · exact .inr (Int.mul_le_mul_of_nonneg_right (by omega) p)
      · exact .inl (Int.mul_nonpos_of_nonneg_of_nonpos (by omega) (by omega))
    split <;> omega
  · have g : (k : Int) * (u + d) ≤ 0 ∨ (k : Int) * (u + d) ≤ 99 * (u + d) := by
      by_cases p : 0 ≤ u + d
      · exact .inr (Int.mul_le_mul_of_nonneg_right (by omega) p)
      · exact .inl (Int.mul_nonpos_of_nonneg_of_nonpos (by omega) (by omega))
    split <;> omega
theorem sum_pairs (u d : Int) : ∀ n : Nat, ((List.replicate n [u, d]).flatten).sum = n * (u + d)
  | 0 => by simp
  | n + 1 => by
    rw [List.replicate_succ, List.flatten_cons, List.sum_append, sum_pairs u d n, Int.natCast_add, Int.add_mul]
    simp only [List.sum_cons, List.sum_nil]
    omega
theorem sum_same (s : Int) : ∀ n : Nat, (List.replicate n s).sum = n * s
  | 0 => by simp
  | n + 1 => by
    rw [List.replicate_succ, List.sum_cons, sum_same s n, Int.natCast_add, Int.add_mul]
    omega
/-- what is known of the large job, the job itself hidden -/
structure LargeJ (j : J) (A : List (List Int)) (u d s : Int) : Prop where
  some : (szJ j 400 13).isSome = true
  stb : j.stb
  deep : j.deep ≤ 20
  steps : j.steps = 400
  adr : j.adr = A
  len : A.length = 400
  first : A.map (valR j.srows) = valsL u d s
  own : stB j (.tuple (adDs (A.take 200))) = true
  zero : (A.filter fun a => decide (a.head? = Option.some 0)) = A.take 200
  cut : (A.filter fun a => (A.take 200).contains a) = A.take 200
  lift : (A.filter fun a => !(A.take 200).contains a) = A.drop 200
  full : ∀ a ∈ A, a ≠ []
theorem jL_large {u d s : Int} (hu : 0 ≤ u ∧ u ≤ 1000) (hd : -1000 ≤ d ∧ d ≤ 0) (hs : -1000 ≤ s ∧ s ≤ 0) : LargeJ (jL u d s) adL u d s := by
  have g := jL_good hu hd hs
  have st := J.stb_ok _ g.1
  refine ⟨g.isSome, st, Nat.le_trans g.2.2 (by decide), jL_steps u d s, jL_adr u d s, adL_len, jL_vals st, jL_own st, adL_own, adL_first, adL_second, fun a ha => ?_⟩
  rw [← jL_adr u d s] at ha
  exact adr_tup rfl a ha
theorem valsL_take (u d s : Int) : (valsL u d s).take 200 = (List.replicate 100 [u, d]).flatten := by kernel_rfl
theorem valsL_drop (u d s : Int) : (valsL u d s).drop 200 = List.replicate 200 s := by kernel_rfl
theorem LargeJ.sum1 {j : J} {A : List (List Int)} {u d s : Int} (L : LargeJ j A u d s) : useR j.srows (A.take 200) = 100 * (u + d) := by
  unfold useR
  rw [List.map_take, L.first, valsL_take, sum_pairs]
  rfl
theorem LargeJ.sum2 {j : J} {A : List (List Int)} {u d s : Int} (L : LargeJ j A u d s) : useR j.srows (A.drop 200) = 200 * s := by
  unfold useR
  rw [List.map_drop, L.first, valsL_drop, sum_same]
  rfl
theorem LargeJ.scan {j : J} {A : List (List Int)} {u d s : Int} (L : LargeJ j A u d s) : sumsR j.srows (A.take 200) (useR j.srows []) = scanV (List.replicate 100 [u, d]).flatten 0 := by
  rw [sums_scan, List.map_take, L.first, valsL_take]
  rfl

/-! block Large18: _law_large_right (behind bLargeM18) -/
section
variable {P : Program} {w : World} {K : PySem.W.Frag} {mg : Str → Option Value} {base : Heap}
def spLarge18 (K : PySem.W.Frag) : Sp := fun vs H Q _ => ∃ (p : Addr) (m : Nat), vs = [.ref p] ∧ Pot H p m ∧ m + 3 ≤ 1099511627776 ∧ ∀ H', Sx p H H' → Pot H' p (m + 3) → Q (.bl true) H'
theorem ok_large18 (T : Txt K mg) : FnOk P w K mg base CX0 50 T.f__law_large_right T.d__law_large_right ["_law_source_here"] (spLarge18 K) := by
  have g__law_draw : FnOk P w K mg base CX0 1 T.f__law_draw T.d__law_draw ["_law_source_here", "_law_many"] spTake := ok_take T
  have g_some_run := ok_some (P := P) (w := w) (base := base) T
  have g_run_usages := ok_ru (P := P) (w := w) (base := base) T
  have g_run_peak := ok_rp (P := P) (w := w) (base := base) T
  have g_is_complete_run := ok_iscrun (P := P) (w := w) (base := base) T
  have g_lift_run := ok_lift (P := P) (w := w) (base := base) T
  have g_cut_run := ok_cut (P := P) (w := w) (base := base) T
  refine T.F__law_large_right.ok sc__law_large_right (fun vs H Q E h => ?_) (fun cdv A outer s H vs Q E hr h => ?_)
  · obtain ⟨p, m, rfl, _⟩ := h
    rfl
  obtain ⟨p, m, rfl, hp, hm, q⟩ := h
  refine ⟨_, (pss_cons (ps_asg (pe_tup (pa_cons (pe_op op_add pe_int (pe_call g__law_draw (hr.mono (by omega)) rfl T.m__law_draw T.F__law_draw.kp T.b__law_draw .nil pass0 (pa_cons (pv 0) (pa_cons pe_int pa_nil)))) (pa_cons (pe_op op_add pe_int (pe_call g__law_draw (hr.mono (by omega)) rfl T.m__law_draw T.F__law_draw.kp T.b__law_draw .nil pass0 (pa_cons (pv 0) (pa_cons pe_int pa_nil)))) (pa_cons (pe_call g__law_draw (hr.mono (by omega)) rfl T.m__law_draw T.F__law_draw.kp T.b__law_draw .nil pass0 (pa_cons (pv 0) (pa_cons pe_int pa_nil))) pa_nil)))) (pg_tup (by rfl) (pgs_cons (pg_name (i := 1) sc__law_large_right.nd rfl (Or.inr rfl)) (pgs_cons (pg_name (i := 2) sc__law_large_right.nd rfl (Or.inl rfl)) (pgs_cons (pg_name (i := 3) sc__law_large_right.nd rfl (Or.inl rfl)) pgs_nil)))))
      (pss_cons (ps_set (i := 4) sc__law_large_right.nd rfl (Or.inl rfl) (pe_tup (pa_cons pe_str (pa_cons pe_int (pa_cons (pe_tup (pa_cons pe_str (pa_cons (pe_tup (pa_cons (pv 1) (pa_cons (pe_op op_sub pe_int (pv 2)) pa_nil))) pa_nil))) pa_nil)))))
      (pss_cons (ps_set (i := 5) sc__law_large_right.nd rfl (Or.inl rfl) (pe_tup (pa_cons pe_str (pa_cons (pe_tup (pa_cons (pe_tup (pa_cons pe_str (pa_cons pe_int (pa_cons (pv 4) pa_nil)))) (pa_cons (pe_tup (pa_cons pe_str (pa_cons pe_int (pa_cons (pe_tup (pa_cons pe_str (pa_cons pe_int (pa_cons (pe_op op_sub pe_int (pv 3)) pa_nil)))) pa_nil)))) pa_nil))) pa_nil))))
      (pss_cons (ps_set (i := 6) sc__law_large_right.nd rfl (Or.inl rfl) (pe_call g_some_run (hr.mono (by omega)) rfl T.m_some_run T.F_some_run.kp T.b_some_run T.vd_some_run pass0 (pa_cons (pv 5) pa_nil)))
      (pss_cons (ps_if (PW.pt (pw_or (pt_cmpR op_ne (pe_callB (r := rLenS K) call_lenS (by rfl) T.n_len (by decide +kernel) (pa_cons (pv 6) pa_nil)) pe_int (nomark _)) (pw_or1 (pt_cmpR op_notBl (pe_call g_is_complete_run (hr.mono (by omega)) rfl T.m_is_complete_run T.F_is_complete_run.kp T.b_is_complete_run T.vd_is_complete_run pass0 (pa_cons (pv 5) (pa_cons (pv 6) pa_nil))) pe_bl (nomark _))))) (pss_one (ps_ret pe_bl)) pss_nil)
      (pss_cons (ps_set (i := 7) sc__law_large_right.nd rfl (Or.inl rfl) (pe_callTy (r := rTupS K) call_tupS (by rfl) T.n_tuple (by decide +kernel) (pa_cons (pe_callB (r := rSortTP K) cr_sortTP (by rfl) T.n_sorted (by decide +kernel) (pa_cons (pe_lc (own := [("_law_address", 13)]) (g := (gName 13)) (by rfl) sc__law_large_right.nd (pi_tup (pv 6)) (blkOk_by (N := N__law_large_right) (sc := (defScope s__law_large_right)) (by decide +kernel)) (fun _ _ _ _ _ => (pg_name (i := 13) sc__law_large_right.nd rfl (Or.inl rfl))) (fun _ _ _ _ _ => (pts_one (pt_cmpR (r := rEqD K) (op_eqD hr.units) (pe_ix (r := rIxT K) ix_tup (pv 13) pe_int (fun _ _ => rfl)) pe_int (nomark _)))) (fun _ _ _ _ _ => (pv 13))) pa_nil)) pa_nil)))
      (pss_cons (ps_par (i := 8) (j := 9) (by rfl) sc__law_large_right.nd rfl rfl (by decide) rfl rfl (pa_cons (pe_call g_cut_run (hr.mono (by omega)) rfl T.m_cut_run T.F_cut_run.kp T.b_cut_run .nil pass0 (pa_cons (pv 5) (pa_cons (pv 6) (pa_cons (pv 7) pa_nil)))) (pa_cons (pe_call g_lift_run (hr.mono (by omega)) rfl T.m_lift_run T.F_lift_run.kp T.b_lift_run .nil pass0 (pa_cons (pv 5) (pa_cons (pv 6) (pa_cons (pv 7) pa_nil)))) pa_nil)) (by rfl))
      (pss_cons (ps_set (i := 10) sc__law_large_right.nd rfl (Or.inl rfl) (pe_callTy (r := rTupS K) call_tupS (by rfl) T.n_tuple (by decide +kernel) (pa_cons (pe_callB (r := rSortTZ K) cr_sortTZ (by rfl) T.n_sorted (by decide +kernel) (pa_cons (pv 8) pa_nil)) pa_nil)))
      (pss_cons (ps_set (i := 11) sc__law_large_right.nd rfl (Or.inr rfl) (pe_op op_sub (pv 1) (pv 2)))
      (pss_cons (ps_set (i := 12) sc__law_large_right.nd rfl (Or.inl rfl) (pe_callB (r := rMax K) (cr_max rfl) (by rfl) T.n_max (by decide +kernel) (pa_cons (pe_lc (own := [("_law_number", 14)]) (g := (gName 14)) (by rfl) sc__law_large_right.nd (pi_tup (pe_tup (pa_cons pe_int (pa_cons pe_int pa_nil)))) (blkOk_by (N := N__law_large_right) (sc := (defScope s__law_large_right)) (by decide +kernel)) (fun _ _ _ _ _ => (pg_name (i := 14) sc__law_large_right.nd rfl (Or.inl rfl))) (fun _ _ _ _ _ => pts_nil) (fun _ _ _ _ _ => (pe_op op_add (pv 1) (pe_op op_mulW (pv 11) (pv 14))))) pa_nil)))
      (pss_cons (ps_if (PW.pt (pw_or (pt_cmpR op_ne (pe_call g_run_peak (hr.mono (by omega)) rfl T.m_run_peak T.F_run_peak.kp T.b_run_peak T.vd_run_peak pass0 (pa_cons (pv 5) (pa_cons (pv 10) pa_nil))) (pe_callB (call_max2 rfl) (by rfl) T.n_max (by decide +kernel) (pa_cons pe_int (pa_cons (pv 12) pa_nil))) (nomark _)) (pw_or1 (pt_cmpR (r := rNeD K) (op_neD hr.units) (pe_ix (r := rIxT K) ix_tup (pe_call g_run_usages (hr.mono (by omega)) rfl T.m_run_usages T.F_run_usages.kp T.b_run_usages T.vd_run_usages pass0 (pa_cons (pv 5) (pa_cons (pv 10) pa_nil))) (pe_un un_neg pe_int) (fun _ _ => rfl)) (pe_op op_mulW pe_int (pv 11)) (nomark _))))) (pss_one (ps_ret pe_bl)) pss_nil)
      (pss_one (ps_ret (pe_cmpR (r := rEqD K) (op_eqD hr.units) (pe_ix (r := rIxT K) ix_tup (pe_callN g_run_usages (hr.mono (by omega)) rfl T.m_run_usages T.F_run_usages.kp T.kn_run_usages pass0 (pa_cons (pv 5) (pa_cons (pv 9) pa_nil)) (pk_cons (pv 7) pk_nil)) (pe_un un_neg pe_int) (fun _ _ => rfl)) (pe_op op_sub (pe_op op_mulW pe_int (pv 11)) (pe_op op_mulW pe_int (pv 3))) (nomark _))))))))))))))), ?_⟩
  refine ⟨_, rfl, p, m, _, rfl, hp, by omega, by decide, by decide, fun H1 r1 s1 hp1 a1 b1 => ?_⟩
  refine ⟨_, _, rfl, rfl, ?_⟩
  refine ⟨_, rfl, p, _, _, rfl, hp1, by omega, by decide, by decide, fun H2 r2 s2 hp2 a2 b2 => ?_⟩
  refine ⟨_, _, rfl, rfl, ?_⟩
  refine ⟨_, rfl, p, _, _, rfl, hp2, by omega, by decide, by decide, fun H3 r3 s3 hp3 a3 b3 => ?_⟩
  refine ⟨(by show 3 ≤ sizeLine; decide), fun t4 ht4 => ?_⟩
  have u4 : Same H3 (upd H3 t4 (.tup [.int (1 + r1), .int (1 + r2), .int r3])) := same_new ht4
  have q4 : SqT K (upd H3 t4 (.tup [.int (1 + r1), .int (1 + r2), .int r3])) t4 [.int (1 + r1), .int (1 + r2), .int r3] := SqT.of upd_same
  generalize (upd H3 t4 (.tup [.int (1 + r1), .int (1 + r2), .int r3])) = G at u4 q4 ⊢
  have Sx0 : Sx p H G := ((s1.trans s2).trans s3).trans (Same.sx u4)
  have hpG := hp3.same u4
  refine ⟨t4, _, rfl, q4, rfl, _, _, rfl, _, _, rfl, _, _, rfl, rfl, ?_⟩
  -- the job
  refine ⟨_, rfl, _, rfl, _, _, rfl, rfl, ?_⟩
  have hu' : 0 ≤ 1 + r1 ∧ 1 + r1 ≤ 1000 := by omega
  have hd' : -1000 ≤ 0 - (1 + r2) ∧ 0 - (1 + r2) ≤ 0 := by omega
  have hs' : -1000 ≤ 0 - r3 ∧ 0 - r3 ≤ 0 := by omega
  have LJ := jL_large hu' hd' hs'
  refine ⟨(by show 2 ≤ sizeLine; decide), fun c1 hc1 => ?_⟩
  obtain ⟨w1, k1⟩ := tup_fresh (K := K) (ds := [.int (1 + r1), .int (0 - (1 + r2))]) hc1 (.cons (.int _) (.cons (.int _) .nil))
  generalize (upd G c1 (.tup [.int (1 + r1), .int (0 - (1 + r2))])) = G1 at w1 k1 ⊢
  refine ⟨(by show 2 ≤ sizeLine; decide), fun c2 hc2 => ?_⟩
  obtain ⟨w2, k2⟩ := tup_fresh (K := K) (ds := [.str "seq", .tuple [.int (1 + r1), .int (0 - (1 + r2))]]) hc2 (.cons (.str _) (.cons k1 .nil))
  generalize (upd G1 c2 (.tup [.str "seq", .ref c1])) = G2 at w2 k2 ⊢
  refine ⟨(by show 3 ≤ sizeLine; decide), fun c3 hc3 => ?_⟩
  obtain ⟨w3, k3⟩ := tup_fresh (K := K) (ds := [.str "repeat", .int 5, .tuple [.str "seq", .tuple [.int (1 + r1), .int (0 - (1 + r2))]]]) hc3 (.cons (.str _) (.cons (.int _) (.cons k2 .nil)))
  generalize (upd G2 c3 (.tup [.str "repeat", .int 5, .ref c2])) = G3 at w3 k3 ⊢
  refine ⟨_, rfl, (by show 3 ≤ sizeLine; decide), fun c4 hc4 => ?_⟩
  obtain ⟨w4, k4⟩ := tup_fresh (K := K) (ds := [.str "copies", .int 20, .tuple [.str "repeat", .int 5, .tuple [.str "seq", .tuple [.int (1 + r1), .int (0 - (1 + r2))]]]]) hc4 (.cons (.str _) (.cons (.int _) (.cons k3 .nil)))
  generalize (upd G3 c4 (.tup [.str "copies", .int 20, .ref c3])) = G4 at w4 k4 ⊢
  refine ⟨_, rfl, _, _, rfl, rfl, ?_⟩
  refine ⟨(by show 3 ≤ sizeLine; decide), fun c5 hc5 => ?_⟩
  obtain ⟨w5, k5⟩ := tup_fresh (K := K) (ds := [.str "copies", .int 4, .int (0 - r3)]) hc5 (.cons (.str _) (.cons (.int _) (.cons (.int _) .nil)))
  generalize (upd G4 c5 (.tup [.str "copies", .int 4, .int (0 - r3)])) = G5 at w5 k5 ⊢
  refine ⟨(by show 3 ≤ sizeLine; decide), fun c6 hc6 => ?_⟩
  obtain ⟨w6, k6⟩ := tup_fresh (K := K) (ds := [.str "repeat", .int 50, .tuple [.str "copies", .int 4, .int (0 - r3)]]) hc6 (.cons (.str _) (.cons (.int _) (.cons k5 .nil)))
  generalize (upd G5 c6 (.tup [.str "repeat", .int 50, .ref c5])) = G6 at w6 k6 ⊢
  refine ⟨(by show 2 ≤ sizeLine; decide), fun c7 hc7 => ?_⟩
  obtain ⟨w7, k7⟩ := tup_fresh (K := K) (ds := [.tuple [.str "copies", .int 20, .tuple [.str "repeat", .int 5, .tuple [.str "seq", .tuple [.int (1 + r1), .int (0 - (1 + r2))]]]], .tuple [.str "repeat", .int 50, .tuple [.str "copies", .int 4, .int (0 - r3)]]]) hc7 (.cons (dp_same (w5.trans w6) k4) (.cons k6 .nil))
  generalize (upd G6 c7 (.tup [.ref c4, .ref c6])) = G7 at w7 k7 ⊢
  refine ⟨(by show 2 ≤ sizeLine; decide), fun c8 hc8 => ?_⟩
  obtain ⟨w8, k8⟩ := tup_fresh (K := K) (ds := [.str "par", .tuple [.tuple [.str "copies", .int 20, .tuple [.str "repeat", .int 5, .tuple [.str "seq", .tuple [.int (1 + r1), .int (0 - (1 + r2))]]]], .tuple [.str "repeat", .int 50, .tuple [.str "copies", .int 4, .int (0 - r3)]]]]) hc8 (.cons (.str _) (.cons k7 .nil))
  generalize (upd G7 c8 (.tup [.str "par", .ref c7])) = F0 at w8 k8 ⊢
  have dv : Dp K F0 (.ref c8) (jL (1 + r1) (0 - (1 + r2)) (0 - r3)).toD := k8
  have S0 : Same G F0 := w1.trans (w2.trans (w3.trans (w4.trans (w5.trans (w6.trans (w7.trans w8))))))
  clear w1 w2 w3 w4 w5 w6 w7 w8 k1 k2 k3 k4 k5 k6 k7 k8
  generalize (jL (1 + r1) (0 - (1 + r2)) (0 - r3)) = j at LJ dv
  generalize adL = AL at LJ
  have L := LJ
  obtain ⟨hsz, hstb, hdeep, hsteps, hadr, hlen, hvals, hown, hzero, hcut, hlift, hfull⟩ := LJ
  have go0 := all_run j
  rw [hadr] at go0
  have fAll : (j.adr.filter fun a => !([] : List (List Int)).contains a) = AL := by rw [hadr]; simp
  refine ⟨_, rfl, .ref c8, .ref T.e_some_run, j, [], rfl, dv, .tup (T.et_some_run _) .nil, by decide, hdeep, hstb, hsz, by omega, stB_none hstb, fun F1 t1 x1 v1 q1 h1 => ?_⟩
  rw [fAll] at h1
  have xl : x1.length = 400 := by rw [dpAll_length h1, adDs, List.length_map, hlen]
  have A0 : ∀ (F : Hp) (e : Addr), Same F0 F → SqT K F e [] → StAt K F (.ref c8) (.ref e) j [] := fun F e s he => ⟨dp_same s dv, .tup he .nil, hdeep, hstb, hsz, by omega, by decide, stB_none hstb⟩
  refine ⟨_, rfl, t1, _, rfl, .inr q1, ?_⟩
  refine ⟨rfl, ?_⟩
  refine ⟨_, rfl, ?_⟩
  refine iteFb (by rw [xl]; rfl) ?_
  have D1 : Dp K F1 (.ref t1) (.tuple (adDs AL)) := .tup q1 h1
  have B1 := (A0 F1 T.e_is_complete_run v1 (T.et_is_complete_run _)).run D1 go0
  refine ⟨_, rfl, _, rfl, .ref c8, .ref t1, .ref T.e_is_complete_run, [], j, 0, _, rfl, B1.dv, B1.ds, B1.b1, B1.d20, B1.stb, B1.sz, B1.st, B1.ok, dq_of (ads_noLR _) B1.dr, B1.b2, fun F2 v2 => ?_⟩
  rw [allF_comp hstb (nil_clo j)]
  have ecomp : compL j [] (.tuple (adDs AL)) = true := by
    show (walkL j [] (adDs AL) && decide (((([] : List (List Int)).length : Nat) : Int) + (((adDs AL).length : Nat) : Int) = ((j.adr.length : Nat) : Int))) = true
    rw [runF_walk15 go0, Bool.true_and, decide_eq_true_eq, adDs, List.length_map, hadr]
    simp
  rw [ecomp]
  refine ⟨_, _, rfl, rfl, _, rfl, ?_⟩
  refine iteFb rfl ?_
  have S2 := v1.trans v2
  have q2 := same_sqT v2 q1
  have h2 := dpAll_same v2 h1
  have asc : Asc AL := by have := adrW_asc j; rwa [hadr] at this
  have mem : ∀ a ∈ AL, a ∈ j.adr := fun a ha => by rw [hadr]; exact ha
  -- the steps of the first part
  refine ⟨_, rfl, t1, rfl, ⟨x1, q2⟩, fun C hC => ?_⟩
  refine lc_tup (K := K) (a := t1) (xs := x1) (fun n F => Same F2 F ∧ ∃ zs : List V, F C = some (.lst zs) ∧ DpAll K F zs (adDs ((AL.take n).filter fun a => decide (a.head? = some 0)))) ?_ ?_ ?_ ?_
  · exact ⟨same_new hC, [], upd_same, by simpa [adDs] using .nil⟩
  · rintro n F _ ⟨sF, _⟩
    exact same_sqT sF q2
  · rintro n y F hn ⟨sF, zs, eC, hzs⟩
    obtain ⟨tb, a, ea, rfl, htb⟩ := ad_at h2 hn
    have htb := same_sqT sF htb
    have nl := (List.getElem?_eq_some_iff.mp ea).1
    have etk : AL.take (n + 1) = AL.take n ++ [a] := by rw [List.take_add_one, ea]; rfl
    have zl : zs.length ≤ 400 := by
      rw [dpAll_length hzs, adDs, List.length_map]
      refine Nat.le_trans (List.length_filter_le _ _) ?_
      rw [List.length_take]
      omega
    obtain ⟨k0, a', rfl⟩ : ∃ k0 a', a = k0 :: a' := by
      cases a with
      | nil => exact absurd rfl (hfull [] (List.mem_of_getElem? ea))
      | cons k0 a' => exact ⟨k0, a', rfl⟩
    refine ⟨rfl, ?_⟩
    refine ⟨_, rfl, ?_⟩
    refine ⟨_, _, _, _, rfl, rfl, htb, atI_at (j := 0) rfl rfl, ?_⟩
    refine ⟨_, _, .int _, .int _, rfl, rfl, ?_⟩
    refine ⟨_, rfl, ?_⟩
    have ev : PyData.eqv (.int k0) (.int 0) = decide ((k0 :: a').head? = some 0) := by
      rw [Bool.eq_iff_iff, decide_eq_true_eq]
      simp [PyData.eqv]
    rw [ev]
    cases ec : decide ((k0 :: a').head? = some 0) with
    | true =>
      refine iteT ?_
      refine ⟨_, rfl, zs, eC, small1000 (by omega), ?_, zs ++ [.ref tb], upd_same, ?_⟩
      · intro c o hc
        rw [upd_ne (ne_of_none hc hC)]
        exact sF _ _ hc
      · rw [etk, List.filter_append, List.filter_cons_of_pos (p := fun a : List Int => decide (a.head? = some 0)) ec, List.filter_nil, adDs, List.map_append]
        have k7 : ∀ a xs, SqT K F a xs → SqT K (upd F C (.lst (zs ++ [.ref tb]))) a xs := fun a xs h => (sx_upd (p := C)).sqT eC h
        exact dpAll_append (dpAll_keep k7 (noLs_ad _) hzs) (.cons (dp_keep k7 (noL_ad _) (.tup htb (ints_dp' _))) .nil)
    | false =>
      refine iteF ?_
      refine ⟨sF, zs, eC, ?_⟩
      rw [etk, List.filter_append, List.filter_cons_of_neg (p := fun a : List Int => decide (a.head? = some 0)) (by rw [ec]; exact Bool.false_ne_true), List.filter_nil, List.append_nil]
      exact hzs
  rintro F3 ⟨v3, zs, eC, hzs⟩
  rw [xl, ← hlen, List.take_length, hzero] at hzs
  refine ⟨C, zs, AL.take 200, rfl, SqL.of eC, keys_of hzs fun k hk => hfull k (List.mem_of_mem_take hk), fun ys ls l5 hk5 pw5 pm5 hl5 => ?_⟩
  obtain rfl : ls = AL.take 200 := same_of_sorted pm5 (asc_weak (pm5.nodup_iff.mpr (asc_nodup (asc.sublist (List.take_sublist ..)))) pw5) (List.Perm.refl _) (asc.sublist (List.take_sublist ..))
  have v5 : Same F3 (upd F3 l5 (.lst ys)) := same_new hl5
  have e5 : upd F3 l5 (.lst ys) l5 = some (.lst ys) := upd_same
  have h5 := dpAll_same v5 (keysW_dp hk5)
  generalize (upd F3 l5 (.lst ys)) = F5 at v5 e5 h5 ⊢
  refine ⟨l5, ys, rfl, .inl ⟨SqL.of e5, fun t6 ht6 => ?_⟩⟩
  have v6 : Same F5 (upd F5 t6 (.tup ys)) := same_new ht6
  have q6 : SqT K (upd F5 t6 (.tup ys)) t6 ys := SqT.of upd_same
  have h6 := dpAll_same v6 h5
  generalize (upd F5 t6 (.tup ys)) = F6 at v6 q6 h6 ⊢
  have s26 := v3.trans (v5.trans v6)
  have S6 := S2.trans s26
  have q16 := same_sqT s26 q2
  have h16 := dpAll_same s26 h2
  have W6 : StAt K F6 (.ref c8) (.ref t6) j (AL.take 200) := (A0 F6 _ S6 (T.et_run_usages _)).of (.tup q6 h6) hown
  have B6 := W6.both (r := .ref t1) (e := .ref t1) (.tup q16 h16) go0
  refine ⟨_, rfl, _, rfl, _, rfl, .ref c8, .ref t1, .ref t6, j, _, AL, rfl, B6, fun F7 t7 x7 v7 q7 h7 => ?_⟩
  have h7 : DpAll K F7 x7 (adDs (AL.filter fun a => (AL.take 200).contains a)) := h7
  rw [hcut] at h7
  refine ⟨_, rfl, _, rfl, _, rfl, .ref c8, .ref t1, .ref t6, j, _, AL, rfl, B6.same v7, fun F8 t8 x8 v8 q8 h8 => ?_⟩
  have h8 : DpAll K F8 x8 (adDs (AL.filter fun a => !(AL.take 200).contains a)) := h8
  rw [hlift] at h8
  refine ⟨_, _, rfl, ?_⟩
  have s68 := v7.trans v8
  have S8 := S6.trans s68
  have W8 := W6.same s68
  have q78 := same_sqT v8 q7
  have h78 := dpAll_same v8 h7
  have mt : ∀ a ∈ AL.take 200, a ∈ j.adr := fun a ha => mem a (List.mem_of_mem_take ha)
  refine ⟨_, rfl, ?_⟩
  refine sortZ (j := j) q78 h78 mt (asc_nodup (asc.sublist (List.take_sublist ..))) fun F9 l9 y9 k9 v9 e9 h9 p9 a9 => ?_
  obtain rfl : k9 = AL.take 200 := same_of_sorted p9 a9 (List.Perm.refl _) (asc.sublist (List.take_sublist ..))
  refine ⟨l9, y9, rfl, .inl ⟨SqL.of e9, fun t10 ht10 => ?_⟩⟩
  have v10 : Same F9 (upd F9 t10 (.tup y9)) := same_new ht10
  have d10 : Dp K (upd F9 t10 (.tup y9)) (.ref t10) (.tuple (adDs (AL.take 200))) := .tup (SqT.of upd_same) (dpAll_same v10 h9)
  generalize (upd F9 t10 (.tup y9)) = F10 at v10 d10 ⊢
  have s810 := v9.trans v10
  have S10 := S8.trans s810
  have goF : RunF j [] (AL.take 200) := by
    have h := cut_go ((stB_ad hstb _).mp hown).2.2 AL [] [] (fun x => by simp) go0
    rwa [hcut] at h
  have goS : RunF j (AL.take 200) (AL.drop 200) := by
    have h := rest_run (j := j) (as := AL.take 200) ((stB_ad hstb _).mp hown).2.2
    rwa [hadr, hlift] at h
  refine ⟨_, rfl, _, rfl, _, _, rfl, rfl, ?_⟩
  -- the greatest of two
  refine ⟨(by show 2 ≤ sizeLine; decide), fun tc htc => ?_⟩
  have v11 : Same F10 (upd F10 tc (.tup [.int 0, .int 99])) := same_new htc
  have q11 : SqT K (upd F10 tc (.tup [.int 0, .int 99])) tc [.int 0, .int 99] := SqT.of upd_same
  generalize (upd F10 tc (.tup [.int 0, .int 99])) = F11 at v11 q11 ⊢
  refine ⟨tc, rfl, ⟨_, q11⟩, fun E2 hE2 => ?_⟩
  refine lc_tup (K := K) (a := tc) (xs := [.int 0, .int 99]) (fun n F => Same F11 F ∧ F E2 = some (.lst ((([0, 99] : List Int).take n).map fun k => V.int (1 + r1 + ((1 + r1) - (1 + r2)) * k)))) ?_ ?_ ?_ ?_
  · exact ⟨same_new hE2, by rw [upd_same]; rfl⟩
  · rintro n F _ ⟨sF, _⟩
    exact same_sqT sF q11
  · rintro n y F hn ⟨sF, eC⟩
    have hy : y = V.int (([0, 99] : List Int)[n]?.getD 0) ∧ n < 2 := by
      match n, hn with
      | 0, hn => exact ⟨(Option.some.inj hn).symm, by decide⟩
      | 1, hn => exact ⟨(Option.some.inj hn).symm, by decide⟩
      | n + 2, hn => simp at hn
    obtain ⟨rfl, n2⟩ := hy
    have hk : 0 ≤ (([0, 99] : List Int)[n]?.getD 0) ∧ (([0, 99] : List Int)[n]?.getD 0) ≤ 99 := by
      match n, n2 with
      | 0, _ => decide
      | 1, _ => decide
    have etk : ([0, 99] : List Int).take (n + 1) = ([0, 99] : List Int).take n ++ [([0, 99] : List Int)[n]?.getD 0] := by
      match n, n2 with
      | 0, _ => rfl
      | 1, _ => rfl
    generalize (([0, 99] : List Int)[n]?.getD 0) = k at hk etk
    refine ⟨rfl, ?_⟩
    refine ⟨_, rfl, _, rfl, _, rfl, ?_⟩
    refine ⟨_, _, rfl, rfl, wide_mul (a := 20) (b := 20) (Nat.lt_of_le_of_lt (show _ ≤ 2000 by omega) (by decide)) (Nat.lt_of_le_of_lt (show k.natAbs ≤ 99 by omega) (by decide)) (by decide) (by decide) (by decide), ?_⟩
    refine ⟨_, _, rfl, rfl, ?_⟩
    refine ⟨_, eC, small1000 (by rw [List.length_map, List.length_take]; show min n 2 ≤ 1000; omega), ?_⟩
    refine ⟨fun c o hc => ?_, ?_⟩
    · rw [upd_ne (ne_of_none hc hE2)]
      exact sF _ _ hc
    · rw [upd_same, etk, List.map_append]
      rfl
  rintro F12 ⟨v12, e12⟩
  have e12 : F12 E2 = some (.lst (([1 + r1 + ((1 + r1) - (1 + r2)) * 0, 1 + r1 + ((1 + r1) - (1 + r2)) * 99] : List Int).map V.int)) := e12
  refine ⟨E2, _, rfl, SqL.of e12, by show 0 < 2; decide, fun mx hm1 hm2 => ?_⟩
  have s1012 := v11.trans v12
  have S12 := S10.trans s1012
  have d12 := dp_same s1012 d10
  -- the peak
  refine ⟨_, rfl, _, rfl, .ref c8, .ref t10, .ref T.e_run_peak, j, [], _, rfl, (A0 F12 _ S12 (T.et_run_peak _)).run d12 goF, fun F13 pk v13 p1 p2 => ?_⟩
  rw [L.scan] at p1 p2
  have elow : 1 + r1 - (1 + r2) = 1 + r1 + (0 - (1 + r2)) := by omega
  rw [elow] at hm1 hm2
  have epk := scan_peak (by omega) (by omega) p1 p2 hm1 hm2
  refine ⟨_, rfl, _, _, rfl, ?_⟩
  refine ⟨rfl, ?_⟩
  refine ⟨_, rfl, ?_⟩
  refine iteFb (by rw [decide_eq_true (show V.int pk = V.int (if mx > 0 then mx else 0) by rw [epk])]; rfl) ?_
  have S13 := S12.trans v13
  -- the last usage
  refine ⟨_, rfl, _, rfl, .ref c8, .ref t10, .ref T.e_run_usages, j, [], _, rfl, (A0 F13 _ S13 (T.et_run_usages _)).run (dp_same v13 d12) goF, fun F14 t14 v14 q14 => ?_⟩
  refine ⟨_, rfl, ?_⟩
  refine ⟨_, _, _, _, rfl, rfl, q14, use_last, ?_⟩
  rw [L.sum1]
  refine ⟨_, rfl, _, _, rfl, rfl, wide_mul (a := 20) (b := 20) (by decide) (Nat.lt_of_le_of_lt (show _ ≤ 2000 by omega) (by decide)) (by decide) (by decide) (by decide), ?_⟩
  refine ⟨_, _, .int _, .int _, rfl, rfl, _, rfl, ?_⟩
  have u0 : useR j.srows [] = 0 := rfl
  refine iteFb (by rw [u0, elow]; simp [PyData.eqv]) ?_
  -- the second part
  have s814 := s810.trans (s1012.trans (v13.trans v14))
  refine ⟨_, rfl, _, rfl, _, rfl, rfl, rfl, .ref c8, .ref t8, .ref t6, j, _, _, rfl, (W8.same s814).run (.tup (same_sqT s814 q8) (dpAll_same s814 h8)) goS, fun F15 t15 v15 q15 => ?_⟩
  refine ⟨_, rfl, ?_⟩
  refine ⟨_, _, _, _, rfl, rfl, q15, use_last, ?_⟩
  rw [L.sum1, L.sum2]
  refine ⟨_, rfl, _, _, rfl, rfl, wide_mul (a := 20) (b := 20) (by decide) (Nat.lt_of_le_of_lt (show _ ≤ 2000 by omega) (by decide)) (by decide) (by decide) (by decide), ?_⟩
  refine ⟨_, rfl, _, _, rfl, rfl, wide_mul (a := 20) (b := 20) (by decide) (Nat.lt_of_le_of_lt (show _ ≤ 2000 by omega) (by decide)) (by decide) (by decide) (by decide), ?_⟩
  refine ⟨_, _, rfl, rfl, ?_⟩
  refine ⟨_, _, .int _, .int _, rfl, rfl, ?_⟩
  have ee : PyData.eqv (.int (100 * (1 + r1 + (0 - (1 + r2))) + 200 * (0 - r3))) (.int (100 * (1 + r1 - (1 + r2)) - 200 * r3)) = true := by
    rw [show 100 * (1 + r1 + (0 - (1 + r2))) + 200 * (0 - r3) = 100 * (1 + r1 - (1 + r2)) - 200 * r3 by omega]
    simp [PyData.eqv]
  rw [ee]
  have SE : Same G F15 := S0.trans (S8.trans (s814.trans v15))
  exact q _ (Sx0.trans (Same.sx SE)) ((hpG.same SE).mono (by omega))
end

/-! block Law18: the law (behind bLarge18) -/
def spLaw (K : PySem.W.Frag) : Sp := fun vs H Q _ => ∃ (a : Addr) (ns : List Int), vs = [.ref a] ∧ Only H ∧ SqL K H a (ns.map V.int) ∧ ns.length ≤ 63 ∧ ∀ H', Q (.bl true) H'
/-- what stands, from call to call -/
structure L18 (P : Program) (w : World) (K : PySem.W.Frag) (H F : Hp) (p ea : Addr) (m : Nat) (v : V) (j : J) (rs : List DRow) (ne : Addr → Prop) : Prop where
  t : Same H F
  pot : Pot F p m
  dv : Dp K F v j.toD
  El : Earl P w K ne F ea j rs
  hea : F ea = some (DtO P w ea rs)
section
variable {P : Program} {w : World} {K : PySem.W.Frag} {mg : Str → Option Value} {base : Heap}
theorem L18.same {H F F' : Hp} {p ea : Addr} {m : Nat} {v : V} {j : J} {rs : List DRow} {ne : Addr → Prop} (L : L18 P w K H F p ea m v j rs ne) (s : Same F F') : L18 P w K H F' p ea m v j rs ne :=
  ⟨L.t.trans s, L.pot.same s, dp_same s L.dv, L.El.same s, s _ _ L.hea⟩
theorem L18.sx {H F F' : Hp} {p ea : Addr} {m m' : Nat} {v : V} {j : J} {rs : List DRow} {ne : Addr → Prop} (L : L18 P w K H F p ea m v j rs ne) (hpH : H p = none) (hne : ∀ l, ne l → l ≠ p) (s : Sx p F F') (hp : Pot F' p m') : L18 P w K H F' p ea m' v j rs ne := by
  obtain ⟨l, hl⟩ := L.pot.lst
  have k := fun b xs (h : SqT K F b xs) => s.sqT hl h
  obtain ⟨e1, e2⟩ := L.El.sx L.hea hl hne s
  exact ⟨Same.sx_free L.t hpH s, hp, dp_keep k j.noL L.dv, e1, e2⟩
theorem L18.mono {H F : Hp} {p ea : Addr} {m m' : Nat} {v : V} {j : J} {rs : List DRow} {ne : Addr → Prop} (L : L18 P w K H F p ea m v j rs ne) (h : m ≤ m') : L18 P w K H F p ea m' v j rs ne :=
  ⟨L.t, L.pot.mono h, L.dv, L.El, L.hea⟩
theorem StAt.sx {F F' : Hp} {p : Addr} {l : List V} {v s : V} {j : J} {as : List (List Int)} (R : StAt K F v s j as) (hl : F p = some (.lst l)) (sx : Sx p F F') : StAt K F' v s j as := by
  have k := fun b xs (h : SqT K F b xs) => sx.sqT hl h
  exact ⟨dp_keep k j.noL R.dv, dp_keep k (ads_noLR as) R.ds, R.d20, R.stb, R.sz, R.st, R.b1, R.ok⟩
theorem ok_law {f : Addr} {fd : FuncData} (F : Fun K "law" "law" s_law f fd) (T : Txt K mg) : FnG P w K mg base CX0 60 f fd ["_law_script"] (spLaw K) := by
  have g__law_source := ok_source (P := P) (w := w) (base := base) T
  have g__law_draw : FnOk P w K mg base CX0 1 T.f__law_draw T.d__law_draw ["_law_source_here", "_law_many"] spTake := ok_take T
  have g__law_small_job := ok_wsmall (P := P) (w := w) (base := base) T
  have g__law_earlier := ok_earl (P := P) (w := w) (base := base) T
  have g__law_random_state := ok_wst (P := P) (w := w) (base := base) T
  have g__law_random_run := ok_run (P := P) (w := w) (base := base) T
  have g__law_large_right := ok_large18 (P := P) (w := w) (base := base) T
  have g__law_deep_right := ok_deep18 (P := P) (w := w) (base := base) T
  have g__law_parts_right := ok_parts18 (P := P) (w := w) (base := base) T
  have g__law_steps_right := ok_step18 (P := P) (w := w) (base := base) T
  have g__law_states_right := ok_st18 (P := P) (w := w) (base := base) T
  refine okG F sc_law (fun vs H Q E h => ?_) (fun cdv A outer s H vs Q E hr gd h => ?_)
  · obtain ⟨a, ns, rfl, _⟩ := h
    rfl
  obtain ⟨a, ns, rfl, hO, hS, hlen, q⟩ := h
  have hsc := Scr.of hO hS
  refine ⟨_, (pss_cons (ps_for PassesOwn.never rfl (pi_range1 rfl T.n_range (pa_cons (pe_callB (call_max2 rfl) (by rfl) T.n_max (by decide +kernel) (pa_cons pe_int (pa_cons (pe_callB (call_min2 rfl) (by rfl) T.n_min (by decide +kernel) (pa_cons pe_int (pa_cons (pe_callB (r := rLenS K) call_lenS (by rfl) T.n_len (by decide +kernel) (pa_cons (pv 0) pa_nil)) pa_nil))) pa_nil))) pa_nil)) (pg_name (i := 1) sc_law.nd rfl (Or.inl rfl))
        (pss_cons (ps_set (i := 2) sc_law.nd rfl (Or.inl rfl) (pe_call g__law_source (hr.mono (by omega)) rfl T.m__law_source T.F__law_source.kp T.b__law_source .nil pass0 (pa_cons (pv 0) (pa_cons (pv 1) pa_nil))))
        (C8.pss_cut (ps_if (PW.pt (pw_and (pt_cmpR op_eq (pv 1) pe_int (nomark _)) (pw_and1 (pt_not (pt_val (pe_call g__law_large_right (hr.mono (by omega)) rfl T.m__law_large_right T.F__law_large_right.kp T.b__law_large_right .nil pass0 (pa_cons (pv 2) pa_nil))))))) (pss_one (ps_ret pe_bl)) pss_nil)
        (C8.pss_cut (ps_if (PW.pt (pw_and (pt_cmpR op_eq (pv 1) pe_int (nomark _)) (pw_and1 (pt_not (pt_val (pe_call0 g__law_deep_right (hr.mono (by omega)) rfl T.m__law_deep_right T.F__law_deep_right.kp T.b__law_deep_right .nil pass0)))))) (pss_one (ps_ret pe_bl)) pss_nil)
        (pss_cons (ps_set (i := 3) sc_law.nd rfl (Or.inl rfl) (pe_call g__law_small_job (hr.mono (by omega)) rfl T.m__law_small_job T.F__law_small_job.kp T.b__law_small_job .nil pass0 (pa_cons (pv 2) (pa_cons pe_int (pa_cons pe_int pa_nil)))))
        (pss_cons (ps_set (i := 4) sc_law.nd rfl (Or.inl rfl) (pe_call g__law_earlier (hr.mono (by omega)) rfl T.m__law_earlier T.F__law_earlier.kp T.b__law_earlier .nil pass0 (pa_cons (pv 3) pa_nil)))
        (pss_cons (ps_par (i := 5) (j := 6) (by rfl) sc_law.nd rfl rfl (by decide) rfl rfl (pa_cons (pe_call g__law_random_state (hr.mono (by omega)) rfl T.m__law_random_state T.F__law_random_state.kp T.b__law_random_state .nil pass0 (pa_cons (pv 2) (pa_cons (pv 4) pa_nil))) (pa_cons (pe_call g__law_random_state (hr.mono (by omega)) rfl T.m__law_random_state T.F__law_random_state.kp T.b__law_random_state .nil pass0 (pa_cons (pv 2) (pa_cons (pv 4) pa_nil))) pa_nil)) (by rfl))
        (pss_cons (ps_set (i := 7) sc_law.nd rfl (Or.inl rfl) (pe_call g__law_random_run (hr.mono (by omega)) rfl T.m__law_random_run T.F__law_random_run.kp T.b__law_random_run .nil pass0 (pa_cons (pv 2) (pa_cons (pv 4) (pa_cons (pe_tup pa_nil) (pa_cons (pe_ix (r := rIxL K) ix_list (pe_lst (pa_cons (pe_callB (r := rLenDt P w K) cr_lenDt (by rfl) T.n_len (by decide +kernel) (pa_cons (pv 4) pa_nil)) (pa_cons pe_int pa_nil))) (pe_call g__law_draw (hr.mono (by omega)) rfl T.m__law_draw T.F__law_draw.kp T.b__law_draw .nil pass0 (pa_cons (pv 2) (pa_cons pe_int pa_nil))) (fun _ _ => rfl)) pa_nil))))))
        (pss_cons (ps_if (PW.pt (pw_or (pt_not (pt_val (pe_call g__law_parts_right (hr.mono (by omega)) rfl T.m__law_parts_right T.F__law_parts_right.kp T.b__law_parts_right .nil pass0 (pa_cons (pv 2) (pa_cons (pv 3) (pa_cons (pv 4) (pa_cons (pv 5) pa_nil))))))) (pw_or1 (pt_not (pt_val (pe_call g__law_steps_right (hr.mono (by omega)) rfl T.m__law_steps_right T.F__law_steps_right.kp T.b__law_steps_right .nil pass0 (pa_cons (pv 3) (pa_cons (pv 6) pa_nil)))))))) (pss_one (ps_ret pe_bl)) pss_nil)
        (pss_one (ps_if (PW.pt (pw_or (pt_not (pt_val (pe_call g__law_steps_right (hr.mono (by omega)) rfl T.m__law_steps_right T.F__law_steps_right.kp T.b__law_steps_right .nil pass0 (pa_cons (pv 3) (pa_cons (pv 5) pa_nil))))) (pw_or1 (pt_not (pt_val (pe_call g__law_states_right (hr.mono (by omega)) rfl T.m__law_states_right T.F__law_states_right.kp T.b__law_states_right .nil pass0 (pa_cons (pv 3) (pa_cons (pv 7) (pa_cons (pv 5) (pa_cons (pv 6) pa_nil)))))))))) (pss_one (ps_ret pe_bl)) pss_nil)))))))))))
      (pss_one (ps_ret pe_bl))), ?_⟩
  refine ⟨_, rfl, a, _, rfl, .inl hsc.sq, _, _, rfl, _, _, rfl, _, rfl, ?_, ?_, ?_⟩
  · show -(2 ^ 62) ≤ (if (if (((ns.map V.int).length : Nat) : Int) < 12 then (((ns.map V.int).length : Nat) : Int) else 12) > 1 then (if (((ns.map V.int).length : Nat) : Int) < 12 then (((ns.map V.int).length : Nat) : Int) else 12) else 1)
    split <;> (try split) <;> omega
  · show (if (if (((ns.map V.int).length : Nat) : Int) < 12 then (((ns.map V.int).length : Nat) : Int) else 12) > 1 then (if (((ns.map V.int).length : Nat) : Int) < 12 then (((ns.map V.int).length : Nat) : Int) else 12) else 1) < 2 ^ 62
    split <;> (try split) <;> omega
  have hturns : (if (if (((ns.map V.int).length : Nat) : Int) < 12 then (((ns.map V.int).length : Nat) : Int) else 12) > 1 then (if (((ns.map V.int).length : Nat) : Int) < 12 then (((ns.map V.int).length : Nat) : Int) else 12) else 1).toNat ≤ 12 := by
    split <;> (try split) <;> omega
  generalize (if (if (((ns.map V.int).length : Nat) : Int) < 12 then (((ns.map V.int).length : Nat) : Int) else 12) > 1 then (if (((ns.map V.int).length : Nat) : Int) < 12 then (((ns.map V.int).length : Nat) : Int) else 12) else 1) = turns at hturns ⊢
  refine for_range (lo := 0) (n := turns.toNat) (fun i σ H' => ∃ y1 y2 y3 y4 y5 y6 y7 : Option V, σ = [some (.ref a), y1, y2, y3, y4, y5, y6, y7] ∧ Same H H') ⟨none, none, none, none, none, none, none, rfl, Same.refl _⟩ ?_ ?_
  · rintro i σ H' hi ⟨y1, y2, y3, y4, y5, y6, y7, rfl, t⟩
    refine ⟨_, rfl, _, rfl, a, ns, 0 + (i : Int), rfl, (hsc.same t).sq, by omega, by omega, by omega, fun G1 p s1 hpn hp => ?_⟩
    have hpH : H p = none := t.free hpn
    have t1 := t.trans s1
    -- at the first cell, the large job
    refine ⟨fun σ' G => σ' = [some (.ref a), some (.int (0 + (i : Int))), some (.ref p), y3, y4, y5, y6, y7] ∧ Same H G ∧ Pot G p 3, ?_, ?_⟩
    · refine ⟨_, rfl, rfl, ?_⟩
      refine ⟨_, rfl, ?_⟩
      cases decide (V.int (0 + (i : Int)) = V.int 0) with
      | false =>
        refine iteF ?_
        refine iteF ?_
        exact ⟨rfl, t1, hp.mono (by decide)⟩
      | true =>
        refine iteT ?_
        refine ⟨_, rfl, p, 0, rfl, hp, by decide, fun G s hpG => ?_⟩
        refine ⟨_, rfl, ?_⟩
        refine iteFb rfl ?_
        exact ⟨rfl, Same.sx_free t1 hpH s, hpG⟩
    rintro σ' G2 ⟨rfl, t2, hp2⟩
    refine ⟨fun σ' G => σ' = [some (.ref a), some (.int (0 + (i : Int))), some (.ref p), y3, y4, y5, y6, y7] ∧ Same H G ∧ Pot G p 3, ?_, ?_⟩
    · refine ⟨_, rfl, rfl, ?_⟩
      refine ⟨_, rfl, ?_⟩
      cases decide (V.int (0 + (i : Int)) = V.int 0) with
      | false =>
        refine iteF ?_
        refine iteF ?_
        exact ⟨rfl, t2, hp2⟩
      | true =>
        refine iteT ?_
        refine ⟨rfl, fun G s => ?_⟩
        refine ⟨_, rfl, ?_⟩
        refine iteFb rfl ?_
        exact ⟨rfl, t2.trans s, hp2.same s⟩
    rintro σ' G3 ⟨rfl, t3, hp3⟩
    obtain ⟨l3, hl3⟩ := hp3.lst
    have eTB : 3 + 3 * TW 4 ≤ 100000 := by decide
    refine ⟨_, rfl, p, 3, 40, rfl, hp3, by decide, by decide, fun G4 v j s4 hp4 dj sj => ?_⟩
    have hp4 : Pot G4 p 100000 := hp4.mono eTB
    have t4 : Same H G4 := Same.sx_free t3 hpH s4
    obtain ⟨l4, hl4⟩ := hp4.lst
    have gj := sj.good
    have hstb := sj.stb
    have alen := J.adr_len j hstb
    have h40 := sj.le
    have hdeep := sj.deep
    refine ⟨_, rfl, v, j, rfl, dj, by omega, hstb, by omega, J.few_rounded j csW sj.cin (by decide), fun G5 ea rs s5 hea nea El => ?_⟩
    have hne : ∀ l, G4 l = none → l ≠ p := fun l hl z => by rw [z, hl4] at hl; cases hl
    have L5 : L18 P w K H G5 p ea 100000 v j rs (fun l => G4 l = none) := ⟨t4.trans s5, hp4.same s5, dp_same s5 dj, El, hea⟩
    clear El hea nea s5 hp4 t4 dj s4 hp hp2 hp3
    have rl : rs.length = j.adr.length := by rw [← L5.El.names, List.length_map]
    -- two states
    refine ⟨_, rfl, _, rfl, p, ea, _, j, rs, _, rfl, L5.pot, by omega, L5.El, L5.hea, hne, by omega, hstb, fun F6 bt bs as s6 hp6 hbt hbs hst => ?_⟩
    obtain ⟨l5, hl5⟩ := L5.pot.lst
    have L6 := L5.sx hpH hne s6 hp6
    have b6 : ∀ (as : List (List Int)), stB j (.tuple (adDs as)) = true → (PyData.tuple (adDs as)).bulk ≤ 80000 := fun as h => by
      obtain ⟨hm, asc, _⟩ := (stB_ad hstb as).mp h
      have l := nodup_len as _ (asc_nodup ((ascB_iff as).mp asc)) hm
      exact bulk20 gj.d20 hm (by omega)
    have A6 : StAt K F6 v (.ref bt) j as := ⟨L6.dv, .tup hbt hbs, gj.d20, hstb, gj.isSome, by omega, b6 as hst, hst⟩
    refine ⟨_, rfl, _, rfl, p, ea, _, j, rs, _, rfl, L6.pot, by omega, L6.El, L6.hea, hne, by omega, hstb, fun F7 ct cs bs' s7 hp7 hct hcs hsc' => ?_⟩
    obtain ⟨l6, hl6⟩ := L6.pot.lst
    have L7 := L6.sx hpH hne s7 hp7
    have A7 := A6.sx hl6 s7
    have B7 : StAt K F7 v (.ref ct) j bs' := ⟨L7.dv, .tup hct hcs, gj.d20, hstb, gj.isSome, by omega, b6 bs' hsc', hsc'⟩
    refine ⟨_, _, rfl, ?_⟩
    -- a run
    refine ⟨_, rfl, _, rfl, (by show 0 ≤ sizeLine; decide), fun z hz => ?_⟩
    obtain ⟨u0, d0⟩ := tup_fresh (K := K) (ds := adDs []) hz .nil
    generalize (upd F7 z (.tup [])) = F8 at u0 d0 ⊢
    have L8 := L7.same u0
    have A8 := A7.same u0
    have B8 := B7.same u0
    refine ⟨_, rfl, ea, rs, rfl, .inl L8.hea, L8.El.keys, ?_⟩
    refine ⟨(by show 2 ≤ sizeLine; decide), fun ml hml => ?_⟩
    have u1 : Same F8 (upd F8 ml (.lst [.int ((rs.length : Nat) : Int), .int 6])) := same_new hml
    have e1 : upd F8 ml (.lst [.int ((rs.length : Nat) : Int), .int 6]) ml = some (.lst ([((rs.length : Nat) : Int), 6].map V.int)) := upd_same
    generalize (upd F8 ml (.lst [.int ((rs.length : Nat) : Int), .int 6])) = F9 at u1 e1 ⊢
    have L9 := L8.same u1
    have A9 := A8.same u1
    have B9 := B8.same u1
    refine ⟨_, rfl, p, _, _, rfl, L9.pot, by omega, by decide, by decide, fun F10 r10 s10 hp10 a0 a1 => ?_⟩
    obtain ⟨l9, hl9⟩ := L9.pot.lst
    have L10 := L9.sx hpH hne s10 hp10
    have A10 := A9.sx hl9 s10
    have B10 := B9.sx hl9 s10
    obtain ⟨l8, hl8⟩ := L8.pot.lst
    have eml : ml ≠ p := fun z => by rw [z, hl8] at hml; cases hml
    have e10 : F10 ml = some (.lst ([((rs.length : Nat) : Int), 6].map V.int)) := s10 _ _ eml e1
    have d10 : Dp K F10 (.ref z) (.tuple (adDs [])) := dp_keep (fun b xs h => s10.sqT hl9 h) (ads_noLR []) (dp_same u1 d0)
    obtain ⟨mo, hmo, emo⟩ := atI_int (ns := [((rs.length : Nat) : Int), 6]) (k := r10) a0 (by show r10 < 2; omega)
    have mo0 : 0 ≤ mo ∧ mo ≤ 40 := by
      simp only [List.mem_cons, List.not_mem_nil, or_false] at hmo
      omega
    refine ⟨_, _, _, _, rfl, rfl, SqL.of e10, emo, ?_⟩
    have emo2 : V.int mo = V.int ((mo.toNat : Nat) : Int) := by rw [Int.toNat_of_nonneg mo0.1]
    refine ⟨p, ea, z, _, mo.toNat, j, rs, _, [], by rw [emo2]; rfl, L10.pot, by omega, by omega, L10.El, L10.hea, hne, d10, by omega, by simp, fun F11 wt ws run s11 hp11 hwt hws hrun lrun => ?_⟩
    obtain ⟨l10, hl10⟩ := L10.pot.lst
    have L11 := (L10.sx hpH hne s11 hp11).mono (m' := 100300) (by omega)
    have A11 := A10.sx hl10 s11
    have B11 := B10.sx hl10 s11
    have D11 : Dp K F11 (.ref wt) (.tuple (adDs run)) := .tup hwt hws
    obtain ⟨l11, hl11⟩ := L11.pot.lst
    -- runs in parts
    refine ⟨_, rfl, _, rfl, _, rfl, _, rfl, p, ea, _, v, .ref bt, j, rs, _, as, rfl, L11.pot, by omega, L11.El, L11.hea, hne, A11, by omega, fun F12 s12 hp12 => ?_⟩
    have L12 := L11.sx hpH hne s12 hp12
    have A12 := A11.sx hl11 s12
    have B12 := B11.sx hl11 s12
    have D12 : Dp K F12 (.ref wt) (.tuple (adDs run)) := dp_keep (fun b xs h => s12.sqT hl11 h) (ads_noLR run) D11
    refine ⟨_, rfl, ?_⟩
    refine iteFb rfl ?_
    refine ⟨_, rfl, _, rfl, v, .ref ct, j, bs', rfl, B12, fun F13 s13 => ?_⟩
    refine ⟨_, rfl, ?_⟩
    refine iteFb rfl ?_
    refine ⟨_, rfl, _, rfl, v, .ref bt, j, as, rfl, A12.same s13, fun F14 s14 => ?_⟩
    refine ⟨_, rfl, ?_⟩
    refine iteFb rfl ?_
    have A14 := (A12.same s13).same s14
    have B14 := (B12.same s13).same s14
    have D14 := dp_same (s13.trans s14) D12
    refine ⟨_, rfl, _, rfl, _, rfl, _, rfl, v, .ref wt, .ref bt, .ref ct, j, as, bs', run, rfl, A14.both (e := .ref wt) D14 hrun, B14.both (e := .ref wt) D14 hrun, by omega, fun F15 s15 => ?_⟩
    refine ⟨_, rfl, ?_⟩
    refine iteFb rfl ?_
    exact ⟨_, _, _, _, _, _, _, rfl, L12.t.trans (s13.trans (s14.trans s15))⟩
  · rintro σ F0 ⟨y1, y2, y3, y4, y5, y6, y7, rfl, t⟩
    exact q _
end
theorem all_mk {l : PySem.W.OpenLaw} {w : World} {K : PySem.W.Frag} {h : Heap} {mg : Str → Option Value} {fa : Addr} (X : K.In h) (G : h.Ns mainGlobals mg) (hfa : mg "law" = some (.ref fa))
    {od0 an0 : Option Addr} {sl0 : Array (Option Value)} {oc0 kV0 dc0 pm0 cd0 ct0 : Value} {f0 : Addr}
    {od1 an1 : Option Addr} {sl1 : Array (Option Value)} {oc1 kV1 dc1 pm1 cd1 ct1 : Value} {f1 : Addr}
    {od2 an2 : Option Addr} {sl2 : Array (Option Value)} {oc2 kV2 dc2 pm2 cd2 ct2 : Value} {f2 : Addr}
    {od3 an3 : Option Addr} {sl3 : Array (Option Value)} {oc3 kV3 dc3 pm3 cd3 ct3 : Value} {f3 : Addr}
    {od4 an4 : Option Addr} {sl4 : Array (Option Value)} {oc4 kV4 dc4 pm4 cd4 ct4 : Value} {f4 : Addr}
    {od5 an5 : Option Addr} {sl5 : Array (Option Value)} {oc5 kV5 dc5 pm5 cd5 ct5 : Value} {f5 : Addr}
    {od6 an6 : Option Addr} {sl6 : Array (Option Value)} {oc6 kV6 dc6 pm6 cd6 ct6 : Value} {f6 : Addr}
    {od7 an7 : Option Addr} {sl7 : Array (Option Value)} {oc7 kV7 dc7 pm7 cd7 ct7 : Value} {f7 : Addr}
    {od8 an8 : Option Addr} {sl8 : Array (Option Value)} {oc8 kV8 dc8 pm8 cd8 ct8 : Value} {f8 : Addr}
    {od9 an9 : Option Addr} {sl9 : Array (Option Value)} {oc9 kV9 dc9 pm9 cd9 ct9 : Value} {f9 : Addr}
    {od10 an10 : Option Addr} {sl10 : Array (Option Value)} {oc10 kV10 dc10 pm10 cd10 ct10 : Value} {f10 : Addr}
    {od11 an11 : Option Addr} {sl11 : Array (Option Value)} {oc11 kV11 dc11 pm11 cd11 ct11 : Value} {f11 : Addr}
    {od12 an12 : Option Addr} {sl12 : Array (Option Value)} {oc12 kV12 dc12 pm12 cd12 ct12 : Value} {f12 : Addr}
    {od13 an13 : Option Addr} {sl13 : Array (Option Value)} {oc13 kV13 dc13 pm13 cd13 ct13 : Value} {f13 : Addr}
    {od14 an14 : Option Addr} {sl14 : Array (Option Value)} {oc14 kV14 dc14 pm14 cd14 ct14 : Value} {f14 : Addr}
    {od15 an15 : Option Addr} {sl15 : Array (Option Value)} {oc15 kV15 dc15 pm15 cd15 ct15 : Value} {f15 : Addr}
    {od16 an16 : Option Addr} {sl16 : Array (Option Value)} {oc16 kV16 dc16 pm16 cd16 ct16 : Value} {f16 : Addr}
    {od17 an17 : Option Addr} {sl17 : Array (Option Value)} {oc17 kV17 dc17 pm17 cd17 ct17 : Value} {f17 : Addr}
    {od18 an18 : Option Addr} {sl18 : Array (Option Value)} {oc18 dc18 pm18 cd18 ct18 : Value} {f18 kD18 : Addr}
    {od19 an19 : Option Addr} {sl19 : Array (Option Value)} {oc19 kV19 dc19 pm19 cd19 ct19 : Value} {f19 : Addr}
    {od20 an20 : Option Addr} {sl20 : Array (Option Value)} {oc20 kV20 dc20 pm20 cd20 ct20 : Value} {f20 : Addr}
    {od21 an21 : Option Addr} {sl21 : Array (Option Value)} {oc21 kV21 dc21 pm21 cd21 ct21 : Value} {f21 : Addr}
    {od22 an22 : Option Addr} {sl22 : Array (Option Value)} {oc22 kV22 dc22 pm22 cd22 ct22 : Value} {f22 : Addr}
    {od23 an23 : Option Addr} {sl23 : Array (Option Value)} {oc23 kV23 dc23 pm23 cd23 ct23 : Value} {f23 : Addr}
    {od24 an24 : Option Addr} {sl24 : Array (Option Value)} {oc24 kV24 dc24 pm24 cd24 ct24 : Value} {f24 : Addr}
    {od25 an25 : Option Addr} {sl25 : Array (Option Value)} {oc25 dc25 pm25 cd25 ct25 : Value} {f25 kD25 eA25 : Addr}{oe25 : Option Addr} {ne25 : Nat} {se25 : Array (Option Value)}
    {od26 an26 : Option Addr} {sl26 : Array (Option Value)} {oc26 dc26 pm26 cd26 ct26 : Value} {f26 kD26 eA26 : Addr}{oe26 : Option Addr} {ne26 : Nat} {se26 : Array (Option Value)}
    {od27 an27 : Option Addr} {sl27 : Array (Option Value)} {oc27 dc27 pm27 cd27 ct27 : Value} {f27 kD27 eA27 : Addr}{oe27 : Option Addr} {ne27 : Nat} {se27 : Array (Option Value)}
    {od28 an28 : Option Addr} {sl28 : Array (Option Value)} {oc28 dc28 pm28 cd28 ct28 : Value} {f28 kD28 eA28 : Addr}{oe28 : Option Addr} {ne28 : Nat} {se28 : Array (Option Value)}
    {od29 an29 : Option Addr} {sl29 : Array (Option Value)} {oc29 dc29 pm29 cd29 ct29 : Value} {f29 kD29 eA29 : Addr}{oe29 : Option Addr} {ne29 : Nat} {se29 : Array (Option Value)}
    {od30 an30 : Option Addr} {sl30 : Array (Option Value)} {oc30 dc30 pm30 cd30 ct30 : Value} {f30 kD30 eA30 : Addr}{oe30 : Option Addr} {ne30 : Nat} {se30 : Array (Option Value)}
    {od31 an31 : Option Addr} {sl31 : Array (Option Value)} {oc31 kV31 dc31 pm31 cd31 ct31 : Value} {f31 : Addr}
    {od32 an32 : Option Addr} {sl32 : Array (Option Value)} {oc32 kV32 dc32 pm32 cd32 ct32 : Value} {f32 : Addr}
    {od33 an33 : Option Addr} {sl33 : Array (Option Value)} {oc33 kV33 dc33 pm33 cd33 ct33 : Value} {f33 : Addr}
    {od34 an34 : Option Addr} {sl34 : Array (Option Value)} {oc34 kV34 dc34 pm34 cd34 ct34 : Value} {f34 : Addr}
    {od35 an35 : Option Addr} {sl35 : Array (Option Value)} {oc35 kV35 dc35 pm35 cd35 ct35 : Value} {f35 : Addr}
    {od36 an36 : Option Addr} {sl36 : Array (Option Value)} {oc36 kV36 dc36 pm36 cd36 ct36 : Value} {f36 : Addr}
    {od37 an37 : Option Addr} {sl37 : Array (Option Value)} {oc37 kV37 dc37 pm37 cd37 ct37 : Value} {f37 : Addr}
    {od38 an38 : Option Addr} {sl38 : Array (Option Value)} {oc38 kV38 dc38 pm38 cd38 ct38 : Value} {f38 : Addr}
    {od39 an39 : Option Addr} {sl39 : Array (Option Value)} {oc39 kV39 dc39 pm39 cd39 ct39 : Value} {f39 : Addr}
    {od40 an40 : Option Addr} {sl40 : Array (Option Value)} {oc40 kV40 dc40 pm40 cd40 ct40 : Value} {f40 : Addr}
    {od41 an41 : Option Addr} {sl41 : Array (Option Value)} {oc41 kV41 dc41 pm41 cd41 ct41 : Value} {f41 : Addr}
    {od42 an42 : Option Addr} {sl42 : Array (Option Value)} {oc42 kV42 dc42 pm42 cd42 ct42 : Value} {f42 : Addr}
    {od43 an43 : Option Addr} {sl43 : Array (Option Value)} {oc43 kV43 dc43 pm43 cd43 ct43 : Value} {f43 : Addr}
    {od44 an44 : Option Addr} {sl44 : Array (Option Value)} {oc44 kV44 dc44 pm44 cd44 ct44 : Value} {f44 : Addr}
    {od45 an45 : Option Addr} {sl45 : Array (Option Value)} {oc45 kV45 dc45 pm45 cd45 ct45 : Value} {f45 : Addr}
    {od46 an46 : Option Addr} {sl46 : Array (Option Value)} {oc46 kV46 dc46 pm46 cd46 ct46 : Value} {f46 : Addr}
    {od47 an47 : Option Addr} {sl47 : Array (Option Value)} {oc47 kV47 dc47 pm47 cd47 ct47 : Value} {f47 : Addr}
    {od48 an48 : Option Addr} {sl48 : Array (Option Value)} {oc48 kV48 dc48 pm48 cd48 ct48 : Value} {f48 : Addr}
    {od49 an49 : Option Addr} {sl49 : Array (Option Value)} {oc49 kV49 dc49 pm49 cd49 ct49 : Value} {f49 : Addr}
    {od50 an50 : Option Addr} {sl50 : Array (Option Value)} {oc50 kV50 dc50 pm50 cd50 ct50 : Value} {f50 : Addr}
    {od51 an51 : Option Addr} {sl51 : Array (Option Value)} {oc51 kV51 dc51 pm51 cd51 ct51 : Value} {f51 : Addr}
    {od52 an52 : Option Addr} {sl52 : Array (Option Value)} {oc52 kV52 dc52 pm52 cd52 ct52 : Value} {f52 : Addr}
    {od53 an53 : Option Addr} {sl53 : Array (Option Value)} {oc53 kV53 dc53 pm53 cd53 ct53 : Value} {f53 : Addr}
    {od54 an54 : Option Addr} {sl54 : Array (Option Value)} {oc54 kV54 dc54 pm54 cd54 ct54 : Value} {f54 : Addr}
    {od55 an55 : Option Addr} {sl55 : Array (Option Value)} {oc55 kV55 dc55 pm55 cd55 ct55 : Value} {f55 : Addr}
    {od56 an56 : Option Addr} {sl56 : Array (Option Value)} {oc56 kV56 dc56 pm56 cd56 ct56 : Value} {f56 : Addr}
    {od57 an57 : Option Addr} {sl57 : Array (Option Value)} {oc57 kV57 dc57 pm57 cd57 ct57 : Value} {f57 : Addr}
    {od58 an58 : Option Addr} {sl58 : Array (Option Value)} {oc58 kV58 dc58 pm58 cd58 ct58 : Value} {f58 : Addr}
    {w0c : Addr}
    {tk0 : Tok}
    {tk1 : Tok}
    {tk2 : Tok}
    {tk3 : Tok}
    {tk4 : Tok}
    {tk5 : Tok}
    {tk6 : Tok}
    {x0c : Addr}
    {x1c : Addr}
    (a0 : PySem.W.nsIn K mainGlobals "_wall" = some (some (.ref f0)))
    (l0 : K.lookup f0 = some ⟨oc0, od0, .func (PySem.W.fnOf "_wall" "_wall" (defArgs s__wall) (defBody s__wall) (defScope s__wall) .none kV0 dc0 pm0 an0 cd0 ct0), sl0⟩)
    (c0 : PySem.W.codeIn K cd0 "_wall" = true) (k0 : PySem.W.keepIn K (.ref f0) = true)
    (a1 : PySem.W.nsIn K mainGlobals "is_integer" = some (some (.ref f1)))
    (l1 : K.lookup f1 = some ⟨oc1, od1, .func (PySem.W.fnOf "is_integer" "is_integer" (defArgs s_is_integer) (defBody s_is_integer) (defScope s_is_integer) .none kV1 dc1 pm1 an1 cd1 ct1), sl1⟩)
    (c1 : PySem.W.codeIn K cd1 "is_integer" = true) (k1 : PySem.W.keepIn K (.ref f1) = true)
    (a2 : PySem.W.nsIn K mainGlobals "is_within" = some (some (.ref f2)))
    (l2 : K.lookup f2 = some ⟨oc2, od2, .func (PySem.W.fnOf "is_within" "is_within" (defArgs s_is_within) (defBody s_is_within) (defScope s_is_within) .none kV2 dc2 pm2 an2 cd2 ct2), sl2⟩)
    (c2 : PySem.W.codeIn K cd2 "is_within" = true) (k2 : PySem.W.keepIn K (.ref f2) = true)
    (a3 : PySem.W.nsIn K mainGlobals "is_short_integer" = some (some (.ref f3)))
    (l3 : K.lookup f3 = some ⟨oc3, od3, .func (PySem.W.fnOf "is_short_integer" "is_short_integer" (defArgs s_is_short_integer) (defBody s_is_short_integer) (defScope s_is_short_integer) .none kV3 dc3 pm3 an3 cd3 ct3), sl3⟩)
    (c3 : PySem.W.codeIn K cd3 "is_short_integer" = true) (k3 : PySem.W.keepIn K (.ref f3) = true)
    (a4 : PySem.W.nsIn K mainGlobals "check_number" = some (some (.ref f4)))
    (l4 : K.lookup f4 = some ⟨oc4, od4, .func (PySem.W.fnOf "check_number" "check_number" (defArgs s_check_number) (defBody s_check_number) (defScope s_check_number) .none kV4 dc4 pm4 an4 cd4 ct4), sl4⟩)
    (c4 : PySem.W.codeIn K cd4 "check_number" = true) (k4 : PySem.W.keepIn K (.ref f4) = true)
    (a5 : PySem.W.nsIn K mainGlobals "checked_sizes" = some (some (.ref f5)))
    (l5 : K.lookup f5 = some ⟨oc5, od5, .func (PySem.W.fnOf "checked_sizes" "checked_sizes" (defArgs s_checked_sizes) (defBody s_checked_sizes) (defScope s_checked_sizes) .none kV5 dc5 pm5 an5 cd5 ct5), sl5⟩)
    (c5 : PySem.W.codeIn K cd5 "checked_sizes" = true) (k5 : PySem.W.keepIn K (.ref f5) = true)
    (a6 : PySem.W.nsIn K mainGlobals "steps_of_leaf" = some (some (.ref f6)))
    (l6 : K.lookup f6 = some ⟨oc6, od6, .func (PySem.W.fnOf "steps_of_leaf" "steps_of_leaf" (defArgs s_steps_of_leaf) (defBody s_steps_of_leaf) (defScope s_steps_of_leaf) .none kV6 dc6 pm6 an6 cd6 ct6), sl6⟩)
    (c6 : PySem.W.codeIn K cd6 "steps_of_leaf" = true) (k6 : PySem.W.keepIn K (.ref f6) = true)
    (a7 : PySem.W.nsIn K mainGlobals "sizes_of" = some (some (.ref f7)))
    (l7 : K.lookup f7 = some ⟨oc7, od7, .func (PySem.W.fnOf "sizes_of" "sizes_of" (defArgs s_sizes_of) (defBody s_sizes_of) (defScope s_sizes_of) .none kV7 dc7 pm7 an7 cd7 ct7), sl7⟩)
    (c7 : PySem.W.codeIn K cd7 "sizes_of" = true) (k7 : PySem.W.keepIn K (.ref f7) = true)
    (a8 : PySem.W.nsIn K mainGlobals "_sizes" = some (some (.ref f8)))
    (l8 : K.lookup f8 = some ⟨oc8, od8, .func (PySem.W.fnOf "_sizes" "_sizes" (defArgs s__sizes) (defBody s__sizes) (defScope s__sizes) .none kV8 dc8 pm8 an8 cd8 ct8), sl8⟩)
    (c8 : PySem.W.codeIn K cd8 "_sizes" = true) (k8 : PySem.W.keepIn K (.ref f8) = true)
    (a9 : PySem.W.nsIn K mainGlobals "_sizes_of_parts" = some (some (.ref f9)))
    (l9 : K.lookup f9 = some ⟨oc9, od9, .func (PySem.W.fnOf "_sizes_of_parts" "_sizes_of_parts" (defArgs s__sizes_of_parts) (defBody s__sizes_of_parts) (defScope s__sizes_of_parts) .none kV9 dc9 pm9 an9 cd9 ct9), sl9⟩)
    (c9 : PySem.W.codeIn K cd9 "_sizes_of_parts" = true) (k9 : PySem.W.keepIn K (.ref f9) = true)
    (a10 : PySem.W.nsIn K mainGlobals "_sizes_of_rounds" = some (some (.ref f10)))
    (l10 : K.lookup f10 = some ⟨oc10, od10, .func (PySem.W.fnOf "_sizes_of_rounds" "_sizes_of_rounds" (defArgs s__sizes_of_rounds) (defBody s__sizes_of_rounds) (defScope s__sizes_of_rounds) .none kV10 dc10 pm10 an10 cd10 ct10), sl10⟩)
    (c10 : PySem.W.codeIn K cd10 "_sizes_of_rounds" = true) (k10 : PySem.W.keepIn K (.ref f10) = true)
    (a11 : PySem.W.nsIn K mainGlobals "_within_count" = some (some (.ref f11)))
    (l11 : K.lookup f11 = some ⟨oc11, od11, .func (PySem.W.fnOf "_within_count" "_within_count" (defArgs s__within_count) (defBody s__within_count) (defScope s__within_count) .none kV11 dc11 pm11 an11 cd11 ct11), sl11⟩)
    (c11 : PySem.W.codeIn K cd11 "_within_count" = true) (k11 : PySem.W.keepIn K (.ref f11) = true)
    (a12 : PySem.W.nsIn K mainGlobals "all_addresses" = some (some (.ref f12)))
    (l12 : K.lookup f12 = some ⟨oc12, od12, .func (PySem.W.fnOf "all_addresses" "all_addresses" (defArgs s_all_addresses) (defBody s_all_addresses) (defScope s_all_addresses) .none kV12 dc12 pm12 an12 cd12 ct12), sl12⟩)
    (c12 : PySem.W.codeIn K cd12 "all_addresses" = true) (k12 : PySem.W.keepIn K (.ref f12) = true)
    (a13 : PySem.W.nsIn K mainGlobals "check_small" = some (some (.ref f13)))
    (l13 : K.lookup f13 = some ⟨oc13, od13, .func (PySem.W.fnOf "check_small" "check_small" (defArgs s_check_small) (defBody s_check_small) (defScope s_check_small) .none kV13 dc13 pm13 an13 cd13 ct13), sl13⟩)
    (c13 : PySem.W.codeIn K cd13 "check_small" = true) (k13 : PySem.W.keepIn K (.ref f13) = true)
    (a14 : PySem.W.nsIn K mainGlobals "is_index_tuple" = some (some (.ref f14)))
    (l14 : K.lookup f14 = some ⟨oc14, od14, .func (PySem.W.fnOf "is_index_tuple" "is_index_tuple" (defArgs s_is_index_tuple) (defBody s_is_index_tuple) (defScope s_is_index_tuple) .none kV14 dc14 pm14 an14 cd14 ct14), sl14⟩)
    (c14 : PySem.W.codeIn K cd14 "is_index_tuple" = true) (k14 : PySem.W.keepIn K (.ref f14) = true)
    (a15 : PySem.W.nsIn K mainGlobals "step_rows" = some (some (.ref f15)))
    (l15 : K.lookup f15 = some ⟨oc15, od15, .func (PySem.W.fnOf "step_rows" "step_rows" (defArgs s_step_rows) (defBody s_step_rows) (defScope s_step_rows) .none kV15 dc15 pm15 an15 cd15 ct15), sl15⟩)
    (c15 : PySem.W.codeIn K cd15 "step_rows" = true) (k15 : PySem.W.keepIn K (.ref f15) = true)
    (a16 : PySem.W.nsIn K mainGlobals "_rows_by_index" = some (some (.ref f16)))
    (l16 : K.lookup f16 = some ⟨oc16, od16, .func (PySem.W.fnOf "_rows_by_index" "_rows_by_index" (defArgs s__rows_by_index) (defBody s__rows_by_index) (defScope s__rows_by_index) .none kV16 dc16 pm16 an16 cd16 ct16), sl16⟩)
    (c16 : PySem.W.codeIn K cd16 "_rows_by_index" = true) (k16 : PySem.W.keepIn K (.ref f16) = true)
    (a17 : PySem.W.nsIn K mainGlobals "_row_within" = some (some (.ref f17)))
    (l17 : K.lookup f17 = some ⟨oc17, od17, .func (PySem.W.fnOf "_row_within" "_row_within" (defArgs s__row_within) (defBody s__row_within) (defScope s__row_within) .none kV17 dc17 pm17 an17 cd17 ct17), sl17⟩)
    (c17 : PySem.W.codeIn K cd17 "_row_within" = true) (k17 : PySem.W.keepIn K (.ref f17) = true)
    (a18 : PySem.W.nsIn K mainGlobals "available" = some (some (.ref f18)))
    (l18 : K.lookup f18 = some ⟨oc18, od18, .func (PySem.W.fnOf "available" "available" (defArgs s_available) (defBody s_available) (defScope s_available) .none (.ref kD18) dc18 pm18 an18 cd18 ct18), sl18⟩)
    (kn18 : PySem.W.nsIn K kD18 "most" = some (some .none))
    (c18 : PySem.W.codeIn K cd18 "available" = true) (k18 : PySem.W.keepIn K (.ref f18) = true)
    (a19 : PySem.W.nsIn K mainGlobals "union" = some (some (.ref f19)))
    (l19 : K.lookup f19 = some ⟨oc19, od19, .func (PySem.W.fnOf "union" "union" (defArgs s_union) (defBody s_union) (defScope s_union) .none kV19 dc19 pm19 an19 cd19 ct19), sl19⟩)
    (c19 : PySem.W.codeIn K cd19 "union" = true) (k19 : PySem.W.keepIn K (.ref f19) = true)
    (a20 : PySem.W.nsIn K mainGlobals "common" = some (some (.ref f20)))
    (l20 : K.lookup f20 = some ⟨oc20, od20, .func (PySem.W.fnOf "common" "common" (defArgs s_common) (defBody s_common) (defScope s_common) .none kV20 dc20 pm20 an20 cd20 ct20), sl20⟩)
    (c20 : PySem.W.codeIn K cd20 "common" = true) (k20 : PySem.W.keepIn K (.ref f20) = true)
    (a21 : PySem.W.nsIn K mainGlobals "checked_state" = some (some (.ref f21)))
    (l21 : K.lookup f21 = some ⟨oc21, od21, .func (PySem.W.fnOf "checked_state" "checked_state" (defArgs s_checked_state) (defBody s_checked_state) (defScope s_checked_state) .none kV21 dc21 pm21 an21 cd21 ct21), sl21⟩)
    (c21 : PySem.W.codeIn K cd21 "checked_state" = true) (k21 : PySem.W.keepIn K (.ref f21) = true)
    (a22 : PySem.W.nsIn K mainGlobals "_find_state" = some (some (.ref f22)))
    (l22 : K.lookup f22 = some ⟨oc22, od22, .func (PySem.W.fnOf "_find_state" "_find_state" (defArgs s__find_state) (defBody s__find_state) (defScope s__find_state) .none kV22 dc22 pm22 an22 cd22 ct22), sl22⟩)
    (c22 : PySem.W.codeIn K cd22 "_find_state" = true) (k22 : PySem.W.keepIn K (.ref f22) = true)
    (a23 : PySem.W.nsIn K mainGlobals "_is_ascending" = some (some (.ref f23)))
    (l23 : K.lookup f23 = some ⟨oc23, od23, .func (PySem.W.fnOf "_is_ascending" "_is_ascending" (defArgs s__is_ascending) (defBody s__is_ascending) (defScope s__is_ascending) .none kV23 dc23 pm23 an23 cd23 ct23), sl23⟩)
    (c23 : PySem.W.codeIn K cd23 "_is_ascending" = true) (k23 : PySem.W.keepIn K (.ref f23) = true)
    (a24 : PySem.W.nsIn K mainGlobals "_check_two_states" = some (some (.ref f24)))
    (l24 : K.lookup f24 = some ⟨oc24, od24, .func (PySem.W.fnOf "_check_two_states" "_check_two_states" (defArgs s__check_two_states) (defBody s__check_two_states) (defScope s__check_two_states) .none kV24 dc24 pm24 an24 cd24 ct24), sl24⟩)
    (c24 : PySem.W.codeIn K cd24 "_check_two_states" = true) (k24 : PySem.W.keepIn K (.ref f24) = true)
    (a25 : PySem.W.nsIn K mainGlobals "is_run" = some (some (.ref f25)))
    (l25 : K.lookup f25 = some ⟨oc25, od25, .func (PySem.W.fnOf "is_run" "is_run" (defArgs s_is_run) (defBody s_is_run) (defScope s_is_run) .none (.ref kD25) dc25 pm25 an25 cd25 ct25), sl25⟩)
    (kn25 : PySem.W.nsIn K kD25 "state" = some (some (.ref eA25))) (kt25 : K.lookup eA25 = some ⟨.type "tuple", oe25, .seq #[] ne25, se25⟩)
    (c25 : PySem.W.codeIn K cd25 "is_run" = true) (k25 : PySem.W.keepIn K (.ref f25) = true)
    (a26 : PySem.W.nsIn K mainGlobals "is_complete_run" = some (some (.ref f26)))
    (l26 : K.lookup f26 = some ⟨oc26, od26, .func (PySem.W.fnOf "is_complete_run" "is_complete_run" (defArgs s_is_complete_run) (defBody s_is_complete_run) (defScope s_is_complete_run) .none (.ref kD26) dc26 pm26 an26 cd26 ct26), sl26⟩)
    (kn26 : PySem.W.nsIn K kD26 "state" = some (some (.ref eA26))) (kt26 : K.lookup eA26 = some ⟨.type "tuple", oe26, .seq #[] ne26, se26⟩)
    (c26 : PySem.W.codeIn K cd26 "is_complete_run" = true) (k26 : PySem.W.keepIn K (.ref f26) = true)
    (a27 : PySem.W.nsIn K mainGlobals "some_run" = some (some (.ref f27)))
    (l27 : K.lookup f27 = some ⟨oc27, od27, .func (PySem.W.fnOf "some_run" "some_run" (defArgs s_some_run) (defBody s_some_run) (defScope s_some_run) .none (.ref kD27) dc27 pm27 an27 cd27 ct27), sl27⟩)
    (kn27 : PySem.W.nsIn K kD27 "state" = some (some (.ref eA27))) (kt27 : K.lookup eA27 = some ⟨.type "tuple", oe27, .seq #[] ne27, se27⟩)
    (c27 : PySem.W.codeIn K cd27 "some_run" = true) (k27 : PySem.W.keepIn K (.ref f27) = true)
    (a28 : PySem.W.nsIn K mainGlobals "state_after" = some (some (.ref f28)))
    (l28 : K.lookup f28 = some ⟨oc28, od28, .func (PySem.W.fnOf "state_after" "state_after" (defArgs s_state_after) (defBody s_state_after) (defScope s_state_after) .none (.ref kD28) dc28 pm28 an28 cd28 ct28), sl28⟩)
    (kn28 : PySem.W.nsIn K kD28 "state" = some (some (.ref eA28))) (kt28 : K.lookup eA28 = some ⟨.type "tuple", oe28, .seq #[] ne28, se28⟩)
    (c28 : PySem.W.codeIn K cd28 "state_after" = true) (k28 : PySem.W.keepIn K (.ref f28) = true)
    (a29 : PySem.W.nsIn K mainGlobals "run_usages" = some (some (.ref f29)))
    (l29 : K.lookup f29 = some ⟨oc29, od29, .func (PySem.W.fnOf "run_usages" "run_usages" (defArgs s_run_usages) (defBody s_run_usages) (defScope s_run_usages) .none (.ref kD29) dc29 pm29 an29 cd29 ct29), sl29⟩)
    (kn29 : PySem.W.nsIn K kD29 "state" = some (some (.ref eA29))) (kt29 : K.lookup eA29 = some ⟨.type "tuple", oe29, .seq #[] ne29, se29⟩)
    (c29 : PySem.W.codeIn K cd29 "run_usages" = true) (k29 : PySem.W.keepIn K (.ref f29) = true)
    (a30 : PySem.W.nsIn K mainGlobals "run_peak" = some (some (.ref f30)))
    (l30 : K.lookup f30 = some ⟨oc30, od30, .func (PySem.W.fnOf "run_peak" "run_peak" (defArgs s_run_peak) (defBody s_run_peak) (defScope s_run_peak) .none (.ref kD30) dc30 pm30 an30 cd30 ct30), sl30⟩)
    (kn30 : PySem.W.nsIn K kD30 "state" = some (some (.ref eA30))) (kt30 : K.lookup eA30 = some ⟨.type "tuple", oe30, .seq #[] ne30, se30⟩)
    (c30 : PySem.W.codeIn K cd30 "run_peak" = true) (k30 : PySem.W.keepIn K (.ref f30) = true)
    (a31 : PySem.W.nsIn K mainGlobals "lift_run" = some (some (.ref f31)))
    (l31 : K.lookup f31 = some ⟨oc31, od31, .func (PySem.W.fnOf "lift_run" "lift_run" (defArgs s_lift_run) (defBody s_lift_run) (defScope s_lift_run) .none kV31 dc31 pm31 an31 cd31 ct31), sl31⟩)
    (c31 : PySem.W.codeIn K cd31 "lift_run" = true) (k31 : PySem.W.keepIn K (.ref f31) = true)
    (a32 : PySem.W.nsIn K mainGlobals "cut_run" = some (some (.ref f32)))
    (l32 : K.lookup f32 = some ⟨oc32, od32, .func (PySem.W.fnOf "cut_run" "cut_run" (defArgs s_cut_run) (defBody s_cut_run) (defScope s_cut_run) .none kV32 dc32 pm32 an32 cd32 ct32), sl32⟩)
    (c32 : PySem.W.codeIn K cd32 "cut_run" = true) (k32 : PySem.W.keepIn K (.ref f32) = true)
    (a33 : PySem.W.nsIn K mainGlobals "_state_steps" = some (some (.ref f33)))
    (l33 : K.lookup f33 = some ⟨oc33, od33, .func (PySem.W.fnOf "_state_steps" "_state_steps" (defArgs s__state_steps) (defBody s__state_steps) (defScope s__state_steps) .none kV33 dc33 pm33 an33 cd33 ct33), sl33⟩)
    (c33 : PySem.W.codeIn K cd33 "_state_steps" = true) (k33 : PySem.W.keepIn K (.ref f33) = true)
    (a34 : PySem.W.nsIn K mainGlobals "_steps_after" = some (some (.ref f34)))
    (l34 : K.lookup f34 = some ⟨oc34, od34, .func (PySem.W.fnOf "_steps_after" "_steps_after" (defArgs s__steps_after) (defBody s__steps_after) (defScope s__steps_after) .none kV34 dc34 pm34 an34 cd34 ct34), sl34⟩)
    (c34 : PySem.W.codeIn K cd34 "_steps_after" = true) (k34 : PySem.W.keepIn K (.ref f34) = true)
    (a35 : PySem.W.nsIn K mainGlobals "_steps_of_run_and_state" = some (some (.ref f35)))
    (l35 : K.lookup f35 = some ⟨oc35, od35, .func (PySem.W.fnOf "_steps_of_run_and_state" "_steps_of_run_and_state" (defArgs s__steps_of_run_and_state) (defBody s__steps_of_run_and_state) (defScope s__steps_of_run_and_state) .none kV35 dc35 pm35 an35 cd35 ct35), sl35⟩)
    (c35 : PySem.W.codeIn K cd35 "_steps_of_run_and_state" = true) (k35 : PySem.W.keepIn K (.ref f35) = true)
    (a36 : PySem.W.nsIn K mainGlobals "_law_source" = some (some (.ref f36)))
    (l36 : K.lookup f36 = some ⟨oc36, od36, .func (PySem.W.fnOf "_law_source" "_law_source" (defArgs s__law_source) (defBody s__law_source) (defScope s__law_source) .none kV36 dc36 pm36 an36 cd36 ct36), sl36⟩)
    (c36 : PySem.W.codeIn K cd36 "_law_source" = true) (k36 : PySem.W.keepIn K (.ref f36) = true)
    (a37 : PySem.W.nsIn K mainGlobals "_law_draw" = some (some (.ref f37)))
    (l37 : K.lookup f37 = some ⟨oc37, od37, .func (PySem.W.fnOf "_law_draw" "_law_draw" (defArgs s__law_draw) (defBody s__law_draw) (defScope s__law_draw) .none kV37 dc37 pm37 an37 cd37 ct37), sl37⟩)
    (c37 : PySem.W.codeIn K cd37 "_law_draw" = true) (k37 : PySem.W.keepIn K (.ref f37) = true)
    (a38 : PySem.W.nsIn K mainGlobals "_law_step" = some (some (.ref f38)))
    (l38 : K.lookup f38 = some ⟨oc38, od38, .func (PySem.W.fnOf "_law_step" "_law_step" (defArgs s__law_step) (defBody s__law_step) (defScope s__law_step) .none kV38 dc38 pm38 an38 cd38 ct38), sl38⟩)
    (c38 : PySem.W.codeIn K cd38 "_law_step" = true) (k38 : PySem.W.keepIn K (.ref f38) = true)
    (a39 : PySem.W.nsIn K mainGlobals "_law_wide_job" = some (some (.ref f39)))
    (l39 : K.lookup f39 = some ⟨oc39, od39, .func (PySem.W.fnOf "_law_wide_job" "_law_wide_job" (defArgs s__law_wide_job) (defBody s__law_wide_job) (defScope s__law_wide_job) .none kV39 dc39 pm39 an39 cd39 ct39), sl39⟩)
    (c39 : PySem.W.codeIn K cd39 "_law_wide_job" = true) (k39 : PySem.W.keepIn K (.ref f39) = true)
    (a40 : PySem.W.nsIn K mainGlobals "_law_count" = some (some (.ref f40)))
    (l40 : K.lookup f40 = some ⟨oc40, od40, .func (PySem.W.fnOf "_law_count" "_law_count" (defArgs s__law_count) (defBody s__law_count) (defScope s__law_count) .none kV40 dc40 pm40 an40 cd40 ct40), sl40⟩)
    (c40 : PySem.W.codeIn K cd40 "_law_count" = true) (k40 : PySem.W.keepIn K (.ref f40) = true)
    (a41 : PySem.W.nsIn K mainGlobals "_law_small_job" = some (some (.ref f41)))
    (l41 : K.lookup f41 = some ⟨oc41, od41, .func (PySem.W.fnOf "_law_small_job" "_law_small_job" (defArgs s__law_small_job) (defBody s__law_small_job) (defScope s__law_small_job) .none kV41 dc41 pm41 an41 cd41 ct41), sl41⟩)
    (c41 : PySem.W.codeIn K cd41 "_law_small_job" = true) (k41 : PySem.W.keepIn K (.ref f41) = true)
    (a42 : PySem.W.nsIn K mainGlobals "_law_addresses" = some (some (.ref f42)))
    (l42 : K.lookup f42 = some ⟨oc42, od42, .func (PySem.W.fnOf "_law_addresses" "_law_addresses" (defArgs s__law_addresses) (defBody s__law_addresses) (defScope s__law_addresses) .none kV42 dc42 pm42 an42 cd42 ct42), sl42⟩)
    (c42 : PySem.W.codeIn K cd42 "_law_addresses" = true) (k42 : PySem.W.keepIn K (.ref f42) = true)
    (a43 : PySem.W.nsIn K mainGlobals "_law_precedes" = some (some (.ref f43)))
    (l43 : K.lookup f43 = some ⟨oc43, od43, .func (PySem.W.fnOf "_law_precedes" "_law_precedes" (defArgs s__law_precedes) (defBody s__law_precedes) (defScope s__law_precedes) .none kV43 dc43 pm43 an43 cd43 ct43), sl43⟩)
    (c43 : PySem.W.codeIn K cd43 "_law_precedes" = true) (k43 : PySem.W.keepIn K (.ref f43) = true)
    (a44 : PySem.W.nsIn K mainGlobals "_law_earlier" = some (some (.ref f44)))
    (l44 : K.lookup f44 = some ⟨oc44, od44, .func (PySem.W.fnOf "_law_earlier" "_law_earlier" (defArgs s__law_earlier) (defBody s__law_earlier) (defScope s__law_earlier) .none kV44 dc44 pm44 an44 cd44 ct44), sl44⟩)
    (c44 : PySem.W.codeIn K cd44 "_law_earlier" = true) (k44 : PySem.W.keepIn K (.ref f44) = true)
    (a45 : PySem.W.nsIn K mainGlobals "_law_is_ready" = some (some (.ref f45)))
    (l45 : K.lookup f45 = some ⟨oc45, od45, .func (PySem.W.fnOf "_law_is_ready" "_law_is_ready" (defArgs s__law_is_ready) (defBody s__law_is_ready) (defScope s__law_is_ready) .none kV45 dc45 pm45 an45 cd45 ct45), sl45⟩)
    (c45 : PySem.W.codeIn K cd45 "_law_is_ready" = true) (k45 : PySem.W.keepIn K (.ref f45) = true)
    (a46 : PySem.W.nsIn K mainGlobals "_law_random_run" = some (some (.ref f46)))
    (l46 : K.lookup f46 = some ⟨oc46, od46, .func (PySem.W.fnOf "_law_random_run" "_law_random_run" (defArgs s__law_random_run) (defBody s__law_random_run) (defScope s__law_random_run) .none kV46 dc46 pm46 an46 cd46 ct46), sl46⟩)
    (c46 : PySem.W.codeIn K cd46 "_law_random_run" = true) (k46 : PySem.W.keepIn K (.ref f46) = true)
    (a47 : PySem.W.nsIn K mainGlobals "_law_random_state" = some (some (.ref f47)))
    (l47 : K.lookup f47 = some ⟨oc47, od47, .func (PySem.W.fnOf "_law_random_state" "_law_random_state" (defArgs s__law_random_state) (defBody s__law_random_state) (defScope s__law_random_state) .none kV47 dc47 pm47 an47 cd47 ct47), sl47⟩)
    (c47 : PySem.W.codeIn K cd47 "_law_random_state" = true) (k47 : PySem.W.keepIn K (.ref f47) = true)
    (a48 : PySem.W.nsIn K mainGlobals "_law_parts_right" = some (some (.ref f48)))
    (l48 : K.lookup f48 = some ⟨oc48, od48, .func (PySem.W.fnOf "_law_parts_right" "_law_parts_right" (defArgs s__law_parts_right) (defBody s__law_parts_right) (defScope s__law_parts_right) .none kV48 dc48 pm48 an48 cd48 ct48), sl48⟩)
    (c48 : PySem.W.codeIn K cd48 "_law_parts_right" = true) (k48 : PySem.W.keepIn K (.ref f48) = true)
    (a49 : PySem.W.nsIn K mainGlobals "_law_steps_right" = some (some (.ref f49)))
    (l49 : K.lookup f49 = some ⟨oc49, od49, .func (PySem.W.fnOf "_law_steps_right" "_law_steps_right" (defArgs s__law_steps_right) (defBody s__law_steps_right) (defScope s__law_steps_right) .none kV49 dc49 pm49 an49 cd49 ct49), sl49⟩)
    (c49 : PySem.W.codeIn K cd49 "_law_steps_right" = true) (k49 : PySem.W.keepIn K (.ref f49) = true)
    (a50 : PySem.W.nsIn K mainGlobals "_law_states_right" = some (some (.ref f50)))
    (l50 : K.lookup f50 = some ⟨oc50, od50, .func (PySem.W.fnOf "_law_states_right" "_law_states_right" (defArgs s__law_states_right) (defBody s__law_states_right) (defScope s__law_states_right) .none kV50 dc50 pm50 an50 cd50 ct50), sl50⟩)
    (c50 : PySem.W.codeIn K cd50 "_law_states_right" = true) (k50 : PySem.W.keepIn K (.ref f50) = true)
    (a51 : PySem.W.nsIn K mainGlobals "_law_large_right" = some (some (.ref f51)))
    (l51 : K.lookup f51 = some ⟨oc51, od51, .func (PySem.W.fnOf "_law_large_right" "_law_large_right" (defArgs s__law_large_right) (defBody s__law_large_right) (defScope s__law_large_right) .none kV51 dc51 pm51 an51 cd51 ct51), sl51⟩)
    (c51 : PySem.W.codeIn K cd51 "_law_large_right" = true) (k51 : PySem.W.keepIn K (.ref f51) = true)
    (a52 : PySem.W.nsIn K mainGlobals "_law_deep_right" = some (some (.ref f52)))
    (l52 : K.lookup f52 = some ⟨oc52, od52, .func (PySem.W.fnOf "_law_deep_right" "_law_deep_right" (defArgs s__law_deep_right) (defBody s__law_deep_right) (defScope s__law_deep_right) .none kV52 dc52 pm52 an52 cd52 ct52), sl52⟩)
    (c52 : PySem.W.codeIn K cd52 "_law_deep_right" = true) (k52 : PySem.W.keepIn K (.ref f52) = true)
    (a58 : PySem.W.nsIn K mainGlobals "law" = some (some (.ref f58)))
    (l58 : K.lookup f58 = some ⟨oc58, od58, .func (PySem.W.fnOf "law" "law" (defArgs s_law) (defBody s_law) (defScope s_law) .none kV58 dc58 pm58 an58 cd58 ct58), sl58⟩)
    (c58 : PySem.W.codeIn K cd58 "law" = true) (k58 : PySem.W.keepIn K (.ref f58) = true)
    (w0g : PySem.W.nsIn K mainGlobals "DoneSteps" = some (some (.ref w0c))) (w0p : PySem.W.plainGet K w0c Str.empty = true) (w0d : PySem.W.hasDictIn K w0c = true) (w0o : PySem.W.plainOver K w0c = true) (w0s : PySem.W.findIn K (.ref w0c) "__setattr__" = some (some (.builtin "object.__setattr__"))) (w0m : PySem.W.makesIn K w0c = true) (w0k : PySem.W.keepIn K (.ref w0c) = true)
    (w0n0 : PySem.W.findIn K (.ref w0c) "rows" = some none)
    (w0n1 : PySem.W.findIn K (.ref w0c) "done" = some none)
    (w0n2 : PySem.W.findIn K (.ref w0c) "below" = some none)
    (w0n3 : PySem.W.findIn K (.ref w0c) "usages" = some none)
    (a53 : PySem.W.findIn K (.ref w0c) "__init__" = some (some (.ref f53))) (i53 : PySem.W.isFn K (.ref f53) = true)
    (l53 : K.lookup f53 = some ⟨oc53, od53, .func (PySem.W.fnOf "__init__" "DoneSteps.__init__" (defArgs s_DoneSteps_init) (defBody s_DoneSteps_init) (defScope s_DoneSteps_init) .none kV53 dc53 pm53 an53 cd53 ct53), sl53⟩)
    (c53 : PySem.W.codeIn K cd53 "DoneSteps.__init__" = true) (k53 : PySem.W.keepIn K (.ref f53) = true)
    (a54 : PySem.W.findIn K (.ref w0c) "may_do" = some (some (.ref f54))) (i54 : PySem.W.isFn K (.ref f54) = true)
    (l54 : K.lookup f54 = some ⟨oc54, od54, .func (PySem.W.fnOf "may_do" "DoneSteps.may_do" (defArgs s_DoneSteps_may_do) (defBody s_DoneSteps_may_do) (defScope s_DoneSteps_may_do) .none kV54 dc54 pm54 an54 cd54 ct54), sl54⟩)
    (c54 : PySem.W.codeIn K cd54 "DoneSteps.may_do" = true) (k54 : PySem.W.keepIn K (.ref f54) = true)
    (a55 : PySem.W.findIn K (.ref w0c) "do_step" = some (some (.ref f55))) (i55 : PySem.W.isFn K (.ref f55) = true)
    (l55 : K.lookup f55 = some ⟨oc55, od55, .func (PySem.W.fnOf "do_step" "DoneSteps.do_step" (defArgs s_DoneSteps_do_step) (defBody s_DoneSteps_do_step) (defScope s_DoneSteps_do_step) .none kV55 dc55 pm55 an55 cd55 ct55), sl55⟩)
    (c55 : PySem.W.codeIn K cd55 "DoneSteps.do_step" = true) (k55 : PySem.W.keepIn K (.ref f55) = true)
    (a56 : PySem.W.findIn K (.ref w0c) "do_all" = some (some (.ref f56))) (i56 : PySem.W.isFn K (.ref f56) = true)
    (l56 : K.lookup f56 = some ⟨oc56, od56, .func (PySem.W.fnOf "do_all" "DoneSteps.do_all" (defArgs s_DoneSteps_do_all) (defBody s_DoneSteps_do_all) (defScope s_DoneSteps_do_all) .none kV56 dc56 pm56 an56 cd56 ct56), sl56⟩)
    (c56 : PySem.W.codeIn K cd56 "DoneSteps.do_all" = true) (k56 : PySem.W.keepIn K (.ref f56) = true)
    (a57 : PySem.W.findIn K (.ref w0c) "is_complete" = some (some (.ref f57))) (i57 : PySem.W.isFn K (.ref f57) = true)
    (l57 : K.lookup f57 = some ⟨oc57, od57, .func (PySem.W.fnOf "is_complete" "DoneSteps.is_complete" (defArgs s_DoneSteps_is_complete) (defBody s_DoneSteps_is_complete) (defScope s_DoneSteps_is_complete) .none kV57 dc57 pm57 an57 cd57 ct57), sl57⟩)
    (c57 : PySem.W.codeIn K cd57 "DoneSteps.is_complete" = true) (k57 : PySem.W.keepIn K (.ref f57) = true)
    (gc0 : PySem.W.nsIn K mainGlobals "NUMBER_END" = some (some (.int 10000000000000000000000000000000000000000000000000000000000000 tk0)))
    (gc1 : PySem.W.nsIn K mainGlobals "MAX_STEP" = some (some (.int 1000000000000000000000000000000 tk1)))
    (gc2 : PySem.W.nsIn K mainGlobals "MAX_COUNT" = some (some (.int 1000000000000000000000000000000 tk2)))
    (gc3 : PySem.W.nsIn K mainGlobals "MAX_PARTS" = some (some (.int 400 tk3)))
    (gc4 : PySem.W.nsIn K mainGlobals "MAX_NODES" = some (some (.int 400 tk4)))
    (gc5 : PySem.W.nsIn K mainGlobals "MAX_DEPTH" = some (some (.int 13 tk5)))
    (gc6 : PySem.W.nsIn K mainGlobals "MAX_SMALL" = some (some (.int 400 tk6)))
    (x0g : PySem.W.nsIn K mainGlobals "InvalidState" = some (some (.ref x0c))) (x0x : PySem.W.excIn K x0c [.type "ValueError", .type "Exception", .type "BaseException", .type "object"] "ValueError.__new__" = true) (x0k : PySem.W.keepIn K (.ref x0c) = true) (x0b : PySem.W.subIn K (.ref x0c) (.type "BaseException") = some true) (x0t : PySem.W.typeIn K (.ref x0c) = some (.type "type")) (x0i : PySem.W.isClsIn K x0c = true)
    (x1g : PySem.W.nsIn K mainGlobals "InvalidRun" = some (some (.ref x1c))) (x1x : PySem.W.excIn K x1c [.type "ValueError", .type "Exception", .type "BaseException", .type "object"] "ValueError.__new__" = true) (x1k : PySem.W.keepIn K (.ref x1c) = true) (x1b : PySem.W.subIn K (.ref x1c) (.type "BaseException") = some true) (x1t : PySem.W.typeIn K (.ref x1c) = some (.type "type")) (x1i : PySem.W.isClsIn K x1c = true)
    (z0 : PySem.W.nsIn K mainGlobals "abs" = some none)
    (z1 : PySem.W.nsIn K mainGlobals "all" = some none)
    (z2 : PySem.W.nsIn K mainGlobals "bool" = some none)
    (z3 : PySem.W.nsIn K mainGlobals "dict" = some none)
    (z4 : PySem.W.nsIn K mainGlobals "enumerate" = some none)
    (z5 : PySem.W.nsIn K mainGlobals "int" = some none)
    (z6 : PySem.W.nsIn K mainGlobals "isinstance" = some none)
    (z7 : PySem.W.nsIn K mainGlobals "len" = some none)
    (z8 : PySem.W.nsIn K mainGlobals "list" = some none)
    (z9 : PySem.W.nsIn K mainGlobals "max" = some none)
    (z10 : PySem.W.nsIn K mainGlobals "min" = some none)
    (z11 : PySem.W.nsIn K mainGlobals "range" = some none)
    (z12 : PySem.W.nsIn K mainGlobals "set" = some none)
    (z13 : PySem.W.nsIn K mainGlobals "sorted" = some none)
    (z14 : PySem.W.nsIn K mainGlobals "sum" = some none)
    (z15 : PySem.W.nsIn K mainGlobals "tuple" = some none)
    (z16 : PySem.W.nsIn K mainGlobals "zip" = some none) :
    ∃ fd : FuncData, (∀ (s : Shared) (v : Value), BindsTo s fd ⟨[v], []⟩ [("_law_script", v)]) ∧ ∀ base : Heap, K.In base → base.Ns mainGlobals mg → FnG l.prog w K mg base CX0 60 fa fd ["_law_script"] (spLaw K) := by
  have e := hfa.symm.trans (PySem.W.mg_of X G a58)
  cases e
  have T : Txt K mg := by
    have F0 := fun_mk (st := s__wall) l0 c0 k0
    have F1 := fun_mk (st := s_is_integer) l1 c1 k1
    have F2 := fun_mk (st := s_is_within) l2 c2 k2
    have F3 := fun_mk (st := s_is_short_integer) l3 c3 k3
    have F4 := fun_mk (st := s_check_number) l4 c4 k4
    have F5 := fun_mk (st := s_checked_sizes) l5 c5 k5
    have F6 := fun_mk (st := s_steps_of_leaf) l6 c6 k6
    have F7 := fun_mk (st := s_sizes_of) l7 c7 k7
    have F8 := fun_mk (st := s__sizes) l8 c8 k8
    have F9 := fun_mk (st := s__sizes_of_parts) l9 c9 k9
    have F10 := fun_mk (st := s__sizes_of_rounds) l10 c10 k10
    have F11 := fun_mk (st := s__within_count) l11 c11 k11
    have F12 := fun_mk (st := s_all_addresses) l12 c12 k12
    have F13 := fun_mk (st := s_check_small) l13 c13 k13
    have F14 := fun_mk (st := s_is_index_tuple) l14 c14 k14
    have F15 := fun_mk (st := s_step_rows) l15 c15 k15
    have F16 := fun_mk (st := s__rows_by_index) l16 c16 k16
    have F17 := fun_mk (st := s__row_within) l17 c17 k17
    have F18 := fun_mk (st := s_available) l18 c18 k18
    have F19 := fun_mk (st := s_union) l19 c19 k19
    have F20 := fun_mk (st := s_common) l20 c20 k20
    have F21 := fun_mk (st := s_checked_state) l21 c21 k21
    have F22 := fun_mk (st := s__find_state) l22 c22 k22
    have F23 := fun_mk (st := s__is_ascending) l23 c23 k23
    have F24 := fun_mk (st := s__check_two_states) l24 c24 k24
    have F25 := fun_mk (st := s_is_run) l25 c25 k25
    have F26 := fun_mk (st := s_is_complete_run) l26 c26 k26
    have F27 := fun_mk (st := s_some_run) l27 c27 k27
    have F28 := fun_mk (st := s_state_after) l28 c28 k28
    have F29 := fun_mk (st := s_run_usages) l29 c29 k29
    have F30 := fun_mk (st := s_run_peak) l30 c30 k30
    have F31 := fun_mk (st := s_lift_run) l31 c31 k31
    have F32 := fun_mk (st := s_cut_run) l32 c32 k32
    have F33 := fun_mk (st := s__state_steps) l33 c33 k33
    have F34 := fun_mk (st := s__steps_after) l34 c34 k34
    have F35 := fun_mk (st := s__steps_of_run_and_state) l35 c35 k35
    have F36 := fun_mk (st := s__law_source) l36 c36 k36
    have F37 := fun_mk (st := s__law_draw) l37 c37 k37
    have F38 := fun_mk (st := s__law_step) l38 c38 k38
    have F39 := fun_mk (st := s__law_wide_job) l39 c39 k39
    have F40 := fun_mk (st := s__law_count) l40 c40 k40
    have F41 := fun_mk (st := s__law_small_job) l41 c41 k41
    have F42 := fun_mk (st := s__law_addresses) l42 c42 k42
    have F43 := fun_mk (st := s__law_precedes) l43 c43 k43
    have F44 := fun_mk (st := s__law_earlier) l44 c44 k44
    have F45 := fun_mk (st := s__law_is_ready) l45 c45 k45
    have F46 := fun_mk (st := s__law_random_run) l46 c46 k46
    have F47 := fun_mk (st := s__law_random_state) l47 c47 k47
    have F48 := fun_mk (st := s__law_parts_right) l48 c48 k48
    have F49 := fun_mk (st := s__law_steps_right) l49 c49 k49
    have F50 := fun_mk (st := s__law_states_right) l50 c50 k50
    have F51 := fun_mk (st := s__law_large_right) l51 c51 k51
    have F52 := fun_mk (st := s__law_deep_right) l52 c52 k52
    have F53 := fun_mk (st := s_DoneSteps_init) l53 c53 k53
    have F54 := fun_mk (st := s_DoneSteps_may_do) l54 c54 k54
    have F55 := fun_mk (st := s_DoneSteps_do_step) l55 c55 k55
    have F56 := fun_mk (st := s_DoneSteps_do_all) l56 c56 k56
    have F57 := fun_mk (st := s_DoneSteps_is_complete) l57 c57 k57
    have B0 := F0.binds (ps := ["k"]) fun _ _ _ _ _ _ us hl => match us, hl with | [_], _ => rfl
    have B1 := F1.binds (ps := ["value"]) fun _ _ _ _ _ _ us hl => match us, hl with | [_], _ => rfl
    have B2 := F2.binds (ps := ["value", "least", "greatest"]) fun _ _ _ _ _ _ us hl => match us, hl with | [_, _, _], _ => rfl
    have B3 := F3.binds (ps := ["value"]) fun _ _ _ _ _ _ us hl => match us, hl with | [_], _ => rfl
    have B4 := F4.binds (ps := ["value"]) fun _ _ _ _ _ _ us hl => match us, hl with | [_], _ => rfl
    have B5 := F5.binds (ps := ["job"]) fun _ _ _ _ _ _ us hl => match us, hl with | [_], _ => rfl
    have B6 := F6.binds (ps := ["value"]) fun _ _ _ _ _ _ us hl => match us, hl with | [_], _ => rfl
    have B7 := F7.binds (ps := ["value", "leaf_steps"]) fun _ _ _ _ _ _ us hl => match us, hl with | [_, _], _ => rfl
    have B8 := F8.binds (ps := ["value", "leaf_steps", "room", "levels"]) fun _ _ _ _ _ _ us hl => match us, hl with | [_, _, _, _], _ => rfl
    have B9 := F9.binds (ps := ["parts", "leaf_steps", "room", "levels"]) fun _ _ _ _ _ _ us hl => match us, hl with | [_, _, _, _], _ => rfl
    have B10 := F10.binds (ps := ["n", "inner", "leaf_steps", "room", "levels"]) fun _ _ _ _ _ _ us hl => match us, hl with | [_, _, _, _, _], _ => rfl
    have B11 := F11.binds (ps := ["nodes", "steps"]) fun _ _ _ _ _ _ us hl => match us, hl with | [_, _], _ => rfl
    have B12 := F12.binds (ps := ["job"]) fun _ _ _ _ _ _ us hl => match us, hl with | [_], _ => rfl
    have B13 := F13.binds (ps := ["job"]) fun _ _ _ _ _ _ us hl => match us, hl with | [_], _ => rfl
    have B14 := F14.binds (ps := ["value"]) fun _ _ _ _ _ _ us hl => match us, hl with | [_], _ => rfl
    have B15 := F15.binds (ps := ["job"]) fun _ _ _ _ _ _ us hl => match us, hl with | [_], _ => rfl
    have B16 := F16.binds (ps := ["job"]) fun _ _ _ _ _ _ us hl => match us, hl with | [_], _ => rfl
    have B17 := F17.binds (ps := ["index", "outer_gates", "row"]) fun _ _ _ _ _ _ us hl => match us, hl with | [_, _, _], _ => rfl
    have D18 := kw_one (st := s_available) l18 c18 k18 kn18
    have E18 := D18.binds0 (ps := ["job", "state", "most"]) 2 (by simp) rfl (fun D doc pm an cdv ct us ks l1 l2 => match us, ks, l1, l2 with | [u0, u1], [k1], _, _ => ⟨_, _, _, _, _, _, rfl, rfl, rfl⟩)
    have M18 := D18.kbinds0 (ps := ["job", "state", "most"]) 2 ["most"] [] (fun us mv ws => us ++ ws) (by simp) (fun q h => nomatch h) (fun r1 _ r3 => r1.append r3) (fun D doc pm an cdv ct us mv ws l1 l2 l3 => match us, mv, ws, l1, l2, l3 with | [u0, u1], [], [k1], _, _, _ => rfl)
    have B19 := F19.binds (ps := ["job", "first", "second"]) fun _ _ _ _ _ _ us hl => match us, hl with | [_, _, _], _ => rfl
    have B20 := F20.binds (ps := ["job", "first", "second"]) fun _ _ _ _ _ _ us hl => match us, hl with | [_, _, _], _ => rfl
    have B21 := F21.binds (ps := ["job", "state"]) fun _ _ _ _ _ _ us hl => match us, hl with | [_, _], _ => rfl
    have B22 := F22.binds (ps := ["job", "value"]) fun _ _ _ _ _ _ us hl => match us, hl with | [_, _], _ => rfl
    have B23 := F23.binds (ps := ["addresses"]) fun _ _ _ _ _ _ us hl => match us, hl with | [_], _ => rfl
    have B24 := F24.binds (ps := ["job", "first", "second"]) fun _ _ _ _ _ _ us hl => match us, hl with | [_, _, _], _ => rfl
    have D25 := kw_ref (st := s_is_run) l25 c25 k25 kn25
    have E25 := D25.binds0 (ps := ["job", "value", "state"]) 2 (by simp) rfl (fun D doc pm an cdv ct us ks l1 l2 => match us, ks, l1, l2 with | [u0, u1], [k1], _, _ => ⟨_, _, _, _, _, _, rfl, rfl, rfl⟩)
    have M25 := D25.kbinds0 (ps := ["job", "value", "state"]) 2 ["state"] [] (fun us mv ws => us ++ ws) (by simp) (fun q h => nomatch h) (fun r1 _ r3 => r1.append r3) (fun D doc pm an cdv ct us mv ws l1 l2 l3 => match us, mv, ws, l1, l2, l3 with | [u0, u1], [], [k1], _, _, _ => rfl)
    have D26 := kw_ref (st := s_is_complete_run) l26 c26 k26 kn26
    have E26 := D26.binds0 (ps := ["job", "value", "state"]) 2 (by simp) rfl (fun D doc pm an cdv ct us ks l1 l2 => match us, ks, l1, l2 with | [u0, u1], [k1], _, _ => ⟨_, _, _, _, _, _, rfl, rfl, rfl⟩)
    have M26 := D26.kbinds0 (ps := ["job", "value", "state"]) 2 ["state"] [] (fun us mv ws => us ++ ws) (by simp) (fun q h => nomatch h) (fun r1 _ r3 => r1.append r3) (fun D doc pm an cdv ct us mv ws l1 l2 l3 => match us, mv, ws, l1, l2, l3 with | [u0, u1], [], [k1], _, _, _ => rfl)
    have D27 := kw_ref (st := s_some_run) l27 c27 k27 kn27
    have E27 := D27.binds0 (ps := ["job", "state"]) 1 (by simp) rfl (fun D doc pm an cdv ct us ks l1 l2 => match us, ks, l1, l2 with | [u0], [k1], _, _ => ⟨_, _, _, _, _, _, rfl, rfl, rfl⟩)
    have M27 := D27.kbinds0 (ps := ["job", "state"]) 1 ["state"] [] (fun us mv ws => us ++ ws) (by simp) (fun q h => nomatch h) (fun r1 _ r3 => r1.append r3) (fun D doc pm an cdv ct us mv ws l1 l2 l3 => match us, mv, ws, l1, l2, l3 with | [u0], [], [k1], _, _, _ => rfl)
    have D28 := kw_ref (st := s_state_after) l28 c28 k28 kn28
    have E28 := D28.binds0 (ps := ["job", "run", "state"]) 2 (by simp) rfl (fun D doc pm an cdv ct us ks l1 l2 => match us, ks, l1, l2 with | [u0, u1], [k1], _, _ => ⟨_, _, _, _, _, _, rfl, rfl, rfl⟩)
    have M28 := D28.kbinds0 (ps := ["job", "run", "state"]) 2 ["state"] [] (fun us mv ws => us ++ ws) (by simp) (fun q h => nomatch h) (fun r1 _ r3 => r1.append r3) (fun D doc pm an cdv ct us mv ws l1 l2 l3 => match us, mv, ws, l1, l2, l3 with | [u0, u1], [], [k1], _, _, _ => rfl)
    have D29 := kw_ref (st := s_run_usages) l29 c29 k29 kn29
    have E29 := D29.binds0 (ps := ["job", "run", "state"]) 2 (by simp) rfl (fun D doc pm an cdv ct us ks l1 l2 => match us, ks, l1, l2 with | [u0, u1], [k1], _, _ => ⟨_, _, _, _, _, _, rfl, rfl, rfl⟩)
    have M29 := D29.kbinds0 (ps := ["job", "run", "state"]) 2 ["state"] [] (fun us mv ws => us ++ ws) (by simp) (fun q h => nomatch h) (fun r1 _ r3 => r1.append r3) (fun D doc pm an cdv ct us mv ws l1 l2 l3 => match us, mv, ws, l1, l2, l3 with | [u0, u1], [], [k1], _, _, _ => rfl)
    have D30 := kw_ref (st := s_run_peak) l30 c30 k30 kn30
    have E30 := D30.binds0 (ps := ["job", "run", "state"]) 2 (by simp) rfl (fun D doc pm an cdv ct us ks l1 l2 => match us, ks, l1, l2 with | [u0, u1], [k1], _, _ => ⟨_, _, _, _, _, _, rfl, rfl, rfl⟩)
    have M30 := D30.kbinds0 (ps := ["job", "run", "state"]) 2 ["state"] [] (fun us mv ws => us ++ ws) (by simp) (fun q h => nomatch h) (fun r1 _ r3 => r1.append r3) (fun D doc pm an cdv ct us mv ws l1 l2 l3 => match us, mv, ws, l1, l2, l3 with | [u0, u1], [], [k1], _, _, _ => rfl)
    have B31 := F31.binds (ps := ["job", "run", "state"]) fun _ _ _ _ _ _ us hl => match us, hl with | [_, _, _], _ => rfl
    have B32 := F32.binds (ps := ["job", "run", "state"]) fun _ _ _ _ _ _ us hl => match us, hl with | [_, _, _], _ => rfl
    have B33 := F33.binds (ps := ["job", "state"]) fun _ _ _ _ _ _ us hl => match us, hl with | [_, _], _ => rfl
    have B34 := F34.binds (ps := ["job", "run", "state"]) fun _ _ _ _ _ _ us hl => match us, hl with | [_, _, _], _ => rfl
    have B35 := F35.binds (ps := ["job", "run", "state"]) fun _ _ _ _ _ _ us hl => match us, hl with | [_, _, _], _ => rfl
    have B36 := F36.binds (ps := ["_law_script", "_law_at"]) fun _ _ _ _ _ _ us hl => match us, hl with | [_, _], _ => rfl
    have B37 := F37.binds (ps := ["_law_source_here", "_law_many"]) fun _ _ _ _ _ _ us hl => match us, hl with | [_, _], _ => rfl
    have B38 := F38.binds (ps := ["_law_source_here"]) fun _ _ _ _ _ _ us hl => match us, hl with | [_], _ => rfl
    have B39 := F39.binds (ps := ["_law_source_here", "_law_deep"]) fun _ _ _ _ _ _ us hl => match us, hl with | [_, _], _ => rfl
    have B40 := F40.binds (ps := ["_law_job"]) fun _ _ _ _ _ _ us hl => match us, hl with | [_], _ => rfl
    have B41 := F41.binds (ps := ["_law_source_here", "_law_deep", "_law_most"]) fun _ _ _ _ _ _ us hl => match us, hl with | [_, _, _], _ => rfl
    have B42 := F42.binds (ps := ["_law_job"]) fun _ _ _ _ _ _ us hl => match us, hl with | [_], _ => rfl
    have B43 := F43.binds (ps := ["_law_job", "_law_first", "_law_second"]) fun _ _ _ _ _ _ us hl => match us, hl with | [_, _, _], _ => rfl
    have B44 := F44.binds (ps := ["_law_job"]) fun _ _ _ _ _ _ us hl => match us, hl with | [_], _ => rfl
    have B45 := F45.binds (ps := ["_law_earlier_here", "_law_done", "_law_one"]) fun _ _ _ _ _ _ us hl => match us, hl with | [_, _, _], _ => rfl
    have B46 := F46.binds (ps := ["_law_source_here", "_law_earlier_here", "_law_done", "_law_most"]) fun _ _ _ _ _ _ us hl => match us, hl with | [_, _, _, _], _ => rfl
    have B47 := F47.binds (ps := ["_law_source_here", "_law_earlier_here"]) fun _ _ _ _ _ _ us hl => match us, hl with | [_, _], _ => rfl
    have B48 := F48.binds (ps := ["_law_source_here", "_law_job", "_law_earlier_here", "_law_begun"]) fun _ _ _ _ _ _ us hl => match us, hl with | [_, _, _, _], _ => rfl
    have B49 := F49.binds (ps := ["_law_job", "_law_begun"]) fun _ _ _ _ _ _ us hl => match us, hl with | [_, _], _ => rfl
    have B50 := F50.binds (ps := ["_law_job", "_law_run", "_law_one", "_law_other"]) fun _ _ _ _ _ _ us hl => match us, hl with | [_, _, _, _], _ => rfl
    have B51 := F51.binds (ps := ["_law_source_here"]) fun _ _ _ _ _ _ us hl => match us, hl with | [_], _ => rfl
    have B52 := F52.binds (ps := []) fun _ _ _ _ _ _ us hl => match us, hl with | [], _ => rfl
    have B53 := F53.binds (ps := ["self", "job"]) fun _ _ _ _ _ _ us hl => match us, hl with | [_, _], _ => rfl
    have B54 := F54.binds (ps := ["self", "address"]) fun _ _ _ _ _ _ us hl => match us, hl with | [_, _], _ => rfl
    have B55 := F55.binds (ps := ["self", "address"]) fun _ _ _ _ _ _ us hl => match us, hl with | [_, _], _ => rfl
    have B56 := F56.binds (ps := ["self", "addresses"]) fun _ _ _ _ _ _ us hl => match us, hl with | [_, _], _ => rfl
    have B57 := F57.binds (ps := ["self"]) fun _ _ _ _ _ _ us hl => match us, hl with | [_], _ => rfl
    exact {
      f__wall := f0, d__wall := _, F__wall := F0, b__wall := B0, m__wall := PySem.W.mg_of X G a0,
      f_is_integer := f1, d_is_integer := _, F_is_integer := F1, b_is_integer := B1, m_is_integer := PySem.W.mg_of X G a1,
      f_is_within := f2, d_is_within := _, F_is_within := F2, b_is_within := B2, m_is_within := PySem.W.mg_of X G a2,
      f_is_short_integer := f3, d_is_short_integer := _, F_is_short_integer := F3, b_is_short_integer := B3, m_is_short_integer := PySem.W.mg_of X G a3,
      f_check_number := f4, d_check_number := _, F_check_number := F4, b_check_number := B4, m_check_number := PySem.W.mg_of X G a4,
      f_checked_sizes := f5, d_checked_sizes := _, F_checked_sizes := F5, b_checked_sizes := B5, m_checked_sizes := PySem.W.mg_of X G a5,
      f_steps_of_leaf := f6, d_steps_of_leaf := _, F_steps_of_leaf := F6, b_steps_of_leaf := B6, m_steps_of_leaf := PySem.W.mg_of X G a6,
      f_sizes_of := f7, d_sizes_of := _, F_sizes_of := F7, b_sizes_of := B7, m_sizes_of := PySem.W.mg_of X G a7,
      f__sizes := f8, d__sizes := _, F__sizes := F8, b__sizes := B8, m__sizes := PySem.W.mg_of X G a8,
      f__sizes_of_parts := f9, d__sizes_of_parts := _, F__sizes_of_parts := F9, b__sizes_of_parts := B9, m__sizes_of_parts := PySem.W.mg_of X G a9,
      f__sizes_of_rounds := f10, d__sizes_of_rounds := _, F__sizes_of_rounds := F10, b__sizes_of_rounds := B10, m__sizes_of_rounds := PySem.W.mg_of X G a10,
      f__within_count := f11, d__within_count := _, F__within_count := F11, b__within_count := B11, m__within_count := PySem.W.mg_of X G a11,
      f_all_addresses := f12, d_all_addresses := _, F_all_addresses := F12, b_all_addresses := B12, m_all_addresses := PySem.W.mg_of X G a12,
      f_check_small := f13, d_check_small := _, F_check_small := F13, b_check_small := B13, m_check_small := PySem.W.mg_of X G a13,
      f_is_index_tuple := f14, d_is_index_tuple := _, F_is_index_tuple := F14, b_is_index_tuple := B14, m_is_index_tuple := PySem.W.mg_of X G a14,
      f_step_rows := f15, d_step_rows := _, F_step_rows := F15, b_step_rows := B15, m_step_rows := PySem.W.mg_of X G a15,
      f__rows_by_index := f16, d__rows_by_index := _, F__rows_by_index := F16, b__rows_by_index := B16, m__rows_by_index := PySem.W.mg_of X G a16,
      f__row_within := f17, d__row_within := _, F__row_within := F17, b__row_within := B17, m__row_within := PySem.W.mg_of X G a17,
      f_available := f18, d_available := _, F_available := F18, ds_available := E18.choose, vd_available := E18.choose_spec.1, b_available := E18.choose_spec.2, gn_available := _, kn_available := M18.choose_spec, m_available := PySem.W.mg_of X G a18,
      f_union := f19, d_union := _, F_union := F19, b_union := B19, m_union := PySem.W.mg_of X G a19,
      f_common := f20, d_common := _, F_common := F20, b_common := B20, m_common := PySem.W.mg_of X G a20,
      f_checked_state := f21, d_checked_state := _, F_checked_state := F21, b_checked_state := B21, m_checked_state := PySem.W.mg_of X G a21,
      f__find_state := f22, d__find_state := _, F__find_state := F22, b__find_state := B22, m__find_state := PySem.W.mg_of X G a22,
      f__is_ascending := f23, d__is_ascending := _, F__is_ascending := F23, b__is_ascending := B23, m__is_ascending := PySem.W.mg_of X G a23,
      f__check_two_states := f24, d__check_two_states := _, F__check_two_states := F24, b__check_two_states := B24, m__check_two_states := PySem.W.mg_of X G a24,
      f_is_run := f25, d_is_run := _, F_is_run := F25, e_is_run := eA25, et_is_run := fun H => .inr ⟨_, _, _, kt25, rfl, rfl, Nat.zero_le _, .nil⟩, ds_is_run := E25.choose, vd_is_run := E25.choose_spec.1, b_is_run := E25.choose_spec.2, gn_is_run := _, kn_is_run := M25.choose_spec, m_is_run := PySem.W.mg_of X G a25,
      f_is_complete_run := f26, d_is_complete_run := _, F_is_complete_run := F26, e_is_complete_run := eA26, et_is_complete_run := fun H => .inr ⟨_, _, _, kt26, rfl, rfl, Nat.zero_le _, .nil⟩, ds_is_complete_run := E26.choose, vd_is_complete_run := E26.choose_spec.1, b_is_complete_run := E26.choose_spec.2, gn_is_complete_run := _, kn_is_complete_run := M26.choose_spec, m_is_complete_run := PySem.W.mg_of X G a26,
      f_some_run := f27, d_some_run := _, F_some_run := F27, e_some_run := eA27, et_some_run := fun H => .inr ⟨_, _, _, kt27, rfl, rfl, Nat.zero_le _, .nil⟩, ds_some_run := E27.choose, vd_some_run := E27.choose_spec.1, b_some_run := E27.choose_spec.2, gn_some_run := _, kn_some_run := M27.choose_spec, m_some_run := PySem.W.mg_of X G a27,
      f_state_after := f28, d_state_after := _, F_state_after := F28, e_state_after := eA28, et_state_after := fun H => .inr ⟨_, _, _, kt28, rfl, rfl, Nat.zero_le _, .nil⟩, ds_state_after := E28.choose, vd_state_after := E28.choose_spec.1, b_state_after := E28.choose_spec.2, gn_state_after := _, kn_state_after := M28.choose_spec, m_state_after := PySem.W.mg_of X G a28,
      f_run_usages := f29, d_run_usages := _, F_run_usages := F29, e_run_usages := eA29, et_run_usages := fun H => .inr ⟨_, _, _, kt29, rfl, rfl, Nat.zero_le _, .nil⟩, ds_run_usages := E29.choose, vd_run_usages := E29.choose_spec.1, b_run_usages := E29.choose_spec.2, gn_run_usages := _, kn_run_usages := M29.choose_spec, m_run_usages := PySem.W.mg_of X G a29,
      f_run_peak := f30, d_run_peak := _, F_run_peak := F30, e_run_peak := eA30, et_run_peak := fun H => .inr ⟨_, _, _, kt30, rfl, rfl, Nat.zero_le _, .nil⟩, ds_run_peak := E30.choose, vd_run_peak := E30.choose_spec.1, b_run_peak := E30.choose_spec.2, gn_run_peak := _, kn_run_peak := M30.choose_spec, m_run_peak := PySem.W.mg_of X G a30,
      f_lift_run := f31, d_lift_run := _, F_lift_run := F31, b_lift_run := B31, m_lift_run := PySem.W.mg_of X G a31,
      f_cut_run := f32, d_cut_run := _, F_cut_run := F32, b_cut_run := B32, m_cut_run := PySem.W.mg_of X G a32,
      f__state_steps := f33, d__state_steps := _, F__state_steps := F33, b__state_steps := B33, m__state_steps := PySem.W.mg_of X G a33,
      f__steps_after := f34, d__steps_after := _, F__steps_after := F34, b__steps_after := B34, m__steps_after := PySem.W.mg_of X G a34,
      f__steps_of_run_and_state := f35, d__steps_of_run_and_state := _, F__steps_of_run_and_state := F35, b__steps_of_run_and_state := B35, m__steps_of_run_and_state := PySem.W.mg_of X G a35,
      f__law_source := f36, d__law_source := _, F__law_source := F36, b__law_source := B36, m__law_source := PySem.W.mg_of X G a36,
      f__law_draw := f37, d__law_draw := _, F__law_draw := F37, b__law_draw := B37, m__law_draw := PySem.W.mg_of X G a37,
      f__law_step := f38, d__law_step := _, F__law_step := F38, b__law_step := B38, m__law_step := PySem.W.mg_of X G a38,
      f__law_wide_job := f39, d__law_wide_job := _, F__law_wide_job := F39, b__law_wide_job := B39, m__law_wide_job := PySem.W.mg_of X G a39,
      f__law_count := f40, d__law_count := _, F__law_count := F40, b__law_count := B40, m__law_count := PySem.W.mg_of X G a40,
      f__law_small_job := f41, d__law_small_job := _, F__law_small_job := F41, b__law_small_job := B41, m__law_small_job := PySem.W.mg_of X G a41,
      f__law_addresses := f42, d__law_addresses := _, F__law_addresses := F42, b__law_addresses := B42, m__law_addresses := PySem.W.mg_of X G a42,
      f__law_precedes := f43, d__law_precedes := _, F__law_precedes := F43, b__law_precedes := B43, m__law_precedes := PySem.W.mg_of X G a43,
      f__law_earlier := f44, d__law_earlier := _, F__law_earlier := F44, b__law_earlier := B44, m__law_earlier := PySem.W.mg_of X G a44,
      f__law_is_ready := f45, d__law_is_ready := _, F__law_is_ready := F45, b__law_is_ready := B45, m__law_is_ready := PySem.W.mg_of X G a45,
      f__law_random_run := f46, d__law_random_run := _, F__law_random_run := F46, b__law_random_run := B46, m__law_random_run := PySem.W.mg_of X G a46,
      f__law_random_state := f47, d__law_random_state := _, F__law_random_state := F47, b__law_random_state := B47, m__law_random_state := PySem.W.mg_of X G a47,
      f__law_parts_right := f48, d__law_parts_right := _, F__law_parts_right := F48, b__law_parts_right := B48, m__law_parts_right := PySem.W.mg_of X G a48,
      f__law_steps_right := f49, d__law_steps_right := _, F__law_steps_right := F49, b__law_steps_right := B49, m__law_steps_right := PySem.W.mg_of X G a49,
      f__law_states_right := f50, d__law_states_right := _, F__law_states_right := F50, b__law_states_right := B50, m__law_states_right := PySem.W.mg_of X G a50,
      f__law_large_right := f51, d__law_large_right := _, F__law_large_right := F51, b__law_large_right := B51, m__law_large_right := PySem.W.mg_of X G a51,
      f__law_deep_right := f52, d__law_deep_right := _, F__law_deep_right := F52, b__law_deep_right := B52, m__law_deep_right := PySem.W.mg_of X G a52,
      f_DoneSteps_init := f53, d_DoneSteps_init := _, F_DoneSteps_init := F53, b_DoneSteps_init := B53, mk_DoneSteps := ⟨w0m, a53, i53, w0k⟩,
      f_DoneSteps_may_do := f54, d_DoneSteps_may_do := _, F_DoneSteps_may_do := F54, b_DoneSteps_may_do := B54, mt_DoneSteps_may_do := ⟨a54, i54, k54⟩,
      f_DoneSteps_do_step := f55, d_DoneSteps_do_step := _, F_DoneSteps_do_step := F55, b_DoneSteps_do_step := B55, mt_DoneSteps_do_step := ⟨a55, i55, k55⟩,
      f_DoneSteps_do_all := f56, d_DoneSteps_do_all := _, F_DoneSteps_do_all := F56, b_DoneSteps_do_all := B56, mt_DoneSteps_do_all := ⟨a56, i56, k56⟩,
      f_DoneSteps_is_complete := f57, d_DoneSteps_is_complete := _, F_DoneSteps_is_complete := F57, b_DoneSteps_is_complete := B57, mt_DoneSteps_is_complete := ⟨a57, i57, k57⟩,
      c_DoneSteps := w0c, g_DoneSteps := PySem.W.mg_of X G w0g, cl_DoneSteps := ⟨w0p, w0d, w0o, w0s⟩, na_DoneSteps_rows := w0n0, na_DoneSteps_done := w0n1, na_DoneSteps_below := w0n2, na_DoneSteps_usages := w0n3,
      t_NUMBER_END := tk0, g_NUMBER_END := PySem.W.mg_of X G gc0,
      t_MAX_STEP := tk1, g_MAX_STEP := PySem.W.mg_of X G gc1,
      t_MAX_COUNT := tk2, g_MAX_COUNT := PySem.W.mg_of X G gc2,
      t_MAX_PARTS := tk3, g_MAX_PARTS := PySem.W.mg_of X G gc3,
      t_MAX_NODES := tk4, g_MAX_NODES := PySem.W.mg_of X G gc4,
      t_MAX_DEPTH := tk5, g_MAX_DEPTH := PySem.W.mg_of X G gc5,
      t_MAX_SMALL := tk6, g_MAX_SMALL := PySem.W.mg_of X G gc6,
      c_InvalidState := x0c, g_InvalidState := PySem.W.mg_of X G x0g, x_InvalidState := x0x, k_InvalidState := x0k, bb_InvalidState := x0b, tt_InvalidState := x0t,
      c_InvalidRun := x1c, g_InvalidRun := PySem.W.mg_of X G x1g, x_InvalidRun := x1x, k_InvalidRun := x1k, bb_InvalidRun := x1b, tt_InvalidRun := x1t,
      n_abs := PySem.W.mg_none_of X G z0,
      n_all := PySem.W.mg_none_of X G z1,
      n_bool := PySem.W.mg_none_of X G z2,
      n_dict := PySem.W.mg_none_of X G z3,
      n_enumerate := PySem.W.mg_none_of X G z4,
      n_int := PySem.W.mg_none_of X G z5,
      n_isinstance := PySem.W.mg_none_of X G z6,
      n_len := PySem.W.mg_none_of X G z7,
      n_list := PySem.W.mg_none_of X G z8,
      n_max := PySem.W.mg_none_of X G z9,
      n_min := PySem.W.mg_none_of X G z10,
      n_range := PySem.W.mg_none_of X G z11,
      n_set := PySem.W.mg_none_of X G z12,
      n_sorted := PySem.W.mg_none_of X G z13,
      n_sum := PySem.W.mg_none_of X G z14,
      n_tuple := PySem.W.mg_none_of X G z15,
      n_zip := PySem.W.mg_none_of X G z16 }
  exact ⟨PySem.W.fnOf "law" "law" (defArgs s_law) (defBody s_law) (defScope s_law) .none kV58 dc58 pm58 an58 cd58 ct58, fun s v => .of_eq rfl, fun base _ _ => ok_law (fun_mk (st := s_law) l58 c58 k58) T⟩
end Lw

open PySem PySem.W PyProof.Rows
set_option maxRecDepth 100000 in
set_option maxHeartbeats 0 in
theorem PySem.Challenge.cw_roomprofile_k18_whole_runs_in_parts_holds : PySem.Challenge.rw_roomprofile_k18_whole_runs_in_parts.Holds := by
  w_on; o_law; k_head; (case hw => w_witness2)
  k_fill
  refine Rp.law_end (l := PySem.Challenge.rw_roomprofile_k18_whole_runs_in_parts) (n := 63) (k := 60) (x := "_law_script") (sp := Lw.spLaw) rfl (by decide) rfl ⟨rfl, by decide, by decide⟩ (fun w h Y => PySem.W.kIn_of Y) ?F (fun K H a ns hl hO hS => ⟨a, ns, rfl, hO, hS, hl, fun _ => rfl⟩)
  case F =>
    intro w mg fa h KX G hmg
    refine' Lw.all_mk KX G hmg ?a0 ?l0 ?c0 ?k0 ?a1 ?l1 ?c1 ?k1 ?a2 ?l2 ?c2 ?k2 ?a3 ?l3 ?c3 ?k3 ?a4 ?l4 ?c4 ?k4 ?a5 ?l5 ?c5 ?k5 ?a6 ?l6 ?c6 ?k6 ?a7 ?l7 ?c7 ?k7 ?a8 ?l8 ?c8 ?k8 ?a9 ?l9 ?c9 ?k9 ?a10 ?l10 ?c10 ?k10 ?a11 ?l11 ?c11 ?k11 ?a12 ?l12 ?c12 ?k12 ?a13 ?l13 ?c13 ?k13 ?a14 ?l14 ?c14 ?k14 ?a15 ?l15 ?c15 ?k15 ?a16 ?l16 ?c16 ?k16 ?a17 ?l17 ?c17 ?k17 ?a18 ?l18 ?kn18 ?c18 ?k18 ?a19 ?l19 ?c19 ?k19 ?a20 ?l20 ?c20 ?k20 ?a21 ?l21 ?c21 ?k21 ?a22 ?l22 ?c22 ?k22 ?a23 ?l23 ?c23 ?k23 ?a24 ?l24 ?c24 ?k24 ?a25 ?l25 ?kn25 ?kt25 ?c25 ?k25 ?a26 ?l26 ?kn26 ?kt26 ?c26 ?k26 ?a27 ?l27 ?kn27 ?kt27 ?c27 ?k27 ?a28 ?l28 ?kn28 ?kt28 ?c28 ?k28 ?a29 ?l29 ?kn29 ?kt29 ?c29 ?k29 ?a30 ?l30 ?kn30 ?kt30 ?c30 ?k30 ?a31 ?l31 ?c31 ?k31 ?a32 ?l32 ?c32 ?k32 ?a33 ?l33 ?c33 ?k33 ?a34 ?l34 ?c34 ?k34 ?a35 ?l35 ?c35 ?k35 ?a36 ?l36 ?c36 ?k36 ?a37 ?l37 ?c37 ?k37 ?a38 ?l38 ?c38 ?k38 ?a39 ?l39 ?c39 ?k39 ?a40 ?l40 ?c40 ?k40 ?a41 ?l41 ?c41 ?k41 ?a42 ?l42 ?c42 ?k42 ?a43 ?l43 ?c43 ?k43 ?a44 ?l44 ?c44 ?k44 ?a45 ?l45 ?c45 ?k45 ?a46 ?l46 ?c46 ?k46 ?a47 ?l47 ?c47 ?k47 ?a48 ?l48 ?c48 ?k48 ?a49 ?l49 ?c49 ?k49 ?a50 ?l50 ?c50 ?k50 ?a51 ?l51 ?c51 ?k51 ?a52 ?l52 ?c52 ?k52 ?a58 ?l58 ?c58 ?k58 ?w0g ?w0p ?w0d ?w0o ?w0s ?w0m ?w0k ?w0n0 ?w0n1 ?w0n2 ?w0n3 ?a53 ?i53 ?l53 ?c53 ?k53 ?a54 ?i54 ?l54 ?c54 ?k54 ?a55 ?i55 ?l55 ?c55 ?k55 ?a56 ?i56 ?l56 ?c56 ?k56 ?a57 ?i57 ?l57 ?c57 ?k57 ?gc0 ?gc1 ?gc2 ?gc3 ?gc4 ?gc5 ?gc6 ?x0g ?x0x ?x0k ?x0b ?x0t ?x0i ?x1g ?x1x ?x1k ?x1b ?x1t ?x1i ?z0 ?z1 ?z2 ?z3 ?z4 ?z5 ?z6 ?z7 ?z8 ?z9 ?z10 ?z11 ?z12 ?z13 ?z14 ?z15 ?z16
    (case a0 => k_is)
    (case l0 => k_is)
    (case c0 => k_is)
    (case k0 => k_is)
    (case a1 => k_is)
    (case l1 => k_is)
    (case c1 => k_is)
    (case k1 => k_is)
    (case a2 => k_is)
    (case l2 => k_is)
    (case c2 => k_is)
    (case k2 => k_is)
    (case a3 => k_is)
    (case l3 => k_is)
    (case c3 => k_is)
    (case k3 => k_is)
    (case a4 => k_is)
    (case l4 => k_is)
    (case c4 => k_is)
    (case k4 => k_is)
    (case a5 => k_is)
    (case l5 => k_is)
    (case c5 => k_is)
    (case k5 => k_is)
    (case a6 => k_is)
    (case l6 => k_is)
    (case c6 => k_is)
    (case k6 => k_is)
    (case a7 => k_is)
    (case l7 => k_is)
    (case c7 => k_is)
    (case k7 => k_is)
    (case a8 => k_is)
    (case l8 => k_is)
    (case c8 => k_is)
    (case k8 => k_is)
    (case a9 => k_is)
    (case l9 => k_is)
    (case c9 => k_is)
    (case k9 => k_is)
    (case a10 => k_is)
    (case l10 => k_is)
    (case c10 => k_is)
    (case k10 => k_is)
    (case a11 => k_is)
    (case l11 => k_is)
    (case c11 => k_is)
    (case k11 => k_is)
    (case a12 => k_is)
    (case l12 => k_is)
    (case c12 => k_is)
    (case k12 => k_is)
    (case a13 => k_is)
    (case l13 => k_is)
    (case c13 => k_is)
    (case k13 => k_is)
    (case a14 => k_is)
    (case l14 => k_is)
    (case c14 => k_is)
    (case k14 => k_is)
    (case a15 => k_is)
    (case l15 => k_is)
    (case c15 => k_is)
    (case k15 => k_is)
    (case a16 => k_is)
    (case l16 => k_is)
    (case c16 => k_is)
    (case k16 => k_is)
    (case a17 => k_is)
    (case l17 => k_is)
    (case c17 => k_is)
    (case k17 => k_is)
    (case a18 => k_is)
    (case l18 => k_is)
    (case kn18 => k_is)
    (case c18 => k_is)
    (case k18 => k_is)
    (case a19 => k_is)
    (case l19 => k_is)
    (case c19 => k_is)
    (case k19 => k_is)
    (case a20 => k_is)
    (case l20 => k_is)
    (case c20 => k_is)
    (case k20 => k_is)
    (case a21 => k_is)
    (case l21 => k_is)
    (case c21 => k_is)
    (case k21 => k_is)
    (case a22 => k_is)
    (case l22 => k_is)
    (case c22 => k_is)
    (case k22 => k_is)
    (case a23 => k_is)
    (case l23 => k_is)
    (case c23 => k_is)
    (case k23 => k_is)
    (case a24 => k_is)
    (case l24 => k_is)
    (case c24 => k_is)
    (case k24 => k_is)
    (case a25 => k_is)
    (case l25 => k_is)
    (case kn25 => k_is)
    (case kt25 => k_is)
    (case c25 => k_is)
    (case k25 => k_is)
    (case a26 => k_is)
    (case l26 => k_is)
    (case kn26 => k_is)
    (case kt26 => k_is)
    (case c26 => k_is)
    (case k26 => k_is)
    (case a27 => k_is)
    (case l27 => k_is)
    (case kn27 => k_is)
    (case kt27 => k_is)
    (case c27 => k_is)
    (case k27 => k_is)
    (case a28 => k_is)
    (case l28 => k_is)
    (case kn28 => k_is)
    (case kt28 => k_is)
    (case c28 => k_is)
    (case k28 => k_is)
    (case a29 => k_is)
    (case l29 => k_is)
    (case kn29 => k_is)
    (case kt29 => k_is)
    (case c29 => k_is)
    (case k29 => k_is)
    (case a30 => k_is)
    (case l30 => k_is)
    (case kn30 => k_is)
    (case kt30 => k_is)
    (case c30 => k_is)
    (case k30 => k_is)
    (case a31 => k_is)
    (case l31 => k_is)
    (case c31 => k_is)
    (case k31 => k_is)
    (case a32 => k_is)
    (case l32 => k_is)
    (case c32 => k_is)
    (case k32 => k_is)
    (case a33 => k_is)
    (case l33 => k_is)
    (case c33 => k_is)
    (case k33 => k_is)
    (case a34 => k_is)
    (case l34 => k_is)
    (case c34 => k_is)
    (case k34 => k_is)
    (case a35 => k_is)
    (case l35 => k_is)
    (case c35 => k_is)
    (case k35 => k_is)
    (case a36 => k_is)
    (case l36 => k_is)
    (case c36 => k_is)
    (case k36 => k_is)
    (case a37 => k_is)
    (case l37 => k_is)
    (case c37 => k_is)
    (case k37 => k_is)
    (case a38 => k_is)
    (case l38 => k_is)
    (case c38 => k_is)
    (case k38 => k_is)
    (case a39 => k_is)
    (case l39 => k_is)
    (case c39 => k_is)
    (case k39 => k_is)
    (case a40 => k_is)
    (case l40 => k_is)
    (case c40 => k_is)
    (case k40 => k_is)
    (case a41 => k_is)
    (case l41 => k_is)
    (case c41 => k_is)
    (case k41 => k_is)
    (case a42 => k_is)
    (case l42 => k_is)
    (case c42 => k_is)
    (case k42 => k_is)
    (case a43 => k_is)
    (case l43 => k_is)
    (case c43 => k_is)
    (case k43 => k_is)
    (case a44 => k_is)
    (case l44 => k_is)
    (case c44 => k_is)
    (case k44 => k_is)
    (case a45 => k_is)
    (case l45 => k_is)
    (case c45 => k_is)
    (case k45 => k_is)
    (case a46 => k_is)
    (case l46 => k_is)
    (case c46 => k_is)
    (case k46 => k_is)
    (case a47 => k_is)
    (case l47 => k_is)
    (case c47 => k_is)
    (case k47 => k_is)
    (case a48 => k_is)
    (case l48 => k_is)
    (case c48 => k_is)
    (case k48 => k_is)
    (case a49 => k_is)
    (case l49 => k_is)
    (case c49 => k_is)
    (case k49 => k_is)
    (case a50 => k_is)
    (case l50 => k_is)
    (case c50 => k_is)
    (case k50 => k_is)
    (case a51 => k_is)
    (case l51 => k_is)
    (case c51 => k_is)
    (case k51 => k_is)
    (case a52 => k_is)
    (case l52 => k_is)
    (case c52 => k_is)
    (case k52 => k_is)
    (case a58 => k_is)
    (case l58 => k_is)
    (case c58 => k_is)
    (case k58 => k_is)
    (case w0g => k_is)
    (case w0p => k_is)
    (case w0d => k_is)
    (case w0o => k_is)
    (case w0s => k_is)
    (case w0m => k_is)
    (case w0k => k_is)
    (case w0n0 => k_is)
    (case w0n1 => k_is)
    (case w0n2 => k_is)
    (case w0n3 => k_is)
    (case a53 => k_is)
    (case i53 => k_is)
    (case l53 => k_is)
    (case c53 => k_is)
    (case k53 => k_is)
    (case a54 => k_is)
    (case i54 => k_is)
    (case l54 => k_is)
    (case c54 => k_is)
    (case k54 => k_is)
    (case a55 => k_is)
    (case i55 => k_is)
    (case l55 => k_is)
    (case c55 => k_is)
    (case k55 => k_is)
    (case a56 => k_is)
    (case i56 => k_is)
    (case l56 => k_is)
    (case c56 => k_is)
    (case k56 => k_is)
    (case a57 => k_is)
    (case i57 => k_is)
    (case l57 => k_is)
    (case c57 => k_is)
    (case k57 => k_is)
    (case gc0 => k_is)
    (case gc1 => k_is)
    (case gc2 => k_is)
    (case gc3 => k_is)
    (case gc4 => k_is)
    (case gc5 => k_is)
    (case gc6 => k_is)
    (case x0g => k_is)
    (case x0x => k_exc)
    (case x0k => k_is)
    (case x0b => k_is)
    (case x0t => k_is)
    (case x0i => k_is)
    (case x1g => k_is)
    (case x1x => k_exc)
    (case x1k => k_is)
    (case x1b => k_is)
    (case x1t => k_is)
    (case x1i => k_is)
    (case z0 => k_is)
    (case z1 => k_is)
    (case z2 => k_is)
    (case z3 => k_is)
    (case z4 => k_is)
    (case z5 => k_is)
    (case z6 => k_is)
    (case z7 => k_is)
    (case z8 => k_is)
    (case z9 => k_is)
    (case z10 => k_is)
    (case z11 => k_is)
    (case z12 => k_is)
    (case z13 => k_is)
    (case z14 => k_is)
    (case z15 => k_is)
    (case z16 => k_is)
