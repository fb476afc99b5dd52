import PyProof.Rows.All
import Wide.All
import OpenK.AllK
import Wide.FinOn
import HandS.ForMost
import HandS.IsInst
import HandS.TupAny
import HandS.Wide
import HandS.Codes
import HandS.Style
import PyProof.ReprRoads
import PyProof.ReprLen
import PyProof.ReprBulk
import PyProof.FitsInt
import HandS.TryOnly
import HandS.ForExc
import HandS.TryMany
import HandS.Zip
import HandS.Walk
import HandS.TupSets
import HandS.NamedTupSort
import HandS.SortOrd
import HandS.SortRule
import PyProof.MaxThree
import HandS.Rev
import HandS.Deep
import HandS.CallLocal
import PySem.Challenge.RW_roomprofile_k25_steps_in_sequence
set_option Elab.async false
set_option linter.all false
set_option maxRecDepth 100000
set_option maxHeartbeats 4000000
/-! Rp: what the proofs of the laws over roomprofile share: powers, data, repr, isinstance, heaps. -/
namespace Rp
open PySem L2

/-! ### powers of great ints -/
def CPowW (i j : Int) : Prop := 0 ≤ j ∧ (Builtin.Int.intBits i : Int) * j ≤ 2 ^ 27
theorem bits_le {i : Int} {b : Nat} (hi : i.natAbs < 2 ^ b) : Builtin.Int.intBits i ≤ b := by
  unfold Builtin.Int.intBits
  split
  · exact Nat.zero_le _
  · rename_i hne
    have h0 : i.natAbs ≠ 0 := by
      intro z
      apply hne
      have : i = 0 := by omega
      subst this
      rfl
    have := (Nat.log2_lt h0).mpr hi
    omega
theorem powW_of {i j : Int} (b : Nat) (h0 : 0 ≤ j) (hi : i.natAbs < 2 ^ b) (hb : (b : Int) * j ≤ 2 ^ 27) : CPowW i j := by
  refine ⟨h0, Int.le_trans ?_ hb⟩
  have := bits_le hi
  exact Int.mul_le_mul_of_nonneg_right (by omega) h0
section
variable {X : Cx}
theorem op_powW : OpR X (binaryOp .Pow) (rI CPowW fun i j => .int (i ^ j.toNat)) := opI fun _ _ _ _ _ _ _ hc q => PyProof.Rows.pow_int hc.1 hc.2 q
end

/-! ### data -/
def tyN : PyData → String
  | .none => "NoneType"
  | .bool _ => "bool"
  | .int _ => "int"
  | .str _ => "str"
  | .list _ => "list"
  | .tuple _ => "tuple"
  | .dict _ => "dict"
theorem dp_ty {K : PySem.W.Frag} {H : Hp} {v : V} {d : PyData} (h : Dp K H v d) : TyX K H v (.type (tyN d)) := by
  cases h with
  | non => exact .base .non
  | bl b => exact .base (.bl b)
  | int i => exact .base (.int i)
  | str x => exact .base (.str x)
  | lst hs ha =>
    rcases hs with (e | ⟨o, e⟩) | ⟨o, its, n, hk, hc, _⟩
    · exact .base (.lst e)
    · exact .base (.frz e)
    · exact .kList hk hc
  | tup hs ha =>
    rcases hs with (e | ⟨o, e⟩) | ⟨o, its, n, hk, hc, _⟩
    · exact .base (.tup e)
    · exact .fTuple e
    · exact .kTuple hk hc
def isInt : PyData → Bool
  | .int _ => true
  | .bool _ => true
  | _ => false
def isBoo : PyData → Bool
  | .bool _ => true
  | _ => false
def isTup : PyData → Bool
  | .tuple _ => true
  | _ => false
def isStr : PyData → Bool
  | .str _ => true
  | _ => false
def isLst : PyData → Bool
  | .list _ => true
  | _ => false
theorem kit_int (d : PyData) : kitB (tyN d) "int" = some (isInt d) := by cases d <;> (simp only [tyN, isInt]; decide +kernel)
theorem kit_bool (d : PyData) : kitB (tyN d) "bool" = some (isBoo d) := by cases d <;> (simp only [tyN, isBoo]; decide +kernel)
theorem kit_tuple (d : PyData) : kitB (tyN d) "tuple" = some (isTup d) := by cases d <;> (simp only [tyN, isTup]; decide +kernel)
theorem kit_str (d : PyData) : kitB (tyN d) "str" = some (isStr d) := by cases d <;> (simp only [tyN, isStr]; decide +kernel)
theorem kit_list (d : PyData) : kitB (tyN d) "list" = some (isLst d) := by cases d <;> (simp only [tyN, isLst]; decide +kernel)
section
variable {X : Cx}
def rIsD (K : PySem.W.Frag) : List V → Hp → VK → Prop := fun xs H Q => ∃ (v : V) (n : String) (d : PyData) (b : Bool), xs = [v, .ty n] ∧ Dp K H v d ∧ kitB (tyN d) n = some b ∧ Q (.bl b) H
theorem call_isD : CallR X (.builtin "isinstance") (rIsD X.K) := by
  intro pins s σ H xs us Q I r h
  obtain ⟨v, n, d, b, e, hd, hk, q⟩ := h
  exact call_isi pins s σ H xs us Q I r ⟨v, .ty n, _, _, _, e, .ty n, dp_ty hd, kit_ty hk, q⟩
end

/-! ### len, list(..), tuple(..) by names -/
section
variable {X : Cx}
def rLenS (K : PySem.W.Frag) : List V → Hp → VK → Prop := fun xs H Q => ∃ (p : Addr) (ys : List V), xs = [.ref p] ∧ (SqL K H p ys ∨ SqT K H p ys) ∧ Q (.int ys.length) H
theorem call_lenS : CallR X (.builtin "len") (rLenS X.K) := call_len_seq
def rListS (K : PySem.W.Frag) : List V → Hp → VK → Prop := fun xs H Q => ∃ (p : Addr) (ys : List V), xs = [.ref p] ∧ (SqL K H p ys ∨ SqT K H p ys) ∧ ∀ l, H l = none → Q (.ref l) (upd H l (.lst ys))
theorem call_listS : CallR X (.type "list") (rListS X.K) := call_list_of
def rTupS (K : PySem.W.Frag) : List V → Hp → VK → Prop := fun xs H Q => ∃ (p : Addr) (ys : List V), xs = [.ref p] ∧ ((SqL K H p ys ∧ ∀ l, H l = none → Q (.ref l) (upd H l (.tup ys))) ∨ (SqT K H p ys ∧ Q (.ref p) H))
theorem call_tupS : CallR X (.type "tuple") (rTupS X.K) := call_tuple_of
end

/-! ### repr of data -/
mutual
/-- data whose text is made without trouble: no dicts, ints of at most 180 digits, signs below 16 ^ 8 -/
def fine : PyData → Prop
  | .int i => i.natAbs < 10 ^ 180
  | .str x => (x.cps.toList.all fun c => decide (c < 16 ^ 8)) = true
  | .list xs => fines xs
  | .tuple xs => fines xs
  | .dict _ => False
  | _ => True
def fines : List PyData → Prop
  | [] => True
  | x :: xs => fine x ∧ fines xs
end
theorem int_log {i : Int} (h : i.natAbs < 10 ^ 180) : i.natAbs.log2 < 1920 := by
  by_cases z : i.natAbs = 0
  · rw [z]
    decide
  · exact (Nat.log2_lt z).mpr (Nat.lt_trans h (by decide +kernel))
theorem shown_int {i : Int} (h : i.natAbs < 10 ^ 180) : (PyData.shown (.int i)).length ≤ 200 := by
  have e := int_text_length_le10 (k := 180) (by decide) h
  show (Str.ofString (toString i)).length ≤ 200
  rw [ofString_length]
  omega
mutual
theorem fine_ok : ∀ d : PyData, fine d → d.showable = true ∧ d.leavesShort 200 = true ∧ d.hasDict = false
  | .none, _ => by simp [PyData.showable, PyData.leavesShort, PyData.hasDict]
  | .bool _, _ => by simp [PyData.showable, PyData.leavesShort, PyData.hasDict]
  | .int i, h => by
    simp only [fine] at h
    simp only [PyData.showable, PyData.leavesShort, PyData.hasDict, decide_eq_true_eq, and_true]
    exact ⟨int_log h, shown_int h⟩
  | .str x, h => by
    simp only [fine] at h
    simp only [PyData.showable, PyData.leavesShort, PyData.hasDict, and_true, true_and]
    exact h
  | .list xs, h => by
    simp only [fine] at h
    simp only [PyData.showable, PyData.leavesShort, PyData.hasDict]
    exact fines_ok xs h
  | .tuple xs, h => by
    simp only [fine] at h
    simp only [PyData.showable, PyData.leavesShort, PyData.hasDict]
    exact fines_ok xs h
  | .dict _, h => by simp only [fine] at h
theorem fines_ok : ∀ xs : List PyData, fines xs → PyData.showableAll xs = true ∧ PyData.leavesShortAll 200 xs = true ∧ PyData.hasDictAll xs = false
  | [], _ => by simp [PyData.showableAll, PyData.leavesShortAll, PyData.hasDictAll]
  | x :: xs, h => by
    simp only [fines] at h
    obtain ⟨a1, a2, a3⟩ := fine_ok x h.1
    obtain ⟨b1, b2, b3⟩ := fines_ok xs h.2
    simp only [PyData.showableAll, PyData.leavesShortAll, PyData.hasDictAll, a1, a2, a3, b1, b2, b3, Bool.and_self, Bool.or_self, and_self]
end
section
variable {X : Cx}
def rRepr (K : PySem.W.Frag) : List V → Hp → VK → Prop := fun xs H Q => ∃ (v : V) (d : PyData), xs = [v] ∧ Dp K H v d ∧ fine d ∧ d.depth ≤ 64 ∧ d.bulk ≤ 80000 ∧ Q (.str d.shown) H
theorem call_reprD (hg : X.A.guards = some []) (hu : X.A.units + 66 < cLine) : CallR X (.builtin "repr") (rRepr X.K) := by
  intro pins s σ H xs us Q I r h
  obtain ⟨v, d, rfl, hd, hf, hdep, hw, q⟩ := h
  obtain ⟨hs, hl, hnd⟩ := fine_ok d hf
  have hz : d.shown.length ≤ sizeLine := by
    have := PyData.shown_le_bulk 200 (by decide) d hl
    rw [sizeLine_eq]
    omega
  obtain ⟨u, rfl, ru⟩ := vals1 r
  have hsm : ∀ as : List Addr, d.hasDict = true → sysModules ∉ as := fun as => PyData.noDict_hsm hnd
  obtain ⟨as, hr⟩ := Dp.reads I d v u hd ru
  cases hr with
  | none => exact P.repr_of_none ⟨.str _, H, I.tok _, ⟨_, rfl⟩, q⟩
  | bool b => exact P.repr_of_bool ⟨.str _, H, I.tok _, ⟨_, rfl⟩, q⟩
  | int i t => exact P.repr_of_int (by simpa [PyData.showable] using hs) ⟨.str _, H, I.tok _, ⟨_, rfl⟩, q⟩
  | str x t => exact P.repr_of_str ⟨.str _, H, I.tok _, ⟨_, rfl⟩, q⟩ (by simpa only [PyData.shown] using hz)
  | list h1 h2 h3 h4 =>
    refine repr_of_reads' (h₀ := s.heap) (.list h1 h2 h3 h4) hs (hsm _) hg (by omega) (fun _ _ e => e) (fun h' u' tk hk => ?_) hz
    exact ⟨.str _, H, I.kept hk, ⟨_, rfl⟩, q⟩
  | tuple h1 h2 h3 h4 =>
    refine repr_of_reads' (h₀ := s.heap) (.tuple h1 h2 h3 h4) hs (hsm _) hg (by omega) (fun _ _ e => e) (fun h' u' tk hk => ?_) hz
    exact ⟨.str _, H, I.kept hk, ⟨_, rfl⟩, q⟩
  | dict _ _ _ _ _ => exact absurd hnd (by simp [PyData.hasDict])
end

/-! ### what stays of the heap -/
theorem same_sqT {K : PySem.W.Frag} {H H' : Hp} {a : Addr} {xs : List V} (s : Same H H') (h : SqT K H a xs) : SqT K H' a xs := by
  rcases h with (h | ⟨o, h⟩) | h
  · exact .inl (.inl (s _ _ h))
  · exact .inl (.inr ⟨o, s _ _ h⟩)
  · exact .inr h
theorem same_new {H : Hp} {p : Addr} {o : HO} (h : H p = none) : Same H (upd H p o) := fun b u q => by rw [upd_ne (ne_of_none q h)]; exact q
mutual
theorem dp_same {K : PySem.W.Frag} {H H' : Hp} (s : Same H H') : ∀ {d : PyData} {v : V}, Dp K H v d → Dp K H' v d
  | .none, _, h => by cases h; exact .non
  | .bool _, _, h => by cases h; exact .bl _
  | .int _, _, h => by cases h; exact .int _
  | .str _, _, h => by cases h; exact .str _
  | .list ds, _, h => by
    cases h with
    | lst hs ha => exact .lst (s.seq hs) (dpAll_same s ha)
  | .tuple ds, _, h => by
    cases h with
    | tup hs ha => exact .tup (same_sqT s hs) (dpAll_same s ha)
  | .dict _, _, h => by cases h
theorem dpAll_same {K : PySem.W.Frag} {H H' : Hp} (s : Same H H') : ∀ {ds : List PyData} {vs : List V}, DpAll K H vs ds → DpAll K H' vs ds
  | [], _, h => by cases h; exact .nil
  | d :: ds, _, h => by
    cases h with
    | cons h1 h2 => exact .cons (dp_same s h1) (dpAll_same s h2)
end
/-- all but p stays -/
def Sx (p : Addr) (H H' : Hp) : Prop := ∀ b o, b ≠ p → H b = some o → H' b = some o
theorem Sx.refl {p : Addr} {H : Hp} : Sx p H H := fun _ _ _ h => h
theorem Sx.trans {p : Addr} {H H1 H2 : Hp} (a : Sx p H H1) (b : Sx p H1 H2) : Sx p H H2 := fun c o n h => b c o n (a c o n h)
theorem Same.sx {p : Addr} {H H' : Hp} (s : Same H H') : Sx p H H' := fun b o _ h => s b o h
theorem sx_upd {p : Addr} {H : Hp} {o : HO} : Sx p H (upd H p o) := fun b u n h => by rw [upd_ne n]; exact h
theorem sx_new {p q : Addr} {H : Hp} {o : HO} (h : H q = none) : Sx p H (upd H q o) := fun b u _ q => same_new h b u q
/-! data without lists and dicts -/
mutual
def noL : PyData → Bool
  | .list _ => false
  | .dict _ => false
  | .tuple ds => noLs ds
  | _ => true
def noLs : List PyData → Bool
  | [] => true
  | d :: ds => noL d && noLs ds
end
theorem Sx.sqT {K : PySem.W.Frag} {p a : Addr} {H H' : Hp} {l xs : List V} (s : Sx p H H') (hp : H p = some (.lst l)) (h : SqT K H a xs) : SqT K H' a xs := by
  rcases h with (h | ⟨o, h⟩) | h
  · exact .inl (.inl (s _ _ (ne_of h hp (by intro z; cases z)) h))
  · exact .inl (.inr ⟨o, s _ _ (ne_of h hp (by intro z; cases z)) h⟩)
  · exact .inr h
mutual
theorem dp_keep {K : PySem.W.Frag} {H H' : Hp} (s : ∀ a xs, SqT K H a xs → SqT K H' a xs) : ∀ {d : PyData} {v : V}, noL d = true → Dp K H v d → Dp K H' v d
  | .none, _, _, h => by cases h; exact .non
  | .bool _, _, _, h => by cases h; exact .bl _
  | .int _, _, _, h => by cases h; exact .int _
  | .str _, _, _, h => by cases h; exact .str _
  | .list ds, _, n, h => by simp [noL] at n
  | .tuple ds, _, n, h => by
    cases h with
    | tup hs ha => exact .tup (s _ _ hs) (dpAll_keep s (by simpa [noL] using n) ha)
  | .dict _, _, _, h => by cases h
theorem dpAll_keep {K : PySem.W.Frag} {H H' : Hp} (s : ∀ a xs, SqT K H a xs → SqT K H' a xs) : ∀ {ds : List PyData} {vs : List V}, noLs ds = true → DpAll K H vs ds → DpAll K H' vs ds
  | [], _, _, h => by cases h; exact .nil
  | d :: ds, _, n, h => by
    cases h with
    | cons h1 h2 =>
      have n' : noL d = true ∧ noLs ds = true := by simpa [noLs] using n
      exact .cons (dp_keep s n'.1 h1) (dpAll_keep s n'.2 h2)
end
theorem Sx.dp {K : PySem.W.Frag} {p : Addr} {H H' : Hp} {l : List V} {d : PyData} {v : V} (s : Sx p H H') (hp : H p = some (.lst l)) (n : noL d = true) (h : Dp K H v d) : Dp K H' v d :=
  dp_keep (fun _ _ z => s.sqT hp z) n h
theorem dpAll_length {K : PySem.W.Frag} {H : Hp} : ∀ {vs : List V} {ds : List PyData}, DpAll K H vs ds → vs.length = ds.length
  | _, _, .nil => rfl
  | _, _, .cons _ h => congrArg (· + 1) (dpAll_length h)
theorem dpAll_get {K : PySem.W.Frag} {H : Hp} : ∀ {vs : List V} {ds : List PyData} {i : Nat} {v : V}, DpAll K H vs ds → vs[i]? = some v → ∃ d, ds[i]? = some d ∧ Dp K H v d
  | _, _, _, _, .nil, e => by simp at e
  | _, _, 0, _, .cons h _, e => by
    simp at e
    subst e
    exact ⟨_, rfl, h⟩
  | _, _, i + 1, _, .cons _ t, e => by
    obtain ⟨d, e1, e2⟩ := dpAll_get (i := i) t (by simpa using e)
    exact ⟨d, by simpa using e1, e2⟩
theorem dpAll_append {K : PySem.W.Frag} {H : Hp} : ∀ {vs ws : List V} {ds es : List PyData}, DpAll K H vs ds → DpAll K H ws es → DpAll K H (vs ++ ws) (ds ++ es)
  | _, _, _, _, .nil, h => h
  | _, _, _, _, .cons h t, h' => .cons h (dpAll_append t h')
theorem dpAll_one {K : PySem.W.Frag} {H : Hp} {v : V} {d : PyData} (h : Dp K H v d) : DpAll K H [v] [d] := .cons h .nil
theorem dpAll_rev {K : PySem.W.Frag} {H : Hp} : ∀ {vs : List V} {ds : List PyData}, DpAll K H vs ds → DpAll K H vs.reverse ds.reverse
  | _, _, .nil => .nil
  | _, _, .cons h t => by
    rw [List.reverse_cons, List.reverse_cons]
    exact dpAll_append (dpAll_rev t) (.cons h .nil)
theorem dp_int_inv {K : PySem.W.Frag} {H : Hp} {v : V} {i : Int} (h : Dp K H v (.int i)) : v = .int i := by cases h; rfl
theorem dp_str_inv {K : PySem.W.Frag} {H : Hp} {v : V} {x : Str} (h : Dp K H v (.str x)) : v = .str x := by cases h; rfl
theorem dp_none_inv {K : PySem.W.Frag} {H : Hp} {v : V} (h : Dp K H v .none) : v = .non := by cases h; rfl
theorem dp_bool_inv {K : PySem.W.Frag} {H : Hp} {v : V} {b : Bool} (h : Dp K H v (.bool b)) : v = .bl b := by cases h; rfl
theorem dp_tup_inv {K : PySem.W.Frag} {H : Hp} {v : V} {ds : List PyData} (h : Dp K H v (.tuple ds)) : ∃ a xs, v = .ref a ∧ SqT K H a xs ∧ DpAll K H xs ds := by
  cases h with
  | tup h1 h2 => exact ⟨_, _, rfl, h1, h2⟩
theorem dp_lst_inv {K : PySem.W.Frag} {H : Hp} {v : V} {ds : List PyData} (h : Dp K H v (.list ds)) : ∃ a xs, v = .ref a ∧ SqL K H a xs ∧ DpAll K H xs ds := by
  cases h with
  | lst h1 h2 => exact ⟨_, _, rfl, h1, h2⟩
theorem tup_fresh {K : PySem.W.Frag} {H : Hp} {p : Addr} {xs : List V} {ds : List PyData} (hp : H p = none) (h : DpAll K H xs ds) : Same H (upd H p (.tup xs)) ∧ Dp K (upd H p (.tup xs)) (.ref p) (.tuple ds) :=
  ⟨same_new hp, .tup (.inl (.inl upd_same)) (dpAll_same (same_new hp) h)⟩
theorem lst_fresh {K : PySem.W.Frag} {H : Hp} {p : Addr} {xs : List V} {ds : List PyData} (hp : H p = none) (h : DpAll K H xs ds) : Same H (upd H p (.lst xs)) ∧ Dp K (upd H p (.lst xs)) (.ref p) (.list ds) :=
  ⟨same_new hp, .lst (.inl (.inl upd_same)) (dpAll_same (same_new hp) h)⟩
theorem Same.sx_free {H H1 H2 : Hp} {p : Addr} (s : Same H H1) (h : H p = none) (t : Sx p H1 H2) : Same H H2 := fun b o e =>
  t b o (ne_of_none e h) (s b o e)
theorem small {n : Nat} (h : n ≤ 1000) : n ≤ sizeLine := Nat.le_of_lt (small1000 h)
theorem small' {n : Nat} (h : n ≤ 1000000) : n ≤ sizeLine := by rw [sizeLine_eq]; omega

theorem atI_at {α : Type} {xs : List α} {k : Int} {j : Nat} {v : α} (e : k = (j : Int)) (h : xs[j]? = some v) : atI xs k = some v := by
  subst e
  exact atI_nat h
theorem atI_int {ns : List Int} {k : Int} (h0 : 0 ≤ k) (h : k < (ns.length : Int)) : ∃ z, z ∈ ns ∧ atI (ns.map V.int) k = some (.int z) := by
  have hk : k.toNat < ns.length := by omega
  refine ⟨ns[k.toNat], List.getElem_mem hk, atI_at (j := k.toNat) (by omega) ?_⟩
  rw [List.getElem?_map, List.getElem?_eq_getElem hk]
  rfl

/-! ### the script as the law gets it: it never changes -/
def Scr (K : PySem.W.Frag) (H : Hp) (a : Addr) (ns : List Int) : Prop := (∃ o, H a = some (.frz o (.lst (ns.map V.int)))) ∨
  ∃ (o : Obj) (its : Array Value) (n : Nat), K.lookup a = some o ∧ o.cls = .type "list" ∧ o.dict = none ∧ o.data = .seq its n ∧ its.size ≤ sizeLine ∧ Vals (ns.map V.int) its.toList
theorem Scr.sq {K : PySem.W.Frag} {H : Hp} {a : Addr} {ns : List Int} (h : Scr K H a ns) : SqL K H a (ns.map V.int) := by
  rcases h with ⟨o, h⟩ | h
  · exact .inl (.inr ⟨o, h⟩)
  · exact .inr h
theorem Scr.of {K : PySem.W.Frag} {H : Hp} {a : Addr} {ns : List Int} (hO : Only H) (h : SqL K H a (ns.map V.int)) : Scr K H a ns := by
  rcases h with (h | h) | h
  · rcases hO a with z | ⟨o, xs, z⟩
    · rw [h] at z; cases z
    · rw [h] at z; cases z
  · exact .inl h
  · exact .inr h
theorem Scr.same {K : PySem.W.Frag} {H H' : Hp} {a : Addr} {ns : List Int} (s : Same H H') (h : Scr K H a ns) : Scr K H' a ns := by
  rcases h with ⟨o, h⟩ | h
  · exact .inl ⟨o, s _ _ h⟩
  · exact .inr h
theorem Scr.sx {K : PySem.W.Frag} {H H' : Hp} {a p : Addr} {ns : List Int} {l : List V} (s : Sx p H H') (hp : H p = some (.lst l)) (h : Scr K H a ns) : Scr K H' a ns := by
  rcases h with ⟨o, h⟩ | h
  · exact .inl ⟨o, s _ _ (ne_of h hp (by intro z; cases z)) h⟩
  · exact .inr h
end Rp
/-! RpG: defs that say repr of made data: the layer's judgements where no repr is under way (guards known), and the law's end over them. -/
namespace Rp
open PySem L2 PyProof.Rows

structure FnG (P : Program) (w : World) (K : PySem.W.Frag) (mg : Str → Option Value) (base : Heap) (CX : CXT) (k : Nat) (f : Addr) (fd : FuncData) (ps : List Str) (sp : Sp) : Prop where
  len : ∀ vs H Q E, sp vs H Q E → vs.length = ps.length
  run : ∀ (A : Around) (outer : List Env) (s : Shared) (H : Hp) (args : Args) (us : List Value) (vs : List V) (Q : VK) (E : XK), Room k A → A.guards = some [] →
    Env0 P w K mg base A outer s H → BindsTo s fd args (ps.zip us) → Vals vs us → sp vs H Q E → codeAny (model P w) A (.call (.ref f) args) (CR CX outer P w H s Q E) s

theorem room66 {k : Nat} {A : Around} (hr : Room k A) : A.units + 66 < cLine := by
  have := hr.un
  omega
section
variable {P : Program} {w : World} {K : PySem.W.Frag} {mg : Str → Option Value} {base : Heap}
theorem okG {name qual : Str} {st : Stmt} {f : Addr} {fd : FuncData} {N ps : List Str} {k : Nat} {sp : Sp} (F : Fun K name qual st f fd) (S : FnScope N ps (defScope st))
    (hlen : ∀ vs H Q E, sp vs H Q E → vs.length = ps.length)
    (hb : ∀ (cdv : Value) (A : Around) (outer : List Env) (s : Shared) (H : Hp) (vs : List V) (Q : VK) (E : XK),
      Room k (A.deeper (envOfC qual (defScope st) s.heap.objs.size f cdv)) → A.guards = some [] → sp vs H Q E →
      ∃ t, PSs (cxOf CX0 P w K mg base N qual (defScope st) f cdv A outer s H E).nox (defBody st) t ∧
        t { nx := fun _ H' => Q .non H', rt := Q } (start N vs) H) : FnG P w K mg base CX0 (k + 1) f fd ps sp := by
  obtain ⟨oc, od, kV, doc, pm, an, cdv, ct, osl, rfl, lk, hcd⟩ := F.ex
  refine ⟨hlen, fun A outer s H args us vs Q E room gd en bd rv want => ?_⟩
  have kin : K.In s.heap := en.mod.kin.keeps fun b o z => (en.bs b o z).1
  have nolim : s.heap.NoLimit := en.mod.nolimit.keeps fun b o z => (en.bs b o z).1
  have hl := hlen _ _ _ _ want
  refine Att.call_fn kin nolim lk hcd room.depth bd ?_ (fun s1 ic => ?_) S.co S.gen S.kind
  · refine List.all_eq_true.mpr fun y hy => ?_
    obtain ⟨a, b⟩ := y
    rcases S.par a (List.of_mem_zip hy).1 with z | z
    · simp [z]
    · simp [z]
  · obtain ⟨t, ht, hq⟩ := hb cdv A outer s H vs Q E (room.deeper _) gd want
    have I := inv_start (CX := CX0) (P := P) (w := w) (K := K) (mg := mg) (base := base) (E := E) S room.hd en hl rv ic
    refine wpAny_mono (ht.nox.run [] s1 (start N vs) H _ I hq) (fun fl s' hs => ?_) (fun e s' hs => hs)
    cases fl with
    | ret u =>
      obtain ⟨v, σ', H', J, rr, q⟩ := hs
      exact ⟨v, H', J.os, J.bare, J.base, J.hok, rr, q⟩
    | next =>
      obtain ⟨σ', H', J, q⟩ := hs
      exact ⟨V.non, H', J.os, J.bare, J.base, J.hok, rfl, q⟩
    | brk =>
      obtain ⟨_, _, _, q⟩ := hs
      exact False.elim q
    | cont =>
      obtain ⟨_, _, _, q⟩ := hs
      exact False.elim q
end
section
variable {X : Cx} {k : Nat} {f : Addr} {fd : FuncData} {ps : List Str} {sp : Sp} {dvs : List V} {ds : List Value} {x : Str} {p pos : Pos} {e : Expr} {es : List Expr} {t : TA}
theorem runG {pins : List (Addr × Obj)} {σ : L2.St} {H : Hp} {s : Shared} {Q : VK} {us : List Value} {vs : List V} (F : FnG X.prog X.w X.K X.mg X.base CX0 k f fd ps sp) (room : Room k X.A) (gd : X.A.guards = some [])
    (bd : Binds X.K fd ps ds) (dv : Vals dvs ds) (I : Inv X pins σ H s) (rv : Vals vs us) (want : sp (vs ++ dvs) H Q E0) : wpAny (model X.prog X.w) X.A (call (.ref f) us) (EP X pins σ Q) X.xe s := by
  have rv2 : Vals (vs ++ dvs) (us ++ ds) := rv.append dv
  have hl : (us ++ ds).length = ps.length := by
    rw [← rv2.length]
    exact F.len _ _ _ _ want
  refine wpAny_call (codeAny_mono (F.run X.A X.stack s H ⟨us, []⟩ (us ++ ds) (vs ++ dvs) Q E0 room gd I.env0 (bd s us I.kIn hl) rv2 want) fun r s' hq => ?_)
  cases r with
  | error e => exact False.elim hq
  | ok fl =>
    cases fl with
    | ret u => exact I.after hq
    | next => exact False.elim hq
    | brk => exact False.elim hq
    | cont => exact False.elim hq
theorem pe_callG (F : FnG X.prog X.w X.K X.mg X.base CX0 k f fd ps sp) (room : Room k X.A) (gd : X.A.guards = some []) (gl : Gl X x) (hm : X.mg x = some (.ref f)) (kp : PySem.W.keepIn X.K (.ref f) = true)
    (bd : Binds X.K fd ps ds) (dv : Vals dvs ds) (ha : PA X (e :: es) t) (nodbg : (x == ("__debug__" : Str)) = false := by decide)
    (he : starEach (e :: es) X.env = (false, eval e X.env) :: starEach es X.env := by rfl) (hpl : (backTo pos (starEach es X.env)).any (·.1) = false := by rfl) :
    PE X (.Call (.Name x p) (e :: es) [] pos) (tCall sp dvs E0 t) := by
  constructor
  intro pins s σ H Q I want
  refine wpAny_Call_Name_kw (ld_glob I gl hm (PySem.W.callWith_K (h₀ := X.base) I.ok.mod.kin kp (thn (ha.run pos pins s σ H _ I want) ?_) he hpl) nodbg)
  rintro us s1 ⟨vs, H1, I1, rv, q⟩
  exact ⟨I1.kIn, runG F room gd bd dv I1 rv q⟩
theorem pe_callG0 (F : FnG X.prog X.w X.K X.mg X.base CX0 k f fd ps sp) (room : Room k X.A) (gd : X.A.guards = some []) (gl : Gl X x) (hm : X.mg x = some (.ref f)) (kp : PySem.W.keepIn X.K (.ref f) = true)
    (bd : Binds X.K fd ps ds) (dv : Vals dvs ds) (nodbg : (x == ("__debug__" : Str)) = false := by decide) : PE X (.Call (.Name x p) [] [] pos) (tCall sp dvs E0 tNil) := by
  constructor
  intro pins s σ H Q I want
  exact wpAny_Call_Name_kw (ld_glob I gl hm (PySem.W.callWith_K0 I.kIn kp (runG (us := []) F room gd bd dv I .nil want)) nodbg)
end

/-! ### the law's end -/
/-- a heap that tells of the script alone -/
theorem script_heap {P : Program} {w : World} {K : PySem.W.Frag} {h : Heap} {a : Addr} {vs : List Value} {ns : List Int} (kin : K.In h) (ha : h.get? a = some { cls := .type "list", data := .seq vs.toArray })
    (hi : IntsAre vs ns) (hl : ns.length ≤ sizeLine) :
    ∃ H : Hp, Only H ∧ SqL K H a (ns.map V.int) ∧ HOk P w H h ∧ (∀ b, H b ≠ none → b = a) ∧ (∀ b o, K.lookup b = some o → H b = none) := by
  have rv := vals_ints hi
  have len := hi.length
  cases hk : K.lookup a with
  | some o =>
    have eo := kin a o hk
    rw [ha] at eo
    cases eo
    refine ⟨fun _ => none, fun _ => .inl rfl, .inr ⟨_, vs.toArray, _, hk, rfl, rfl, rfl, ?_, by simpa using rv⟩, (fun b u z => nomatch z), (fun b z => absurd rfl z), fun _ _ _ => rfl⟩
    rw [List.size_toArray, len]
    exact hl
  | none =>
    let H : Hp := fun b => if b = a then some (.frz { cls := .type "list", data := .seq vs.toArray } (.lst (ns.map V.int))) else none
    have at_a : H a = some (.frz { cls := .type "list", data := .seq vs.toArray } (.lst (ns.map V.int))) := if_pos rfl
    have off : ∀ b, b ≠ a → H b = none := fun b z => if_neg z
    refine ⟨H, fun b => ?_, .inl (.inr ⟨_, at_a⟩), fun b u z => ?_, fun b z => ?_, fun b o z => off b ?_⟩
    · by_cases c : b = a
      · exact .inr ⟨_, _, c ▸ at_a⟩
      · exact .inl (off b c)
    · by_cases c : b = a
      · subst c
        rw [at_a] at z
        cases z
        refine ⟨ha, ?_, vs, _, rv, ha⟩
        rw [List.length_map]
        exact hl
      · rw [off b c] at z
        cases z
    · by_cases c : b = a
      · exact c
      · exact absurd (off b c) z
    · intro c
      rw [c, hk] at z
      cases z

theorem law_end {l : PySem.W.OpenLaw} {n k : Nat} {q : Program} {loose : List Str} {XP : (Str → Option Value) → Heap → Prop} {YP : World → Heap → Prop} {d : DefRec} {K : Params → PySem.W.Frag} {sp : PySem.W.Frag → Sp} {x : Str}
    (hn : l.most = some n) (hn2 : n ≤ sizeLine) (hdf : d.params.defaults = []) (hr : Room k callerA)
    (hY : ∀ (w : World) (h : Heap), YP w h → (K w.params).In h)
    (F : ∀ (w : World) (mg : Str → Option Value) (fa : Addr) (h : Heap), (K w.params).In h → h.Ns mainGlobals mg → mg d.name = some (.ref fa) →
      ∃ fd : FuncData, (∀ (s : Shared) (u : Value), BindsTo s fd ⟨[u], []⟩ [(x, u)]) ∧
        ∀ base : Heap, (K w.params).In base → base.Ns mainGlobals mg → FnG l.prog w (K w.params) mg base CX0 k fa fd [x] (sp (K w.params)))
    (hsp : ∀ (K : PySem.W.Frag) (H : Hp) (a : Addr) (ns : List Int), ns.length ≤ n → Only H → SqL K H a (ns.map V.int) → sp K [.ref a] H (fun v _ => v = .bl true) fun _ _ _ => False) :
    PySem.W.WalkO q loose XP YP l.row.toRowW d [] (fun f vs => PySem.call f vs) := by
  refine Att.attach_call hn hdf fun w s₀ s₁ mg mb fa o pm cd doc a vs ns G Y ho hd hcd hmg hobj hints hlen hgens => ?_
  have kin := hY w _ Y
  obtain ⟨fd, bd, FF⟩ := F w mg fa _ kin G.T.g hmg
  obtain ⟨H, hO, hS, hok, only, notK⟩ := script_heap (P := l.prog) (w := w) kin hobj hints (Nat.le_trans hlen hn2)
  have free : ∀ {b : Addr} {ob : Obj} {es : Array DictEntry} {ep : Nat}, s₁.heap.get? b = some ob → ob.data = .dict es ep → H b = none := by
    intro b ob es ep h1 h2
    cases c : H b with
    | none => rfl
    | some u =>
      have e : b = a := only b (by rw [c]; exact fun z => nomatch z)
      rw [e, hobj] at h1
      have h3 := congrArg Obj.data (Option.some.inj h1)
      rw [h2] at h3
      exact nomatch h3
  have ns' : ∀ {b : Addr} {m : Str → Option Value}, s₁.heap.Ns b m → (hidT s₁.heap H).Ns b m := by
    rintro b m ⟨ob, es, ep, h1, h2, h3⟩
    exact ⟨ob, es, ep, hidT_get h1 (free h1 h2), h2, h3⟩
  have kinB : (K w.params).In (hidT s₁.heap H) := fun b ob e => hidT_get (kin b ob e) (notK b ob e)
  have lim : (hidT s₁.heap H).NoLimit := by
    obtain ⟨mc, h1, h2⟩ := G.T.nolimit
    exact ⟨mc, ns' h1, h2⟩
  have en : Env0 l.prog w (K w.params) mg (hidT s₁.heap H) callerA [] s₁ H :=
    ⟨rfl, ⟨kinB, ns' G.T.g, ⟨mb, ns' G.T.b, G.T.builtins⟩, lim⟩, fun b ob e => of_hidT e, Nat.le_of_eq (hidT_size _ _), trivial, (fun b z => nomatch z), hok, .of_eq hgens⟩
  refine codeAny_mono ((FF _ kinB (ns' G.T.g)).run callerA [] s₁ H ⟨[.ref a], []⟩ [.ref a] [.ref a] _ _ hr rfl en (bd s₁ (.ref a)) (.cons rfl .nil) (hsp _ H a ns hlen hO hS)) fun r s' z => ?_
  cases r with
  | error e => exact False.elim z
  | ok fl =>
    cases fl with
    | next => exact False.elim z
    | brk => exact False.elim z
    | cont => exact False.elim z
    | ret u =>
      obtain ⟨v, H', os, bare, un, hok', rr, e⟩ := z
      have e' : v = .bl true := e
      subst e'
      obtain rfl : u = Value.bool true := rr
      refine ⟨rfl, OldK.of_keep fun b ob hb => ?_, os, bare⟩
      cases c : H b with
      | none => exact un.keep b ob hb c (fun z => nomatch z) (fun z => nomatch z)
      | some u =>
        rcases hO b with z | ⟨ox, xs, z⟩
        · rw [c] at z
          cases z
        · obtain ⟨e1, _⟩ := hok b _ z
          obtain ⟨e2, _⟩ := hok' b _ (un.frzs b ox _ z)
          rw [hb] at e1
          cases e1
          exact e2
end Rp
/-! Jm: jobs as a type of trees, their data, sizes; what the pot holds. No Python here. -/
namespace Lw
open PySem L2 Rp

abbrev M30 : Int := 1000000000000000000000000000000
inductive J where
  | st (i : Int)
  | ps (par : Bool) (xs : List J)
  | rn (cop : Bool) (n : Int) (x : J)
def kwP (b : Bool) : Str := if b then "par" else "seq"
def kwR (b : Bool) : Str := if b then "copies" else "repeat"
mutual
def J.toD : J → PyData
  | .st i => .int i
  | .ps k xs => .tuple [.str (kwP k), .tuple (J.toDs xs)]
  | .rn k n x => .tuple [.str (kwR k), .int n, x.toD]
def J.toDs : List J → List PyData
  | [] => []
  | x :: xs => x.toD :: J.toDs xs
end
mutual
theorem J.noL : ∀ j : J, noL j.toD = true
  | .st _ => rfl
  | .ps _ xs => by
    have h := J.noLs xs
    simp [J.toD, Rp.noL, Rp.noLs, h]
  | .rn _ _ x => by
    have h := J.noL x
    simp [J.toD, Rp.noL, Rp.noLs, h]
theorem J.noLs : ∀ js : List J, noLs (J.toDs js) = true
  | [] => rfl
  | x :: xs => by
    have h1 := J.noL x
    have h2 := J.noLs xs
    simp [J.toDs, Rp.noLs, h1, h2]
end
theorem J.toDs_eq : ∀ xs : List J, J.toDs xs = xs.map J.toD
  | [] => rfl
  | x :: xs => by rw [J.toDs, J.toDs_eq xs]; rfl

/-! sizes as the program finds them -/
def within (nodes steps : Int) : Option (Int × Int) := if steps ≤ M30 then some (nodes, steps) else none
mutual
def szJ : J → Int → Int → Option (Int × Int)
  | .st i, room, lv => if room < 1 ∨ lv < 1 then none else if -M30 ≤ i ∧ i ≤ M30 then some (1, 1) else none
  | .ps _ xs, room, lv => if room < 1 ∨ lv < 1 then none else if (xs.length : Int) > 400 then none else szJs xs 1 0 room lv
  | .rn _ n x, room, lv => if room < 1 ∨ lv < 1 then none else if ¬ (0 ≤ n ∧ n ≤ M30) then none else
      match szJ x (room - 1) (lv - 1) with
      | none => none
      | some (a, b) => within (a + 1) (b * n)
def szJs : List J → Int → Int → Int → Int → Option (Int × Int)
  | [], nodes, steps, _, _ => within nodes steps
  | x :: xs, nodes, steps, room, lv =>
      match szJ x (room - nodes) (lv - 1) with
      | none => none
      | some (a, b) => szJs xs (nodes + a) (steps + b) room lv
end
mutual
def J.nodes : J → Int
  | .st _ => 1
  | .ps _ xs => 1 + J.nodesL xs
  | .rn _ _ x => x.nodes + 1
def J.nodesL : List J → Int
  | [] => 0
  | x :: xs => x.nodes + J.nodesL xs
end
mutual
def J.steps : J → Int
  | .st _ => 1
  | .ps _ xs => J.stepsL xs
  | .rn _ n x => x.steps * n
def J.stepsL : List J → Int
  | [] => 0
  | x :: xs => x.steps + J.stepsL xs
end
mutual
def J.deep : J → Nat
  | .st _ => 1
  | .ps _ xs => J.deepL xs + 1
  | .rn _ _ x => x.deep + 1
def J.deepL : List J → Nat
  | [] => 0
  | x :: xs => max x.deep (J.deepL xs)
end
mutual
/-- a job but for nodes and nesting -/
def J.ok : J → Prop
  | .st i => -M30 ≤ i ∧ i ≤ M30
  | .ps _ xs => (xs.length : Int) ≤ 400 ∧ J.okL xs ∧ J.stepsL xs ≤ M30
  | .rn _ n x => (0 ≤ n ∧ n ≤ M30) ∧ x.ok ∧ x.steps * n ≤ M30
def J.okL : List J → Prop
  | [] => True
  | x :: xs => x.ok ∧ J.okL xs
end
mutual
theorem J.nodes_pos : ∀ j : J, 1 ≤ j.nodes
  | .st _ => by simp [J.nodes]
  | .ps _ xs => by have := J.nodesL_pos xs; simp only [J.nodes]; omega
  | .rn _ _ x => by have := J.nodes_pos x; simp only [J.nodes]; omega
theorem J.nodesL_pos : ∀ xs : List J, 0 ≤ J.nodesL xs
  | [] => by simp [J.nodesL]
  | x :: xs => by have := J.nodes_pos x; have := J.nodesL_pos xs; simp only [J.nodesL]; omega
end
theorem J.deep_pos : ∀ j : J, 1 ≤ j.deep
  | .st _ => by simp [J.deep]
  | .ps _ xs => by simp only [J.deep]; omega
  | .rn _ _ x => by simp only [J.deep]; omega
mutual
theorem J.steps_nn : ∀ j : J, j.ok → 0 ≤ j.steps
  | .st _, _ => by simp [J.steps]
  | .ps _ xs, h => by
    simp only [J.ok] at h
    simp only [J.steps]
    exact J.stepsL_nn xs h.2.1
  | .rn _ n x, h => by
    simp only [J.ok] at h
    simp only [J.steps]
    exact Int.mul_nonneg (J.steps_nn x h.2.1) h.1.1
theorem J.stepsL_nn : ∀ xs : List J, J.okL xs → 0 ≤ J.stepsL xs
  | [], _ => by simp [J.stepsL]
  | x :: xs, h => by
    simp only [J.okL] at h
    have := J.steps_nn x h.1
    have := J.stepsL_nn xs h.2
    simp only [J.stepsL]
    omega
end
theorem J.steps_le (j : J) (h : j.ok) : j.steps ≤ M30 := by
  cases j with
  | st i => simp only [J.steps]; decide
  | ps k xs => simp only [J.ok] at h; simp only [J.steps]; exact h.2.2
  | rn k n x => simp only [J.ok] at h; simp only [J.steps]; exact h.2.2
/-! the closed form: is a job within room and levels, and then its sizes -/
mutual
theorem szJ_some : ∀ (j : J) (room lv : Int), j.ok → j.nodes ≤ room → (j.deep : Int) ≤ lv → szJ j room lv = some (j.nodes, j.steps)
  | .st i, room, lv, h, h1, h2 => by
    simp only [J.ok] at h
    simp only [J.nodes, J.deep] at h1 h2
    simp only [szJ, J.nodes, J.steps]
    rw [if_neg (by omega), if_pos h]
  | .ps k xs, room, lv, h, h1, h2 => by
    simp only [J.ok] at h
    simp only [J.nodes, J.deep] at h1 h2
    have hn := J.nodesL_pos xs
    simp only [szJ, J.nodes, J.steps]
    rw [if_neg (by omega), if_neg (by omega)]
    have := szJs_some xs 1 0 room lv h.2.1 (by omega) (by omega) (by omega) (by omega)
    rw [this, Int.zero_add]
  | .rn k n x, room, lv, h, h1, h2 => by
    simp only [J.ok] at h
    simp only [J.nodes, J.deep] at h1 h2
    have hn := J.nodes_pos x
    simp only [szJ, J.nodes, J.steps]
    rw [if_neg (by omega), if_neg (by omega), szJ_some x (room - 1) (lv - 1) h.2.1 (by omega) (by omega)]
    simp only [within]
    rw [if_pos h.2.2]
theorem szJs_some : ∀ (xs : List J) (nodes steps room lv : Int), J.okL xs → 1 ≤ nodes → nodes + J.nodesL xs ≤ room → (J.deepL xs : Int) ≤ lv - 1 → steps + J.stepsL xs ≤ M30 → szJs xs nodes steps room lv = some (nodes + J.nodesL xs, steps + J.stepsL xs)
  | [], nodes, steps, room, lv, _, _, _, _, h => by
    simp only [J.nodesL, J.stepsL, szJs, within, Int.add_zero] at *
    rw [if_pos h]
  | x :: xs, nodes, steps, room, lv, h, h0, h1, h2, h3 => by
    simp only [J.okL] at h
    simp only [J.nodesL, J.stepsL, J.deepL] at *
    have p1 := J.nodes_pos x
    have p2 := J.nodesL_pos xs
    have p3 := J.stepsL_nn xs h.2
    simp only [szJs]
    rw [szJ_some x (room - nodes) (lv - 1) h.1 (by omega) (by omega)]
    simp only
    rw [szJs_some xs (nodes + x.nodes) (steps + x.steps) room lv h.2 (by omega) (by omega) (by omega) (by omega)]
    rw [Int.add_assoc, Int.add_assoc]
end
mutual
theorem szJ_inv : ∀ (j : J) (room lv a b : Int), szJ j room lv = some (a, b) → j.ok ∧ j.nodes ≤ room ∧ (j.deep : Int) ≤ lv ∧ a = j.nodes ∧ b = j.steps
  | .st i, room, lv, a, b, h => by
    simp only [szJ] at h
    split at h
    · cases h
    · split at h
      · rename_i h1 h2
        cases h
        simp only [J.ok, J.nodes, J.deep, J.steps]
        refine ⟨h2, by omega, by omega, ?_, ?_⟩ <;> trivial
      · cases h
  | .ps k xs, room, lv, a, b, h => by
    simp only [szJ] at h
    split at h
    · cases h
    · split at h
      · cases h
      · rename_i h1 h2
        obtain ⟨q1, q2, q3, q4, q5, q6⟩ := szJs_inv xs 1 0 room lv a b h (by omega)
        simp only [J.ok, J.nodes, J.deep, J.steps]
        have q3' : (J.deepL xs : Int) ≤ lv - 1 := by
          rcases q3 with q3 | q3
          · exact q3
          · subst q3
            simp only [J.deepL]
            omega
        refine ⟨⟨by omega, q1, by omega⟩, by omega, by omega, by omega, by omega⟩
  | .rn k n x, room, lv, a, b, h => by
    simp only [szJ] at h
    split at h
    · cases h
    · split at h
      · cases h
      · rename_i h1 h2
        split at h
        · cases h
        · rename_i a1 b1 h3
          obtain ⟨q1, q2, q3, q4, q5⟩ := szJ_inv x (room - 1) (lv - 1) a1 b1 h3
          simp only [within] at h
          split at h
          · rename_i h4
            cases h
            subst q4 q5
            simp only [J.ok, J.nodes, J.deep, J.steps]
            refine ⟨⟨Decidable.not_not.mp h2, q1, h4⟩, by omega, by omega, ?_, ?_⟩ <;> trivial
          · cases h
theorem szJs_inv : ∀ (xs : List J) (nodes steps room lv a b : Int), szJs xs nodes steps room lv = some (a, b) → nodes ≤ room → J.okL xs ∧ nodes + J.nodesL xs ≤ room ∧ ((J.deepL xs : Int) ≤ lv - 1 ∨ xs = []) ∧ steps + J.stepsL xs ≤ M30 ∧ a = nodes + J.nodesL xs ∧ b = steps + J.stepsL xs
  | [], nodes, steps, room, lv, a, b, h, h0 => by
    simp only [szJs, within] at h
    split at h
    · rename_i h1
      cases h
      simp only [J.okL, J.nodesL, J.stepsL, Int.add_zero]
      refine ⟨trivial, h0, .inr ?_, h1, ?_, ?_⟩ <;> trivial
    · cases h
  | x :: xs, nodes, steps, room, lv, a, b, h, h0 => by
    simp only [szJs] at h
    split at h
    · cases h
    · rename_i a1 b1 h3
      obtain ⟨q1, q2, q3, q4, q5⟩ := szJ_inv x (room - nodes) (lv - 1) a1 b1 h3
      subst q4 q5
      obtain ⟨r1, r2, r3, r4, r5, r6⟩ := szJs_inv xs (nodes + x.nodes) (steps + x.steps) room lv a b h (by omega)
      have dp := J.deep_pos x
      simp only [J.okL, J.nodesL, J.stepsL, J.deepL]
      refine ⟨⟨q1, r1⟩, by omega, .inl ?_, by omega, by omega, by omega⟩
      rcases r3 with r3 | r3
      · omega
      · subst r3
        simp only [J.deepL]
        omega
end
end Lw
/-! Jn: nets, lowest usages and mirrors of jobs. No Python here. -/
namespace Lw
open PySem L2 Rp
mutual
def J.net : J → Int
  | .st i => i
  | .ps _ xs => J.netL xs
  | .rn _ n x => n * x.net
def J.netL : List J → Int
  | [] => 0
  | x :: xs => x.net + J.netL xs
end
mutual
def J.low : J → Int
  | .st i => min 0 i
  | .ps false xs => J.lowS xs
  | .ps true xs => J.lowL xs
  | .rn true n x => n * x.low
  | .rn false n x => if n = 0 then 0 else x.low + (n - 1) * min 0 x.net
/-- in sequence -/
def J.lowS : List J → Int
  | [] => 0
  | x :: xs => min x.low (x.net + J.lowS xs)
/-- side by side -/
def J.lowL : List J → Int
  | [] => 0
  | x :: xs => x.low + J.lowL xs
end
theorem mul_min_nonneg {a b : Int} (h : 0 ≤ a) : a * min 0 b ≤ 0 ∧ a * min 0 b ≤ a * b := by
  constructor
  · have : 0 ≤ a * (- min 0 b) := Int.mul_nonneg h (by omega)
    rw [Int.mul_neg] at this
    omega
  · exact Int.mul_le_mul_of_nonneg_left (by omega) h
mutual
/-- the lowest usage is at most 0 and at most the net -/
theorem J.low_le : ∀ j : J, j.ok → j.low ≤ 0 ∧ j.low ≤ j.net
  | .st i, _ => by simp only [J.low, J.net]; omega
  | .ps false xs, h => by
    simp only [J.ok] at h
    simp only [J.low, J.net]
    exact J.lowS_le xs h.2.1
  | .ps true xs, h => by
    simp only [J.ok] at h
    simp only [J.low, J.net]
    exact J.lowL_le xs h.2.1
  | .rn true n x, h => by
    simp only [J.ok] at h
    have ih := J.low_le x h.2.1
    simp only [J.low, J.net]
    constructor
    · have : 0 ≤ n * (- x.low) := Int.mul_nonneg h.1.1 (by omega)
      rw [Int.mul_neg] at this
      omega
    · exact Int.mul_le_mul_of_nonneg_left ih.2 h.1.1
  | .rn false n x, h => by
    simp only [J.ok] at h
    have ih := J.low_le x h.2.1
    simp only [J.low, J.net]
    split
    · rename_i e
      subst e
      omega
    · have p := mul_min_nonneg (a := n - 1) (b := x.net) (by omega)
      have e : n * x.net = (n - 1) * x.net + x.net := by rw [Int.sub_mul, Int.one_mul]; omega
      omega
theorem J.lowS_le : ∀ xs : List J, J.okL xs → J.lowS xs ≤ 0 ∧ J.lowS xs ≤ J.netL xs
  | [], _ => by simp only [J.lowS, J.netL]; omega
  | x :: xs, h => by
    simp only [J.okL] at h
    have h1 := J.low_le x h.1
    have h2 := J.lowS_le xs h.2
    simp only [J.lowS, J.netL]
    omega
theorem J.lowL_le : ∀ xs : List J, J.okL xs → J.lowL xs ≤ 0 ∧ J.lowL xs ≤ J.netL xs
  | [], _ => by simp only [J.lowL, J.netL]; omega
  | x :: xs, h => by
    simp only [J.okL] at h
    have h1 := J.low_le x h.1
    have h2 := J.lowL_le xs h.2
    simp only [J.lowL, J.netL]
    omega
end
/-! sizes: at most the steps times a step's greatest -/
theorem mul_natAbs_le {n b c : Int} (h0 : 0 ≤ n) (h : b.natAbs ≤ c.natAbs) : (n * b).natAbs ≤ (n * c).natAbs := by
  rw [Int.natAbs_mul, Int.natAbs_mul]
  exact Nat.mul_le_mul_left _ h
mutual
theorem J.net_big : ∀ j : J, j.ok → -(j.steps * M30) ≤ j.net ∧ j.net ≤ j.steps * M30
  | .st i, h => by
    simp only [J.ok, M30] at h
    simp only [J.net, J.steps, M30]
    omega
  | .ps _ xs, h => by
    simp only [J.ok] at h
    simp only [J.net, J.steps]
    exact J.netL_big xs h.2.1
  | .rn _ n x, h => by
    simp only [J.ok] at h
    have ih := J.net_big x h.2.1
    simp only [J.net, J.steps]
    have e : x.steps * n * M30 = n * (x.steps * M30) := by rw [Int.mul_comm x.steps n, Int.mul_assoc]
    rw [e]
    constructor
    · rw [← Int.mul_neg]
      exact Int.mul_le_mul_of_nonneg_left ih.1 h.1.1
    · exact Int.mul_le_mul_of_nonneg_left ih.2 h.1.1
theorem J.netL_big : ∀ xs : List J, J.okL xs → -(J.stepsL xs * M30) ≤ J.netL xs ∧ J.netL xs ≤ J.stepsL xs * M30
  | [], _ => by simp only [J.netL, J.stepsL]; omega
  | x :: xs, h => by
    simp only [J.okL] at h
    have h1 := J.net_big x h.1
    have h2 := J.netL_big xs h.2
    simp only [J.netL, J.stepsL, M30] at *
    omega
end
mutual
theorem J.low_big : ∀ j : J, j.ok → -(j.steps * M30) ≤ j.low
  | .st i, h => by
    simp only [J.ok, M30] at h
    simp only [J.low, J.steps, M30]
    omega
  | .ps false xs, h => by
    simp only [J.ok] at h
    simp only [J.low, J.steps]
    exact J.lowS_big xs h.2.1
  | .ps true xs, h => by
    simp only [J.ok] at h
    simp only [J.low, J.steps]
    exact J.lowL_big xs h.2.1
  | .rn true n x, h => by
    simp only [J.ok] at h
    have ih := J.low_big x h.2.1
    simp only [J.low, J.steps]
    have e : x.steps * n * M30 = n * (x.steps * M30) := by rw [Int.mul_comm x.steps n, Int.mul_assoc]
    rw [e, ← Int.mul_neg]
    exact Int.mul_le_mul_of_nonneg_left ih h.1.1
  | .rn false n x, h => by
    simp only [J.ok] at h
    have ih := J.low_big x h.2.1
    have ih2 := J.net_big x h.2.1
    have nn := J.steps_nn x h.2.1
    simp only [J.low, J.steps]
    have e : x.steps * n * M30 = n * (x.steps * M30) := by rw [Int.mul_comm x.steps n, Int.mul_assoc]
    rw [e]
    split
    · rename_i z
      subst z
      omega
    · have hm : -(x.steps * M30) ≤ min 0 x.net := by
        have : 0 ≤ x.steps * M30 := Int.mul_nonneg nn (by decide)
        omega
      have p : (n - 1) * (-(x.steps * M30)) ≤ (n - 1) * min 0 x.net := Int.mul_le_mul_of_nonneg_left hm (by omega)
      have e2 : (n - 1) * (-(x.steps * M30)) = -(n * (x.steps * M30)) + x.steps * M30 := by rw [Int.mul_neg, Int.sub_mul, Int.one_mul]; omega
      omega
theorem J.lowS_big : ∀ xs : List J, J.okL xs → -(J.stepsL xs * M30) ≤ J.lowS xs
  | [], _ => by simp only [J.lowS, J.stepsL]; omega
  | x :: xs, h => by
    simp only [J.okL] at h
    have h1 := J.low_big x h.1
    have h2 := J.lowS_big xs h.2
    have h3 := J.net_big x h.1
    have n1 := J.steps_nn x h.1
    have n2 := J.stepsL_nn xs h.2
    simp only [J.lowS, J.stepsL, M30] at *
    omega
theorem J.lowL_big : ∀ xs : List J, J.okL xs → -(J.stepsL xs * M30) ≤ J.lowL xs
  | [], _ => by simp only [J.lowL, J.stepsL]; omega
  | x :: xs, h => by
    simp only [J.okL] at h
    have h1 := J.low_big x h.1
    have h2 := J.lowL_big xs h.2
    simp only [J.lowL, J.stepsL, M30] at *
    omega
end
abbrev M60 : Int := 1000000000000000000000000000000000000000000000000000000000000
theorem J.net_60 (j : J) (h : j.ok) : -M60 ≤ j.net ∧ j.net ≤ M60 := by
  have h1 := J.net_big j h
  have h2 := J.steps_le j h
  simp only [M30, M60] at *
  omega
theorem J.low_60 (j : J) (h : j.ok) : -M60 ≤ j.low ∧ j.low ≤ 0 := by
  have h1 := J.low_big j h
  have h2 := J.steps_le j h
  have h3 := (J.low_le j h).1
  simp only [M30, M60] at *
  omega
/-! the mirror -/
mutual
def J.mir : J → J
  | .st i => .st (-i)
  | .ps false xs => .ps false (J.mirL xs).reverse
  | .ps true xs => .ps true (J.mirL xs)
  | .rn k n x => .rn k n x.mir
def J.mirL : List J → List J
  | [] => []
  | x :: xs => x.mir :: J.mirL xs
end
theorem J.mirL_eq : ∀ xs : List J, J.mirL xs = xs.map J.mir
  | [] => rfl
  | x :: xs => by rw [J.mirL, J.mirL_eq xs]; rfl
theorem J.mirL_rev (xs : List J) : J.mirL xs.reverse = (J.mirL xs).reverse := by rw [J.mirL_eq, J.mirL_eq, List.map_reverse]
mutual
theorem J.mir_mir : ∀ j : J, j.mir.mir = j
  | .st i => by simp [J.mir]
  | .ps false xs => by simp only [J.mir, J.mirL_rev, List.reverse_reverse, J.mirL_mirL xs]
  | .ps true xs => by simp only [J.mir, J.mirL_mirL xs]
  | .rn k n x => by simp only [J.mir, J.mir_mir x]
theorem J.mirL_mirL : ∀ xs : List J, J.mirL (J.mirL xs) = xs
  | [] => rfl
  | x :: xs => by simp only [J.mirL, J.mir_mir x, J.mirL_mirL xs]
end
theorem J.nodesL_rev (xs : List J) : J.nodesL xs.reverse = J.nodesL xs := by
  induction xs with
  | nil => rfl
  | cons x xs ih =>
    have app : ∀ xs ys : List J, J.nodesL (xs ++ ys) = J.nodesL xs + J.nodesL ys := by
      intro xs ys
      induction xs with
      | nil => simp [J.nodesL]
      | cons a l ih => simp only [List.cons_append, J.nodesL, ih]; omega
    rw [List.reverse_cons, app, ih]
    simp only [J.nodesL]
    omega
theorem J.stepsL_app (xs ys : List J) : J.stepsL (xs ++ ys) = J.stepsL xs + J.stepsL ys := by
  induction xs with
  | nil => simp [J.stepsL]
  | cons a l ih => simp only [List.cons_append, J.stepsL, ih]; omega
theorem J.stepsL_rev (xs : List J) : J.stepsL xs.reverse = J.stepsL xs := by
  induction xs with
  | nil => rfl
  | cons x xs ih =>
    rw [List.reverse_cons, J.stepsL_app, ih]
    simp only [J.stepsL]
    omega
theorem J.netL_app (xs ys : List J) : J.netL (xs ++ ys) = J.netL xs + J.netL ys := by
  induction xs with
  | nil => simp [J.netL]
  | cons a l ih => simp only [List.cons_append, J.netL, ih]; omega
theorem J.netL_rev (xs : List J) : J.netL xs.reverse = J.netL xs := by
  induction xs with
  | nil => rfl
  | cons x xs ih =>
    rw [List.reverse_cons, J.netL_app, ih]
    simp only [J.netL]
    omega
theorem J.deepL_rev (xs : List J) : J.deepL xs.reverse = J.deepL xs := by
  induction xs with
  | nil => rfl
  | cons x xs ih =>
    have app : ∀ xs ys : List J, J.deepL (xs ++ ys) = max (J.deepL xs) (J.deepL ys) := by
      intro xs ys
      induction xs with
      | nil => simp [J.deepL]
      | cons a l ih => simp only [List.cons_append, J.deepL, ih]; omega
    rw [List.reverse_cons, app, ih]
    simp only [J.deepL]
    omega
theorem J.okL_iff : ∀ xs : List J, J.okL xs ↔ ∀ x ∈ xs, x.ok
  | [] => by simp [J.okL]
  | x :: xs => by simp only [J.okL, J.okL_iff xs, List.forall_mem_cons]
theorem J.okL_rev (xs : List J) : J.okL xs.reverse ↔ J.okL xs := by
  rw [J.okL_iff, J.okL_iff]
  simp
theorem J.mirL_len (xs : List J) : (J.mirL xs).length = xs.length := by rw [J.mirL_eq, List.length_map]
mutual
theorem J.mir_same : ∀ j : J, j.mir.nodes = j.nodes ∧ j.mir.steps = j.steps ∧ j.mir.deep = j.deep ∧ j.mir.net = -j.net ∧ (j.ok → j.mir.ok)
  | .st i => by
    simp only [J.mir, J.nodes, J.steps, J.deep, J.net, J.ok, true_and]
    omega
  | .ps false xs => by
    obtain ⟨h1, h2, h3, h4, h5⟩ := J.mirL_same xs
    simp only [J.mir, J.nodes, J.steps, J.deep, J.net, J.ok, J.nodesL_rev, J.stepsL_rev, J.deepL_rev, J.netL_rev, J.okL_rev, List.length_reverse, J.mirL_len, h1, h2, h3, h4, true_and]
    exact fun z => ⟨z.1, h5 z.2.1, z.2.2⟩
  | .ps true xs => by
    obtain ⟨h1, h2, h3, h4, h5⟩ := J.mirL_same xs
    simp only [J.mir, J.nodes, J.steps, J.deep, J.net, J.ok, J.mirL_len, h1, h2, h3, h4, true_and]
    exact fun z => ⟨z.1, h5 z.2.1, z.2.2⟩
  | .rn k n x => by
    obtain ⟨h1, h2, h3, h4, h5⟩ := J.mir_same x
    simp only [J.mir, J.nodes, J.steps, J.deep, J.net, J.ok, h1, h2, h3, h4, true_and, Int.mul_neg]
    exact fun z => ⟨z.1, h5 z.2.1, z.2.2⟩
theorem J.mirL_same : ∀ xs : List J, J.nodesL (J.mirL xs) = J.nodesL xs ∧ J.stepsL (J.mirL xs) = J.stepsL xs ∧ J.deepL (J.mirL xs) = J.deepL xs ∧ J.netL (J.mirL xs) = -J.netL xs ∧ (J.okL xs → J.okL (J.mirL xs))
  | [] => by simp [J.mirL, J.nodesL, J.stepsL, J.deepL, J.netL, J.okL]
  | x :: xs => by
    obtain ⟨h1, h2, h3, h4, h5⟩ := J.mir_same x
    obtain ⟨k1, k2, k3, k4, k5⟩ := J.mirL_same xs
    simp only [J.mirL, J.nodesL, J.stepsL, J.deepL, J.netL, J.okL, h1, h2, h3, h4, k1, k2, k3, k4, true_and]
    refine ⟨by omega, fun z => ⟨h5 z.1, k5 z.2⟩⟩
end
theorem J.lowS_app (xs : List J) (y : J) (hy : y.ok) (hx : J.okL xs) : J.lowS (xs ++ [y]) = min (J.lowS xs) (J.netL xs + y.low) := by
  induction xs with
  | nil =>
    have := J.low_le y hy
    simp only [List.nil_append, J.lowS, J.netL]
    omega
  | cons x xs ih =>
    simp only [J.okL] at hx
    simp only [List.cons_append, J.lowS, J.netL, ih hx.2]
    omega
mutual
theorem J.mir_low : ∀ j : J, j.ok → j.mir.low = j.low - j.net
  | .st i, _ => by simp only [J.mir, J.low, J.net]; omega
  | .ps false xs, h => by
    simp only [J.ok] at h
    simp only [J.mir, J.low, J.net]
    exact J.mirL_lowS xs h.2.1
  | .ps true xs, h => by
    simp only [J.ok] at h
    simp only [J.mir, J.low, J.net]
    exact J.mirL_lowL xs h.2.1
  | .rn true n x, h => by
    simp only [J.ok] at h
    simp only [J.mir, J.low, J.net, J.mir_low x h.2.1, Int.mul_sub]
  | .rn false n x, h => by
    simp only [J.ok] at h
    obtain ⟨_, _, _, hn, _⟩ := J.mir_same x
    simp only [J.mir, J.low, J.net, J.mir_low x h.2.1, hn]
    split
    · rename_i e
      subst e
      omega
    · have e : min 0 (-x.net) = min 0 x.net - x.net := by omega
      have e1 : (n - 1) * (min 0 x.net - x.net) = (n - 1) * min 0 x.net - (n - 1) * x.net := Int.mul_sub _ _ _
      have e2 : (n - 1) * x.net = n * x.net - x.net := by rw [Int.sub_mul, Int.one_mul]
      rw [e, e1]
      omega
theorem J.mirL_lowS : ∀ xs : List J, J.okL xs → J.lowS (J.mirL xs).reverse = J.lowS xs - J.netL xs
  | [], _ => by simp only [J.mirL, List.reverse_nil, J.lowS, J.netL]; omega
  | x :: xs, h => by
    simp only [J.okL] at h
    obtain ⟨_, _, _, _, ho⟩ := J.mir_same x
    obtain ⟨_, _, _, hn, hos⟩ := J.mirL_same xs
    simp only [J.mirL, List.reverse_cons]
    rw [J.lowS_app _ _ (ho h.1) ((J.okL_rev _).mpr (hos h.2)), J.mirL_lowS xs h.2, J.mir_low x h.1, J.netL_rev, hn]
    simp only [J.lowS, J.netL]
    omega
theorem J.mirL_lowL : ∀ xs : List J, J.okL xs → J.lowL (J.mirL xs) = J.lowL xs - J.netL xs
  | [], _ => by simp only [J.mirL, J.lowL, J.netL]; omega
  | x :: xs, h => by
    simp only [J.okL] at h
    simp only [J.mirL, J.lowL, J.netL, J.mirL_lowL xs h.2, J.mir_low x h.1]
    omega
end
/-! a job's data at hand -/
theorem ps_inv {K : PySem.W.Frag} {H : Hp} {v : V} {k : Bool} {xs : List J} (h : Dp K H v (J.ps k xs).toD) : ∃ a b vs, v = .ref a ∧ SqT K H a [.str (kwP k), .ref b] ∧ SqT K H b vs ∧ DpAll K H vs (J.toDs xs) := by
  rw [J.toD] at h
  obtain ⟨a, ys, rfl, hys, hall⟩ := dp_tup_inv h
  cases hall with
  | cons e1 hall =>
    obtain rfl := dp_str_inv e1
    cases hall with
    | cons e2 hall =>
      cases hall
      obtain ⟨b, vs, rfl, hvs, hall2⟩ := dp_tup_inv e2
      exact ⟨a, b, vs, rfl, hys, hvs, hall2⟩
theorem rn_inv {K : PySem.W.Frag} {H : Hp} {v : V} {k : Bool} {n : Int} {x : J} (h : Dp K H v (J.rn k n x).toD) : ∃ a w, v = .ref a ∧ SqT K H a [.str (kwR k), .int n, w] ∧ Dp K H w x.toD := by
  rw [J.toD] at h
  obtain ⟨a, ys, rfl, hys, hall⟩ := dp_tup_inv h
  cases hall with
  | cons e1 hall =>
    obtain rfl := dp_str_inv e1
    cases hall with
    | cons e2 hall =>
      obtain rfl := dp_int_inv e2
      cases hall with
      | cons e3 hall =>
        cases hall
        exact ⟨a, _, rfl, hys, e3⟩
theorem parts_at {K : PySem.W.Frag} {H : Hp} {xs : List J} {vs : List V} {i : Nat} {x : V} (hall : DpAll K H vs (J.toDs xs)) (hi : vs[i]? = some x) : ∃ j, xs[i]? = some j ∧ j ∈ xs ∧ Dp K H x j.toD := by
  obtain ⟨d, ed, hd⟩ := dpAll_get hall hi
  rw [J.toDs_eq, List.getElem?_map] at ed
  cases e : xs[i]? with
  | none =>
    rw [e] at ed
    cases ed
  | some j =>
    rw [e] at ed
    obtain rfl := (Option.some.inj ed).symm
    exact ⟨j, rfl, List.mem_of_getElem? e, hd⟩
theorem parts_len {K : PySem.W.Frag} {H : Hp} {xs : List J} {vs : List V} (hall : DpAll K H vs (J.toDs xs)) : vs.length = xs.length := by
  rw [dpAll_length hall, J.toDs_eq, List.length_map]
theorem deep_mem : ∀ {l : List J} {y : J}, y ∈ l → y.deep ≤ J.deepL l
  | z :: r, y, h => by
    simp only [J.deepL]
    rcases List.mem_cons.mp h with rfl | h
    · omega
    · have := deep_mem h
      omega
theorem ok_mem {l : List J} {y : J} (o : J.okL l) (h : y ∈ l) : y.ok := (J.okL_iff l).mp o y h
theorem take_step {α β : Type} {xs : List α} {i : Nat} {j : α} (f : α → β) (e : xs[i]? = some j) : (xs.take (i + 1)).map f = (xs.take i).map f ++ [f j] := by
  rw [List.take_add_one, e, List.map_append]
  rfl
/-! words -/
theorem w_in_parts (k : Bool) : inV (.str (kwP k)) [.str "seq", .str "par"] = true := by cases k <;> decide +kernel
theorem w_in_parts_no (k : Bool) : inV (.str (kwR k)) [.str "seq", .str "par"] = false := by cases k <;> decide +kernel
theorem w_in_rounds (k : Bool) : inV (.str (kwR k)) [.str "repeat", .str "copies"] = true := by cases k <;> decide +kernel
theorem w_in_rounds_no (k : Bool) : inV (.str (kwP k)) [.str "repeat", .str "copies"] = false := by cases k <;> decide +kernel
theorem w_seq (k : Bool) : decide (V.str (kwP k) = V.str "seq") = !k := by cases k <;> decide +kernel
theorem w_par (k : Bool) : decide (V.str (kwP k) = V.str "par") = k := by cases k <;> decide +kernel
theorem w_seq_no (k : Bool) : decide (V.str (kwR k) = V.str "seq") = false := by cases k <;> decide +kernel
theorem w_par_no (k : Bool) : decide (V.str (kwR k) = V.str "par") = false := by cases k <;> decide +kernel
theorem w_copies (k : Bool) : decide (V.str (kwR k) = V.str "copies") = k := by cases k <;> decide +kernel
theorem w_dec_int {a b : Int} : decide (V.int a = V.int b) = decide (a = b) := by
  by_cases h : a = b
  · subst h
    simp
  · rw [decide_eq_false h, decide_eq_false (fun z => h (V.int.inj z))]
/-! the data of a job: fine to be shown, comparable -/
theorem kwP_fine (k : Bool) : fine (.str (kwP k)) := by cases k <;> (simp only [fine]; decide +kernel)
theorem kwR_fine (k : Bool) : fine (.str (kwR k)) := by cases k <;> (simp only [fine]; decide +kernel)
theorem kwP_bulk (k : Bool) : (PyData.str (kwP k)).bulk ≤ 10 := by cases k <;> (simp only [PyData.bulk]; decide +kernel)
theorem kwR_bulk (k : Bool) : (PyData.str (kwR k)).bulk ≤ 10 := by cases k <;> (simp only [PyData.bulk]; decide +kernel)
theorem lt180 {i : Int} (h0 : -M60 ≤ i) (h : i ≤ M60) : i.natAbs < 10 ^ 180 := by
  simp only [M60] at h0 h
  exact Nat.lt_of_le_of_lt (show i.natAbs ≤ 1000000000000000000000000000000000000000000000000000000000000 by omega) (by decide +kernel)
mutual
theorem J.fine : ∀ j : J, j.ok → fine j.toD
  | .st i, h => by
    simp only [J.ok, M30] at h
    simp only [J.toD, Rp.fine]
    exact lt180 (by simp only [M60]; omega) (by simp only [M60]; omega)
  | .ps k xs, h => by
    simp only [J.ok] at h
    have h1 := J.fines xs h.2.1
    have h2 := kwP_fine k
    simp only [J.toD, Rp.fine, fines] at *
    exact ⟨h2, h1, trivial⟩
  | .rn k n x, h => by
    simp only [J.ok, M30] at h
    have h1 := J.fine x h.2.1
    have h2 := kwR_fine k
    simp only [J.toD, Rp.fine, fines] at *
    exact ⟨h2, lt180 (by simp only [M60]; omega) (by simp only [M60]; omega), h1, trivial⟩
theorem J.fines : ∀ xs : List J, J.okL xs → fines (J.toDs xs)
  | [], _ => by simp [J.toDs, Rp.fines]
  | x :: xs, h => by
    simp only [J.okL] at h
    simp only [J.toDs, Rp.fines]
    exact ⟨J.fine x h.1, J.fines xs h.2⟩
end
mutual
theorem J.bulk : ∀ j : J, (j.toD.bulk : Int) ≤ 20 * j.nodes - 5
  | .st i => by simp only [J.toD, PyData.bulk, J.nodes]; omega
  | .ps k xs => by
    have h1 := J.bulks xs
    have h2 := kwP_bulk k
    simp only [J.toD, PyData.bulk, PyData.bulkAll, J.nodes] at *
    omega
  | .rn k n x => by
    have h1 := J.bulk x
    have h2 := kwR_bulk k
    simp only [J.toD, PyData.bulk, PyData.bulkAll, J.nodes] at *
    omega
theorem J.bulks : ∀ xs : List J, (PyData.bulkAll (J.toDs xs) : Int) ≤ 20 * J.nodesL xs
  | [] => by simp [J.toDs, PyData.bulkAll, J.nodesL]
  | x :: xs => by
    have h1 := J.bulk x
    have h2 := J.bulks xs
    simp only [J.toDs, PyData.bulkAll, J.nodesL, List.length_cons] at *
    omega
end
mutual
theorem J.depth : ∀ j : J, j.toD.depth ≤ 2 * j.deep
  | .st i => by simp [J.toD, PyData.depth]
  | .ps k xs => by
    have h1 := J.depths xs
    simp only [J.toD, PyData.depth, PyData.depthAll, J.deep]
    omega
  | .rn k n x => by
    have h1 := J.depth x
    simp only [J.toD, PyData.depth, PyData.depthAll, J.deep]
    omega
theorem J.depths : ∀ xs : List J, PyData.depthAll (J.toDs xs) ≤ 2 * J.deepL xs
  | [] => by simp [J.toDs, PyData.depthAll, J.deepL]
  | x :: xs => by
    have h1 := J.depth x
    have h2 := J.depths xs
    simp only [J.toDs, PyData.depthAll, J.deepL]
    omega
end
theorem kwP_strOk (k : Bool) : PyData.canLay0 (.str (kwP k)) = true := by cases k <;> (simp only [PyData.canLay0]; decide +kernel)
theorem kwR_strOk (k : Bool) : PyData.canLay0 (.str (kwR k)) = true := by cases k <;> (simp only [PyData.canLay0]; decide +kernel)
mutual
theorem J.canLay : ∀ j : J, j.toD.canLay0 = true
  | .st i => by simp [J.toD, PyData.canLay0]
  | .ps k xs => by
    have h1 := J.canLays xs
    have h2 := kwP_strOk k
    simp only [J.toD, PyData.canLay0, PyData.canLayAll0, h1, Bool.and_true, Bool.true_and] at *
    exact h2
  | .rn k n x => by
    have h1 := J.canLay x
    have h2 := kwR_strOk k
    simp only [J.toD, PyData.canLay0, PyData.canLayAll0, h1, Bool.and_true, Bool.true_and] at *
    exact h2
theorem J.canLays : ∀ xs : List J, PyData.canLayAll0 (J.toDs xs) = true
  | [] => rfl
  | x :: xs => by
    have h1 := J.canLay x
    have h2 := J.canLays xs
    simp only [J.toDs, PyData.canLayAll0, h1, h2, Bool.and_self]
end
theorem J.shaped (j : J) (h : j.deep ≤ 30) : SeqAt.shaped j.toD = true := by
  have h1 := J.canLay j
  have h2 := J.depth j
  unfold SeqAt.shaped
  rw [h1, decide_eq_true (by omega)]
  rfl
theorem J.eqv (j : J) : PyData.eqv j.toD j.toD = true := SeqAt.eqv_refl _ (J.canLay j)
end Lw
/-! Rq: data of any kind (lists that nobody changes, dicts), beside a pot at p: isinstance, in, repr. -/
namespace Rp
open PySem L2 PyProof.Rows

theorem str_eq_dict (b : Str) (u : Tok) (a : Addr) : Meets (Builtin.«str.__eq__» { pos := [Value.str b u, Value.ref a] }) fun _ R s => (∃ o es n, s.heap.get? a = some o ∧ o.data = Data.dict es n) ∧ R (.ok (.ret Value.notImplemented)) s := by
  rintro prog w A R s ⟨⟨o, es, n, h, hd⟩, q⟩
  have e : Builtin.«str.__eq__» { pos := [Value.str b u, Value.ref a] } = (do
      let o ← asStr? (Value.ref a)
      match o with
      | some o => ret (Value.bool (b.cps.toList == o.cps.toList))
      | none => do
          rule (toString "str." ++ toString "__eq__" ++ toString ".not-a-str")
          ret Value.notImplemented) := rfl
  rw [e]
  refine wpAny_bind ?_
  unfold asStr?
  refine wpAny_bind (wpAny_load h ?_)
  rw [hd]
  refine wpAny_pure ?_
  refine wpAny_bind (wpAny_rule ?_)
  exact wpAny_pure q
theorem dict_eq_str (b : Str) (u : Tok) (a : Addr) : Meets (Builtin.«dict.__eq__» { pos := [Value.ref a, Value.str b u] }) fun _ R s => R (.ok (.ret Value.notImplemented)) s := by
  rintro prog w A R s q
  have e : Builtin.«dict.__eq__» { pos := [Value.ref a, Value.str b u] } = (do
      let x ← isInstance (Value.str b u) (Value.type "dict")
      if (!x) = true then do
          rule (toString "dict." ++ toString "__eq__" ++ toString ".not-a-dict")
          ret Value.notImplemented
        else do
          let p ← Builtin.Dict.addrOf (Value.ref a)
          let q ← Builtin.Dict.addrOf (Value.str b u)
          let z ← Builtin.Dict.samePairs (toString "dict." ++ toString "__eq__") p q
          ret (Value.bool (z == true))) := rfl
  rw [e]
  refine wpAny_bind (wpAny_isInstance_val (b := false) (T := "str") rfl (by rfl) ?_)
  refine wpAny_bind (wpAny_rule ?_)
  exact wpAny_pure q
theorem rc_str_dict {A : Around} {s : Shared} {a : Addr} {o : Obj} {es : Array DictEntry} {n : Nat} (b : Str) (u : Tok) (h : s.heap.get? a = some o) (hc : o.cls = .type "dict") (hd : o.data = .dict es n) (room : A.units < cLine) : SeqAt.RcAt A s (.str b u) (.ref a) false := by
  intro prog w E Q q
  have ta : s.TypeIs (.str b u) "str" := by rfl
  have tb : s.TypeIs (.ref a) "dict" := ⟨o, h, hc⟩
  have e1 : ∀ Q' : Value → Shared → Prop, Q' Value.notImplemented s → wpAny (model prog w) A (call (Value.builtin "str.__eq__") [.str b u, .ref a]) Q' E s := fun Q' z =>
    call_meets PyProof.Rows.slot_str_eq ta F.entry_str_eq (F.args_str_eq_2 _ _) (str_eq_dict b u a) ⟨⟨o, es, n, h, hd⟩, z⟩
  have e2 : ∀ Q' : Value → Shared → Prop, Q' Value.notImplemented s → wpAny (model prog w) A (call (Value.builtin "dict.__eq__") [.ref a, .str b u]) Q' E s := fun Q' z =>
    call_meets F.slot_dict_eq tb F.entry_dict_eq (F.args_dict_eq_2 _ _) (dict_eq_str b u a) z
  exact SeqAt.rc_eq_decline_or (Ta := "str") (Tb := "dict") (k := false) ta tb (by decide) (by rfl) PyProof.Rows.slot_str_eq F.slot_dict_eq_refl e1 e2 (fun Q' z => wpAny_pure z) (.inr room) q
theorem eq_str_dict {A : Around} {s : Shared} {a : Addr} {o : Obj} {es : Array DictEntry} {n : Nat} (b : Str) (u : Tok) (h : s.heap.get? a = some o) (hc : o.cls = .type "dict") (hd : o.data = .dict es n) (room : A.units < cLine) : SeqAt.EqAt A s (.str b u) (.ref a) false := by
  intro prog w E Q q
  unfold eqBool
  refine wpAny_holding ?_
  have e : (Value.str b u == Value.ref a) = false := rfl
  simp only [e, Bool.false_eq_true, if_false]
  refine wpAny_bind (rc_str_dict b u h hc hd room prog w E _ ?_)
  exact wpAny_truthy_bool q

mutual
inductive Dq (K : PySem.W.Frag) (p : Addr) (H : Hp) : V → PyData → Prop
  | non : Dq K p H .non .none
  | bl (b : Bool) : Dq K p H (.bl b) (.bool b)
  | int (i : Int) : Dq K p H (.int i) (.int i)
  | str (x : Str) : Dq K p H (.str x) (.str x)
  | lst {a : Addr} {xs : List V} {ds : List PyData} : a ≠ p → H a = some (.lst xs) → DqAll K p H xs ds → Dq K p H (.ref a) (.list ds)
  | tup {a : Addr} {xs : List V} {ds : List PyData} : SqT K H a xs → DqAll K p H xs ds → Dq K p H (.ref a) (.tuple ds)
  | dct {a : Addr} {kvs : List (Key × V)} {ds : List (PyData × PyData)} : a ≠ p → H a = some (.dK kvs) → (ds = [] → kvs = []) → Dq K p H (.ref a) (.dict ds)
inductive DqAll (K : PySem.W.Frag) (p : Addr) (H : Hp) : List V → List PyData → Prop
  | nil : DqAll K p H [] []
  | cons {v : V} {d : PyData} {vs : List V} {ds : List PyData} : Dq K p H v d → DqAll K p H vs ds → DqAll K p H (v :: vs) (d :: ds)
end
mutual
theorem dq_of {K : PySem.W.Frag} {p : Addr} {H : Hp} : ∀ {d : PyData} {v : V}, noL d = true → Dp K H v d → Dq K p H v d
  | .none, _, _, h => by cases h; exact .non
  | .bool _, _, _, h => by cases h; exact .bl _
  | .int _, _, _, h => by cases h; exact .int _
  | .str _, _, _, h => by cases h; exact .str _
  | .list _, _, n, _ => by simp [noL] at n
  | .tuple ds, _, n, h => by
    cases h with
    | tup hs ha => exact .tup hs (dqAll_of (by simpa [noL] using n) ha)
  | .dict _, _, _, h => by cases h
theorem dqAll_of {K : PySem.W.Frag} {p : Addr} {H : Hp} : ∀ {ds : List PyData} {vs : List V}, noLs ds = true → DpAll K H vs ds → DqAll K p H vs ds
  | [], _, _, h => by cases h; exact .nil
  | d :: ds, _, n, h => by
    cases h with
    | cons h1 h2 =>
      have n' : noL d = true ∧ noLs ds = true := by simpa [noLs] using n
      exact .cons (dq_of n'.1 h1) (dqAll_of n'.2 h2)
end
/-- what keeps such data: tuples, and all but p -/
structure Kp (K : PySem.W.Frag) (p : Addr) (H H' : Hp) : Prop where
  sx : Sx p H H'
  tp : ∀ a xs, SqT K H a xs → SqT K H' a xs
theorem Kp.refl {K : PySem.W.Frag} {p : Addr} {H : Hp} : Kp K p H H := ⟨Sx.refl, fun _ _ h => h⟩
theorem Kp.trans {K : PySem.W.Frag} {p : Addr} {H H1 H2 : Hp} (a : Kp K p H H1) (b : Kp K p H1 H2) : Kp K p H H2 := ⟨a.sx.trans b.sx, fun x xs h => b.tp x xs (a.tp x xs h)⟩
theorem Same.kp {K : PySem.W.Frag} {p : Addr} {H H' : Hp} (s : Same H H') : Kp K p H H' := ⟨Same.sx s, fun _ _ h => same_sqT s h⟩
theorem Sx.kp {K : PySem.W.Frag} {p : Addr} {H H' : Hp} {l : List V} (s : Sx p H H') (hp : H p = some (.lst l)) : Kp K p H H' := ⟨s, fun _ _ h => s.sqT hp h⟩
mutual
theorem Dq.keep {K : PySem.W.Frag} {p : Addr} {H H' : Hp} (s : Kp K p H H') : ∀ {d : PyData} {v : V}, Dq K p H v d → Dq K p H' v d
  | .none, _, h => by cases h; exact .non
  | .bool _, _, h => by cases h; exact .bl _
  | .int _, _, h => by cases h; exact .int _
  | .str _, _, h => by cases h; exact .str _
  | .list ds, _, h => by
    cases h with
    | lst n e ha => exact .lst n (s.sx _ _ n e) (DqAll.keep s ha)
  | .tuple ds, _, h => by
    cases h with
    | tup hs ha => exact .tup (s.tp _ _ hs) (DqAll.keep s ha)
  | .dict _, _, h => by
    cases h with
    | dct n e z => exact .dct n (s.sx _ _ n e) z
theorem DqAll.keep {K : PySem.W.Frag} {p : Addr} {H H' : Hp} (s : Kp K p H H') : ∀ {ds : List PyData} {vs : List V}, DqAll K p H vs ds → DqAll K p H' vs ds
  | [], _, h => by cases h; exact .nil
  | d :: ds, _, h => by
    cases h with
    | cons h1 h2 => exact .cons (Dq.keep s h1) (DqAll.keep s h2)
end
theorem dqAll_length {K : PySem.W.Frag} {p : Addr} {H : Hp} : ∀ {vs : List V} {ds : List PyData}, DqAll K p H vs ds → vs.length = ds.length
  | _, _, .nil => rfl
  | _, _, .cons _ h => congrArg (· + 1) (dqAll_length h)
theorem dqAll_get {K : PySem.W.Frag} {p : Addr} {H : Hp} : ∀ {vs : List V} {ds : List PyData} {i : Nat} {v : V}, DqAll K p H vs ds → vs[i]? = some v → ∃ d, ds[i]? = some d ∧ Dq K p H v d
  | _, _, _, _, .nil, e => by simp at e
  | _, _, 0, _, .cons h _, e => by
    simp at e
    subst e
    exact ⟨_, rfl, h⟩
  | _, _, i + 1, _, .cons _ t, e => by
    obtain ⟨d, e1, e2⟩ := dqAll_get (i := i) t (by simpa using e)
    exact ⟨d, by simpa using e1, e2⟩
theorem dqAll_append {K : PySem.W.Frag} {p : Addr} {H : Hp} : ∀ {vs ws : List V} {ds es : List PyData}, DqAll K p H vs ds → DqAll K p H ws es → DqAll K p H (vs ++ ws) (ds ++ es)
  | _, _, _, _, .nil, h => h
  | _, _, _, _, .cons h t, h' => .cons h (dqAll_append t h')
theorem dqAll_take {K : PySem.W.Frag} {p : Addr} {H : Hp} : ∀ (n : Nat) {vs : List V} {ds : List PyData}, DqAll K p H vs ds → DqAll K p H (vs.take n) (ds.take n)
  | 0, _, _, _ => by simpa using .nil
  | n + 1, _, _, .nil => by simpa using .nil
  | n + 1, _, _, .cons h t => by simpa using .cons h (dqAll_take n t)
theorem dqAll_drop {K : PySem.W.Frag} {p : Addr} {H : Hp} : ∀ (n : Nat) {vs : List V} {ds : List PyData}, DqAll K p H vs ds → DqAll K p H (vs.drop n) (ds.drop n)
  | 0, _, _, h => by simpa using h
  | n + 1, _, _, .nil => by simpa using .nil
  | n + 1, _, _, .cons h t => by simpa using dqAll_drop n t
theorem dq_int_inv {K : PySem.W.Frag} {p : Addr} {H : Hp} {v : V} {i : Int} (h : Dq K p H v (.int i)) : v = .int i := by cases h; rfl
theorem dq_str_inv {K : PySem.W.Frag} {p : Addr} {H : Hp} {v : V} {x : Str} (h : Dq K p H v (.str x)) : v = .str x := by cases h; rfl
theorem dq_bool_inv {K : PySem.W.Frag} {p : Addr} {H : Hp} {v : V} {b : Bool} (h : Dq K p H v (.bool b)) : v = .bl b := by cases h; rfl
theorem dq_tup_inv {K : PySem.W.Frag} {p : Addr} {H : Hp} {v : V} {ds : List PyData} (h : Dq K p H v (.tuple ds)) : ∃ a xs, v = .ref a ∧ SqT K H a xs ∧ DqAll K p H xs ds := by
  cases h with
  | tup h1 h2 => exact ⟨_, _, rfl, h1, h2⟩
theorem tupq {K : PySem.W.Frag} {p q : Addr} {H : Hp} {xs : List V} {ds : List PyData} (hq : H q = none) (h : DqAll K p H xs ds) : Same H (upd H q (.tup xs)) ∧ Dq K p (upd H q (.tup xs)) (.ref q) (.tuple ds) :=
  ⟨same_new hq, .tup (.inl (.inl upd_same)) (h.keep (Same.kp (same_new hq)))⟩
theorem lstq {K : PySem.W.Frag} {p q : Addr} {H : Hp} {xs : List V} {ds : List PyData} (n : q ≠ p) (hq : H q = none) (h : DqAll K p H xs ds) : Same H (upd H q (.lst xs)) ∧ Dq K p (upd H q (.lst xs)) (.ref q) (.list ds) :=
  ⟨same_new hq, .lst n upd_same (h.keep (Same.kp (same_new hq)))⟩

mutual
def noD : PyData → Bool
  | .list ds => noDs ds
  | .tuple ds => noDs ds
  | .dict _ => false
  | _ => true
def noDs : List PyData → Bool
  | [] => true
  | d :: ds => noD d && noDs ds
end
mutual
theorem Dq.dp {K : PySem.W.Frag} {p : Addr} {H : Hp} : ∀ {d : PyData} {v : V}, noD d = true → Dq K p H v d → Dp K H v d
  | .none, _, _, h => by cases h; exact .non
  | .bool _, _, _, h => by cases h; exact .bl _
  | .int _, _, _, h => by cases h; exact .int _
  | .str _, _, _, h => by cases h; exact .str _
  | .list ds, _, n, h => by
    cases h with
    | lst _ e ha => exact .lst (SqL.of e) (DqAll.dp (by simpa [noD] using n) ha)
  | .tuple ds, _, n, h => by
    cases h with
    | tup hs ha => exact .tup hs (DqAll.dp (by simpa [noD] using n) ha)
  | .dict _, _, n, _ => by simp [noD] at n
theorem DqAll.dp {K : PySem.W.Frag} {p : Addr} {H : Hp} : ∀ {ds : List PyData} {vs : List V}, noDs ds = true → DqAll K p H vs ds → DpAll K H vs ds
  | [], _, _, h => by cases h; exact .nil
  | d :: ds, _, n, h => by
    cases h with
    | cons h1 h2 =>
      have n' : noD d = true ∧ noDs ds = true := by simpa [noDs] using n
      exact .cons (Dq.dp n'.1 h1) (DqAll.dp n'.2 h2)
end
theorem dq_ty {K : PySem.W.Frag} {p : Addr} {H : Hp} {v : V} {d : PyData} (h : Dq K p H v d) : TyX K H v (.type (tyN d)) := by
  cases h with
  | non => exact .base .non
  | bl b => exact .base (.bl b)
  | int i => exact .base (.int i)
  | str x => exact .base (.str x)
  | lst n hs ha => exact .base (.lst hs)
  | tup hs ha =>
    rcases hs with (e | ⟨o, e⟩) | ⟨o, its, n, hk, hc, _⟩
    · exact .base (.tup e)
    · exact .fTuple e
    · exact .kTuple hk hc
  | dct n e z => exact .base (.dK e)
section
variable {X : Cx}
def rIsQ (K : PySem.W.Frag) : List V → Hp → VK → Prop := fun xs H Q => ∃ (v : V) (n : String) (p : Addr) (d : PyData) (b : Bool), xs = [v, .ty n] ∧ Dq K p H v d ∧ kitB (tyN d) n = some b ∧ Q (.bl b) H
theorem call_isQ : CallR X (.builtin "isinstance") (rIsQ X.K) := by
  intro pins s σ H xs us Q I r h
  obtain ⟨v, n, p, d, b, e, hd, hk, q⟩ := h
  exact call_isi pins s σ H xs us Q I r ⟨v, .ty n, _, _, _, e, .ty n, dq_ty hd, kit_ty hk, q⟩
/-- is the data one of these texts -/
def inS (d : PyData) (ss : List Str) : Bool := match d with
  | .str x => ss.any (· == x)
  | _ => false
theorem isTuple_of {pins : List (Addr × Obj)} {σ : L2.St} {H : Hp} {s : Shared} {a : Addr} {xs : List V} (I : Inv X pins σ H s) (h : SqT X.K H a xs) : ∃ its : Array Value, Vals xs its.toList ∧ s.heap.IsTuple a its := by
  rcases h with h | ⟨o, its, n, hk, hc, hd, hz, hv⟩
  · obtain ⟨_, its, hv, ht⟩ := h.ok I.hok
    exact ⟨its.toArray, by simpa using hv, ht⟩
  · exact ⟨its, hv, o, I.kIn _ _ hk, hc, n, hd⟩
theorem vals_strs : ∀ {ss : List Str} {us : List Value}, Vals (ss.map V.str) us → ∃ ts : List (Str × Tok), us = ts.map (fun z => .str z.1 z.2) ∧ ts.map (·.1) = ss
  | [], us, h => by
    generalize e : ([] : List Str).map V.str = vs at h
    cases h with
    | nil => exact ⟨[], rfl, rfl⟩
    | cons r h => cases e
  | x :: ss, us, h => by
    generalize e : (x :: ss).map V.str = vs at h
    cases h with
    | nil => cases e
    | cons r h =>
      obtain ⟨rfl, rfl⟩ := List.cons.inj e
      obtain ⟨ts, rfl, rfl⟩ := vals_strs h
      obtain ⟨t, rfl⟩ := r
      exact ⟨(x, t) :: ts, rfl, rfl⟩
def rInQ (K : PySem.W.Frag) : R2 := fun x y H Q => ∃ (p a : Addr) (ss : List Str) (d : PyData), y = .ref a ∧ SqT K H a (ss.map V.str) ∧ Dq K p H x d ∧ Q (.bl (inS d ss)) H
theorem op_inQ (hu : X.A.units + 66 < cLine) : OpR X (compareOp .In) (rInQ X.K) := by
  rintro pins s σ H x y v u Q I rv ru ⟨p, a, ss, d, rfl, ht, hd, q⟩
  obtain rfl : u = .ref a := ru
  obtain ⟨its, hv, hit⟩ := isTuple_of I ht
  obtain ⟨ts, e1, e2⟩ := vals_strs hv
  have room : X.A.in1.units < cLine := by
    show X.A.units + 1 < cLine
    omega
  refine SeqAt.in_tupleAt (fun y => match y with | .str w _ => inS d [w] | _ => false) hit (fun y hy => ?_) ?_
  · have hy' : y ∈ its.toList := by simpa using hy
    rw [e1] at hy'
    obtain ⟨⟨w, t⟩, _, rfl⟩ := List.mem_map.mp hy'
    show SeqAt.EqAt X.A.in1 s (.str w t) v (inS d [w])
    cases hd with
    | non =>
      obtain rfl : v = .none := rv
      exact SeqAt.EqAt.str_none _ _
    | bl b =>
      obtain rfl : v = .bool b := rv
      exact SeqAt.EqAt.str_bool _ _ _
    | int i =>
      obtain ⟨t', rfl⟩ := rv
      exact SeqAt.EqAt.str_int _ _ _ _
    | str x =>
      obtain ⟨t', rfl⟩ := rv
      have e : inS (.str x) [w] = (w == x) := by simp [inS]
      rw [e]
      exact SeqAt.EqAt.str_str _ _ _ _
    | lst n e ha =>
      rename_i l xs ds
      obtain rfl : v = .ref l := rv
      obtain ⟨_, its', n', hv', ho⟩ := I.hok _ _ e
      exact SeqAt.EqAt.str_list (items := its'.toArray) _ _ ⟨_, ho, rfl, n', rfl⟩ room
    | tup hs ha =>
      rename_i l xs ds
      obtain rfl : v = .ref l := rv
      obtain ⟨its', hv', ho⟩ := isTuple_of I hs
      exact SeqAt.EqAt.str_tuple (items := its') _ _ ho room
    | dct n e z =>
      rename_i l kvs ds
      obtain rfl : v = .ref l := rv
      obtain ⟨_, _, vs, _, o, es, ep, h1, h2, h3, _⟩ := I.hok _ _ e
      exact eq_str_dict _ _ h1 h2.1 h3 room
  · refine ⟨.bl (inS d ss), H, I, ?_, q⟩
    show Value.bool _ = Value.bool _
    congr 1
    rw [← Array.any_toList, e1, ← e2, List.any_map]
    cases d <;> simp [inS, Function.comp_def]

mutual
/-- data whose text is made without trouble: only empty dicts -/
def fineQ : PyData → Prop
  | .int i => i.natAbs < 10 ^ 180
  | .str x => (x.cps.toList.all fun c => decide (c < 16 ^ 8)) = true
  | .list xs => finesQ xs
  | .tuple xs => finesQ xs
  | .dict ds => ds = []
  | _ => True
def finesQ : List PyData → Prop
  | [] => True
  | x :: xs => fineQ x ∧ finesQ xs
end
mutual
theorem fineQ_ok : ∀ d : PyData, fineQ d → d.showable = true ∧ d.leavesShort 200 = true
  | .none, _ => by simp [PyData.showable, PyData.leavesShort]
  | .bool _, _ => by simp [PyData.showable, PyData.leavesShort]
  | .int i, h => by
    simp only [fineQ] at h
    simp only [PyData.showable, PyData.leavesShort, decide_eq_true_eq]
    exact ⟨int_log h, shown_int h⟩
  | .str x, h => by
    simp only [fineQ] at h
    simp only [PyData.showable, PyData.leavesShort, true_and]
    exact h
  | .list xs, h => by
    simp only [fineQ] at h
    simp only [PyData.showable, PyData.leavesShort]
    exact finesQ_ok xs h
  | .tuple xs, h => by
    simp only [fineQ] at h
    simp only [PyData.showable, PyData.leavesShort]
    exact finesQ_ok xs h
  | .dict ds, h => by
    simp only [fineQ] at h
    subst h
    simp [PyData.showable, PyData.showableKv, PyData.leavesShort, PyData.leavesShortKv]
theorem finesQ_ok : ∀ xs : List PyData, finesQ xs → PyData.showableAll xs = true ∧ PyData.leavesShortAll 200 xs = true
  | [], _ => by simp [PyData.showableAll, PyData.leavesShortAll]
  | x :: xs, h => by
    simp only [finesQ] at h
    obtain ⟨a1, a2⟩ := fineQ_ok x h.1
    obtain ⟨b1, b2⟩ := finesQ_ok xs h.2
    simp only [PyData.showableAll, PyData.leavesShortAll, a1, a2, b1, b2, Bool.and_self, and_self]
end
mutual
theorem Dq.reads {p : Addr} {pins : List (Addr × Obj)} {σ : L2.St} {H : Hp} {s : Shared} (I : Inv X pins σ H s) (hs : H sysModules = none) : ∀ (d : PyData) (v : V) (u : Value), fineQ d → Dq X.K p H v d → RelV v u → ∃ as, Reads s.heap u d as ∧ sysModules ∉ as
  | .none, _, u, _, h, r => by
    cases h
    obtain rfl : u = .none := r
    exact ⟨_, .none, by simp⟩
  | .bool b, _, u, _, h, r => by
    cases h
    obtain rfl : u = .bool b := r
    exact ⟨_, .bool b, by simp⟩
  | .int i, _, u, _, h, r => by
    cases h
    obtain ⟨t, rfl⟩ := r
    exact ⟨_, .int i t, by simp⟩
  | .str x, _, u, _, h, r => by
    cases h
    obtain ⟨t, rfl⟩ := r
    exact ⟨_, .str x t, by simp⟩
  | .list ds, _, u, f, h, r => by
    cases h with
    | lst n e ha =>
      rename_i l xs
      obtain rfl : u = .ref l := r
      obtain ⟨_, its', n', hv', ho⟩ := I.hok _ _ e
      obtain ⟨as, ra, na⟩ := DqAll.reads I hs ds xs its' (by simpa only [fineQ] using f) ha hv'
      refine ⟨_, .list ho rfl rfl (by simpa using ra), ?_⟩
      intro z
      rcases List.mem_cons.mp z with z | z
      · rw [z, e] at hs
        cases hs
      · exact na z
  | .tuple ds, _, u, f, h, r => by
    cases h with
    | tup ht ha =>
      rename_i l xs
      obtain rfl : u = .ref l := r
      obtain ⟨its', hv', o, h1, h2, n, h3⟩ := isTuple_of I ht
      obtain ⟨as, ra, na⟩ := DqAll.reads I hs ds xs its'.toList (by simpa only [fineQ] using f) ha hv'
      exact ⟨_, .tuple h1 h2 h3 ra, na⟩
  | .dict ds, _, u, f, h, r => by
    cases h with
    | dct n e z =>
      rename_i l kvs
      obtain rfl : u = .ref l := r
      simp only [fineQ] at f
      subst f
      obtain rfl := z rfl
      obtain ⟨_, _, vs, kv, o, es, ep, h1, h2, h3, _, h4, _⟩ := I.hok _ _ e
      generalize ek : ([] : List (Key × V)) = kk at kv
      cases kv with
      | cons _ _ => cases ek
      | nil =>
        generalize ee : es.toList = el at h4
        cases h4
        have e0 : es = #[] := by
          apply Array.ext'
          simpa using ee
        subst e0
        refine ⟨_, .dict (as := []) (bs := []) h1 h2.1 h3 (by simpa using .nil) (by simpa using .nil), ?_⟩
        intro y
        have y' : sysModules = l := by simpa using y
        rw [y', e] at hs
        cases hs
theorem DqAll.reads {p : Addr} {pins : List (Addr × Obj)} {σ : L2.St} {H : Hp} {s : Shared} (I : Inv X pins σ H s) (hs : H sysModules = none) : ∀ (ds : List PyData) (vs : List V) (us : List Value), finesQ ds → DqAll X.K p H vs ds → Vals vs us → ∃ as, ReadsAll s.heap us ds as ∧ sysModules ∉ as
  | [], _, us, _, h, r => by
    cases h
    generalize e : ([] : List V) = l at r
    cases r with
    | nil => exact ⟨_, .nil, by simp⟩
    | cons _ _ => cases e
  | d :: ds, _, us, f, h, r => by
    cases h with
    | cons h1 h2 =>
      rename_i v vs
      generalize e : v :: vs = l at r
      cases r with
      | nil => cases e
      | cons r1 r2 =>
        obtain ⟨rfl, rfl⟩ := List.cons.inj e
        simp only [finesQ] at f
        obtain ⟨as, ra, na⟩ := Dq.reads I hs d _ _ f.1 h1 r1
        obtain ⟨bs, rb, nb⟩ := DqAll.reads I hs ds _ _ f.2 h2 r2
        exact ⟨_, .cons ra rb, by simp [na, nb]⟩
end
/-- the written part holds the table of modules -/
def Sys (base : Heap) : Prop := ∃ o, base.get? sysModules = some o
theorem Inv.nosys {pins : List (Addr × Obj)} {σ : L2.St} {H : Hp} {s : Shared} (I : Inv X pins σ H s) (hb : Sys X.base) : H sysModules = none := by
  obtain ⟨o, hb⟩ := hb
  obtain ⟨h1, h2⟩ := I.ok.bs _ _ hb
  exact I.base.free _ _ h1 h2 (I.ok.noex _ _ hb)
def rReprQ (K : PySem.W.Frag) : List V → Hp → VK → Prop := fun xs H Q => ∃ (p : Addr) (v : V) (d : PyData), xs = [v] ∧ Dq K p H v d ∧ fineQ d ∧ d.depth ≤ 64 ∧ d.bulk ≤ 80000 ∧ Q (.str d.shown) H
theorem call_reprQ (hb : Sys X.base) (hg : X.A.guards = some []) (hu : X.A.units + 66 < cLine) : CallR X (.builtin "repr") (rReprQ X.K) := by
  intro pins s σ H xs us Q I r h
  obtain ⟨p, v, d, rfl, hd, hf, hdep, hw, q⟩ := h
  obtain ⟨hs, hl⟩ := fineQ_ok d hf
  have hz : d.shown.length ≤ sizeLine := by
    have := PyData.shown_le_bulk 200 (by decide) d hl
    rw [sizeLine_eq]
    omega
  obtain ⟨u, rfl, ru⟩ := vals1 r
  obtain ⟨as, hr, hsm⟩ := Dq.reads I (Inv.nosys I hb) d v u hf hd ru
  cases hr with
  | none => exact P.repr_of_none ⟨.str _, H, I.tok _, ⟨_, rfl⟩, q⟩
  | bool b => exact P.repr_of_bool ⟨.str _, H, I.tok _, ⟨_, rfl⟩, q⟩
  | int i t => exact P.repr_of_int (by simpa [PyData.showable] using hs) ⟨.str _, H, I.tok _, ⟨_, rfl⟩, q⟩
  | str x t => exact P.repr_of_str ⟨.str _, H, I.tok _, ⟨_, rfl⟩, q⟩ (by simpa only [PyData.shown] using hz)
  | list h1 h2 h3 h4 =>
    refine repr_of_reads' (h₀ := s.heap) (.list h1 h2 h3 h4) hs (fun _ => hsm) hg (by omega) (fun _ _ e => e) (fun h' u' tk hk => ?_) hz
    exact ⟨.str _, H, I.kept hk, ⟨_, rfl⟩, q⟩
  | tuple h1 h2 h3 h4 =>
    refine repr_of_reads' (h₀ := s.heap) (.tuple h1 h2 h3 h4) hs (fun _ => hsm) hg (by omega) (fun _ _ e => e) (fun h' u' tk hk => ?_) hz
    exact ⟨.str _, H, I.kept hk, ⟨_, rfl⟩, q⟩
  | dict h1 h2 h3 h4 h5 =>
    refine repr_of_reads' (h₀ := s.heap) (.dict h1 h2 h3 h4 h5) hs (fun _ => hsm) hg (by omega) (fun _ _ e => e) (fun h' u' tk hk => ?_) hz
    exact ⟨.str _, H, I.kept hk, ⟨_, rfl⟩, q⟩

def rInLD (K : PySem.W.Frag) : R2 := fun x y H Q => ∃ (ds : List PyData) (d : PyData), Dp K H y (.list ds) ∧ Dp K H x d ∧ PyData.canLayAll0 ds = true ∧ d.canLay0 = true ∧ d.depth ≤ 60 ∧ Q (.bl (ds.any fun e => e.eqv d)) H
theorem op_inLD (hu : X.A.units + 66 < cLine) : OpR X (compareOp .In) (rInLD X.K) := by
  rintro pins s σ H x y v u Q I rv ru ⟨ds, d, hy, hx, c1, c2, c3, q⟩
  obtain ⟨as, r1⟩ := Dp.reads I _ _ _ hy ru
  obtain ⟨bs, r2⟩ := Dp.reads I _ _ _ hx rv
  refine SeqAt.in_list_reads r1 r2 c1 c2 ?_ ⟨.bl _, H, I, rfl, q⟩
  have : min (PyData.depthAll ds) d.depth ≤ 60 := Nat.le_trans (Nat.min_le_right _ _) c3
  omega

end
end Rp

namespace Rp
open PySem L2 PyProof.Rows
theorem law_endS {l : PySem.W.OpenLaw} {n k : Nat} {q : Program} {loose : List Str} {XP : (Str → Option Value) → Heap → Prop} {YP : World → Heap → Prop} {d : DefRec} {K : Params → PySem.W.Frag} {sp : PySem.W.Frag → Sp} {x : Str}
    (hn : l.most = some n) (hn2 : n ≤ sizeLine) (hdf : d.params.defaults = []) (hr : Room k callerA) (himp : importsNone q = true)
    (hY : ∀ (w : World) (h : Heap), YP w h → (K w.params).In h)
    (F : ∀ (w : World) (mg : Str → Option Value) (fa : Addr) (h : Heap), (K w.params).In h → h.Ns mainGlobals mg → mg d.name = some (.ref fa) →
      ∃ fd : FuncData, (∀ (s : Shared) (u : Value), BindsTo s fd ⟨[u], []⟩ [(x, u)]) ∧
        ∀ base : Heap, (K w.params).In base → base.Ns mainGlobals mg → Sys base → FnG l.prog w (K w.params) mg base CX0 k fa fd [x] (sp (K w.params)))
    (hsp : ∀ (K : PySem.W.Frag) (H : Hp) (a : Addr) (ns : List Int), ns.length ≤ n → Only H → SqL K H a (ns.map V.int) → sp K [.ref a] H (fun v _ => v = .bl true) fun _ _ _ => False) :
    PySem.W.WalkO q loose XP YP l.row.toRowW d [] (fun f vs => PySem.call f vs) := by
  refine Att.attach_call hn hdf fun w s₀ s₁ mg mb fa o pm cd doc a vs ns G Y ho hd hcd hmg hobj hints hlen hgens => ?_
  have kin := hY w _ Y
  obtain ⟨fd, bd, FF⟩ := F w mg fa _ kin G.T.g hmg
  obtain ⟨H, hO, hS, hok, only, notK⟩ := script_heap (P := l.prog) (w := w) kin hobj hints (Nat.le_trans hlen hn2)
  have free : ∀ {b : Addr} {ob : Obj} {es : Array DictEntry} {ep : Nat}, s₁.heap.get? b = some ob → ob.data = .dict es ep → H b = none := by
    intro b ob es ep h1 h2
    cases c : H b with
    | none => rfl
    | some u =>
      have e : b = a := only b (by rw [c]; exact fun z => nomatch z)
      rw [e, hobj] at h1
      have h3 := congrArg Obj.data (Option.some.inj h1)
      rw [h2] at h3
      exact nomatch h3
  have ns' : ∀ {b : Addr} {m : Str → Option Value}, s₁.heap.Ns b m → (hidT s₁.heap H).Ns b m := by
    rintro b m ⟨ob, es, ep, h1, h2, h3⟩
    exact ⟨ob, es, ep, hidT_get h1 (free h1 h2), h2, h3⟩
  have kinB : (K w.params).In (hidT s₁.heap H) := fun b ob e => hidT_get (kin b ob e) (notK b ob e)
  have lim : (hidT s₁.heap H).NoLimit := by
    obtain ⟨mc, h1, h2⟩ := G.T.nolimit
    exact ⟨mc, ns' h1, h2⟩
  have sys : Sys (hidT s₁.heap H) := by
    obtain ⟨mm, hm, _⟩ := (G.T.seer himp).mods
    obtain ⟨ob, es, ep, h1, _⟩ := ns' hm
    exact ⟨ob, h1⟩
  have en : Env0 l.prog w (K w.params) mg (hidT s₁.heap H) callerA [] s₁ H :=
    ⟨rfl, ⟨kinB, ns' G.T.g, ⟨mb, ns' G.T.b, G.T.builtins⟩, lim⟩, fun b ob e => of_hidT e, Nat.le_of_eq (hidT_size _ _), trivial, (fun b z => nomatch z), hok, .of_eq hgens⟩
  refine codeAny_mono ((FF _ kinB (ns' G.T.g) sys).run callerA [] s₁ H ⟨[.ref a], []⟩ [.ref a] [.ref a] _ _ hr rfl en (bd s₁ (.ref a)) (.cons rfl .nil) (hsp _ H a ns hlen hO hS)) fun r s' z => ?_
  cases r with
  | error e => exact False.elim z
  | ok fl =>
    cases fl with
    | next => exact False.elim z
    | brk => exact False.elim z
    | cont => exact False.elim z
    | ret u =>
      obtain ⟨v, H', os, bare, un, hok', rr, e⟩ := z
      have e' : v = .bl true := e
      subst e'
      obtain rfl : u = Value.bool true := rr
      refine ⟨rfl, OldK.of_keep fun b ob hb => ?_, os, bare⟩
      cases c : H b with
      | none => exact un.keep b ob hb c (fun z => nomatch z) (fun z => nomatch z)
      | some u =>
        rcases hO b with z | ⟨ox, xs, z⟩
        · rw [c] at z
          cases z
        · obtain ⟨e1, _⟩ := hok b _ z
          obtain ⟨e2, _⟩ := hok' b _ (un.frzs b ox _ z)
          rw [hb] at e1
          cases e1
          exact e2
end Rp
/-! Ex: errors: what a clause names, calls that raise nothing after all. -/
namespace Rp
open PySem L2 PyProof.Rows
/-- an error of the class S is what «except T» names, when S stands below T -/
theorem exm_sub {K : PySem.W.Frag} {S T : Addr} {b : Bool} (h1 : PySem.W.subIn K (.ref T) (.type "BaseException") = some true) (h2 : PySem.W.isClsIn K T = true) (h3 : PySem.W.typeIn K (.ref T) = some (.type "type")) (h4 : PySem.W.subIn K (.ref S) (.ref T) = some b) :
    PySem.W.exmOne K (.ref S) (.ref T) = some b := by
  have e1 : (PySem.W.subIn K (.ref T) (.type "BaseException") == some true) = true := by rw [h1] <;> rfl
  have e2 : ((PySem.W.clsIn K T).isSome && PySem.W.typeIn K (.ref T) == some (.type "type")) = true := by
    have h2' : (PySem.W.clsIn K T).isSome = true := h2
    rw [h2', h3] <;> rfl
  show (if (PySem.W.subIn K (.ref T) (.type "BaseException") == some true) = true then (if ((PySem.W.clsIn K T).isSome && PySem.W.typeIn K (.ref T) == some (.type "type")) = true then PySem.W.subIn K (.ref S) (.ref T) else none) else none) = some b
  rw [if_pos e1, if_pos e2]
  exact h4
/-- a def that may raise, called where it does not -/
theorem passN {X : Cx} : Passes (L2.CX X.prog X.w) X E0 := by
  rintro pins σ H s e s' _ ⟨_, _, _, _, _, _, _, _, _, _, _, _, h⟩
  exact h.elim
/-- the heap without what stands at L -/
def mask (H : Hp) (L : Addr) : Hp := fun b => if b = L then none else H b
theorem same_mask (H : Hp) (L : Addr) : Same (mask H L) H := fun b o h => by
  unfold mask at h
  split at h
  · cases h
  · exact h
theorem mask_new {H : Hp} {L : Addr} {o : HO} (h : H L = none) : Same H (mask (upd H L o) L) := fun b u e => by
  have n : b ≠ L := fun z => by rw [z, h] at e; cases e
  show (if b = L then none else upd H L o b) = some u
  rw [if_neg n, upd_ne n]
  exact e
theorem mask_upd {H : Hp} {L : Addr} {o : HO} : mask (upd H L o) L = mask H L := by
  funext b
  unfold mask
  split
  · rfl
  · rename_i n
    exact upd_ne n
theorem mask_mono {H H' : Hp} {L : Addr} (s : Same H H') : Same (mask H L) (mask H' L) := fun b o h => by
  unfold mask at h ⊢
  split at h
  · cases h
  · rename_i n
    rw [if_neg n]
    exact s b o h
theorem mask_at {H : Hp} {L b : Addr} {o : HO} (n : b ≠ L) (h : H b = some o) : mask H L b = some o := by
  unfold mask
  rw [if_neg n]
  exact h
theorem mask_none {H : Hp} {L : Addr} : mask H L L = none := by
  unfold mask
  rw [if_pos rfl]
theorem sx_mask {H : Hp} {L : Addr} : Sx L H (mask H L) := fun b o n h => mask_at n h
end Rp
/-! En: enumerate over a tuple. -/
namespace Rp
open PySem L2 PyProof.Rows
theorem both {M : Model} {A : Around} {α : Type} {Q : α → Shared → Prop} {E : Value → Shared → Prop} {s : Shared} {f : Bool → Sem α} {b : Bool} (h : ∀ b, wpAny M A (f b) Q E s) : wpAny M A (f b) Q E s := h b
theorem meets_enumerate_newT (l : Addr) (items : Array Value) : Meets (Builtin.«enumerate.__new__» { pos := [Value.type "enumerate", Value.ref l] }) fun _ R s => s.heap.IsTuple l items ∧
    R (.ok (.ret (.ref (s.heap.push { cls := .type "tuple_iterator", data := .fields #[.ref l, .int 0 0] }).objs.size)))
      { s with heap := (s.heap.push { cls := .type "tuple_iterator", data := .fields #[.ref l, .int 0 0] }).push { cls := .type "enumerate", data := .fields #[.none, .bool false, .ref s.heap.objs.size, rawInt 0, .none, .none] } } := by
  refine Meets.of_wp fun prog w A R s hh => ?_
  obtain ⟨hl, h⟩ := hh
  have hsub := sub_enumerate
  obtain ⟨hp, g, d, tk, os⟩ := s
  refine wpAny_bind ?_
  refine wpAny_bind (wpAny_pure ?_)
  refine wpAny_ite_false rfl ?_
  refine wpAny_bind (wpAny_of_eq hsub ?_)
  refine wpAny_ite_false rfl ?_
  refine wpAny_pure ?_
  refine wpAny_ite_true rfl ?_
  refine wpAny_bind ?_
  refine wpAny_bind (wpAny_stack_any fun st => ?_)
  refine wpAny_pure ?_
  have fin : wpAny (model prog w) A.in1 (do
              let __do_lift ← pyIter (Value.ref l)
              let __do_lift ←
                Builtin.SmallTypes.newRecord (Value.type "enumerate")
                    (Builtin.SmallTypes.ownedTupleFields ++ [__do_lift, rawInt 0, Value.none, Value.none])
              ret __do_lift) (fun fin s' => ∃ v, fin = Fin.done (Flow.ret v) ∧ R (Except.ok (Flow.ret v)) s') (fun e s' => R (Except.error e) s')
    { heap := hp, gens := g, drawn := d, toks := tk, os := os } := by
    refine wpAny_bind (wpAny_pyIter_tuple hl ?_)
    refine wpAny_bind ?_
    unfold Builtin.SmallTypes.newRecord
    refine wpAny_newObj_type ?_ (by show (6 : Nat) ≤ sizeLine + 2; decide)
    exact wpAny_pure ⟨_, rfl, h⟩
  split
  · generalize (_ == Value.type "enumerate") = short
    cases short with
    | true =>
      refine wpAny_ite_true rfl ?_
      refine wpAny_bind (wpAny_pure ?_)
      exact fin
    | false =>
      refine wpAny_ite_false rfl ?_
      refine wpAny_bind (wpAny_pure ?_)
      exact fin
  · refine wpAny_ite_false rfl ?_
    refine wpAny_bind (wpAny_pure ?_)
    exact fin
theorem call_enumerate_tup {prog : Program} {w : World} {A : Around} {E : Value → Shared → Prop} {s : Shared} {l : Addr} {items : Array Value} {Q : Value → Shared → Prop} (hl : s.heap.IsTuple l items)
    (h : ∀ h' : Heap, IsEnum h' (s.heap.objs.size + 1) s.heap.objs.size 0 .none → h'.IsTupleIter s.heap.objs.size l 0 → h'.objs.size = s.heap.objs.size + 2 → (∀ (b : Addr) (o : Obj), s.heap.get? b = some o → h'.get? b = some o) →
      Q (.ref (s.heap.objs.size + 1)) { s with heap := h' }) : wpAny (model prog w) A (call (.type "enumerate") [.ref l]) Q E s := by
  refine callType_new F.called_enumerate (by decide) (F.typeCall_enumerate_1 _) (F.newCall_enumerate_1 _) (fun _ => F.args_object_init_2 _ _) F.entry_enumerate_new (meets_enumerate_newT l items) ?_
  refine ⟨hl, ?_⟩
  have e1 : (s.heap.push { cls := .type "tuple_iterator", data := .fields #[.ref l, .int 0 0] }).objs.size = s.heap.objs.size + 1 := Heap.size_push ..
  have g1 := Heap.get?_push_size s.heap (o := { cls := .type "tuple_iterator", data := .fields #[.ref l, .int 0 0] }) rfl
  have g2 := Heap.get?_push_size (s.heap.push { cls := .type "tuple_iterator", data := .fields #[.ref l, .int 0 0] }) (o := { cls := .type "enumerate", data := .fields #[.none, .bool false, .ref s.heap.objs.size, rawInt 0, .none, .none] }) rfl
  rw [e1] at g2
  rw [e1]
  refine ⟨⟨_, g2, rfl⟩, h _ g2 ⟨_, Heap.get?_push_of_some _ g1, rfl, rfl⟩ ?_ fun b o e => Heap.get?_push_of_some _ (Heap.get?_push_of_some _ e)⟩
  rw [Heap.size_push, Heap.size_push]
theorem draws_tup {prog : Program} {w : World} {A : Around} (hh : A.handled = none) (it t : Addr) (hne : t ≠ it) (items : Array Value) :
    Draws prog w A it [it, t] items.size (fun i v => items[i]? = some v) (fun i h => h.IsTupleIter it t i ∧ h.IsTuple t items) where
  live := fun i h ⟨⟨o, ho, _⟩, _⟩ => ⟨o, ho⟩
  frame := fun i h h' ⟨⟨o, ho, h1⟩, ⟨o2, ho2, h2⟩⟩ k => ⟨⟨o, k it (by simp) o ho, h1⟩, ⟨o2, k t (by simp) o2 ho2, h2⟩⟩
  item := fun i s Q E hi ⟨h1, h2⟩ q => by
    obtain ⟨o2, ho2, h3⟩ := id h2
    refine RZ.nextOf_tuple_item h1 h2 (Array.getElem?_eq_getElem hi) fun h' h4 sb => ?_
    exact q _ h' s.toks (Array.getElem?_eq_getElem hi) ⟨h4, o2, (sb.2 t hne).trans ho2, h3⟩ sb
  done := fun s Q E ⟨h1, h2⟩ q => RZ.nextOf_tuple_end hh h1 h2 (Array.getElem?_eq_none (Nat.le_refl _)) fun h' e x k => q h' e x k
theorem draws_end {prog : Program} {w : World} {A : Around} (hh : A.handled = none) (it t : Addr) (items : Array Value) {i : Nat} (hi : items.size ≤ i) :
    Draws prog w A it [it, t] i (fun _ _ => False) (fun j h => j = i ∧ h.IsTupleIter it t i ∧ h.IsTuple t items) where
  live := fun _ h ⟨_, ⟨o, ho, _⟩, _⟩ => ⟨o, ho⟩
  frame := fun _ h h' ⟨e, ⟨o, ho, h1⟩, ⟨o2, ho2, h2⟩⟩ k => ⟨e, ⟨o, k it (by simp) o ho, h1⟩, ⟨o2, k t (by simp) o2 ho2, h2⟩⟩
  item := fun j s Q E hj ⟨e, _⟩ _ => absurd hj (by omega)
  done := fun s Q E ⟨_, h1, h2⟩ q => RZ.nextOf_tuple_end hh h1 h2 (Array.getElem?_eq_none hi) fun h' e x k => q h' e x k
def IteT (K : PySem.W.Frag) (a : Addr) : It where
  go := fun i H => ∃ xs x, SqT K H a xs ∧ xs[i]? = some x
  yld := fun i H v H' => ∃ T x, v = V.ref T ∧ H T = none ∧ H' = upd H T (.tup [.int (i : Nat), x]) ∧ ∀ xs : List V, SqT K H a xs → xs[i]? = some x
  stop := fun i H => ∃ xs, SqT K H a xs ∧ xs.length ≤ i
theorem turn_enumT {P : Program} {w : World} {K : PySem.W.Frag} {elts : List Expr} {kk : Nat} {tpos : Pos} (a e it : Addr) :
    Turn P w K (.Tuple elts kk tpos) (IteT K a) [e, it] e fun i h => (∃ old, IsEnum h e it (i : Nat) old) ∧ h.IsTupleIter it a i ∧ e ≠ it ∧ a ≠ it ∧ a ≠ e := by
  refine ⟨by simp, ?_, ?_, ?_, ?_, ?_⟩
  · rintro i h ⟨⟨old, he⟩, ⟨o, ho, h1, h2⟩, hne⟩ b hb
    simp only [List.mem_cons, List.not_mem_nil, or_false] at hb
    rcases hb with rfl | rfl
    · exact ⟨_, he, fun v z => by cases z⟩
    · exact ⟨o, ho, fun v z => by rw [h2] at z; cases z⟩
  · rintro i h h' ⟨⟨old, he⟩, ⟨o, ho, h1, h2⟩, hne⟩ k
    exact ⟨⟨old, k e (by simp) _ he⟩, ⟨o, k it (by simp) _ ho, h1, h2⟩, hne⟩
  · rintro X rfl rfl rfl hcalm i pins s σ H E I fp ⟨⟨old, he⟩, hit, hne, ha1, ha2⟩ ⟨xs, x, hx, hxi⟩
    obtain ⟨its, hvals, ht, hz⟩ := I.tuple hx
    have hh : X.A.handled = none := I.ok.hd hcalm
    have W := WalksT.enumerateD (prog := X.prog) (w := X.w) (A := X.A) (draws_tup (A := X.A.in1) hh it a ha1 its.toArray) e hne (by simp [hne, Ne.symm ha2]) (by simp)
    obtain ⟨u, hu, hru⟩ := hvals.get hxi
    have hlt : i < its.length := (List.getElem?_eq_some_iff.mp hu).1
    refine W.item i s _ E (by simpa using hlt) ⟨⟨old, he⟩, hit, ht⟩ (fun T vals h' tk hv hT hTup hMid fr => ⟨_, rfl, ?_⟩)
    refine W.go elts kk tpos i T _ _ E hMid (fun h'' hSt fr2 => ?_)
    obtain ⟨tt, y, hy, rfl⟩ := hv
    have hy' : its[i]? = some y := by simpa using hy
    rw [hu] at hy'
    obtain rfl := Option.some.inj hy'
    have hTn : ¬ T ∈ [e, it] := W.apart i T h' hMid
    obtain ⟨oT, g1, g2, n, g3⟩ := hTup
    have fT : H T = none := I.hok.fresh hT
    refine ⟨.ref T, upd H T (.tup [.int (i : Nat), x]), I.turnedNew (ch := [e, it]) (h' := h'') (fun b o hb ho => fr2 b o hb (fr b o hb ho)) fp hT ?_, rfl, ⟨T, x, rfl, fT, rfl, fun ys hys => by rw [I.tuple_inj hys hx]; exact hxi⟩, ⟨hSt.1, hSt.2.1, hne, ha1, ha2⟩, fun b hb => ?_⟩
    · exact ⟨(by show 2 ≤ sizeLine; decide), [_, _], .cons ⟨_, rfl⟩ (.cons hru .nil), oT, fr2 T oT hTn g1, g2, n, g3⟩
    · have nb : b ≠ T := fun z => hTn (z ▸ hb)
      rw [upd_ne nb]
      exact (fp b hb).1
  · rintro X rfl rfl rfl hcalm i pins s σ H E I fp ⟨⟨old, he⟩, hit, hne, ha1, ha2⟩ ⟨xs, hx, hxi⟩
    obtain ⟨its, hvals, ht, hz⟩ := I.tuple hx
    have hh : X.A.handled = none := I.ok.hd hcalm
    have hl : its.toArray.size ≤ i := by
      rw [List.size_toArray, ← hvals.length]
      exact hxi
    have W := WalksT.enumerateD (prog := X.prog) (w := X.w) (A := X.A) (draws_end (A := X.A.in1) hh it a its.toArray hl) e hne (by simp [hne, Ne.symm ha2]) (by simp)
    exact W.done s _ E ⟨⟨old, he⟩, rfl, hit, ht⟩ (fun h' tk fr => ⟨rfl, I.turnedL (ch := [e, it]) fr fp⟩)
  · rintro A i s Q E ⟨⟨old, he⟩, hit, hne⟩ q
    exact wpAny_pyIter_enum he q
section
variable {X : Cx}
def iEnumT (K : PySem.W.Frag) (ta : TA) : TI := fun σ H R => ta σ H fun vs H1 => ∃ a xs, vs = [V.ref a] ∧ SqT K H1 a xs ∧ R (IteT K a) H1
theorem pi_enumT {e : Expr} {ta : TA} {p pos tpos : Pos} {elts : List Expr} {kk : Nat} (hg : Gl X "enumerate") (hm : X.mg "enumerate" = none) (he : PA X [e] ta)
    (hs : starEach [e] X.env = [(false, eval e X.env)] := by rfl) : PI X (.Tuple elts kk tpos) (.Call (.Name "enumerate" p) [e] [] pos) (iEnumT X.K ta) := by
  refine ⟨fun pins s σ H R I h => ?_⟩
  refine Call_ (ld_blt I hg hm boot_enumerate (callWith_type1 (he := hs) (thn (he.run pos pins s σ H _ I h) fun us s1 x => ?_)))
  obtain ⟨vs, H1, I1, r1, a, xs, rfl, hq, q⟩ := x
  cases r1 with
  | cons r rr =>
  cases rr
  cases r
  obtain ⟨its, rv, p', hz⟩ := I1.tuple hq
  have hlt : a < s1.heap.objs.size := by
    obtain ⟨o, ho, _⟩ := p'
    exact Heap.lt_size ho
  refine call_enumerate_tup p' fun h' he hit hsz hk => wpAny_pyIter_enum he ?_
  have I2 := I1.kept (t' := s1.toks) hk
  refine ⟨s1.heap.objs.size + 1, [s1.heap.objs.size + 1, s1.heap.objs.size], _, IteT X.K a, H1, rfl, I2, turn_enumT a _ _, ⟨⟨_, he⟩, hit, Nat.succ_ne_self _, Nat.ne_of_lt hlt, Nat.ne_of_lt (Nat.lt_succ_of_lt hlt)⟩, fun b hb => ?_, q⟩
  have hb2 : s1.heap.objs.size ≤ b := by
    simp only [List.mem_cons, List.not_mem_nil, or_false] at hb
    rcases hb with rfl | rfl
    · exact Nat.le_succ _
    · exact Nat.le_refl _
  exact I1.fpOk hb2 (I1.hok.fresh hb2)
end
/-- a comprehension, a loop over it -/
theorem walk_enumT {K : PySem.W.Frag} {a : Addr} {xs : List V} : Walk (IteT K a) xs.length (fun H => SqT K H a xs) (YPair (fun i => some (.int (i : Nat))) (fun i => xs[i]?)) := by
  refine ⟨fun i H hi h => ⟨xs, _, h, List.getElem?_eq_getElem hi⟩, fun H h => ⟨xs, h, Nat.le_refl _⟩, fun i H x H' hi h y => ?_⟩
  obtain ⟨T, z, rfl, hT, rfl, f⟩ := y
  exact ⟨T, _, z, rfl, hT, rfl, rfl, f xs h⟩
end Rp
/-! St: sorted of lists of tuples of ints, of any lengths above 0. -/
namespace Rp
open PySem L2 PyProof.Rows
/-- a tuple of these ints -/
def IsTI (h : Heap) (v : Value) (ns : List Int) : Prop := ∃ (a : Addr) (o : Obj) (its : List Value) (n : Nat), v = .ref a ∧ h.get? a = some o ∧ o.cls = .type "tuple" ∧ o.data = .seq its.toArray n ∧ Vals (ns.map V.int) its
theorem lex_go {prog : Program} {w : World} {A : Around} {s : Shared} {fin : Bool} {Q : Bool → Shared → Prop} : ∀ (xs ys : List Int) (us vs : List Value) (i : Nat), Vals (xs.map V.int) us → Vals (ys.map V.int) vs → fin = decide (xs.length < ys.length) → Q (HT.lexLt xs ys) s →
    W.KatLex prog w A true fin Q (us.zip vs) i s
  | [], [], us, vs, i, hu, hv, hf, q => by
    cases hu
    refine W.kat_nil ?_
    rw [hf]
    exact q
  | [], y :: ys, us, vs, i, hu, hv, hf, q => by
    cases hu
    refine W.kat_nil ?_
    rw [hf]
    exact q
  | x :: xs, [], us, vs, i, hu, hv, hf, q => by
    cases hv
    have e : us.zip ([] : List Value) = [] := by simp
    rw [e]
    refine W.kat_nil ?_
    rw [hf]
    exact q
  | x :: xs, y :: ys, us, vs, i, hu, hv, hf, q => by
    cases hu with
    | cons ru hu =>
    cases hv with
    | cons rv hv =>
    obtain ⟨t, rfl⟩ := ru
    obtain ⟨t', rfl⟩ := rv
    rw [List.zip_cons_cons]
    refine W.kat_cons ?_
    refine SeqAt.EqAt.int_int x t y t' prog w _ _ ?_
    refine W.kat_go (fun e => ?_) (fun e => ?_)
    · have exy : x = y := by simpa using e
      refine W.kat_yes (lex_go xs ys _ _ (i + 1) hu hv ?_ ?_)
      · rw [hf]
        simp
      · rw [HT.lexLt_cons, if_pos exy] at q
        exact q
    · have exy : ¬ x = y := by simpa using e
      rw [HT.lexLt_cons, if_neg exy] at q
      refine W.kat_no ?_
      cases i with
      | zero => exact oneLt_int q
      | succ i => exact W.kat_one _ _ (lt_int q)
theorem ti_cmp {prog : Program} {w : World} {A : Around} {s : Shared} {vs : List Value} {k : Value → List Int} (h : ∀ v ∈ vs, IsTI s.heap v (k v)) :
    SrtO.Cmp prog w A s (tuples' true) (fun p => p.fst ∈ vs) (SrtO.lt2 fun v u => HT.lexLt (k v) (k u)) := by
  intro p q hp hq
  obtain ⟨a, o, its, n, e, ho, hc, hd, hv⟩ := h p.fst hp
  obtain ⟨a', o', its', n', e', ho', hc', hd', hv'⟩ := h q.fst hq
  rw [e, e']
  refine W.kat_lt ho hd ho' hd' ?_
  refine lex_go (k p.fst) (k q.fst) _ _ 0 hv hv' ?_ ?_
  · have l1 := hv.length
    have l2 := hv'.length
    rw [List.length_map] at l1 l2
    rw [List.size_toArray, List.size_toArray, ← l1, ← l2]
  · refine ⟨rfl, ?_⟩
    show HT.lexLt (k p.fst) (k q.fst) = HT.lexLt (k p.fst) (k q.fst)
    rfl
theorem ti_tups {h : Heap} : ∀ {vs : List Value} {k : Value → List Int}, (∀ v ∈ vs, IsTI h v (k v) ∧ k v ≠ []) → ∃ fs, W.KatTups h vs fs ∧ fs.length = vs.length ∧ ∀ f ∈ fs, ∃ x t, f = Value.int x t
  | [], _, _ => ⟨[], trivial, rfl, fun f hf => by cases hf⟩
  | v :: vs, k, hh => by
    obtain ⟨fs, h1, h2, h3⟩ := ti_tups (vs := vs) (k := k) fun u hu => hh u (List.mem_cons_of_mem _ hu)
    obtain ⟨⟨a, o, its, n, rfl, ho, hc, hd, hv⟩, hne⟩ := hh v (List.mem_cons_self ..)
    cases ek : k (.ref a) with
    | nil => exact absurd ek hne
    | cons x xs =>
      rw [ek] at hv
      cases hv with
      | cons rx hv =>
      obtain ⟨t, rfl⟩ := rx
      refine ⟨.int x t :: fs, ?_, by rw [List.length_cons, h2, List.length_cons], fun f hf => ?_⟩
      · unfold W.KatTups
        exact ⟨⟨a, o, _, n, rfl, ho, hc, hd, rfl⟩, h1⟩
      · rcases List.mem_cons.mp hf with rfl | hf
        · exact ⟨x, t, rfl⟩
        · exact h3 f hf
theorem ti_keeps {h h' : Heap} {v : Value} {ns : List Int} (x : IsTI h v ns) (k : ∀ (b : Addr) (o : Obj), h.get? b = some o → o.cls = .type "tuple" → h'.get? b = some o) : IsTI h' v ns := by
  obtain ⟨a, o, its, n, rfl, ho, hc, hd, hv⟩ := x
  exact ⟨a, o, its, n, rfl, k a o ho hc, hc, hd, hv⟩
theorem ti_sortable {prog : Program} {w : World} {A : Around} {s : Shared} {a : Addr} {vs : List Value} {k : Value → List Int} (h0 : 0 < vs.length) (hp : ∀ v ∈ vs, IsTI s.heap v (k v) ∧ k v ≠ []) (ha : ∀ o, s.heap.get? a = some o → o.cls ≠ .type "tuple") :
    SrtO.SortableO prog w A s a vs fun v u => HT.lexLt (k v) (k u) := by
  intro h' keep
  have hp' : ∀ v ∈ vs, IsTI h' v (k v) ∧ k v ≠ [] := fun v hv => ⟨ti_keeps (hp v hv).1 fun b o e c => keep b o (fun z => ha o (z ▸ e) c) e, (hp v hv).2⟩
  obtain ⟨fs, h1, h2, h3⟩ := ti_tups hp'
  refine ⟨tuples' true, fun Q E hq => ?_, ti_cmp fun v hv => (hp' v hv).1⟩
  refine W.kat_kind (T := .type "int") h1 (by omega) (fun f hf => ?_) (by decide) ?_
  · obtain ⟨x, t, rfl⟩ := h3 f hf
    exact W.Looks.now
  · have e : (Value.type "int" != Value.type "tuple") = true := by decide
    rw [e]
    exact hq
section
variable {X : Cx}
def rSortTI (K : PySem.W.Frag) : List V → Hp → VK → Prop := fun vs H Q => ∃ (a : Addr) (xs : List V) (k : V → List Int), vs = [V.ref a] ∧ SqL K H a xs ∧ (∀ x ∈ xs, ∃ t, x = V.ref t ∧ SqT K H t ((k x).map V.int) ∧ k x ≠ []) ∧
  ∀ (ys : List V) (p : Addr), SrtO.Srtd (fun x y => HT.lexLt (k x) (k y)) ys → SrtO.Stb (fun x y => HT.lexLt (k x) (k y)) ys xs → H p = none → Q (.ref p) (upd H p (.lst ys))
theorem cr_sortTI : CallR X (.builtin "sorted") (rSortTI X.K) := by
  intro pins s σ H vs us Q I r h
  obtain ⟨a, xs, k, rfl, hs, hx, q⟩ := h
  obtain ⟨its, rv, hl, hz⟩ := I.list hs
  obtain ⟨u, rfl, ru⟩ := vals1 r
  cases ru
  obtain ⟨e1, e2⟩ := refs_back rv fun x m => let ⟨t, e, _⟩ := hx x m; ⟨t, e⟩
  have hlen : xs.length = its.length := rv.length
  have hti : ∀ v ∈ its, IsTI s.heap v (k (backV v)) ∧ k (backV v) ≠ [] := by
    intro v hv
    obtain ⟨t, rfl⟩ := e2 v hv
    have hm : V.ref t ∈ xs := by rw [e1]; exact List.mem_map.mpr ⟨_, hv, rfl⟩
    obtain ⟨t', e, ht, hne⟩ := hx _ hm
    cases e
    obtain ⟨is, rvs, ⟨o, ho, hc, n, hd⟩, _⟩ := I.tuple ht
    exact ⟨⟨t, o, is, n, rfl, ho, hc, hd, rvs⟩, hne⟩
  refine SrtO.sorted_ord (ltv := fun v u => HT.lexLt (k (backV v)) (k (backV u))) (NtL.swo_lexL _) hl.isList (by rw [← hlen]; exact hz) (fun h2 h₁ b hb hk => ?_) (fun out h1 h2 => ?_)
  · refine ti_sortable (by omega) (fun v hv => ⟨ti_keeps (hti v hv).1 fun c o e _ => (hk c o e).2, (hti v hv).2⟩) (fun o ho => ?_)
    rw [hb] at ho
    cases ho
    show (Value.type "list") ≠ Value.type "tuple"
    decide
  · have h3 : ∀ u ∈ out, ∃ t, u = Value.ref t := fun u hu => e2 u (h2.perm.mem_iff.mp hu)
    have hb : SrtO.Stb (fun x y => HT.lexLt (k x) (k y)) (out.map backV) xs := by
      rw [e1]
      exact SrtO.Stb.map (NtL.swo_lexL k) backV h2
    have hd : s.heap.objs.size ≤ s.heap.objs.size + 1 := Nat.le_succ _
    obtain ⟨e, he⟩ := sortedAll_at s.heap its out.toArray
    refine ⟨.ref _, upd H _ (.lst (out.map backV)), I.laid (fun b o hbo => sortedAll_old hbo) hd ?_, rfl, q _ _ (SrtO.srtd_map h1) hb (I.hok.fresh hd)⟩
    exact ⟨by rw [hb.len]; exact hz, out, e, vals_back h3, he⟩
end
end Rp
/-! Su: sorted of a list of non-empty tuples of ints that stand in order already. -/
namespace Rp
open PySem L2 PyProof.Rows
theorem ti_one : ∀ {ns ms : List Int} {its : List Value}, Vals (ns.map V.int) its → Vals (ms.map V.int) its → ns = ms
  | [], [], _, _, _ => rfl
  | [], m :: ms, _, h1, h2 => by
    cases h1
    cases h2
  | n :: ns, [], _, h1, h2 => by
    cases h2
    cases h1
  | n :: ns, m :: ms, _, h1, h2 => by
    cases h1 with
    | cons r1 h1 =>
    cases h2 with
    | cons r2 h2 =>
    obtain ⟨t, rfl⟩ := r1
    obtain ⟨t', e⟩ := r2
    cases e
    rw [ti_one h1 h2]
theorem isTI_one {h : Heap} {v : Value} {ns ms : List Int} (h1 : IsTI h v ns) (h2 : IsTI h v ms) : ns = ms := by
  obtain ⟨a, o, its, n, rfl, ho, _, hd, hv⟩ := h1
  obtain ⟨a', o', its', n', e, ho', _, hd', hv'⟩ := h2
  cases e
  rw [ho] at ho'
  cases ho'
  rw [hd] at hd'
  cases hd'
  exact ti_one hv hv'
open Classical in
/-- the ints of a tuple -/
noncomputable def keyTI (h : Heap) (v : Value) : List Int := if e : ∃ ns, IsTI h v ns then e.choose else []
theorem keyTI_of {h : Heap} {v : Value} {ns : List Int} (e : IsTI h v ns) : keyTI h v = ns := by
  have e' : ∃ ns, IsTI h v ns := ⟨ns, e⟩
  unfold keyTI
  rw [dif_pos e']
  exact isTI_one e'.choose_spec e
inductive KeysT (K : PySem.W.Frag) (H : Hp) : List V → List (List Int) → Prop
  | nil : KeysT K H [] []
  | cons {t : Addr} {ns : List Int} {xs : List V} {ks : List (List Int)} (h : SqT K H t (ns.map V.int)) (ne : ns ≠ []) (r : KeysT K H xs ks) : KeysT K H (.ref t :: xs) (ns :: ks)
section
variable {X : Cx}
def rSortTS (K : PySem.W.Frag) : List V → Hp → VK → Prop := fun vs H Q => ∃ (a : Addr) (xs : List V) (ks : List (List Int)), vs = [V.ref a] ∧ SqL K H a xs ∧ KeysT K H xs ks ∧ ks.Pairwise (fun x y => HT.lexLt y x = false) ∧
  ∀ (p : Addr), H p = none → Q (.ref p) (upd H p (.lst xs))
theorem keysT_vals {pins : List (Addr × Obj)} {σ : L2.St} {H : Hp} {s : Shared} (I : L2.Inv X pins σ H s) : ∀ {xs : List V} {ks : List (List Int)} {its : List Value}, KeysT X.K H xs ks → Vals xs its →
    its.map (keyTI s.heap) = ks ∧ (∀ v ∈ its, IsTI s.heap v (keyTI s.heap v) ∧ keyTI s.heap v ≠ []) ∧ its.map backV = xs ∧ ∀ v ∈ its, ∃ t, v = Value.ref t
  | [], _, _, .nil, .nil => by simp
  | _ :: xs, _ :: ks, _, .cons h ne r, .cons rv rs => by
    cases rv
    obtain ⟨e1, e2, e3, e4⟩ := keysT_vals I r rs
    obtain ⟨is, rvs, ⟨o, ho, hc, n, hd⟩, _⟩ := I.tuple h
    have ti : IsTI s.heap (.ref _) _ := ⟨_, o, is, n, rfl, ho, hc, hd, rvs⟩
    have ek := keyTI_of ti
    refine ⟨by rw [List.map_cons, e1, ek], fun v hv => ?_, by rw [List.map_cons, e3]; rfl, fun v hv => ?_⟩
    · rcases List.mem_cons.mp hv with rfl | hv
      · rw [ek]
        exact ⟨ti, ne⟩
      · exact e2 v hv
    · rcases List.mem_cons.mp hv with rfl | hv
      · exact ⟨_, rfl⟩
      · exact e4 v hv
theorem cr_sortTS : CallR X (.builtin "sorted") (rSortTS X.K) := by
  intro pins s σ H vs us Q I r h
  obtain ⟨a, xs, ks, rfl, hs, hx, hord, q⟩ := h
  obtain ⟨its, rv, hl, hz⟩ := I.list hs
  obtain ⟨u, rfl, ru⟩ := vals1 r
  cases ru
  obtain ⟨ek, hti, e1, e2⟩ := keysT_vals I hx rv
  have hlen : xs.length = its.length := rv.length
  refine SrtO.sorted_ord (ltv := fun v u => HT.lexLt (keyTI s.heap v) (keyTI s.heap u)) (NtL.swo_lexL _) hl.isList (by rw [← hlen]; exact hz) (fun h2 h₁ b hb hk => ?_) (fun out h1 h2 => ?_)
  · refine ti_sortable (by omega) (fun v hv => ⟨ti_keeps (hti v hv).1 fun c o e _ => (hk c o e).2, (hti v hv).2⟩) (fun o ho => ?_)
    rw [hb] at ho
    cases ho
    show (Value.type "list") ≠ Value.type "tuple"
    decide
  · have hso : SrtO.Srtd (fun v u => HT.lexLt (keyTI s.heap v) (keyTI s.heap u)) its := by
      rw [← ek] at hord
      exact List.pairwise_map.mp hord
    have eo : out = its := SrtO.stb_uniq (NtL.swo_lexL (keyTI s.heap)) h1 hso h2
    subst eo
    have hd : s.heap.objs.size ≤ s.heap.objs.size + 1 := Nat.le_succ _
    obtain ⟨e, he⟩ := sortedAll_at s.heap out out.toArray
    refine ⟨.ref _, upd H _ (.lst xs), I.laid (fun b o hbo => sortedAll_old hbo) hd ?_, rfl, q _ (I.hok.fresh hd)⟩
    exact ⟨hz, out, e, rv, he⟩
/-- sorted of a list of non-empty tuples of ints, known by position -/
def rSortTP (K : PySem.W.Frag) : List V → Hp → VK → Prop := fun vs H Q => ∃ (a : Addr) (xs : List V) (ks : List (List Int)), vs = [V.ref a] ∧ SqL K H a xs ∧ KeysT K H xs ks ∧
  ∀ (ys : List V) (ls : List (List Int)) (p : Addr), KeysT K H ys ls → ls.Pairwise (fun x y => HT.lexLt y x = false) → ls.Perm ks → H p = none → Q (.ref p) (upd H p (.lst ys))
theorem cr_sortTP : CallR X (.builtin "sorted") (rSortTP X.K) := by
  intro pins s σ H vs us Q I r h
  obtain ⟨a, xs, ks, rfl, hs, hx, q⟩ := h
  obtain ⟨its, rv, hl, hz⟩ := I.list hs
  obtain ⟨u, rfl, ru⟩ := vals1 r
  cases ru
  obtain ⟨ek, hti, e1, e2⟩ := keysT_vals I hx rv
  have hlen : xs.length = its.length := rv.length
  refine SrtO.sorted_ord (ltv := fun v u => HT.lexLt (keyTI s.heap v) (keyTI s.heap u)) (NtL.swo_lexL _) hl.isList (by rw [← hlen]; exact hz) (fun h2 h₁ b hb hk => ?_) (fun out h1 h2 => ?_)
  · refine ti_sortable (by omega) (fun v hv => ⟨ti_keeps (hti v hv).1 fun c o e _ => (hk c o e).2, (hti v hv).2⟩) (fun o ho => ?_)
    rw [hb] at ho
    cases ho
    show (Value.type "list") ≠ Value.type "tuple"
    decide
  · have h3 : ∀ u ∈ out, ∃ t, u = Value.ref t := fun u hu => e2 u (h2.perm.mem_iff.mp hu)
    have hd : s.heap.objs.size ≤ s.heap.objs.size + 1 := Nat.le_succ _
    obtain ⟨e, he⟩ := sortedAll_at s.heap its out.toArray
    have kk : KeysT X.K H (out.map backV) (out.map (keyTI s.heap)) := by
      have g : ∀ (l m : List Value), (∀ v ∈ l, v ∈ m) → (∀ v ∈ m, ∃ t, v = Value.ref t) → KeysT X.K H (m.map backV) (m.map (keyTI s.heap)) → KeysT X.K H (l.map backV) (l.map (keyTI s.heap)) := by
        intro l m hl hr hk
        have one : ∀ (m : List Value), (∀ v ∈ m, ∃ t, v = Value.ref t) → KeysT X.K H (m.map backV) (m.map (keyTI s.heap)) → ∀ v ∈ m, ∃ t, v = Value.ref t ∧ SqT X.K H t ((keyTI s.heap v).map V.int) ∧ keyTI s.heap v ≠ [] := by
          intro m
          induction m with
          | nil => intro _ _ v hv; cases hv
          | cons u m ih =>
            intro hr hk v hv
            obtain ⟨t, rfl⟩ := hr u (List.mem_cons_self ..)
            rw [List.map_cons, List.map_cons] at hk
            have hk' : KeysT X.K H (V.ref t :: m.map backV) (keyTI s.heap (.ref t) :: m.map (keyTI s.heap)) := hk
            cases hk' with
            | cons hh ne rr =>
              rcases List.mem_cons.mp hv with rfl | hv
              · exact ⟨t, rfl, hh, ne⟩
              · exact ih (fun v hv => hr v (List.mem_cons_of_mem _ hv)) rr v hv
        induction l with
        | nil => exact .nil
        | cons u l ih =>
          obtain ⟨t, rfl, hh, ne⟩ := one m hr hk u (hl u (List.mem_cons_self ..))
          exact .cons hh ne (ih fun v hv => hl v (List.mem_cons_of_mem _ hv))
      refine g out its (fun v hv => h2.perm.mem_iff.mp hv) e2 ?_
      rw [e1, ek]
      exact hx
    refine ⟨.ref _, upd H _ (.lst (out.map backV)), I.laid (fun b o hbo => sortedAll_old hbo) hd ?_, rfl, q _ _ _ kk (List.pairwise_map.mpr h1) ?_ (I.hok.fresh hd)⟩
    · exact ⟨by rw [List.length_map, h2.perm.length_eq, ← hlen]; exact hz, out, e, vals_back h3, he⟩
    · rw [← ek]
      exact h2.perm.map _
end
end Rp
/-! Pv: offers, valleys and profiles of steps (mathematics alone). -/
namespace Lw
open PySem L2 Rp
abbrev P2 := Int × Int
/-- q is as good as p -/
abbrev Dm (q p : P2) : Prop := q.1 ≤ p.1 ∧ q.2 ≤ p.2
def Covers (V P : List P2) : Prop := ∀ p ∈ P, ∃ v ∈ V, Dm v p
theorem Covers.refl (P : List P2) : Covers P P := fun p h => ⟨p, h, Int.le_refl _, Int.le_refl _⟩
theorem Covers.trans {A B C : List P2} (h : Covers A B) (k : Covers B C) : Covers A C := fun p hp => by
  obtain ⟨b, hb, e1, e2⟩ := k p hp
  obtain ⟨a, ha, e3, e4⟩ := h b hb
  exact ⟨a, ha, Int.le_trans e3 e1, Int.le_trans e4 e2⟩
theorem Covers.of_sub {A B : List P2} (h : ∀ p ∈ B, p ∈ A) : Covers A B := fun p hp => ⟨p, h p hp, Int.le_refl _, Int.le_refl _⟩
theorem Covers.append {A B C D : List P2} (h : Covers A B) (k : Covers C D) : Covers (A ++ C) (B ++ D) := fun p hp => by
  rcases List.mem_append.mp hp with hp | hp
  · obtain ⟨v, hv, e⟩ := h p hp
    exact ⟨v, List.mem_append.mpr (.inl hv), e⟩
  · obtain ⟨v, hv, e⟩ := k p hp
    exact ⟨v, List.mem_append.mpr (.inr hv), e⟩
theorem Covers.map {A B : List P2} (h : Covers A B) (f : P2 → P2) (hf : ∀ q p, Dm q p → Dm (f q) (f p)) : Covers (A.map f) (B.map f) := fun p hp => by
  obtain ⟨b, hb, rfl⟩ := List.mem_map.mp hp
  obtain ⟨a, ha, e⟩ := h b hb
  exact ⟨f a, List.mem_map.mpr ⟨a, ha, rfl⟩, hf _ _ e⟩
/-- each offers as much as the other -/
def Alike (A B : List P2) : Prop := Covers A B ∧ Covers B A
theorem Alike.refl (A : List P2) : Alike A A := ⟨Covers.refl A, Covers.refl A⟩
theorem Alike.symm {A B : List P2} (h : Alike A B) : Alike B A := ⟨h.2, h.1⟩
theorem Alike.trans {A B C : List P2} (h : Alike A B) (k : Alike B C) : Alike A C := ⟨h.1.trans k.1, k.2.trans h.2⟩
theorem Alike.append {A B C D : List P2} (h : Alike A B) (k : Alike C D) : Alike (A ++ C) (B ++ D) := ⟨h.1.append k.1, h.2.append k.2⟩
theorem Alike.map {A B : List P2} (h : Alike A B) (f : P2 → P2) (hf : ∀ q p, Dm q p → Dm (f q) (f p)) : Alike (A.map f) (B.map f) := ⟨h.1.map f hf, h.2.map f hf⟩
theorem Alike.of_mem {A B : List P2} (h : ∀ p, p ∈ A ↔ p ∈ B) : Alike A B := ⟨Covers.of_sub fun p hp => (h p).mpr hp, Covers.of_sub fun p hp => (h p).mp hp⟩
/-- capacities go up, usages go down -/
abbrev Strict (V : List P2) : Prop := V.Pairwise fun a b => a.1 < b.1 ∧ b.2 < a.2
structure IsVal (P V : List P2) : Prop where
  strict : Strict V
  sub : ∀ v ∈ V, v ∈ P
  cov : Covers V P
theorem IsVal.alike {P V : List P2} (h : IsVal P V) : Alike V P := ⟨h.cov, Covers.of_sub h.sub⟩
theorem strict_cov : ∀ {V W : List P2}, Strict V → Strict W → Covers V W → Covers W V → V = W
  | [], [], _, _, _, _ => rfl
  | [], w :: W, _, _, h, _ => by
    obtain ⟨v, hv, _⟩ := h w (List.mem_cons_self ..)
    cases hv
  | v :: V, [], _, _, _, h => by
    obtain ⟨v, hv, _⟩ := h v (List.mem_cons_self ..)
    cases hv
  | v :: V, w :: W, sv, sw, h, k => by
    have sv' := List.pairwise_cons.mp sv
    have sw' := List.pairwise_cons.mp sw
    -- the first ones cover one another
    have dist : ∀ {a : P2} {A : List P2}, Strict (a :: A) → ∀ x ∈ a :: A, ∀ y ∈ a :: A, Dm x y → x = y := by
      intro a A s x hx y hy hd
      have tri : ∀ {l : List P2}, Strict l → ∀ x ∈ l, ∀ y ∈ l, Dm x y → x = y := by
        intro l
        induction l with
        | nil => intro _ x hx; cases hx
        | cons z l ih =>
          intro s x hx y hy hd
          have s' := List.pairwise_cons.mp s
          rcases List.mem_cons.mp hx with e | hx2
          · subst e
            rcases List.mem_cons.mp hy with e | hy2
            · exact e.symm
            · have := s'.1 y hy2
              have := hd.2
              omega
          · rcases List.mem_cons.mp hy with e | hy2
            · subst e
              have := s'.1 x hx2
              have := hd.1
              omega
            · exact ih s'.2 x hx2 y hy2 hd
      exact tri s x hx y hy hd
    have same : ∀ x ∈ v :: V, x ∈ w :: W := by
      intro x hx
      obtain ⟨y, hy, e1⟩ := k x hx
      obtain ⟨z, hz, e2⟩ := h y hy
      have ezx : z = x := dist sv z hz x hx ⟨Int.le_trans e2.1 e1.1, Int.le_trans e2.2 e1.2⟩
      subst ezx
      have : z = y := Prod.ext (Int.le_antisymm e2.1 e1.1) (Int.le_antisymm e2.2 e1.2)
      rw [this]
      exact hy
    have same2 : ∀ x ∈ w :: W, x ∈ v :: V := by
      intro x hx
      obtain ⟨y, hy, e1⟩ := h x hx
      obtain ⟨z, hz, e2⟩ := k y hy
      have ezx : z = x := dist sw z hz x hx ⟨Int.le_trans e2.1 e1.1, Int.le_trans e2.2 e1.2⟩
      subst ezx
      have : z = y := Prod.ext (Int.le_antisymm e2.1 e1.1) (Int.le_antisymm e2.2 e1.2)
      rw [this]
      exact hy
    have hvw : v = w := by
      rcases List.mem_cons.mp (same v (List.mem_cons_self ..)) with e | e
      · exact e
      · rcases List.mem_cons.mp (same2 w (List.mem_cons_self ..)) with e' | e'
        · exact e'.symm
        · have := sw'.1 v e
          have := sv'.1 w e'
          omega
    subst hvw
    have rest : ∀ {A B : List P2}, (∀ x ∈ A, v.1 < x.1 ∧ x.2 < v.2) → (∀ x ∈ v :: A, x ∈ v :: B) → ∀ x ∈ A, x ∈ B := by
      intro A B hA hs x hx
      rcases List.mem_cons.mp (hs x (List.mem_cons_of_mem _ hx)) with rfl | e
      · have := hA x hx
        omega
      · exact e
    rw [strict_cov sv'.2 sw'.2 (Covers.of_sub (rest sw'.1 same2)) (Covers.of_sub (rest sv'.1 same))]
theorem IsVal.uniq {P Q V W : List P2} (h : IsVal P V) (k : IsVal Q W) (e : Alike P Q) : V = W :=
  strict_cov h.strict k.strict ((h.alike.trans e).trans k.alike.symm).1 ((h.alike.trans e).trans k.alike.symm).2
/-! what the walk over sorted pairs finds -/
/-- the pairs found so far, of these sorted ones: the last one has the least usage -/
structure Found (P V : List P2) : Prop where
  val : IsVal P V
  last : ∀ p ∈ P, ∀ v, V.getLast? = some v → v.2 ≤ p.2
theorem Found.nil : Found [] [] := ⟨⟨.nil, by simp, by simp [Covers]⟩, by simp⟩
theorem strict_last : ∀ {V : List P2} {v x : P2}, Strict V → V.getLast? = some v → x ∈ V → x = v ∨ (x.1 < v.1 ∧ v.2 < x.2) := by
  intro V v x s h hx
  obtain ⟨l, rfl⟩ := List.getLast?_eq_some_iff.mp h
  have s' := List.pairwise_append.mp s
  rcases List.mem_append.mp hx with hx | hx
  · exact .inr (s'.2.2 x hx v (by simp))
  · rw [List.mem_singleton] at hx
    exact .inl hx
/-- a pair behind all others, by capacity and then by usage -/
def Behind (P : List P2) (p : P2) : Prop := ∀ q ∈ P, q.1 < p.1 ∨ (q.1 = p.1 ∧ q.2 ≤ p.2)
theorem Found.skip {P V : List P2} {p v : P2} (h : Found P V) (hv : V.getLast? = some v) (b : Behind P p) (hle : ¬ p.2 < v.2) : Found (P ++ [p]) V := by
  have hvV : v ∈ V := List.mem_of_getLast? hv
  have hb := b v (h.val.sub v hvV)
  refine ⟨⟨h.val.strict, fun x hx => List.mem_append.mpr (.inl (h.val.sub x hx)), fun x hx => ?_⟩, fun x hx u hu => ?_⟩
  · rcases List.mem_append.mp hx with hx | hx
    · exact h.val.cov x hx
    · rw [List.mem_singleton] at hx
      subst hx
      exact ⟨v, hvV, by omega, by omega⟩
  · rcases List.mem_append.mp hx with hx | hx
    · exact h.last x hx u hu
    · rw [List.mem_singleton] at hx
      subst hx
      rw [hv] at hu
      cases hu
      omega
theorem Found.add {P V : List P2} {p : P2} (h : Found P V) (b : Behind P p) (hlt : ∀ v, V.getLast? = some v → p.2 < v.2) : Found (P ++ [p]) (V ++ [p]) := by
  have hs : ∀ x ∈ V, x.1 < p.1 ∧ p.2 < x.2 := by
    intro x hx
    obtain ⟨v, hv⟩ : ∃ v, V.getLast? = some v := by
      cases e : V.getLast? with
      | none =>
        rw [List.getLast?_eq_none_iff] at e
        subst e
        cases hx
      | some v => exact ⟨v, rfl⟩
    have h1 := hlt v hv
    have h2 := b x (h.val.sub x hx)
    rcases strict_last h.val.strict hv hx with rfl | h3
    · omega
    · omega
  refine ⟨⟨?_, fun x hx => ?_, fun x hx => ?_⟩, fun x hx u hu => ?_⟩
  · refine List.pairwise_append.mpr ⟨h.val.strict, by simp, fun x hx y hy => ?_⟩
    rw [List.mem_singleton] at hy
    subst hy
    exact hs x hx
  · rcases List.mem_append.mp hx with hx | hx
    · exact List.mem_append.mpr (.inl (h.val.sub x hx))
    · exact List.mem_append.mpr (.inr hx)
  · rcases List.mem_append.mp hx with hx | hx
    · obtain ⟨v, hv, e⟩ := h.val.cov x hx
      exact ⟨v, List.mem_append.mpr (.inl hv), e⟩
    · rw [List.mem_singleton] at hx
      subst hx
      exact ⟨x, by simp, Int.le_refl _, Int.le_refl _⟩
  · have eu : u = p := by
      rw [List.getLast?_append] at hu
      simpa using hu.symm
    subst eu
    rcases List.mem_append.mp hx with hx | hx
    · obtain ⟨v, hv, e⟩ := h.val.cov x hx
      have := hs v hv
      have := e.2
      omega
    · rw [List.mem_singleton] at hx
      subst hx
      exact Int.le_refl _
/-! offers of steps -/
/-- the boundaries, with the greatest usage so far -/
def front (top h : Int) : List Int → List P2
  | [] => [(max top h, h)]
  | s :: ss => (max top h, h) :: front (max top h) (h + s) ss
def lift2 (top b : Int) (p : P2) : P2 := (max top (b + p.1), b + p.2)
theorem lift2_mono (top b : Int) (q p : P2) (h : Dm q p) : Dm (lift2 top b q) (lift2 top b p) := by
  have h1 := h.1
  have h2 := h.2
  simp only [lift2, Dm]
  omega
theorem front_lift : ∀ (ss : List Int) (top b t h : Int), front (max top (b + t)) (b + h) ss = (front t h ss).map (lift2 top b)
  | [], top, b, t, h => by
    simp only [front, List.map_cons, List.map_nil, lift2]
    congr 2
    omega
  | s :: ss, top, b, t, h => by
    have ih := front_lift ss top b (max t h) (h + s)
    have e1 : max (max top (b + t)) (b + h) = max top (b + max t h) := by omega
    have e2 : b + h + s = b + (h + s) := by omega
    simp only [front, List.map_cons, e1, e2, ih, lift2]
theorem front_at (ss : List Int) (top b : Int) (h : b ≤ top ∨ True) : front top b ss = (front 0 0 ss).map (lift2 top b) := by
  have e := front_lift ss top b 0 0
  cases ss with
  | nil =>
    simp only [front, List.map_cons, List.map_nil, lift2]
    congr 2 <;> omega
  | cons s ss =>
    have e2 := front_lift ss top b (max 0 0) (0 + s)
    simp only [front, List.map_cons, lift2]
    congr 1
    · congr 1 <;> omega
    · have e3 : max top (b + max 0 0) = max top b := by omega
      rw [e3] at e2
      have e4 : b + (0 + s) = b + s := by omega
      rw [e4] at e2
      exact e2
/-- the greatest usage -/
def highs (top h : Int) : List Int → Int
  | [] => max top h
  | s :: ss => highs (max top h) (h + s) ss
theorem front_app : ∀ (as bs : List Int) (top h : Int) (p : P2), p ∈ front top h (as ++ bs) ↔ p ∈ front top h as ∨ p ∈ front (highs top h as) (h + as.sum) bs
  | [], bs, top, h, p => by
    cases bs with
    | nil => simp [front, highs]
    | cons b bs =>
      simp only [List.nil_append, front, highs, List.mem_cons, List.sum_nil, Int.add_zero, List.not_mem_nil, or_false]
      have e : max (max top h) h = max top h := by omega
      rw [e]
      constructor
      · rintro (h | h)
        · exact .inl h
        · exact .inr (.inr h)
      · rintro (h | h | h)
        · exact .inl h
        · exact .inl h
        · exact .inr h
  | a :: as, bs, top, h, p => by
    have ih := front_app as bs (max top h) (h + a) p
    simp only [List.cons_append, front, highs, List.mem_cons, List.sum_cons, ih]
    have e : h + a + as.sum = h + (a + as.sum) := by omega
    rw [e]
    constructor
    · rintro (h | h | h)
      · exact .inl (.inl h)
      · exact .inl (.inr h)
      · exact .inr h
    · rintro ((h | h) | h)
      · exact .inl h
      · exact .inr (.inl h)
      · exact .inr (.inr h)
theorem highs_max : ∀ (ss : List Int) (top h : Int), highs top h ss = max top (h + highs 0 0 ss)
  | [], top, h => by simp only [highs]; omega
  | s :: ss, top, h => by
    have i1 := highs_max ss (max top h) (h + s)
    have i2 := highs_max ss (max 0 0) (0 + s)
    simp only [highs, i1, i2]
    omega
theorem highs_app : ∀ (as bs : List Int) (top h : Int), highs top h (as ++ bs) = highs (highs top h as) (h + as.sum) bs
  | [], bs, top, h => by
    cases bs with
    | nil => simp [highs]
    | cons b bs =>
      simp only [List.nil_append, highs, List.sum_nil, Int.add_zero]
      congr 1
      omega
  | a :: as, bs, top, h => by
    have ih := highs_app as bs (max top h) (h + a)
    simp only [List.cons_append, highs, List.sum_cons, ih]
    congr 1
    omega
/-! from the end -/
abbrev bw (ss : List Int) : List Int := ss.reverse.map fun s => -s
theorem bw_cons (s : Int) (ss : List Int) : bw (s :: ss) = bw ss ++ [-s] := by simp [bw]
theorem bw_app (as bs : List Int) : bw (as ++ bs) = bw bs ++ bw as := by simp [bw]
theorem bw_sum : ∀ ss : List Int, (bw ss).sum = -ss.sum
  | [] => rfl
  | s :: ss => by
    rw [bw_cons, List.sum_append, bw_sum ss]
    simp only [List.sum_cons, List.sum_nil]
    omega
theorem highs_ge : ∀ (ss : List Int) (top h : Int), top ≤ highs top h ss ∧ h ≤ highs top h ss ∧ h + ss.sum ≤ highs top h ss
  | [], top, h => by simp only [highs, List.sum_nil]; omega
  | s :: ss, top, h => by
    have := highs_ge ss (max top h) (h + s)
    simp only [highs, List.sum_cons]
    omega
theorem highs_bw : ∀ ss : List Int, highs 0 0 (bw ss) = highs 0 0 ss - ss.sum
  | [] => by simp [bw, highs]
  | s :: ss => by
    have ih := highs_bw ss
    have h1 := highs_max ss (max 0 0) (0 + s)
    have h2 := highs_ge ss 0 0
    rw [bw_cons, highs_app, ih, bw_sum]
    simp only [highs, List.sum_cons, h1]
    omega
theorem front_max : ∀ (ss : List Int) (top h : Int), front (max top h) h ss = front top h ss
  | [], top, h => by
    have e : max (max top h) h = max top h := by omega
    simp only [front, e]
  | s :: ss, top, h => by
    have e : max (max top h) h = max top h := by omega
    simp only [front, e]
structure Prof (ss : List Int) (N p : Int) (S E : List P2) : Prop where
  net : N = ss.sum
  peak : p = highs 0 0 ss
  start : IsVal (front 0 0 ss) S
  fin : IsVal (front ss.sum ss.sum (bw ss)) E
theorem Prof.uniq {ss : List Int} {N p N' p' : Int} {S E S' E' : List P2} (h : Prof ss N p S E) (k : Prof ss N' p' S' E') : N = N' ∧ p = p' ∧ S = S' ∧ E = E' :=
  ⟨h.net.trans k.net.symm, h.peak.trans k.peak.symm, h.start.uniq k.start (Alike.refl _), h.fin.uniq k.fin (Alike.refl _)⟩
theorem prof_step (s : Int) : Prof [s] s (max 0 s) [(0, min 0 s)] [(s, min 0 s)] := by
  refine ⟨by simp, by simp only [highs]; omega, ⟨by simp, ?_, ?_⟩, ⟨by simp, ?_, ?_⟩⟩
  all_goals (simp only [bw, front, Covers, List.mem_cons, List.not_mem_nil, or_false, List.sum_cons, List.sum_nil, List.reverse_cons, List.reverse_nil, List.nil_append, List.map_cons, List.map_nil])
  · rintro v rfl
    by_cases h : s ≤ 0
    · right
      simp only [Prod.mk.injEq]
      omega
    · left
      simp only [Prod.mk.injEq]
      omega
  · rintro p (rfl | rfl)
    · exact ⟨_, rfl, by simp only [Dm]; omega⟩
    · exact ⟨_, rfl, by simp only [Dm]; omega⟩
  · rintro v rfl
    by_cases h : s ≤ 0
    · left
      simp only [Prod.mk.injEq]
      omega
    · right
      simp only [Prod.mk.injEq]
      omega
  · rintro p (rfl | rfl)
    · exact ⟨_, rfl, by simp only [Dm]; omega⟩
    · exact ⟨_, rfl, by simp only [Dm]; omega⟩
/-- one more part behind those before -/
theorem begin_more {cat ss : List Int} {O : List P2} {N p : Int} {S E : List P2} (h : Alike O (front 0 0 cat)) (k : Prof ss N p S E) :
    Alike (O ++ S.map (lift2 (highs 0 0 cat) cat.sum)) (front 0 0 (cat ++ ss)) := by
  have e1 : Alike (front 0 0 cat ++ front (highs 0 0 cat) cat.sum ss) (front 0 0 (cat ++ ss)) := Alike.of_mem fun p => by
    rw [List.mem_append, front_app, Int.zero_add]
  refine (h.append ?_).trans e1
  rw [front_at ss _ _ (.inr trivial)]
  exact k.start.alike.map _ (lift2_mono _ _)
theorem begin_peak {cat ss : List Int} {N p : Int} {S E : List P2} (k : Prof ss N p S E) : max (highs 0 0 cat) (cat.sum + p) = highs 0 0 (cat ++ ss) := by
  rw [highs_app, highs_max ss, k.peak, Int.zero_add]
/-- one more part in front of those behind -/
theorem end_more {m ss : List Int} {t : Int} {O : List P2} {N p : Int} {S E : List P2} (h : Alike O (front t t m)) (k : Prof ss N p S E) :
    Alike (O ++ E.map (lift2 (highs t t m) (t + m.sum - N))) (front t t (m ++ bw ss)) := by
  have e1 : Alike (front t t m ++ front (highs t t m) (t + m.sum) (bw ss)) (front t t (m ++ bw ss)) := Alike.of_mem fun p => by
    rw [List.mem_append, front_app]
  refine (h.append ?_).trans e1
  have e2 := front_lift (bw ss) (highs t t m) (t + m.sum - N) N N
  rw [show t + m.sum - N + N = t + m.sum by omega, front_max] at e2
  rw [e2]
  have := k.fin.alike
  rw [← k.net] at this
  exact this.map _ (lift2_mono _ _)
theorem end_peak {m ss : List Int} {t : Int} {N p : Int} {S E : List P2} (k : Prof ss N p S E) : max (highs t t m) (t + m.sum - N + p) = highs t t (m ++ bw ss) := by
  rw [highs_app, highs_max (bw ss), highs_bw, k.peak, k.net]
  omega
/-! the form of a profile -/
theorem front_ge : ∀ (ss : List Int) (top h : Int) (p : P2), p ∈ front top h ss → max top h ≤ p.1 ∧ p.2 ≤ p.1 ∧ p.1 ≤ highs top h ss
  | [], top, h, p, hp => by
    simp only [front, List.mem_singleton] at hp
    subst hp
    simp only [highs]
    omega
  | s :: ss, top, h, p, hp => by
    simp only [front, List.mem_cons] at hp
    simp only [highs]
    rcases hp with rfl | hp
    · have := highs_ge ss (max top h) (h + s)
      simp only
      omega
    · have := front_ge ss (max top h) (h + s) p hp
      omega
theorem front_first (ss : List Int) (top h : Int) : (max top h, h) ∈ front top h ss := by cases ss <;> simp [front]
def helds (h : Int) : List Int → List Int
  | [] => [h]
  | s :: ss => h :: helds (h + s) ss
theorem front_held : ∀ (ss : List Int) (top h : Int), (front top h ss).map (·.2) = helds h ss
  | [], _, _ => rfl
  | s :: ss, top, h => by simp only [front, helds, List.map_cons, front_held ss]
theorem helds_snoc : ∀ (ss : List Int) (h s : Int), helds h (ss ++ [s]) = helds h ss ++ [h + ss.sum + s]
  | [], h, s => by simp [helds]
  | a :: ss, h, s => by
    simp only [List.cons_append, helds, helds_snoc ss, List.sum_cons]
    congr 3
    omega
theorem helds_bw : ∀ (ss : List Int) (h : Int), helds (h + ss.sum) (bw ss) = (helds h ss).reverse
  | [], h => by simp [helds, bw]
  | s :: ss, h => by
    have ih := helds_bw ss (h + s)
    rw [bw_cons, helds_snoc, helds, List.reverse_cons, List.sum_cons, show h + (s + ss.sum) = h + s + ss.sum by omega, ih, bw_sum]
    congr 2
    omega
theorem IsVal.ne {P V : List P2} (h : IsVal P V) {p : P2} (hp : p ∈ P) : V ≠ [] := by
  rintro rfl
  obtain ⟨v, hv, _⟩ := h.cov p hp
  cases hv
theorem IsVal.first {P V : List P2} {p : P2} (h : IsVal P V) (hp : p ∈ P) (hl : ∀ q ∈ P, p.1 ≤ q.1) : ∃ l W, V = (p.1, l) :: W ∧ l ≤ p.2 := by
  obtain ⟨v, hv, e⟩ := h.cov p hp
  have hvp := hl v (h.sub v hv)
  cases V with
  | nil => cases hv
  | cons u W =>
    have su := List.pairwise_cons.mp h.strict
    have eu : u = v := by
      rcases List.mem_cons.mp hv with e2 | e2
      · exact e2.symm
      · have := su.1 v e2
        have := hl u (h.sub u (List.mem_cons_self ..))
        have := e.1
        omega
    subst eu
    have e1 : u.1 = p.1 := Int.le_antisymm e.1 hvp
    exact ⟨u.2, W, by rw [← e1], e.2⟩
theorem IsVal.low {P V : List P2} (h : IsVal P V) {v : P2} (hv : V.getLast? = some v) : v ∈ P ∧ ∀ p ∈ P, v.2 ≤ p.2 := by
  refine ⟨h.sub v (List.mem_of_getLast? hv), fun p hp => ?_⟩
  obtain ⟨u, hu, e⟩ := h.cov p hp
  have e2 := e.2
  rcases strict_last h.strict hv hu with rfl | h3
  · exact e2
  · omega
theorem Prof.same_low {ss : List Int} {N p : Int} {S E : List P2} (h : Prof ss N p S E) {u v : P2} (hu : S.getLast? = some u) (hv : E.getLast? = some v) : v.2 = u.2 := by
  obtain ⟨u1, u2⟩ := h.start.low hu
  obtain ⟨v1, v2⟩ := h.fin.low hv
  have hb := helds_bw ss 0
  rw [Int.zero_add] at hb
  have m1 : ∀ x, x ∈ (front 0 0 ss).map (·.2) ↔ x ∈ (front ss.sum ss.sum (bw ss)).map (·.2) := by
    intro x
    rw [front_held, front_held, hb, List.mem_reverse]
  obtain ⟨a, ha, e1⟩ := List.mem_map.mp ((m1 u.2).mp (List.mem_map.mpr ⟨u, u1, rfl⟩))
  obtain ⟨b, hb2, e2⟩ := List.mem_map.mp ((m1 v.2).mpr (List.mem_map.mpr ⟨v, v1, rfl⟩))
  have h1 := v2 a ha
  have h2 := u2 b hb2
  omega
theorem front_len : ∀ (ss : List Int) (top h : Int), (front top h ss).length = ss.length + 1
  | [], _, _ => rfl
  | s :: ss, top, h => by simp only [front, List.length_cons, front_len ss]
theorem nodup_len {α : Type} [DecidableEq α] : ∀ (V P : List α), V.Nodup → (∀ v ∈ V, v ∈ P) → V.length ≤ P.length
  | [], _, _, _ => Nat.zero_le _
  | v :: V, P, nd, h => by
    have nd' := List.nodup_cons.mp nd
    have hv := h v (List.mem_cons_self ..)
    have ih := nodup_len V (P.erase v) nd'.2 fun u hu => (List.mem_erase_of_ne (fun (e : u = v) => nd'.1 (by rw [← e]; exact hu))).mpr (h u (List.mem_cons_of_mem _ hu))
    have hp := List.length_pos_of_mem hv
    rw [List.length_erase_of_mem hv] at ih
    rw [List.length_cons]
    omega
theorem IsVal.len {P V : List P2} (h : IsVal P V) : V.length ≤ P.length := by
  have nd : V.Nodup := h.strict.imp fun {a b} e => by
    rintro rfl
    omega
  exact nodup_len V P nd h.sub
theorem front_bd {B : Int} : ∀ (ss : List Int) (top h C : Int), (∀ s ∈ ss, -B ≤ s ∧ s ≤ B) → 0 ≤ B → -C ≤ top → top ≤ C → -C ≤ h → h ≤ C → ∀ p ∈ front top h ss, (-(C + ss.length * B) ≤ p.1 ∧ p.1 ≤ C + ss.length * B) ∧ (-(C + ss.length * B) ≤ p.2 ∧ p.2 ≤ C + ss.length * B)
  | [], top, h, C, hs, hB, h1, h2, h3, h4, p, hp => by
    simp only [front, List.mem_singleton] at hp
    subst hp
    simp only [List.length_nil, Int.natCast_zero, Int.zero_mul]
    omega
  | s :: ss, top, h, C, hs, hB, h1, h2, h3, h4, p, hp => by
    have hs0 := hs s (List.mem_cons_self ..)
    have e : C + B + (ss.length : Int) * B = C + ((s :: ss).length : Int) * B := by
      rw [List.length_cons, Int.natCast_add, Int.add_mul]
      simp only [Int.natCast_one, Int.one_mul]
      omega
    have hn : 0 ≤ (ss.length : Int) * B := Int.mul_nonneg (by omega) hB
    simp only [front, List.mem_cons] at hp
    rw [← e]
    rcases hp with rfl | hp
    · simp only
      omega
    · exact front_bd ss (max top h) (h + s) (C + B) (fun x hx => hs x (List.mem_cons_of_mem _ hx)) hB (by omega) (by omega) (by omega) (by omega) p hp
end Lw
/-! Mx: max of four ints, and a for over what is a list or a tuple. -/
namespace Rp
open PySem L2 PyProof.Rows
theorem best_is (f : Nat → Int) : ∀ k : Nat, argBest (fun i j => decide (f i > f j)) k ≤ k ∧ ∀ i, i ≤ k → f i ≤ f (argBest (fun i j => decide (f i > f j)) k)
  | 0 => ⟨Nat.le_refl _, fun i hi => by
      have e : i = 0 := by omega
      rw [e]
      exact Int.le_refl _⟩
  | k + 1 => by
    obtain ⟨h1, h2⟩ := best_is f k
    by_cases g : f (k + 1) > f (argBest (fun i j => decide (f i > f j)) k)
    · have e : argBest (fun i j => decide (f i > f j)) (k + 1) = k + 1 := by simp [argBest, g]
      rw [e]
      refine ⟨Nat.le_refl _, fun i hi => ?_⟩
      by_cases z : i = k + 1
      · rw [z]
        exact Int.le_refl _
      · have := h2 i (by omega)
        omega
    · have e : argBest (fun i j => decide (f i > f j)) (k + 1) = argBest (fun i j => decide (f i > f j)) k := by simp [argBest, g]
      rw [e]
      refine ⟨by omega, fun i hi => ?_⟩
      by_cases z : i = k + 1
      · rw [z]
        omega
      · exact h2 i (by omega)
section
variable {prog : Program} {w : World} {A : Around} {E : Value → Shared → Prop} {s : Shared}
theorem max4_args (a b c d : Value) : argsOk "max" ⟨[a, b, c, d], []⟩ := by
  unfold argsOk
  kernel_rfl
theorem far1 {n : Nat} : n ≠ n + 1 := by omega
theorem far2 {n : Nat} : n + 1 + 1 ∉ [n + 1, n] := by simp; omega
theorem far3 {z n : Nat} (h : z < n) : z ∉ [n + 1] := by simp; omega
theorem far4 {z n : Nat} (h : z < n) : z ≠ n + 1 + 1 := by omega
/-- the greatest of four -/
theorem max4 {n : Nat → Int} {t : Nat → Tok} {Q : Value → Shared → Prop} (hh : A.handled = none)
    (h : ∀ (g : Heap) (tk : Nat) (k : Nat), k < 4 → (∀ i, i < 4 → n i ≤ n k) → (∀ z o, s.heap.get? z = some o → g.get? z = some o) → Q (.int (n k) (t k)) { s with heap := g, toks := tk }) :
    wpAny (model prog w) A (call (.builtin "max") [.int (n 0) (t 0), .int (n 1) (t 1), .int (n 2) (t 2), .int (n 3) (t 3)]) Q E s := by
  have nm : (toString "max" ++ toString ".loop" : String) = "max.loop" := by decide
  have at4 : ∀ i v, (#[Value.int (n 0) (t 0), .int (n 1) (t 1), .int (n 2) (t 2), .int (n 3) (t 3)] : Array Value)[i]? = some v → i < 4 ∧ v = .int (n i) (t i) := by
    intro i v e
    match i, e with
    | 0, e => exact ⟨by omega, by simpa using e.symm⟩
    | 1, e => exact ⟨by omega, by simpa using e.symm⟩
    | 2, e => exact ⟨by omega, by simpa using e.symm⟩
    | 3, e => exact ⟨by omega, by simpa using e.symm⟩
    | i + 4, e => simp at e
  have at4 : ∀ (arr : Array Value) (i : Nat) (v : Value), arr = #[Value.int (n 0) (t 0), .int (n 1) (t 1), .int (n 2) (t 2), .int (n 3) (t 3)] → arr[i]? = some v → i < 4 ∧ v = .int (n i) (t i) := fun arr i v e h => at4 i v (e ▸ h)
  have sz : ∀ arr : Array Value, (s.heap.push { cls := .type "tuple", data := .seq arr }).objs.size = s.heap.objs.size + 1 := fun _ => Heap.size_push ..
  have tup : ∀ arr : Array Value, (s.heap.push { cls := .type "tuple", data := .seq arr }).IsTuple s.heap.objs.size arr := fun arr => ⟨_, Heap.get?_push_size _ rfl, rfl, 0, rfl⟩
  have four : ∀ arr : Array Value, arr = #[Value.int (n 0) (t 0), .int (n 1) (t 1), .int (n 2) (t 2), .int (n 3) (t 3)] → arr.size = 4 := fun arr e => by rw [e]; rfl
  refine call_function_tree F.kind_max F.plain_max F.entry_max (max4_args _ _ _ _) (wpAny_bind (wpAny_of_eq (a := [none, none]) rfl ?_))
  refine wpAny_bind (M := model prog w) (A := A.in1) (m := newTuple [.int (n 0) (t 0), .int (n 1) (t 1), .int (n 2) (t 2), .int (n 3) (t 3)]) (wpAny_newObj_type ?_)
  generalize ea : ([Value.int (n 0) (t 0), .int (n 1) (t 1), .int (n 2) (t 2), .int (n 3) (t 3)] : List Value).toArray = arr
  have ea' := ea.symm
  refine wpAny_bind (wpAny_pyIter_tuple (tup arr) (wpAny_bind (wpAny_newObj_type ?_)))
  rw [nm]
  have W := Walks.tuple (prog := prog) (w := w) (A := A.in1) hh (s.heap.objs.size + 1) s.heap.objs.size far1 arr
  have i1 : (s.heap.push { cls := .type "tuple", data := .seq arr }).objs.size = s.heap.objs.size + 1 := sz arr
  have i2 : ((s.heap.push { cls := .type "tuple", data := .seq arr }).push { cls := .type "tuple_iterator", data := .fields #[.ref s.heap.objs.size, .int 0 0] }).objs.size = s.heap.objs.size + 1 + 1 := by
    rw [Heap.size_push, i1]
  dsimp only [Option.getD_none, Option.toList_none, List.map_nil]
  rw [i1, i2]
  have hit : ((s.heap.push { cls := .type "tuple", data := .seq arr }).push { cls := .type "tuple_iterator", data := .fields #[.ref s.heap.objs.size, .int 0 0] }).IsTupleIter (s.heap.objs.size + 1) s.heap.objs.size 0 :=
    ⟨_, by rw [← i1]; exact Heap.get?_push_size _ rfl, rfl, rfl⟩
  have ht2 := (tup arr).push { cls := .type "tuple_iterator", data := .fields #[.ref s.heap.objs.size, .int 0 0] }
  have hst := W.frame 0 _ _ ⟨hit, ht2⟩ fun b (_ : b ∈ [s.heap.objs.size + 1, s.heap.objs.size]) o e => Heap.get?_push_of_some { cls := .type "list", data := .seq #[] } e
  refine wpAny_pure ⟨plainId_quiet F.plain_max_loop _, codeAny_max_loop_first W _ (CmpOf.ints_gt n fun i v e => ⟨t i, (at4 arr i v ea' e).2⟩) (s.heap.objs.size + 1 + 1) far2 (by rw [four arr ea']; omega) hst (by rw [← i2]; exact Heap.get?_push_size _ rfl) fun v g tk hP hk => ?_⟩
  obtain ⟨b1, b2⟩ := best_is n 3
  rw [four arr ea'] at hP
  obtain ⟨k4, rfl⟩ := at4 arr _ v ea' hP
  refine h g tk _ k4 (fun i hi => b2 i (by omega)) fun z o e => ?_
  have hz := Heap.lt_size e
  refine hk z o (far3 hz) (far4 hz) (Heap.get?_push_of_some _ (Heap.get?_push_of_some _ (Heap.get?_push_of_some _ e)))
end
section
variable {X : Cx}
theorem call_max4 (hc : X.calm = true) : CallR X (.builtin "max") (fun xs H Q => ∃ a b c d : Int, xs = [.int a, .int b, .int c, .int d] ∧ ∀ m, m ∈ [a, b, c, d] → a ≤ m → b ≤ m → c ≤ m → d ≤ m → Q (.int m) H) := by
  intro pins s σ H xs us Q I r h
  obtain ⟨a, b, c, d, rfl, q⟩ := h
  cases r with
  | cons r1 r =>
  cases r with
  | cons r2 r =>
  cases r with
  | cons r3 r =>
  cases r with
  | cons r4 r =>
  cases r
  obtain ⟨t1, rfl⟩ := r1
  obtain ⟨t2, rfl⟩ := r2
  obtain ⟨t3, rfl⟩ := r3
  obtain ⟨t4, rfl⟩ := r4
  refine max4 (n := fun i => [a, b, c, d].getD i 0) (t := fun i => [t1, t2, t3, t4].getD i t1) (I.ok.hd hc) fun g tk k hk hm hold => ⟨.int ([a, b, c, d].getD k 0), H, I.kept hold, ⟨_, rfl⟩, ?_⟩
  have m0 := hm 0 (by omega)
  have m1 := hm 1 (by omega)
  have m2 := hm 2 (by omega)
  have m3 := hm 3 (by omega)
  refine q _ ?_ m0 m1 m2 m3
  match k, hk with
  | 0, _ => simp
  | 1, _ => simp
  | 2, _ => simp
  | 3, _ => simp
/-- a for over a list or a tuple -/
def iSeqA (K : PySem.W.Frag) (te : TE) : TI := fun σ H R => te σ H fun x H1 => ∃ a, x = .ref a ∧ (((∃ xs, SqL K H1 a xs) ∧ R (Itl K a) H1) ∨ ((∃ xs, SqT K H1 a xs) ∧ R (Itt K a) H1))
theorem pi_seqA {tg l : Expr} {te : TE} (hl : PE X l te) : PI X tg l (iSeqA X.K te) := by
  refine ⟨fun pins s σ H R I h => thn (hl.run pins s σ H _ I h) fun v s1 ⟨x, H1, I1, r1, a, e, q⟩ => ?_⟩
  subst e
  cases r1
  have fresh : ∀ b ∈ [s1.heap.objs.size], FpOk X pins H1 b := fun b hb => by
    rw [List.mem_singleton] at hb
    rw [hb]
    exact I1.fpOk (Nat.le_refl _) (I1.hok.fresh (Nat.le_refl _))
  rcases q with ⟨⟨xs, hx⟩, q⟩ | ⟨⟨xs, hx⟩, q⟩
  · obtain ⟨its, rv, p, hz⟩ := I1.list hx
    exact wpAny_pyIter_list p.isList ⟨_, [s1.heap.objs.size], _, _, H1, rfl, I1.kept (t' := s1.toks) fun b o e => Heap.get?_push_of_some _ e, turn_list a _, ⟨_, Heap.get?_push_size _ rfl, rfl, rfl⟩, fresh, q⟩
  · obtain ⟨its, rv, p, hz⟩ := I1.tuple hx
    exact wpAny_pyIter_tuple (items := its.toArray) p ⟨_, [s1.heap.objs.size], _, _, H1, rfl, I1.kept (t' := s1.toks) fun b o e => Heap.get?_push_of_some _ e, turn_tuple a _, ⟨_, Heap.get?_push_size _ rfl, rfl, rfl⟩, fresh, q⟩
end
/-- a list or a tuple with these items -/
def SeqA (K : PySem.W.Frag) (H : Hp) (a : Addr) (xs : List V) : Prop := SqL K H a xs ∨ SqT K H a xs
theorem SeqA.same {K : PySem.W.Frag} {H H' : Hp} {a : Addr} {xs : List V} (h : SeqA K H a xs) (s : Same H H') : SeqA K H' a xs := by
  rcases h with h | h
  · rcases h with (h | ⟨o, h⟩) | h
    · exact .inl (.inl (.inl (s _ _ h)))
    · exact .inl (.inl (.inr ⟨o, s _ _ h⟩))
    · exact .inl (.inr h)
  · exact .inr (same_sqT s h)
theorem walk_revT {K : PySem.W.Frag} {a : Addr} {xs : List V} : Walk (RT.ItvT K a xs.length) xs.length (fun H => SqT K H a xs) (fun i H x H' => H' = H ∧ xs[xs.length - 1 - i]? = some x) :=
  ⟨fun i H hi h => ⟨hi, xs, xs[xs.length - 1 - i]'(by omega), h, List.getElem?_eq_getElem (by omega)⟩, fun _ _ => Nat.le_refl _, fun i H x H' hi h y => ⟨y.1, y.2 xs h⟩⟩
theorem same_sqL {K : PySem.W.Frag} {H H' : Hp} {a : Addr} {xs : List V} (s : Same H H') (h : SqL K H a xs) : SqL K H' a xs := by
  rcases h with (h | ⟨o, h⟩) | h
  · exact .inl (.inl (s _ _ h))
  · exact .inl (.inr ⟨o, s _ _ h⟩)
  · exact .inr h
/-- what a for asks of what it walks -/
def ForR (g : TG) (tb : TS) (D : Ends) (σ : L2.St) (J : It) (H : Hp) : Prop := ∃ W : Nat → Nat → L2.St → Hp → Prop, (∃ m, W 0 m σ H) ∧ ∀ (i m : Nat) (σ : L2.St) (H : Hp), W i m σ H →
  (J.stop i H ∧ D.nx σ H) ∨ (J.go i H ∧ ∃ N : L2.St → Hp → Prop, (∀ (σ' : L2.St) (H' : Hp), N σ' H' → ∃ m', m' < m ∧ W (i + 1) m' σ' H') ∧ ∀ (x : V) (H' : Hp), J.yld i H x H' → g x σ H' fun σ2 H2 => tb { nx := N, rt := D.rt, bk := D.nx, ct := N } σ2 H2)
theorem for_seqA {K : PySem.W.Frag} {a : Addr} {xs : List V} {g : TG} {tb : TS} {D : Ends} {σ : L2.St} {Hb H : Hp} (h : SeqA K Hb a xs) (hb : Same Hb H) (Pv : Nat → L2.St → Hp → Prop) (h0 : Pv 0 σ H)
    (hs : ∀ (i : Nat) (σ : L2.St) (H' : Hp), i ≤ xs.length → Pv i σ H' → Same Hb H')
    (step : ∀ (i : Nat) (x : V) (σ : L2.St) (H' : Hp), xs[i]? = some x → Pv i σ H' → g x σ H' fun σ2 H2 => tb { nx := Pv (i + 1), rt := D.rt, bk := D.nx, ct := Pv (i + 1) } σ2 H2)
    (fin : ∀ (σ : L2.St) (H' : Hp), Pv xs.length σ H' → D.nx σ H') : ((∃ xs, SqL K H a xs) ∧ ForR g tb D σ (Itl K a) H) ∨ ((∃ xs, SqT K H a xs) ∧ ForR g tb D σ (Itt K a) H) := by
  rcases h with h | h
  · exact .inl ⟨⟨xs, same_sqL hb h⟩, for_it (walk_list (xs := xs)) Pv h0 (fun i σ H' hi p => same_sqL (hs i σ H' hi p) h) (fun i x σ H1 H2 hi p y => by obtain ⟨rfl, y⟩ := y; exact step i x σ _ y p) fin⟩
  · exact .inr ⟨⟨xs, same_sqT hb h⟩, for_it (walk_tup (xs := xs)) Pv h0 (fun i σ H' hi p => same_sqT (hs i σ H' hi p) h) (fun i x σ H1 H2 hi p y => by obtain ⟨rfl, y⟩ := y; exact step i x σ _ y p) fin⟩
theorem for_revA {K : PySem.W.Frag} {a : Addr} {xs : List V} {g : TG} {tb : TS} {D : Ends} {σ : L2.St} {Hb H : Hp} (h : SeqA K Hb a xs) (hb : Same Hb H) (Pv : Nat → L2.St → Hp → Prop) (h0 : Pv 0 σ H)
    (hs : ∀ (i : Nat) (σ : L2.St) (H' : Hp), i ≤ xs.length → Pv i σ H' → Same Hb H')
    (step : ∀ (i : Nat) (x : V) (σ : L2.St) (H' : Hp), i < xs.length → xs[xs.length - 1 - i]? = some x → Pv i σ H' → g x σ H' fun σ2 H2 => tb { nx := Pv (i + 1), rt := D.rt, bk := D.nx, ct := Pv (i + 1) } σ2 H2)
    (fin : ∀ (σ : L2.St) (H' : Hp), Pv xs.length σ H' → D.nx σ H') : (SqL K H a xs ∧ ForR g tb D σ (Itv K a xs.length) H) ∨ (SqT K H a xs ∧ ForR g tb D σ (RT.ItvT K a xs.length) H) := by
  rcases h with h | h
  · exact .inl ⟨same_sqL hb h, for_it (walk_rev (xs := xs)) Pv h0 (fun i σ H' hi p => same_sqL (hs i σ H' hi p) h) (fun i x σ H1 H2 hi p y => by obtain ⟨rfl, y⟩ := y; exact step i x σ _ hi y p) fin⟩
  · exact .inr ⟨same_sqT hb h, for_it (walk_revT (xs := xs)) Pv h0 (fun i σ H' hi p => same_sqT (hs i σ H' hi p) h) (fun i x σ H1 H2 hi p y => by obtain ⟨rfl, y⟩ := y; exact step i x σ _ hi y p) fin⟩
theorem walk_zipT2 {K : PySem.W.Frag} {a b : Addr} {xs ys : List V} {n : Nat} (hn : n = min xs.length ys.length) : Walk (RZ.ItzT K a b) n (fun H => SqT K H a xs ∧ SqT K H b ys) (YPair (fun i => xs[i]?) (fun i => ys[i]?)) := by
  subst hn
  refine ⟨fun i H hi h => ?_, fun H h => ⟨xs, ys, h.1, h.2, by omega⟩, fun i H v H' hi h y => ?_⟩
  · have l1 : i < xs.length := by omega
    have l2 : i < ys.length := by omega
    exact ⟨xs, ys, xs[i], ys[i], h.1, h.2, List.getElem?_eq_getElem l1, List.getElem?_eq_getElem l2⟩
  · obtain ⟨T, x, z, rfl, hT, rfl, f1, f2⟩ := y
    exact ⟨T, x, z, rfl, hT, rfl, f1 xs h.1, f2 ys h.2⟩
end Rp
namespace Lw
open PySem L2 Rp
local macro_rules | `(tactic| walk_at "rd") => `(tactic| repeat (first | refine ⟨_, rfl, ?_⟩ | refine ⟨_, _, rfl, rfl, ?_⟩))
def top (i : Nat) : Stmt := PySem.Challenge.pw_roomprofile_k25_steps_in_sequence.main.body.getD i (.Pass ⟨0, 0, 0, 0⟩)
abbrev s_is_integer : Stmt := top 9
abbrev N_is_integer : List Str := ["value"]
theorem sc_is_integer : FnScope N_is_integer ["value"] (defScope s_is_integer) := ⟨rfl, rfl, rfl, by decide +kernel, rfl, by decide +kernel, by decide +kernel⟩
abbrev s_is_within : Stmt := top 10
abbrev N_is_within : List Str := ["value", "least", "greatest"]
theorem sc_is_within : FnScope N_is_within ["value", "least", "greatest"] (defScope s_is_within) := ⟨rfl, rfl, rfl, by decide +kernel, rfl, by decide +kernel, by decide +kernel⟩
abbrev s_is_short_integer : Stmt := top 11
abbrev N_is_short_integer : List Str := ["value"]
theorem sc_is_short_integer : FnScope N_is_short_integer ["value"] (defScope s_is_short_integer) := ⟨rfl, rfl, rfl, by decide +kernel, rfl, by decide +kernel, by decide +kernel⟩
abbrev s_check_number : Stmt := top 12
abbrev N_check_number : List Str := ["value"]
theorem sc_check_number : FnScope N_check_number ["value"] (defScope s_check_number) := ⟨rfl, rfl, rfl, by decide +kernel, rfl, by decide +kernel, by decide +kernel⟩
abbrev s_joint_pairs : Stmt := top 15
abbrev N_joint_pairs : List Str := ["parts", "descent", "pairs", "capacity"]
theorem sc_joint_pairs : FnScope N_joint_pairs ["parts"] (defScope s_joint_pairs) := ⟨rfl, rfl, rfl, by decide +kernel, rfl, by decide +kernel, by decide +kernel⟩
abbrev s_is_valleys : Stmt := top 18
abbrev N_is_valleys : List Str := ["value", "pair", "left", "right"]
theorem sc_is_valleys : FnScope N_is_valleys ["value"] (defScope s_is_valleys) := ⟨rfl, rfl, rfl, by decide +kernel, rfl, by decide +kernel, by decide +kernel⟩
abbrev s_is_start_valleys : Stmt := top 19
abbrev N_is_start_valleys : List Str := ["value"]
theorem sc_is_start_valleys : FnScope N_is_start_valleys ["value"] (defScope s_is_start_valleys) := ⟨rfl, rfl, rfl, by decide +kernel, rfl, by decide +kernel, by decide +kernel⟩
abbrev s_least_usages : Stmt := top 20
abbrev N_least_usages : List Str := ["pairs", "rows", "capacity", "low"]
theorem sc_least_usages : FnScope N_least_usages ["pairs"] (defScope s_least_usages) := ⟨rfl, rfl, rfl, by decide +kernel, rfl, by decide +kernel, by decide +kernel⟩
abbrev s_moved : Stmt := top 21
abbrev N_moved : List Str := ["pairs", "capacity", "low", "pair"]
theorem sc_moved : FnScope N_moved ["pairs", "capacity", "low"] (defScope s_moved) := ⟨rfl, rfl, rfl, by decide +kernel, rfl, by decide +kernel, by decide +kernel⟩
abbrev s_checked_length : Stmt := top 22
abbrev N_checked_length : List Str := ["pairs"]
theorem sc_checked_length : FnScope N_checked_length ["pairs"] (defScope s_checked_length) := ⟨rfl, rfl, rfl, by decide +kernel, rfl, by decide +kernel, by decide +kernel⟩
abbrev s__is_pair : Stmt := top 23
abbrev N__is_pair : List Str := ["value"]
theorem sc__is_pair : FnScope N__is_pair ["value"] (defScope s__is_pair) := ⟨rfl, rfl, rfl, by decide +kernel, rfl, by decide +kernel, by decide +kernel⟩
abbrev s_has_profile_form : Stmt := top 27
abbrev N_has_profile_form : List Str := ["value", "net", "peak", "start", "end"]
theorem sc_has_profile_form : FnScope N_has_profile_form ["value"] (defScope s_has_profile_form) := ⟨rfl, rfl, rfl, by decide +kernel, rfl, by decide +kernel, by decide +kernel⟩
abbrev s_check_profile : Stmt := top 28
abbrev N_check_profile : List Str := ["value"]
theorem sc_check_profile : FnScope N_check_profile ["value"] (defScope s_check_profile) := ⟨rfl, rfl, rfl, by decide +kernel, rfl, by decide +kernel, by decide +kernel⟩
abbrev s_check_profiles : Stmt := top 29
abbrev N_check_profiles : List Str := ["profiles", "value"]
theorem sc_check_profiles : FnScope N_check_profiles ["profiles"] (defScope s_check_profiles) := ⟨rfl, rfl, rfl, by decide +kernel, rfl, by decide +kernel, by decide +kernel⟩
abbrev s_checked_profile : Stmt := top 30
abbrev N_checked_profile : List Str := ["profile", "net", "peak", "start", "end"]
theorem sc_checked_profile : FnScope N_checked_profile ["profile"] (defScope s_checked_profile) := ⟨rfl, rfl, rfl, by decide +kernel, rfl, by decide +kernel, by decide +kernel⟩
abbrev s_step_profile : Stmt := top 32
abbrev N_step_profile : List Str := ["value"]
theorem sc_step_profile : FnScope N_step_profile ["value"] (defScope s_step_profile) := ⟨rfl, rfl, rfl, by decide +kernel, rfl, by decide +kernel, by decide +kernel⟩
abbrev s_seq_profiles : Stmt := top 33
abbrev N_seq_profiles : List Str := ["profiles"]
theorem sc_seq_profiles : FnScope N_seq_profiles ["profiles"] (defScope s_seq_profiles) := ⟨rfl, rfl, rfl, by decide +kernel, rfl, by decide +kernel, by decide +kernel⟩
abbrev s_of_step : Stmt := top 34
abbrev N_of_step : List Str := ["step", "low"]
theorem sc_of_step : FnScope N_of_step ["step"] (defScope s_of_step) := ⟨rfl, rfl, rfl, by decide +kernel, rfl, by decide +kernel, by decide +kernel⟩
abbrev s_in_sequence : Stmt := top 35
abbrev N_in_sequence : List Str := ["profiles", "total", "peak", "starts", "ends"]
theorem sc_in_sequence : FnScope N_in_sequence ["profiles"] (defScope s_in_sequence) := ⟨rfl, rfl, rfl, by decide +kernel, rfl, by decide +kernel, by decide +kernel⟩
abbrev s__from_begin : Stmt := top 36
abbrev N__from_begin : List Str := ["profiles", "before", "peak", "offers", "net", "part_peak", "start", "_", "capacity", "low"]
theorem sc__from_begin : FnScope N__from_begin ["profiles"] (defScope s__from_begin) := ⟨rfl, rfl, rfl, by decide +kernel, rfl, by decide +kernel, by decide +kernel⟩
abbrev s__from_end : Stmt := top 37
abbrev N__from_end : List Str := ["profiles", "total", "before", "peak", "offers", "net", "part_peak", "_", "end", "capacity", "low"]
theorem sc__from_end : FnScope N__from_end ["profiles", "total"] (defScope s__from_end) := ⟨rfl, rfl, rfl, by decide +kernel, rfl, by decide +kernel, by decide +kernel⟩
abbrev s_checked_sizes : Stmt := top 44
abbrev N_checked_sizes : List Str := ["job", "sizes"]
theorem sc_checked_sizes : FnScope N_checked_sizes ["job"] (defScope s_checked_sizes) := ⟨rfl, rfl, rfl, by decide +kernel, rfl, by decide +kernel, by decide +kernel⟩
abbrev s_steps_of_leaf : Stmt := top 45
abbrev N_steps_of_leaf : List Str := ["value"]
theorem sc_steps_of_leaf : FnScope N_steps_of_leaf ["value"] (defScope s_steps_of_leaf) := ⟨rfl, rfl, rfl, by decide +kernel, rfl, by decide +kernel, by decide +kernel⟩
abbrev s_sizes_of : Stmt := top 46
abbrev N_sizes_of : List Str := ["value", "leaf_steps"]
theorem sc_sizes_of : FnScope N_sizes_of ["value", "leaf_steps"] (defScope s_sizes_of) := ⟨rfl, rfl, rfl, by decide +kernel, rfl, by decide +kernel, by decide +kernel⟩
abbrev s__sizes : Stmt := top 47
abbrev N__sizes : List Str := ["value", "leaf_steps", "room", "levels", "steps"]
theorem sc__sizes : FnScope N__sizes ["value", "leaf_steps", "room", "levels"] (defScope s__sizes) := ⟨rfl, rfl, rfl, by decide +kernel, rfl, by decide +kernel, by decide +kernel⟩
abbrev s__sizes_of_parts : Stmt := top 48
abbrev N__sizes_of_parts : List Str := ["parts", "leaf_steps", "room", "levels", "nodes", "steps", "part", "sizes"]
theorem sc__sizes_of_parts : FnScope N__sizes_of_parts ["parts", "leaf_steps", "room", "levels"] (defScope s__sizes_of_parts) := ⟨rfl, rfl, rfl, by decide +kernel, rfl, by decide +kernel, by decide +kernel⟩
abbrev s__sizes_of_rounds : Stmt := top 49
abbrev N__sizes_of_rounds : List Str := ["n", "inner", "leaf_steps", "room", "levels", "sizes"]
theorem sc__sizes_of_rounds : FnScope N__sizes_of_rounds ["n", "inner", "leaf_steps", "room", "levels"] (defScope s__sizes_of_rounds) := ⟨rfl, rfl, rfl, by decide +kernel, rfl, by decide +kernel, by decide +kernel⟩
abbrev s__within_count : Stmt := top 50
abbrev N__within_count : List Str := ["nodes", "steps"]
theorem sc__within_count : FnScope N__within_count ["nodes", "steps"] (defScope s__within_count) := ⟨rfl, rfl, rfl, by decide +kernel, rfl, by decide +kernel, by decide +kernel⟩
abbrev s_in_parallel : Stmt := top 52
abbrev N_in_parallel : List Str := ["profiles", "total", "starts", "mirror_starts", "ends", "part"]
theorem sc_in_parallel : FnScope N_in_parallel ["profiles"] (defScope s_in_parallel) := ⟨rfl, rfl, rfl, by decide +kernel, rfl, by decide +kernel, by decide +kernel⟩
abbrev s__least_peak : Stmt := top 53
abbrev N__least_peak : List Str := ["profiles", "starts", "ends", "lowest", "peaks", "part"]
theorem sc__least_peak : FnScope N__least_peak ["profiles", "starts", "ends"] (defScope s__least_peak) := ⟨rfl, rfl, rfl, by decide +kernel, rfl, by decide +kernel, by decide +kernel⟩
abbrev s_in_rounds : Stmt := top 55
abbrev N_in_rounds : List Str := ["count", "profile", "net", "peak", "start", "end", "more", "bottom", "ends"]
theorem sc_in_rounds : FnScope N_in_rounds ["count", "profile"] (defScope s_in_rounds) := ⟨rfl, rfl, rfl, by decide +kernel, rfl, by decide +kernel, by decide +kernel⟩
abbrev s_in_copies : Stmt := top 56
abbrev N_in_copies : List Str := ["count", "profile", "net", "peak", "start", "end", "total", "starts", "ends", "highest"]
theorem sc_in_copies : FnScope N_in_copies ["count", "profile"] (defScope s_in_copies) := ⟨rfl, rfl, rfl, by decide +kernel, rfl, by decide +kernel, by decide +kernel⟩
abbrev s__joint_copies : Stmt := top 57
abbrev N__joint_copies : List Str := ["count", "start", "capacity", "pairs", "before", "after"]
theorem sc__joint_copies : FnScope N__joint_copies ["count", "start"] (defScope s__joint_copies) := ⟨rfl, rfl, rfl, by decide +kernel, rfl, by decide +kernel, by decide +kernel⟩
abbrev s_composed : Stmt := top 59
abbrev N_composed : List Str := ["kind", "profiles"]
theorem sc_composed : FnScope N_composed ["kind", "profiles"] (defScope s_composed) := ⟨rfl, rfl, rfl, by decide +kernel, rfl, by decide +kernel, by decide +kernel⟩
abbrev s_multiplied : Stmt := top 60
abbrev N_multiplied : List Str := ["kind", "count", "profile"]
theorem sc_multiplied : FnScope N_multiplied ["kind", "count", "profile"] (defScope s_multiplied) := ⟨rfl, rfl, rfl, by decide +kernel, rfl, by decide +kernel, by decide +kernel⟩
abbrev s_job_profile : Stmt := top 61
abbrev N_job_profile : List Str := ["job", "part"]
theorem sc_job_profile : FnScope N_job_profile ["job"] (defScope s_job_profile) := ⟨rfl, rfl, rfl, by decide +kernel, rfl, by decide +kernel, by decide +kernel⟩
abbrev s_profile : Stmt := top 63
abbrev N_profile : List Str := ["job"]
theorem sc_profile : FnScope N_profile ["job"] (defScope s_profile) := ⟨rfl, rfl, rfl, by decide +kernel, rfl, by decide +kernel, by decide +kernel⟩
abbrev s__law_source : Stmt := top 65
abbrev N__law_source : List Str := ["_law_script", "_law_at", "_law_cell", "_law_size", "_law_mixed"]
theorem sc__law_source : FnScope N__law_source ["_law_script", "_law_at"] (defScope s__law_source) := ⟨rfl, rfl, rfl, by decide +kernel, rfl, by decide +kernel, by decide +kernel⟩
abbrev s__law_draw : Stmt := top 66
abbrev N__law_draw : List Str := ["_law_source_here", "_law_many", "_law_found", "_law_one", "_law_two"]
theorem sc__law_draw : FnScope N__law_draw ["_law_source_here", "_law_many"] (defScope s__law_draw) := ⟨rfl, rfl, rfl, by decide +kernel, rfl, by decide +kernel, by decide +kernel⟩
abbrev s__law_great : Stmt := top 67
abbrev N__law_great : List Str := ["_law_source_here", "_law_many", "_law_found", "_law_turn"]
theorem sc__law_great : FnScope N__law_great ["_law_source_here", "_law_many"] (defScope s__law_great) := ⟨rfl, rfl, rfl, by decide +kernel, rfl, by decide +kernel, by decide +kernel⟩
abbrev s__law_step : Stmt := top 68
abbrev N__law_step : List Str := ["_law_source_here", "_law_way", "_law_some"]
theorem sc__law_step : FnScope N__law_step ["_law_source_here"] (defScope s__law_step) := ⟨rfl, rfl, rfl, by decide +kernel, rfl, by decide +kernel, by decide +kernel⟩
abbrev s__law_valleys : Stmt := top 69
abbrev N__law_valleys : List Str := ["_law_pairs", "_law_found", "_law_bound", "_law_held"]
theorem sc__law_valleys : FnScope N__law_valleys ["_law_pairs"] (defScope s__law_valleys) := ⟨rfl, rfl, rfl, by decide +kernel, rfl, by decide +kernel, by decide +kernel⟩
abbrev s__law_due : Stmt := top 70
abbrev N__law_due : List Str := ["_law_steps", "_law_helds", "_law_step_here", "_law_front", "_law_back", "_law_high", "_law_held", "_law_top"]
theorem sc__law_due : FnScope N__law_due ["_law_steps"] (defScope s__law_due) := ⟨rfl, rfl, rfl, by decide +kernel, rfl, by decide +kernel, by decide +kernel⟩
abbrev s__law_long_step : Stmt := top 71
abbrev N__law_long_step : List Str := ["_law_source_here", "_law_some"]
theorem sc__law_long_step : FnScope N__law_long_step ["_law_source_here"] (defScope s__law_long_step) := ⟨rfl, rfl, rfl, by decide +kernel, rfl, by decide +kernel, by decide +kernel⟩
abbrev s__law_long_right : Stmt := top 72
abbrev N__law_long_right : List Str := ["_law_source_here", "_law_steps", "_law_single", "_law_step_here"]
theorem sc__law_long_right : FnScope N__law_long_right ["_law_source_here"] (defScope s__law_long_right) := ⟨rfl, rfl, rfl, by decide +kernel, rfl, by decide +kernel, by decide +kernel⟩
abbrev s_law : Stmt := top 73
abbrev N_law : List Str := ["_law_script", "_law_empty", "_law_at", "_law_source_here", "_law_steps", "_law_due_here", "_law_single", "_law_cut", "_law_halves", "_law_told", "_law_turn", "_law_step_here", "_law_one"]
theorem sc_law : FnScope N_law ["_law_script"] (defScope s_law) := ⟨rfl, rfl, rfl, by decide +kernel, rfl, by decide +kernel, by decide +kernel⟩
structure Txt (K : PySem.W.Frag) (mg : Str → Option Value) where
  f_is_integer : Addr
  d_is_integer : FuncData
  F_is_integer : Fun K "is_integer" "is_integer" s_is_integer f_is_integer d_is_integer
  b_is_integer : Binds K d_is_integer ["value"] []
  m_is_integer : mg "is_integer" = some (.ref f_is_integer)
  f_is_within : Addr
  d_is_within : FuncData
  F_is_within : Fun K "is_within" "is_within" s_is_within f_is_within d_is_within
  b_is_within : Binds K d_is_within ["value", "least", "greatest"] []
  m_is_within : mg "is_within" = some (.ref f_is_within)
  f_is_short_integer : Addr
  d_is_short_integer : FuncData
  F_is_short_integer : Fun K "is_short_integer" "is_short_integer" s_is_short_integer f_is_short_integer d_is_short_integer
  b_is_short_integer : Binds K d_is_short_integer ["value"] []
  m_is_short_integer : mg "is_short_integer" = some (.ref f_is_short_integer)
  f_check_number : Addr
  d_check_number : FuncData
  F_check_number : Fun K "check_number" "check_number" s_check_number f_check_number d_check_number
  b_check_number : Binds K d_check_number ["value"] []
  m_check_number : mg "check_number" = some (.ref f_check_number)
  f_joint_pairs : Addr
  d_joint_pairs : FuncData
  F_joint_pairs : Fun K "joint_pairs" "joint_pairs" s_joint_pairs f_joint_pairs d_joint_pairs
  b_joint_pairs : Binds K d_joint_pairs ["parts"] []
  m_joint_pairs : mg "joint_pairs" = some (.ref f_joint_pairs)
  f_is_valleys : Addr
  d_is_valleys : FuncData
  F_is_valleys : Fun K "is_valleys" "is_valleys" s_is_valleys f_is_valleys d_is_valleys
  b_is_valleys : Binds K d_is_valleys ["value"] []
  m_is_valleys : mg "is_valleys" = some (.ref f_is_valleys)
  f_is_start_valleys : Addr
  d_is_start_valleys : FuncData
  F_is_start_valleys : Fun K "is_start_valleys" "is_start_valleys" s_is_start_valleys f_is_start_valleys d_is_start_valleys
  b_is_start_valleys : Binds K d_is_start_valleys ["value"] []
  m_is_start_valleys : mg "is_start_valleys" = some (.ref f_is_start_valleys)
  f_least_usages : Addr
  d_least_usages : FuncData
  F_least_usages : Fun K "least_usages" "least_usages" s_least_usages f_least_usages d_least_usages
  b_least_usages : Binds K d_least_usages ["pairs"] []
  m_least_usages : mg "least_usages" = some (.ref f_least_usages)
  f_moved : Addr
  d_moved : FuncData
  F_moved : Fun K "moved" "moved" s_moved f_moved d_moved
  b_moved : Binds K d_moved ["pairs", "capacity", "low"] []
  m_moved : mg "moved" = some (.ref f_moved)
  f_checked_length : Addr
  d_checked_length : FuncData
  F_checked_length : Fun K "checked_length" "checked_length" s_checked_length f_checked_length d_checked_length
  b_checked_length : Binds K d_checked_length ["pairs"] []
  m_checked_length : mg "checked_length" = some (.ref f_checked_length)
  f__is_pair : Addr
  d__is_pair : FuncData
  F__is_pair : Fun K "_is_pair" "_is_pair" s__is_pair f__is_pair d__is_pair
  b__is_pair : Binds K d__is_pair ["value"] []
  m__is_pair : mg "_is_pair" = some (.ref f__is_pair)
  f_has_profile_form : Addr
  d_has_profile_form : FuncData
  F_has_profile_form : Fun K "has_profile_form" "has_profile_form" s_has_profile_form f_has_profile_form d_has_profile_form
  b_has_profile_form : Binds K d_has_profile_form ["value"] []
  m_has_profile_form : mg "has_profile_form" = some (.ref f_has_profile_form)
  f_check_profile : Addr
  d_check_profile : FuncData
  F_check_profile : Fun K "check_profile" "check_profile" s_check_profile f_check_profile d_check_profile
  b_check_profile : Binds K d_check_profile ["value"] []
  m_check_profile : mg "check_profile" = some (.ref f_check_profile)
  f_check_profiles : Addr
  d_check_profiles : FuncData
  F_check_profiles : Fun K "check_profiles" "check_profiles" s_check_profiles f_check_profiles d_check_profiles
  b_check_profiles : Binds K d_check_profiles ["profiles"] []
  m_check_profiles : mg "check_profiles" = some (.ref f_check_profiles)
  f_checked_profile : Addr
  d_checked_profile : FuncData
  F_checked_profile : Fun K "checked_profile" "checked_profile" s_checked_profile f_checked_profile d_checked_profile
  b_checked_profile : Binds K d_checked_profile ["profile"] []
  m_checked_profile : mg "checked_profile" = some (.ref f_checked_profile)
  f_step_profile : Addr
  d_step_profile : FuncData
  F_step_profile : Fun K "step_profile" "step_profile" s_step_profile f_step_profile d_step_profile
  b_step_profile : Binds K d_step_profile ["value"] []
  m_step_profile : mg "step_profile" = some (.ref f_step_profile)
  f_seq_profiles : Addr
  d_seq_profiles : FuncData
  F_seq_profiles : Fun K "seq_profiles" "seq_profiles" s_seq_profiles f_seq_profiles d_seq_profiles
  b_seq_profiles : Binds K d_seq_profiles ["profiles"] []
  m_seq_profiles : mg "seq_profiles" = some (.ref f_seq_profiles)
  f_of_step : Addr
  d_of_step : FuncData
  F_of_step : Fun K "of_step" "of_step" s_of_step f_of_step d_of_step
  b_of_step : Binds K d_of_step ["step"] []
  m_of_step : mg "of_step" = some (.ref f_of_step)
  f_in_sequence : Addr
  d_in_sequence : FuncData
  F_in_sequence : Fun K "in_sequence" "in_sequence" s_in_sequence f_in_sequence d_in_sequence
  b_in_sequence : Binds K d_in_sequence ["profiles"] []
  m_in_sequence : mg "in_sequence" = some (.ref f_in_sequence)
  f__from_begin : Addr
  d__from_begin : FuncData
  F__from_begin : Fun K "_from_begin" "_from_begin" s__from_begin f__from_begin d__from_begin
  b__from_begin : Binds K d__from_begin ["profiles"] []
  m__from_begin : mg "_from_begin" = some (.ref f__from_begin)
  f__from_end : Addr
  d__from_end : FuncData
  F__from_end : Fun K "_from_end" "_from_end" s__from_end f__from_end d__from_end
  b__from_end : Binds K d__from_end ["profiles", "total"] []
  m__from_end : mg "_from_end" = some (.ref f__from_end)
  f_checked_sizes : Addr
  d_checked_sizes : FuncData
  F_checked_sizes : Fun K "checked_sizes" "checked_sizes" s_checked_sizes f_checked_sizes d_checked_sizes
  b_checked_sizes : Binds K d_checked_sizes ["job"] []
  m_checked_sizes : mg "checked_sizes" = some (.ref f_checked_sizes)
  f_steps_of_leaf : Addr
  d_steps_of_leaf : FuncData
  F_steps_of_leaf : Fun K "steps_of_leaf" "steps_of_leaf" s_steps_of_leaf f_steps_of_leaf d_steps_of_leaf
  b_steps_of_leaf : Binds K d_steps_of_leaf ["value"] []
  m_steps_of_leaf : mg "steps_of_leaf" = some (.ref f_steps_of_leaf)
  f_sizes_of : Addr
  d_sizes_of : FuncData
  F_sizes_of : Fun K "sizes_of" "sizes_of" s_sizes_of f_sizes_of d_sizes_of
  b_sizes_of : Binds K d_sizes_of ["value", "leaf_steps"] []
  m_sizes_of : mg "sizes_of" = some (.ref f_sizes_of)
  f__sizes : Addr
  d__sizes : FuncData
  F__sizes : Fun K "_sizes" "_sizes" s__sizes f__sizes d__sizes
  b__sizes : Binds K d__sizes ["value", "leaf_steps", "room", "levels"] []
  m__sizes : mg "_sizes" = some (.ref f__sizes)
  f__sizes_of_parts : Addr
  d__sizes_of_parts : FuncData
  F__sizes_of_parts : Fun K "_sizes_of_parts" "_sizes_of_parts" s__sizes_of_parts f__sizes_of_parts d__sizes_of_parts
  b__sizes_of_parts : Binds K d__sizes_of_parts ["parts", "leaf_steps", "room", "levels"] []
  m__sizes_of_parts : mg "_sizes_of_parts" = some (.ref f__sizes_of_parts)
  f__sizes_of_rounds : Addr
  d__sizes_of_rounds : FuncData
  F__sizes_of_rounds : Fun K "_sizes_of_rounds" "_sizes_of_rounds" s__sizes_of_rounds f__sizes_of_rounds d__sizes_of_rounds
  b__sizes_of_rounds : Binds K d__sizes_of_rounds ["n", "inner", "leaf_steps", "room", "levels"] []
  m__sizes_of_rounds : mg "_sizes_of_rounds" = some (.ref f__sizes_of_rounds)
  f__within_count : Addr
  d__within_count : FuncData
  F__within_count : Fun K "_within_count" "_within_count" s__within_count f__within_count d__within_count
  b__within_count : Binds K d__within_count ["nodes", "steps"] []
  m__within_count : mg "_within_count" = some (.ref f__within_count)
  f_in_parallel : Addr
  d_in_parallel : FuncData
  F_in_parallel : Fun K "in_parallel" "in_parallel" s_in_parallel f_in_parallel d_in_parallel
  b_in_parallel : Binds K d_in_parallel ["profiles"] []
  m_in_parallel : mg "in_parallel" = some (.ref f_in_parallel)
  f__least_peak : Addr
  d__least_peak : FuncData
  F__least_peak : Fun K "_least_peak" "_least_peak" s__least_peak f__least_peak d__least_peak
  b__least_peak : Binds K d__least_peak ["profiles", "starts", "ends"] []
  m__least_peak : mg "_least_peak" = some (.ref f__least_peak)
  f_in_rounds : Addr
  d_in_rounds : FuncData
  F_in_rounds : Fun K "in_rounds" "in_rounds" s_in_rounds f_in_rounds d_in_rounds
  b_in_rounds : Binds K d_in_rounds ["count", "profile"] []
  m_in_rounds : mg "in_rounds" = some (.ref f_in_rounds)
  f_in_copies : Addr
  d_in_copies : FuncData
  F_in_copies : Fun K "in_copies" "in_copies" s_in_copies f_in_copies d_in_copies
  b_in_copies : Binds K d_in_copies ["count", "profile"] []
  m_in_copies : mg "in_copies" = some (.ref f_in_copies)
  f__joint_copies : Addr
  d__joint_copies : FuncData
  F__joint_copies : Fun K "_joint_copies" "_joint_copies" s__joint_copies f__joint_copies d__joint_copies
  b__joint_copies : Binds K d__joint_copies ["count", "start"] []
  m__joint_copies : mg "_joint_copies" = some (.ref f__joint_copies)
  f_composed : Addr
  d_composed : FuncData
  F_composed : Fun K "composed" "composed" s_composed f_composed d_composed
  b_composed : Binds K d_composed ["kind", "profiles"] []
  m_composed : mg "composed" = some (.ref f_composed)
  f_multiplied : Addr
  d_multiplied : FuncData
  F_multiplied : Fun K "multiplied" "multiplied" s_multiplied f_multiplied d_multiplied
  b_multiplied : Binds K d_multiplied ["kind", "count", "profile"] []
  m_multiplied : mg "multiplied" = some (.ref f_multiplied)
  f_job_profile : Addr
  d_job_profile : FuncData
  F_job_profile : Fun K "job_profile" "job_profile" s_job_profile f_job_profile d_job_profile
  b_job_profile : Binds K d_job_profile ["job"] []
  m_job_profile : mg "job_profile" = some (.ref f_job_profile)
  f_profile : Addr
  d_profile : FuncData
  F_profile : Fun K "profile" "profile" s_profile f_profile d_profile
  b_profile : Binds K d_profile ["job"] []
  m_profile : mg "profile" = some (.ref f_profile)
  f__law_source : Addr
  d__law_source : FuncData
  F__law_source : Fun K "_law_source" "_law_source" s__law_source f__law_source d__law_source
  b__law_source : Binds K d__law_source ["_law_script", "_law_at"] []
  m__law_source : mg "_law_source" = some (.ref f__law_source)
  f__law_draw : Addr
  d__law_draw : FuncData
  F__law_draw : Fun K "_law_draw" "_law_draw" s__law_draw f__law_draw d__law_draw
  b__law_draw : Binds K d__law_draw ["_law_source_here", "_law_many"] []
  m__law_draw : mg "_law_draw" = some (.ref f__law_draw)
  f__law_great : Addr
  d__law_great : FuncData
  F__law_great : Fun K "_law_great" "_law_great" s__law_great f__law_great d__law_great
  b__law_great : Binds K d__law_great ["_law_source_here", "_law_many"] []
  m__law_great : mg "_law_great" = some (.ref f__law_great)
  f__law_step : Addr
  d__law_step : FuncData
  F__law_step : Fun K "_law_step" "_law_step" s__law_step f__law_step d__law_step
  b__law_step : Binds K d__law_step ["_law_source_here"] []
  m__law_step : mg "_law_step" = some (.ref f__law_step)
  f__law_valleys : Addr
  d__law_valleys : FuncData
  F__law_valleys : Fun K "_law_valleys" "_law_valleys" s__law_valleys f__law_valleys d__law_valleys
  b__law_valleys : Binds K d__law_valleys ["_law_pairs"] []
  m__law_valleys : mg "_law_valleys" = some (.ref f__law_valleys)
  f__law_due : Addr
  d__law_due : FuncData
  F__law_due : Fun K "_law_due" "_law_due" s__law_due f__law_due d__law_due
  b__law_due : Binds K d__law_due ["_law_steps"] []
  m__law_due : mg "_law_due" = some (.ref f__law_due)
  f__law_long_step : Addr
  d__law_long_step : FuncData
  F__law_long_step : Fun K "_law_long_step" "_law_long_step" s__law_long_step f__law_long_step d__law_long_step
  b__law_long_step : Binds K d__law_long_step ["_law_source_here"] []
  m__law_long_step : mg "_law_long_step" = some (.ref f__law_long_step)
  f__law_long_right : Addr
  d__law_long_right : FuncData
  F__law_long_right : Fun K "_law_long_right" "_law_long_right" s__law_long_right f__law_long_right d__law_long_right
  b__law_long_right : Binds K d__law_long_right ["_law_source_here"] []
  m__law_long_right : mg "_law_long_right" = some (.ref f__law_long_right)
  t_NUMBER_END : Tok
  g_NUMBER_END : mg "NUMBER_END" = some (.int 10000000000000000000000000000000000000000000000000000000000000 t_NUMBER_END)
  t_MAX_VALLEYS : Tok
  g_MAX_VALLEYS : mg "MAX_VALLEYS" = some (.int 400 t_MAX_VALLEYS)
  t_MAX_PROFILES : Tok
  g_MAX_PROFILES : mg "MAX_PROFILES" = some (.int 400 t_MAX_PROFILES)
  t_MAX_STEP : Tok
  g_MAX_STEP : mg "MAX_STEP" = some (.int 1000000000000000000000000000000 t_MAX_STEP)
  t_MAX_COUNT : Tok
  g_MAX_COUNT : mg "MAX_COUNT" = some (.int 1000000000000000000000000000000 t_MAX_COUNT)
  t_MAX_PARTS : Tok
  g_MAX_PARTS : mg "MAX_PARTS" = some (.int 400 t_MAX_PARTS)
  t_MAX_NODES : Tok
  g_MAX_NODES : mg "MAX_NODES" = some (.int 400 t_MAX_NODES)
  t_MAX_DEPTH : Tok
  g_MAX_DEPTH : mg "MAX_DEPTH" = some (.int 13 t_MAX_DEPTH)
  n_abs : mg "abs" = none
  n_all : mg "all" = none
  n_bool : mg "bool" = none
  n_int : mg "int" = none
  n_isinstance : mg "isinstance" = none
  n_len : mg "len" = none
  n_max : mg "max" = none
  n_min : mg "min" = none
  n_range : mg "range" = none
  n_repr : mg "repr" = none
  n_reversed : mg "reversed" = none
  n_sorted : mg "sorted" = none
  n_sum : mg "sum" = none
  n_tuple : mg "tuple" = none
  n_zip : mg "zip" = none
/-! block Src: _law_source, _law_draw (the second kind of a drawn source) -/
/-- a source at p: what is left of the cell, the mixed number, how many were drawn (at most n) -/
def Pot (H : Hp) (p : Addr) (n : Nat) : Prop := ∃ a b c : Int, H p = some (.lst [.int a, .int b, .int c]) ∧ (0 ≤ a ∧ a.natAbs < 2 ^ 3000) ∧ (0 ≤ b ∧ b < 72057594037927931) ∧ (0 ≤ c ∧ c ≤ (n : Int))
theorem Pot.lst {H : Hp} {p : Addr} {n : Nat} (h : Pot H p n) : ∃ l, H p = some (.lst l) := by
  obtain ⟨a, b, c, h, _⟩ := h
  exact ⟨_, h⟩
theorem Pot.mono {H : Hp} {p : Addr} {n m : Nat} (h : Pot H p n) (e : n ≤ m) : Pot H p m := by
  obtain ⟨a, b, c, h1, h2, h3, h4⟩ := h
  exact ⟨a, b, c, h1, h2, h3, h4.1, by omega⟩
theorem Pot.same {H H' : Hp} {p : Addr} {n : Nat} (h : Pot H p n) (s : Same H H') : Pot H' p n := by
  obtain ⟨a, b, c, h1, h2⟩ := h
  exact ⟨a, b, c, s _ _ h1, h2⟩
def spSource (K : PySem.W.Frag) : Sp := fun vs H Q _ => ∃ (a : Addr) (ns : List Int) (k : Int), vs = [.ref a, .int k] ∧ SqL K H a (ns.map V.int) ∧ ns.length ≤ 1000 ∧ 0 ≤ k ∧ k ≤ 1000 ∧
  ∀ (H' : Hp) (p : Addr), Same H H' → H p = none → Pot H' p 0 → Q (.ref p) H'
def spTake : Sp := fun vs H Q _ => ∃ (p : Addr) (n : Nat) (m : Int), vs = [.ref p, .int m] ∧ Pot H p n ∧ n ≤ 1099511627776 ∧ 0 < m ∧ m.natAbs < 2 ^ 200 ∧
  ∀ (H' : Hp) (r : Int), Sx p H H' → Pot H' p (n + 1) → 0 ≤ r → r < m → Q (.int r) H'
theorem natAbs_lt {i : Int} {B : Nat} (h0 : 0 ≤ i) (h : i < (B : Int)) : i.natAbs < B := by omega
theorem big12 : ((((10 : Int) ^ (60 : Int).toNat) ^ (12 : Int).toNat)).natAbs < 2 ^ 3000 := by decide +kernel
theorem pos12 : 0 < ((10 : Int) ^ (60 : Int).toNat) ^ (12 : Int).toNat := by decide +kernel
theorem mod_big {z m : Int} {B : Nat} (hm : 0 < m) (hB : m.natAbs < B) : 0 ≤ z % m ∧ (z % m).natAbs < B := by
  have h1 := Int.emod_nonneg z (Int.ne_of_gt hm)
  have h2 := Int.emod_lt_of_pos z hm
  exact ⟨h1, by omega⟩
section
variable {P : Program} {w : World} {K : PySem.W.Frag} {mg : Str → Option Value} {base : Heap}
theorem ok_source (T : Txt K mg) : FnOk P w K mg base CX0 1 T.f__law_source T.d__law_source ["_law_script", "_law_at"] (spSource K) := by
  refine T.F__law_source.ok sc__law_source (fun vs H Q E h => ?_) (fun cdv A outer s H vs Q E hr h => ?_)
  · obtain ⟨a, ns, k, rfl, _⟩ := h
    rfl
  obtain ⟨a, ns, k, rfl, hS, hlen, hk0, hk1, q⟩ := h
  refine ⟨_, (pss_cons (ps_set (i := 2) sc__law_source.nd rfl (Or.inl rfl) (pe_ifExp (pt_cmpR op_lt (pv 1) (pe_callB (r := rLenS K) call_lenS (by rfl) T.n_len (by decide +kernel) (pa_cons (pv 0) pa_nil)) (nomark _)) (pe_ix (r := rIxL K) ix_list (pv 0) (pv 1) (fun _ _ => rfl)) (pe_op op_add (pe_op op_mulW pe_int (pv 1)) pe_int)))
      (pss_cons (ps_set (i := 3) sc__law_source.nd rfl (Or.inl rfl) (pe_op op_mod (pe_callB call_abs (by rfl) T.n_abs (by decide +kernel) (pa_cons (pv 2) pa_nil)) (pe_op op_powW (pe_op op_powW pe_int pe_int) pe_int)))
      (pss_cons (ps_set (i := 4) sc__law_source.nd rfl (Or.inl rfl) (pe_op op_add (pe_op op_add (pe_op op_mulW (pv 3) pe_int) (pe_op op_mulW pe_int (pv 1))) (pe_callTy call_int1 (by rfl) T.n_int (by decide +kernel) (pa_cons (pe_cmpR op_lt (pv 2) pe_int (nomark _)) pa_nil))))
      (pss_one (ps_ret (pe_lst (pa_cons (pe_callB (call_max2 rfl) (by rfl) T.n_max (by decide +kernel) (pa_cons pe_int (pa_cons (pe_op op_sub (pv 3) (pe_op op_powW pe_int pe_int)) pa_nil))) (pa_cons (pe_op op_mod (pv 4) pe_int) (pa_cons pe_int pa_nil))))))))), ?_⟩
  refine ⟨_, rfl, _, rfl, a, _, rfl, .inl hS, _, _, rfl, rfl, _, rfl, ?_⟩
  refine ite2 (fun c => ?_) (fun c => ?_)
  · have c' := of_decide_eq_true c
    rw [List.length_map] at c'
    obtain ⟨z, _, hz⟩ := atI_int (ns := ns) hk0 c'
    refine ⟨_, rfl, _, rfl, _, _, _, _, rfl, rfl, hS, hz, ?_⟩
    show tSeq _ _ _ [some (.ref a), some (.int k), some (.int z), none, none] H
    generalize z = cell
    clear c c' hz
    refine ⟨_, rfl, _, rfl, _, _, rfl, rfl, powW_of 4 (by decide) (by decide) (by decide), _, _, rfl, rfl, powW_of 200 (by decide) (by decide +kernel) (by decide), _, _, rfl, rfl, pos12, ?_⟩
    have hb := mod_big (z := if cell < 0 then -cell else cell) pos12 big12
    dsimp only
    generalize (if cell < 0 then -cell else cell) % ((10 : Int) ^ (60 : Int).toNat) ^ (12 : Int).toNat = size at hb ⊢
    refine ⟨_, rfl, _, _, rfl, rfl, wide_mul (a := 3000) (b := 64) hb.2 (by decide) (by decide) (by decide) (by decide), ?_⟩
    refine ⟨_, rfl, _, _, rfl, rfl, wide_mul (a := 64) (b := 64) (by decide) (by omega) (by decide) (by decide) (by decide), _, _, rfl, rfl, ?_⟩
    refine ⟨_, rfl, _, _, rfl, rfl, .inr ⟨_, rfl, _, _, rfl, rfl, ?_⟩⟩
    dsimp only
    generalize size * 2862933555777941757 + 3037000493 * k + (if decide (cell < 0) = true then 1 else 0) = mixed
    refine ⟨_, rfl, _, _, rfl, rfl, powW_of 4 (by decide) (by decide) (by decide), _, _, rfl, rfl, _, _, rfl, ?_⟩
    refine ⟨_, rfl, _, _, rfl, rfl, (by show (0 : Int) < 72057594037927931; decide), (by show 3 ≤ sizeLine; decide), fun p hp => ?_⟩
    have hm0 : 0 ≤ mixed % 72057594037927931 := by omega
    have hm1 : mixed % 72057594037927931 < 72057594037927931 := by omega
    refine q _ p (same_new hp) hp ⟨_, _, _, upd_same, ?_, ⟨hm0, hm1⟩, by decide, by decide⟩
    have e18 : (10 : Int) ^ (18 : Int).toNat = 1000000000000000000 := by decide
    rw [e18]
    obtain ⟨h0, h1⟩ := hb
    split
    · exact ⟨by omega, by omega⟩
    · exact ⟨by omega, by decide⟩
  · refine ⟨_, rfl, _, _, rfl, rfl, (by show CMulW 3 k; exact wide_mul (a := 64) (b := 64) (by decide) (by omega) (by decide) (by decide) (by decide)), _, _, rfl, rfl, ?_⟩
    show tSeq _ _ _ [some (.ref a), some (.int k), some (.int (3 * k + 2)), none, none] H
    generalize 3 * k + 2 = cell
    refine ⟨_, rfl, _, rfl, _, _, rfl, rfl, powW_of 4 (by decide) (by decide) (by decide), _, _, rfl, rfl, powW_of 200 (by decide) (by decide +kernel) (by decide), _, _, rfl, rfl, pos12, ?_⟩
    have hb := mod_big (z := if cell < 0 then -cell else cell) pos12 big12
    dsimp only
    generalize (if cell < 0 then -cell else cell) % ((10 : Int) ^ (60 : Int).toNat) ^ (12 : Int).toNat = size at hb ⊢
    refine ⟨_, rfl, _, _, rfl, rfl, wide_mul (a := 3000) (b := 64) hb.2 (by decide) (by decide) (by decide) (by decide), ?_⟩
    refine ⟨_, rfl, _, _, rfl, rfl, wide_mul (a := 64) (b := 64) (by decide) (by omega) (by decide) (by decide) (by decide), _, _, rfl, rfl, ?_⟩
    refine ⟨_, rfl, _, _, rfl, rfl, .inr ⟨_, rfl, _, _, rfl, rfl, ?_⟩⟩
    dsimp only
    generalize size * 2862933555777941757 + 3037000493 * k + (if decide (cell < 0) = true then 1 else 0) = mixed
    refine ⟨_, rfl, _, _, rfl, rfl, powW_of 4 (by decide) (by decide) (by decide), _, _, rfl, rfl, _, _, rfl, ?_⟩
    refine ⟨_, rfl, _, _, rfl, rfl, (by show (0 : Int) < 72057594037927931; decide), (by show 3 ≤ sizeLine; decide), fun p hp => ?_⟩
    have hm0 : 0 ≤ mixed % 72057594037927931 := by omega
    have hm1 : mixed % 72057594037927931 < 72057594037927931 := by omega
    refine q _ p (same_new hp) hp ⟨_, _, _, upd_same, ?_, ⟨hm0, hm1⟩, by decide, by decide⟩
    have e18 : (10 : Int) ^ (18 : Int).toNat = 1000000000000000000 := by decide
    rw [e18]
    obtain ⟨h0, h1⟩ := hb
    split
    · exact ⟨by omega, by omega⟩
    · exact ⟨by omega, by decide⟩
theorem ok_take (T : Txt K mg) : FnOk P w K mg base CX0 1 T.f__law_draw T.d__law_draw ["_law_source_here", "_law_many"] spTake := by
  refine T.F__law_draw.ok sc__law_draw (fun vs H Q E h => ?_) (fun cdv A outer s H vs Q E hr h => ?_)
  · obtain ⟨p, n, m, rfl, _⟩ := h
    rfl
  obtain ⟨p, n, m, rfl, ⟨a, b, c, hp, ⟨a0, a1⟩, ⟨b0, b1⟩, c0, c1⟩, hn, hm, hm2, q⟩ := h
  refine ⟨_, (pss_cons (ps_if (pt_cmpR op_gt (pe_ix (r := rIxL K) ix_list (pv 0) pe_int (fun _ _ => rfl)) pe_int (nomark _)) (pss_cons (ps_set (i := 2) sc__law_draw.nd rfl (Or.inl rfl) (pe_op op_mod (pe_ix (r := rIxL K) ix_list (pv 0) pe_int (fun _ _ => rfl)) (pv 1)))
        (pss_cons (ps_asg (pe_op op_fdivW (pe_ix (r := rIxL K) ix_list (pv 0) pe_int (fun _ _ => rfl)) (pv 1)) (pg_sub (pv 0) pe_int set_list))
        (pss_one (ps_ret (pv 2))))) pss_nil)
      (pss_cons (ps_asg (pe_op op_add (pe_ix (r := rIxL K) ix_list (pv 0) pe_int (fun _ _ => rfl)) pe_int) (pg_sub (pv 0) pe_int set_list))
      (pss_cons (ps_set (i := 3) sc__law_draw.nd rfl (Or.inl rfl) (pe_op op_mod (pe_op op_add (pe_ix (r := rIxL K) ix_list (pv 0) pe_int (fun _ _ => rfl)) (pe_op op_mulW pe_int (pe_ix (r := rIxL K) ix_list (pv 0) pe_int (fun _ _ => rfl)))) pe_int))
      (pss_cons (ps_set (i := 4) sc__law_draw.nd rfl (Or.inl rfl) (pe_op op_mulW (pe_op op_mod (pe_op op_mulW (pv 3) (pv 3)) pe_int) (pv 3)))
      (pss_cons (ps_set (i := 4) sc__law_draw.nd rfl (Or.inl rfl) (pe_op op_mod (pe_op op_add (pe_op op_add (pv 4) (pe_op op_mulW pe_int (pe_ix (r := rIxL K) ix_list (pv 0) pe_int (fun _ _ => rfl)))) (pe_op op_mod (pe_ix (r := rIxL K) ix_list (pv 0) pe_int (fun _ _ => rfl)) pe_int)) pe_int))
      (pss_one (ps_ret (pe_op op_mod (pe_op op_fdivW (pe_op op_mod (pe_op op_mulW (pv 4) (pv 4)) pe_int) pe_int) (pv 1))))))))), ?_⟩
  refine ⟨_, rfl, _, _, _, _, rfl, rfl, SqL.of hp, rfl, _, _, rfl, rfl, _, rfl, ?_⟩
  refine ite2 (fun g => ?_) (fun g => ?_)
  · refine ⟨_, rfl, _, _, _, _, rfl, rfl, SqL.of hp, rfl, _, rfl, _, _, rfl, rfl, hm, ?_⟩
    refine ⟨_, rfl, _, _, _, _, rfl, rfl, SqL.of hp, rfl, _, rfl, _, _, rfl, rfl, wide_div hm hm2 (by decide) (by decide), ?_⟩
    refine ⟨_, rfl, _, _, _, _, rfl, rfl, hp, rfl, ?_⟩
    refine ⟨_, rfl, ?_⟩
    have d0 : 0 ≤ a / m := Int.ediv_nonneg a0 (by omega)
    have d1 : a / m ≤ a := Int.ediv_le_self m a0
    exact q _ _ sx_upd ⟨_, _, _, upd_same, ⟨d0, Nat.lt_of_le_of_lt (by omega) a1⟩, ⟨b0, b1⟩, c0, by omega⟩ (Int.emod_nonneg _ (by omega)) (Int.emod_lt_of_pos _ hm)
  · refine ⟨_, rfl, _, _, _, _, rfl, rfl, SqL.of hp, rfl, _, _, rfl, rfl, ?_⟩
    refine ⟨_, rfl, _, _, _, _, rfl, rfl, hp, rfl, ?_⟩
    dsimp only
    have hq : (upd H p (.lst [.int a, .int b, .int (c + 1)])) p = some (.lst [.int a, .int b, .int (c + 1)]) := upd_same
    refine ⟨_, rfl, _, _, _, _, rfl, rfl, SqL.of hq, rfl, _, rfl, _, _, _, _, rfl, rfl, SqL.of hq, rfl, _, _, rfl, rfl, wide_mul (a := 64) (b := 64) (by decide) (by omega) (by decide) (by decide) (by decide), _, _, rfl, rfl, _, _, rfl, rfl, (by show (0 : Int) < 18014398509481951; decide), ?_⟩
    dsimp only
    generalize b + 11400714819323198 * (c + 1) = pw
    have o0 : 0 ≤ pw % 18014398509481951 := by omega
    have o1 : pw % 18014398509481951 < 18014398509481951 := by omega
    generalize pw % 18014398509481951 = one at o0 o1 ⊢
    refine ⟨_, rfl, _, rfl, _, _, rfl, rfl, wide_mul (a := 64) (b := 64) (by omega) (by omega) (by decide) (by decide) (by decide), _, _, rfl, rfl, (by show (0 : Int) < 36028797018963913; decide), ?_⟩
    dsimp only
    generalize one * one = sq
    have k0 : 0 ≤ sq % 36028797018963913 := by omega
    have k1 : sq % 36028797018963913 < 36028797018963913 := by omega
    generalize sq % 36028797018963913 = low at k0 k1 ⊢
    refine ⟨_, rfl, _, _, rfl, rfl, wide_mul (a := 64) (b := 64) (by omega) (by omega) (by decide) (by decide) (by decide), ?_⟩
    dsimp only
    generalize low * one = two
    refine ⟨_, rfl, _, rfl, _, _, _, _, rfl, rfl, SqL.of hq, rfl, _, _, rfl, rfl, wide_mul (a := 64) (b := 64) (by decide) (by omega) (by decide) (by decide) (by decide), _, _, rfl, rfl, ?_⟩
    refine ⟨_, rfl, _, _, _, _, rfl, rfl, SqL.of hq, rfl, _, _, rfl, rfl, (by show (0 : Int) < 65521; decide), _, _, rfl, rfl, _, _, rfl, rfl, (by show (0 : Int) < 1125899906842597; decide), ?_⟩
    dsimp only
    generalize two + 2654435761 * (c + 1) + b % 65521 = pw2
    have t0 : 0 ≤ pw2 % 1125899906842597 := by omega
    have t1 : pw2 % 1125899906842597 < 1125899906842597 := by omega
    generalize pw2 % 1125899906842597 = three at t0 t1 ⊢
    refine ⟨_, rfl, _, rfl, _, _, rfl, rfl, wide_mul (a := 64) (b := 64) (by omega) (by omega) (by decide) (by decide) (by decide), _, _, rfl, rfl, (by show (0 : Int) < 562949953421231; decide), _, _, rfl, rfl, wide_div (b := 12) (by decide) (by decide) (by decide) (by decide), ?_⟩
    refine ⟨_, rfl, _, _, rfl, rfl, hm, ?_⟩
    exact q _ _ sx_upd ⟨_, _, _, upd_same, ⟨a0, a1⟩, ⟨b0, b1⟩, by omega, by omega⟩ (Int.emod_nonneg _ (by omega)) (Int.emod_lt_of_pos _ hm)
end
/-! block Step25: _law_great, _law_step, _law_long_step (behind bSrc) -/
abbrev E61 : Int := 9999999999999999999999999999999999999999999999999999999999999
def spGreat : Sp := fun vs H Q _ => ∃ (p : Addr) (n : Nat) (m : Int), vs = [.ref p, .int m] ∧ Pot H p n ∧ n + 4 ≤ 1099511627776 ∧ 0 < m ∧
  ∀ (H' : Hp) (r : Int), Sx p H H' → Pot H' p (n + 4) → 0 ≤ r → r < m → Q (.int r) H'
def spStep : Sp := fun vs H Q _ => ∃ (p : Addr) (n : Nat), vs = [.ref p] ∧ Pot H p n ∧ n + 10 ≤ 1099511627776 ∧
  ∀ (H' : Hp) (r : Int), Sx p H H' → Pot H' p (n + 10) → -M30 ≤ r → r ≤ M30 → Q (.int r) H'
def spLong : Sp := fun vs H Q _ => ∃ (p : Addr) (n : Nat), vs = [.ref p] ∧ Pot H p n ∧ n + 5 ≤ 1099511627776 ∧
  ∀ (H' : Hp) (r : Int), Sx p H H' → Pot H' p (n + 5) → -E61 ≤ r → r ≤ E61 → Q (.int r) H'
/-- how great it can be after so many turns -/
def gB : Nat → Int
  | 0 => 1
  | 1 => 1000000000
  | 2 => 1000000000000000000
  | 3 => 1000000000000000000000000000
  | _ => 1000000000000000000000000000000000000
section
variable {P : Program} {w : World} {K : PySem.W.Frag} {mg : Str → Option Value} {base : Heap}
theorem ok_great (T : Txt K mg) : FnOk P w K mg base CX0 2 T.f__law_great T.d__law_great ["_law_source_here", "_law_many"] spGreat := by
  have g__law_draw : FnOk P w K mg base CX0 1 T.f__law_draw T.d__law_draw ["_law_source_here", "_law_many"] spTake := ok_take T
  refine T.F__law_great.ok sc__law_great (fun vs H Q E h => ?_) (fun cdv A outer s H vs Q E hr h => ?_)
  · obtain ⟨p, n, m, rfl, _⟩ := h
    rfl
  obtain ⟨p, n, m, rfl, hp, hn, hm, q⟩ := h
  have e9 : (10 : Int) ^ (9 : Int).toNat = 1000000000 := by decide
  refine ⟨_, (pss_cons (ps_set (i := 2) sc__law_great.nd rfl (Or.inl rfl) pe_int)
      (pss_cons (ps_for PassesOwn.never rfl (pi_range1 rfl T.n_range (pa_cons pe_int pa_nil)) (pg_name (i := 3) sc__law_great.nd rfl (Or.inl rfl))
        (pss_one (ps_set (i := 2) sc__law_great.nd rfl (Or.inl rfl) (pe_op op_add (pe_op op_mulW (pv 2) (pe_op op_powW pe_int pe_int)) (pe_call g__law_draw (hr.mono (by omega)) rfl T.m__law_draw T.F__law_draw.kp T.b__law_draw .nil pass0 (pa_cons (pv 0) (pa_cons (pe_op op_powW pe_int pe_int) pa_nil)))))))
      (pss_one (ps_ret (pe_op op_mod (pv 2) (pv 1)))))), ?_⟩
  refine ⟨_, rfl, by decide, by decide, ?_⟩
  refine for_range (lo := 0) (n := (4 : Int).toNat) (fun i σ G => ∃ (f : Int) (y3 : Option V), σ = [some (.ref p), some (.int m), some (.int f), y3] ∧ Sx p H G ∧ Pot G p (n + i) ∧ 0 ≤ f ∧ f < gB i) ⟨0, none, rfl, Sx.refl, hp, by decide, by decide⟩ ?_ ?_
  · rintro i σ G hi ⟨f, y3, rfl, s0, hp0, f0, f1⟩
    have hi4 : i < 4 := hi
    have fb : f < 1000000000000000000000000000 := by
      rcases (by omega : i = 0 ∨ i = 1 ∨ i = 2 ∨ i = 3) with rfl | rfl | rfl | rfl <;> simp only [gB] at f1 <;> omega
    refine ⟨_, rfl, _, _, rfl, rfl, powW_of 4 (by decide) (by decide) (by decide), _, _, rfl, rfl, ?_⟩
    dsimp only
    rw [e9]
    refine ⟨wide_mul (a := 128) (b := 64) (by omega) (by decide) (by decide) (by decide) (by decide), ?_⟩
    refine ⟨_, rfl, _, _, rfl, rfl, powW_of 4 (by decide) (by decide) (by decide), ?_⟩
    dsimp only
    rw [e9]
    refine ⟨p, _, _, rfl, hp0, by omega, by decide, by decide, fun G1 r s1 hp1 r0 r1 => ?_⟩
    refine ⟨_, _, rfl, rfl, ?_⟩
    refine ⟨_, _, rfl, s0.trans s1, hp1, by omega, ?_⟩
    rcases (by omega : i = 0 ∨ i = 1 ∨ i = 2 ∨ i = 3) with rfl | rfl | rfl | rfl <;> simp only [gB] at f1 ⊢ <;> omega
  · rintro σ G ⟨f, y3, rfl, s0, hp0, f0, f1⟩
    refine ⟨_, rfl, _, rfl, _, _, rfl, rfl, hm, ?_⟩
    exact q _ _ s0 hp0 (Int.emod_nonneg _ (by omega)) (Int.emod_lt_of_pos _ hm)
theorem ok_step (T : Txt K mg) : FnOk P w K mg base CX0 3 T.f__law_step T.d__law_step ["_law_source_here"] spStep := by
  have g__law_draw : FnOk P w K mg base CX0 1 T.f__law_draw T.d__law_draw ["_law_source_here", "_law_many"] spTake := ok_take T
  have g__law_great := ok_great (P := P) (w := w) (base := base) T
  refine T.F__law_step.ok sc__law_step (fun vs H Q E h => ?_) (fun cdv A outer s H vs Q E hr h => ?_)
  · obtain ⟨p, n, rfl, _⟩ := h
    rfl
  obtain ⟨p, n, rfl, hp, hn, q⟩ := h
  have e30 : (10 : Int) ^ (30 : Int).toNat = M30 := by decide
  have e18 : (10 : Int) ^ (18 : Int).toNat = 1000000000000000000 := by decide
  refine ⟨_, (pss_cons (ps_set (i := 1) sc__law_step.nd rfl (Or.inl rfl) (pe_call g__law_draw (hr.mono (by omega)) rfl T.m__law_draw T.F__law_draw.kp T.b__law_draw .nil pass0 (pa_cons (pv 0) (pa_cons pe_int pa_nil))))
      (pss_cons (ps_if (pt_cmpR op_lt (pv 1) pe_int (nomark _)) (pss_one (ps_ret (pe_op op_sub (pe_call g__law_draw (hr.mono (by omega)) rfl T.m__law_draw T.F__law_draw.kp T.b__law_draw .nil pass0 (pa_cons (pv 0) (pa_cons pe_int pa_nil))) pe_int))) pss_nil)
      (pss_cons (ps_if (pt_cmpR op_lt (pv 1) pe_int (nomark _)) (pss_one (ps_ret (pe_ix (r := rIxL K) ix_list (pe_lst (pa_cons pe_int (pa_cons pe_int (pa_cons (pe_un un_neg pe_int) (pa_cons pe_int (pa_cons (pe_un un_neg pe_int) (pa_cons pe_int pa_nil))))))) (pe_call g__law_draw (hr.mono (by omega)) rfl T.m__law_draw T.F__law_draw.kp T.b__law_draw .nil pass0 (pa_cons (pv 0) (pa_cons pe_int pa_nil))) (fun _ _ => rfl)))) pss_nil)
      (pss_cons (ps_if (pt_cmpR op_lt (pv 1) pe_int (nomark _)) (pss_one (ps_ret (pe_op op_sub (pe_call g__law_draw (hr.mono (by omega)) rfl T.m__law_draw T.F__law_draw.kp T.b__law_draw .nil pass0 (pa_cons (pv 0) (pa_cons pe_int pa_nil))) pe_int))) pss_nil)
      (pss_cons (ps_set (i := 2) sc__law_step.nd rfl (Or.inl rfl) (pe_lst (pa_cons (pe_op op_powW pe_int pe_int) (pa_cons (pe_op op_sub pe_int (pe_op op_powW pe_int pe_int)) (pa_cons (pe_op op_powW pe_int pe_int) (pa_cons (pe_call g__law_great (hr.mono (by omega)) rfl T.m__law_great T.F__law_great.kp T.b__law_great .nil pass0 (pa_cons (pv 0) (pa_cons (pe_op op_powW pe_int pe_int) pa_nil))) (pa_cons (pe_op op_sub pe_int (pe_call g__law_great (hr.mono (by omega)) rfl T.m__law_great T.F__law_great.kp T.b__law_great .nil pass0 (pa_cons (pv 0) (pa_cons (pe_op op_powW pe_int pe_int) pa_nil)))) pa_nil)))))))
      (pss_one (ps_ret (pe_ix (r := rIxL K) ix_list (pv 2) (pe_call g__law_draw (hr.mono (by omega)) rfl T.m__law_draw T.F__law_draw.kp T.b__law_draw .nil pass0 (pa_cons (pv 0) (pa_cons pe_int pa_nil))) (fun _ _ => rfl))))))))), ?_⟩
  refine ⟨_, rfl, p, n, 12, rfl, hp, by omega, by decide, by decide, fun H1 r1 s1 hp1 h0 h1 => ?_⟩
  refine ⟨_, rfl, _, _, rfl, rfl, _, rfl, ?_⟩
  refine ite2 (fun g => ?_) (fun g => ?_)
  · refine ⟨_, rfl, p, _, 13, rfl, hp1, by omega, by decide, by decide, fun H2 r2 s2 hp2 k0 k1 => ?_⟩
    refine ⟨_, _, rfl, rfl, ?_⟩
    refine q _ _ (s1.trans s2) (hp2.mono (by omega)) ?_ ?_ <;> simp only [M30] <;> omega
  refine ⟨_, rfl, _, _, rfl, rfl, _, rfl, ?_⟩
  refine ite2 (fun g => ?_) (fun g => ?_)
  · refine ⟨_, rfl, _, rfl, (by show 6 ≤ sizeLine; decide), fun l hl => ?_⟩
    have el : upd H1 l (.lst [.int 0, .int 1, .int (-1), .int 2, .int (-2), .int 9]) l = some (.lst ([0, 1, -1, 2, -2, 9].map V.int)) := upd_same
    have hp2 := hp1.same (same_new (o := .lst [.int 0, .int 1, .int (-1), .int 2, .int (-2), .int 9]) hl)
    refine ⟨_, rfl, p, _, 6, rfl, hp2, by omega, by decide, by decide, fun H2 r2 s2 hp3 k0 k1 => ?_⟩
    obtain ⟨z, hz, ez⟩ := atI_int (ns := [0, 1, -1, 2, -2, 9]) k0 k1
    obtain ⟨lp, hlp⟩ := hp1.lst
    have nlp : l ≠ p := fun e => by rw [e, hlp] at hl; cases hl
    refine ⟨_, _, _, _, rfl, rfl, SqL.of (s2 l _ nlp el), ez, ?_⟩
    refine q _ _ (s1.trans ((sx_new hl).trans s2)) (hp3.mono (by omega)) ?_ ?_ <;> simp only [List.mem_cons, List.not_mem_nil, or_false] at hz <;> simp only [M30] <;> omega
  refine ⟨_, rfl, _, _, rfl, rfl, _, rfl, ?_⟩
  refine ite2 (fun g => ?_) (fun g => ?_)
  · refine ⟨_, rfl, p, _, 201, rfl, hp1, by omega, by decide, by decide, fun H2 r2 s2 hp2 k0 k1 => ?_⟩
    refine ⟨_, _, rfl, rfl, ?_⟩
    refine q _ _ (s1.trans s2) (hp2.mono (by omega)) ?_ ?_ <;> simp only [M30] <;> omega
  refine ⟨_, _, rfl, rfl, powW_of 4 (by decide) (by decide) (by decide), ?_⟩
  refine ⟨_, _, rfl, rfl, powW_of 4 (by decide) (by decide) (by decide), _, _, rfl, rfl, ?_⟩
  refine ⟨_, _, rfl, rfl, powW_of 4 (by decide) (by decide) (by decide), ?_⟩
  refine ⟨_, rfl, _, _, rfl, rfl, powW_of 4 (by decide) (by decide) (by decide), p, _, _, rfl, hp1, by omega, by decide, fun H2 r2 s2 hp2 k0 k1 => ?_⟩
  refine ⟨_, rfl, _, _, rfl, rfl, powW_of 4 (by decide) (by decide) (by decide), p, _, _, rfl, hp2, by omega, by decide, fun H3 r3 s3 hp3 j0 j1 => ?_⟩
  refine ⟨_, _, rfl, rfl, ?_⟩
  dsimp only
  rw [e30, e18]
  rw [e30] at k1 j1
  refine ⟨(by show 5 ≤ sizeLine; decide), fun l hl => ?_⟩
  have el : upd H3 l (.lst [.int M30, .int (0 - M30), .int 1000000000000000000, .int r2, .int (0 - r3)]) l = some (.lst ([M30, 0 - M30, 1000000000000000000, r2, 0 - r3].map V.int)) := upd_same
  have hp4 := hp3.same (same_new (o := .lst [.int M30, .int (0 - M30), .int 1000000000000000000, .int r2, .int (0 - r3)]) hl)
  refine ⟨_, rfl, _, rfl, p, _, 5, rfl, hp4, by omega, by decide, by decide, fun H4 r4 s4 hp5 i0 i1 => ?_⟩
  obtain ⟨z, hz, ez⟩ := atI_int (ns := [M30, 0 - M30, 1000000000000000000, r2, 0 - r3]) i0 i1
  obtain ⟨lp, hlp⟩ := hp3.lst
  have nlp : l ≠ p := fun e => by rw [e, hlp] at hl; cases hl
  refine ⟨_, _, _, _, rfl, rfl, SqL.of (s4 l _ nlp el), ez, ?_⟩
  refine q _ _ (s1.trans (s2.trans (s3.trans ((sx_new hl).trans s4)))) (hp5.mono (by omega)) ?_ ?_ <;> simp only [List.mem_cons, List.not_mem_nil, or_false] at hz <;> simp only [M30] at * <;> omega
theorem ok_long (T : Txt K mg) : FnOk P w K mg base CX0 3 T.f__law_long_step T.d__law_long_step ["_law_source_here"] spLong := by
  have g__law_draw : FnOk P w K mg base CX0 1 T.f__law_draw T.d__law_draw ["_law_source_here", "_law_many"] spTake := ok_take T
  have g__law_great := ok_great (P := P) (w := w) (base := base) T
  refine T.F__law_long_step.ok sc__law_long_step (fun vs H Q E h => ?_) (fun cdv A outer s H vs Q E hr h => ?_)
  · obtain ⟨p, n, rfl, _⟩ := h
    rfl
  obtain ⟨p, n, rfl, hp, hn, q⟩ := h
  have e30 : (10 : Int) ^ (30 : Int).toNat = 1000000000000000000000000000000 := by decide
  have e45 : (10 : Int) ^ (45 : Int).toNat = 1000000000000000000000000000000000000000000000 := by decide
  have e61 : (10 : Int) ^ (61 : Int).toNat = 10000000000000000000000000000000000000000000000000000000000000 := by decide
  refine ⟨_, (pss_cons (ps_set (i := 1) sc__law_long_step.nd rfl (Or.inl rfl) (pe_lst (pa_cons (pe_op op_sub (pe_op op_powW pe_int pe_int) pe_int) (pa_cons (pe_op op_sub pe_int (pe_op op_powW pe_int pe_int)) (pa_cons (pe_op op_add (pe_op op_powW pe_int pe_int) pe_int) (pa_cons (pe_op op_sub pe_int (pe_op op_powW pe_int pe_int)) (pa_cons (pe_op op_mulW (pe_call g__law_great (hr.mono (by omega)) rfl T.m__law_great T.F__law_great.kp T.b__law_great .nil pass0 (pa_cons (pv 0) (pa_cons (pe_op op_powW pe_int pe_int) pa_nil))) (pe_op op_powW pe_int pe_int)) pa_nil)))))))
      (pss_one (ps_ret (pe_ix (r := rIxL K) ix_list (pv 1) (pe_call g__law_draw (hr.mono (by omega)) rfl T.m__law_draw T.F__law_draw.kp T.b__law_draw .nil pass0 (pa_cons (pv 0) (pa_cons pe_int pa_nil))) (fun _ _ => rfl))))), ?_⟩
  refine ⟨_, _, rfl, rfl, powW_of 4 (by decide) (by decide) (by decide), _, _, rfl, rfl, ?_⟩
  refine ⟨_, _, rfl, rfl, powW_of 4 (by decide) (by decide) (by decide), _, _, rfl, rfl, ?_⟩
  refine ⟨_, _, rfl, rfl, powW_of 4 (by decide) (by decide) (by decide), _, _, rfl, rfl, ?_⟩
  refine ⟨_, _, rfl, rfl, powW_of 4 (by decide) (by decide) (by decide), _, _, rfl, rfl, ?_⟩
  refine ⟨_, rfl, _, _, rfl, rfl, powW_of 4 (by decide) (by decide) (by decide), p, _, _, rfl, hp, by omega, by decide, fun H2 r2 s2 hp2 k0 k1 => ?_⟩
  rw [e30] at k1
  refine ⟨_, _, rfl, rfl, powW_of 4 (by decide) (by decide) (by decide), ?_⟩
  dsimp only
  rw [e30, e45, e61]
  refine ⟨_, _, rfl, rfl, wide_mul (a := 128) (b := 128) (by omega) (by decide) (by decide) (by decide) (by decide), ?_⟩
  have hg : 0 ≤ r2 * 1000000000000000000000000000000 ∧ r2 * 1000000000000000000000000000000 ≤ E61 := by
    simp only [E61]
    omega
  dsimp only
  generalize r2 * 1000000000000000000000000000000 = z2 at hg ⊢
  refine ⟨(by show 5 ≤ sizeLine; decide), fun l hl => ?_⟩
  obtain ⟨ns, hns⟩ : ∃ ns : List Int, ns = [10000000000000000000000000000000000000000000000000000000000000 - 1, 1 - 10000000000000000000000000000000000000000000000000000000000000, 1000000000000000000000000000000 + 1, 0 - 1000000000000000000000000000000000000000000000, z2] := ⟨_, rfl⟩
  have hlen : (ns.length : Int) = 5 := by rw [hns]; rfl
  have el : upd H2 l (.lst [.int (10000000000000000000000000000000000000000000000000000000000000 - 1), .int (1 - 10000000000000000000000000000000000000000000000000000000000000), .int (1000000000000000000000000000000 + 1), .int (0 - 1000000000000000000000000000000000000000000000), .int z2]) l = some (.lst (ns.map V.int)) := by
    rw [hns]
    exact upd_same
  have hp4 := hp2.same (same_new (o := .lst [.int (10000000000000000000000000000000000000000000000000000000000000 - 1), .int (1 - 10000000000000000000000000000000000000000000000000000000000000), .int (1000000000000000000000000000000 + 1), .int (0 - 1000000000000000000000000000000000000000000000), .int z2]) hl)
  refine ⟨_, rfl, _, rfl, p, _, 5, rfl, hp4, by omega, by decide, by decide, fun H4 r4 s4 hp5 i0 i1 => ?_⟩
  obtain ⟨z, hz, ez⟩ := atI_int (ns := ns) i0 (by rw [hlen]; exact i1)
  obtain ⟨lp, hlp⟩ := hp2.lst
  have nlp : l ≠ p := fun e => by rw [e, hlp] at hl; cases hl
  refine ⟨_, _, _, _, rfl, rfl, SqL.of (s4 l _ nlp el), ez, ?_⟩
  rw [hns] at hz
  refine q _ _ (s2.trans ((sx_new hl).trans s4)) (hp5.mono (by omega)) ?_ ?_ <;> simp only [List.mem_cons, List.not_mem_nil, or_false] at hz <;> simp only [E61] at * <;> omega
end
/-! block SizesN (of the later code): is_integer, is_within, steps_of_leaf, sizes_of, _within_count, _sizes and its two helpers, is_job, checked_sizes -/
def spIsInt (K : PySem.W.Frag) : Sp := fun vs H Q _ => ∃ (v : V) (d : PyData), vs = [v] ∧ Dp K H v d ∧ Q (.bl (isInt d && !isBoo d)) H
/-- a pair of ints, or None -/
def RepSz (H : Hp) (r : V) : Option (Int × Int) → Prop
  | none => r = .non
  | some (a, b) => ∃ t, r = .ref t ∧ H t = some (.tup [.int a, .int b])
def spWithin : Sp := fun vs H Q _ => ∃ a b : Int, vs = [.int a, .int b] ∧ ∀ (H' : Hp) (r : V), Same H H' → RepSz H' r (within a b) → Q r H'
def inW : PyData → Int → Int → Bool
  | .int i, a, b => decide (a ≤ i) && decide (i ≤ b)
  | _, _, _ => false
theorem inW_int {i a b : Int} : inW (.int i) a b = (decide (a ≤ i) && decide (i ≤ b)) := rfl
def spWi (K : PySem.W.Frag) : Sp := fun vs H Q _ => ∃ (v : V) (d : PyData) (a b : Int), vs = [v, .int a, .int b] ∧ Dp K H v d ∧ Q (.bl (inW d a b)) H
def spLeaf (K : PySem.W.Frag) : Sp := fun vs H Q _ => ∃ (v : V) (d : PyData), vs = [v] ∧ Dp K H v d ∧ Q (if inW d (-M30) M30 = true then .int 1 else .non) H
def spSz (K : PySem.W.Frag) (L : Addr) (n : Nat) : Sp := fun vs H Q _ => ∃ (v : V) (j : J) (room lv : Int), vs = [v, .ref L, .int room, .int lv] ∧ Dp K H v j.toD ∧ 0 ≤ lv ∧ lv < (n : Int) ∧
  ∀ (H' : Hp) (r : V), Same H H' → RepSz H' r (szJ j room lv) → Q r H'
def spSzs (K : PySem.W.Frag) (L : Addr) (n : Nat) : Sp := fun vs H Q _ => ∃ (v : V) (js : List J) (room lv : Int), vs = [v, .ref L, .int room, .int lv] ∧ Dp K H v (.tuple (J.toDs js)) ∧ 1 ≤ lv ∧ lv ≤ (n : Int) ∧
  ∀ (H' : Hp) (r : V), Same H H' → RepSz H' r (if (js.length : Int) > 400 then none else szJs js 1 0 room lv) → Q r H'
def spSzr (K : PySem.W.Frag) (L : Addr) (n : Nat) : Sp := fun vs H Q _ => ∃ (v : V) (c : Int) (j : J) (room lv : Int), vs = [.int c, v, .ref L, .int room, .int lv] ∧ Dp K H v j.toD ∧ 1 ≤ lv ∧ lv ≤ (n : Int) ∧
  ∀ (H' : Hp) (r : V), Same H H' → RepSz H' r (if ¬ (0 ≤ c ∧ c ≤ M30) then none else match szJ j (room - 1) (lv - 1) with | none => none | some (a, b) => within (a + 1) (b * c)) → Q r H'
section
variable {P : Program} {w : World} {K : PySem.W.Frag} {mg : Str → Option Value} {base : Heap}
theorem ok_isint (T : Txt K mg) : FnOk P w K mg base CX0 1 T.f_is_integer T.d_is_integer ["value"] (spIsInt K) := by
  refine T.F_is_integer.ok sc_is_integer (fun vs H Q E h => ?_) (fun cdv A outer s H vs Q E hr h => ?_)
  · obtain ⟨v, d, rfl, _⟩ := h
    rfl
  obtain ⟨v, d, rfl, hd, q⟩ := h
  refine ⟨_, (pss_one (ps_ret (pe_and (pe_callB (r := rIsD K) call_isD (by rfl) T.n_isinstance (by decide +kernel) (pa_cons (pv 0) (pa_cons (pe_bltn (v := .ty "int") (by rfl) T.n_int (by decide +kernel) rfl) pa_nil))) (pe_one (pe_not (pe_callB (r := rIsD K) call_isD (by rfl) T.n_isinstance (by decide +kernel) (pa_cons (pv 0) (pa_cons (pe_bltn (v := .ty "bool") (by rfl) T.n_bool (by decide +kernel) rfl) pa_nil)))))))), ?_⟩
  refine ⟨_, rfl, v, _, d, _, rfl, hd, kit_int d, _, rfl, ?_⟩
  cases e : isInt d with
  | false =>
    refine iteF ?_
    rw [e] at q
    exact q
  | true =>
    refine iteT ⟨_, rfl, v, _, d, _, rfl, hd, kit_bool d, _, rfl, ?_⟩
    rw [e] at q
    exact q
theorem ok_wi (T : Txt K mg) : FnOk P w K mg base CX0 2 T.f_is_within T.d_is_within ["value", "least", "greatest"] (spWi K) := by
  have g_is_integer : FnOk P w K mg base CX0 1 T.f_is_integer T.d_is_integer ["value"] (spIsInt K) := ok_isint T
  refine T.F_is_within.ok sc_is_within (fun vs H Q E h => ?_) (fun cdv A outer s H vs Q E hr h => ?_)
  · obtain ⟨v, d, a, b, rfl, _⟩ := h
    rfl
  obtain ⟨v, d, a, b, rfl, hd, q⟩ := h
  refine ⟨_, (pss_one (ps_ret (pe_and (pe_call g_is_integer (hr.mono (by omega)) rfl T.m_is_integer T.F_is_integer.kp T.b_is_integer .nil pass0 (pa_cons (pv 0) pa_nil)) (pe_one (pe_chain op_le op_le (pv 1) (pv 0) (pv 2)))))), ?_⟩
  refine ⟨_, rfl, v, d, rfl, hd, _, rfl, ?_⟩
  by_cases e : ∃ i, d = .int i
  · obtain ⟨i, rfl⟩ := e
    obtain rfl := dp_int_inv hd
    refine iteT ?_
    refine ⟨_, rfl, _, rfl, _, _, rfl, rfl, _, rfl, ?_⟩
    rw [inW_int] at q
    cases e1 : decide (a ≤ i) with
    | true =>
      refine iteT ?_
      rw [e1, Bool.true_and] at q
      exact ⟨_, rfl, _, _, rfl, rfl, q⟩
    | false =>
      refine iteF ?_
      rw [e1, Bool.false_and] at q
      exact q
  · have e1 : (isInt d && !isBoo d) = false ∧ inW d a b = false := by
      cases d <;> first | exact absurd ⟨_, rfl⟩ e | exact ⟨rfl, rfl⟩
    rw [e1.1]
    rw [e1.2] at q
    refine iteF ?_
    exact q
theorem ok_leaf (T : Txt K mg) : FnOk P w K mg base CX0 3 T.f_steps_of_leaf T.d_steps_of_leaf ["value"] (spLeaf K) := by
  have g_is_within := ok_wi (P := P) (w := w) (base := base) T
  refine T.F_steps_of_leaf.ok sc_steps_of_leaf (fun vs H Q E h => ?_) (fun cdv A outer s H vs Q E hr h => ?_)
  · obtain ⟨v, d, rfl, _⟩ := h
    rfl
  obtain ⟨v, d, rfl, hd, q⟩ := h
  refine ⟨_, (pss_one (ps_ret (pe_ifExp (pt_val (pe_call g_is_within (hr.mono (by omega)) rfl T.m_is_within T.F_is_within.kp T.b_is_within .nil pass0 (pa_cons (pv 0) (pa_cons (pe_un un_neg (pe_glob (v := .int 1000000000000000000000000000000) rfl T.g_MAX_STEP ⟨_, rfl⟩)) (pa_cons (pe_glob (v := .int 1000000000000000000000000000000) rfl T.g_MAX_STEP ⟨_, rfl⟩) pa_nil))))) pe_int pe_non))), ?_⟩
  refine ⟨_, rfl, _, rfl, v, d, -M30, M30, rfl, hd, _, rfl, ?_⟩
  cases e : inW d (-M30) M30 with
  | true =>
    rw [e] at q
    refine iteT ?_
    exact q
  | false =>
    rw [e] at q
    refine iteF ?_
    exact q
theorem ok_within (T : Txt K mg) : FnOk P w K mg base CX0 1 T.f__within_count T.d__within_count ["nodes", "steps"] spWithin := by
  refine T.F__within_count.ok sc__within_count (fun vs H Q E h => ?_) (fun cdv A outer s H vs Q E hr h => ?_)
  · obtain ⟨a, b, rfl, _⟩ := h
    rfl
  obtain ⟨a, b, rfl, q⟩ := h
  refine ⟨_, (pss_one (ps_ret (pe_ifExp (pt_cmpR op_le (pv 1) (pe_glob (v := .int 1000000000000000000000000000000) rfl T.g_MAX_COUNT ⟨_, rfl⟩) (nomark _)) (pe_tup (pa_cons (pv 0) (pa_cons (pv 1) pa_nil))) pe_non))), ?_⟩
  refine ⟨_, rfl, _, _, rfl, rfl, _, rfl, ?_⟩
  unfold within at q
  refine ite2 (fun g => ?_) (fun g => ?_)
  · rw [if_pos (of_decide_eq_true g)] at q
    refine ⟨_, rfl, _, rfl, (by show 2 ≤ sizeLine; decide), fun t ht => ?_⟩
    exact q _ _ (same_new ht) ⟨t, rfl, upd_same⟩
  · rw [if_neg (fun z => g (decide_eq_true z))] at q
    exact q _ _ (Same.refl _) rfl
theorem ok_szs (T : Txt K mg) {n : Nat} (g__sizes : FnOk P w K mg base CX0 (2 * n + 2) T.f__sizes T.d__sizes ["value", "leaf_steps", "room", "levels"] (spSz K T.f_steps_of_leaf n)) :
    FnOk P w K mg base CX0 (2 * n + 3) T.f__sizes_of_parts T.d__sizes_of_parts ["parts", "leaf_steps", "room", "levels"] (spSzs K T.f_steps_of_leaf n) := by
  have g__within_count : FnOk P w K mg base CX0 1 T.f__within_count T.d__within_count ["nodes", "steps"] spWithin := ok_within T
  refine T.F__sizes_of_parts.ok sc__sizes_of_parts (fun vs H Q E h => ?_) (fun cdv A outer s H vs Q E hr h => ?_)
  · obtain ⟨v, js, room, lv, rfl, _⟩ := h
    rfl
  obtain ⟨v, js, room, lv, rfl, hd, hn1, hn, q⟩ := h
  refine ⟨_, (pss_cons (ps_if (PW.pt (pw_or (pt_not (pt_val (pe_callB (r := rIsD K) call_isD (by rfl) T.n_isinstance (by decide +kernel) (pa_cons (pv 0) (pa_cons (pe_bltn (v := .ty "tuple") (by rfl) T.n_tuple (by decide +kernel) rfl) pa_nil))))) (pw_or1 (pt_cmpR op_gt (pe_callB (r := rLenS K) call_lenS (by rfl) T.n_len (by decide +kernel) (pa_cons (pv 0) pa_nil)) (pe_glob (v := .int 400) rfl T.g_MAX_PARTS ⟨_, rfl⟩) (nomark _))))) (pss_one (ps_ret pe_non)) pss_nil)
      (pss_cons (ps_set (i := 4) sc__sizes_of_parts.nd rfl (Or.inl rfl) pe_int)
      (pss_cons (ps_set (i := 5) sc__sizes_of_parts.nd rfl (Or.inl rfl) pe_int)
      (pss_cons (ps_for PassesOwn.never rfl (pi_tup (pv 0)) (pg_name (i := 6) sc__sizes_of_parts.nd rfl (Or.inl rfl))
        (pss_cons (ps_set (i := 7) sc__sizes_of_parts.nd rfl (Or.inl rfl) (pe_call g__sizes (hr.mono (by omega)) rfl T.m__sizes T.F__sizes.kp T.b__sizes .nil pass0 (pa_cons (pv 6) (pa_cons (pv 1) (pa_cons (pe_op op_sub (pv 2) (pv 4)) (pa_cons (pe_op op_sub (pv 3) pe_int) pa_nil))))))
        (pss_cons (ps_if (pt_cmpR op_isN (pv 7) pe_non (nomark _)) (pss_one (ps_ret pe_non)) pss_nil)
        (pss_cons (ps_aug (i := 4) sc__sizes_of_parts.nd rfl (Or.inl rfl) (pe_ix (r := rIxT K) ix_tup (pv 7) pe_int (fun _ _ => rfl)) ip_add)
        (pss_one (ps_aug (i := 5) sc__sizes_of_parts.nd rfl (Or.inl rfl) (pe_ix (r := rIxT K) ix_tup (pv 7) pe_int (fun _ _ => rfl)) ip_add))))))
      (pss_one (ps_ret (pe_call g__within_count (hr.mono (by omega)) rfl T.m__within_count T.F__within_count.kp T.b__within_count .nil pass0 (pa_cons (pv 4) (pa_cons (pv 5) pa_nil))))))))), ?_⟩
  obtain ⟨a, xs, rfl, hxs, hall⟩ := dp_tup_inv hd
  have hlen : xs.length = js.length := by rw [dpAll_length hall, J.toDs_eq, List.length_map]
  refine ⟨_, rfl, _, _, _, _, rfl, hd, kit_tuple _, _, rfl, ?_⟩
  refine iteF ?_
  refine ⟨_, rfl, a, xs, rfl, .inr hxs, _, _, rfl, rfl, _, rfl, ?_⟩
  refine ite2 (fun g => ?_) (fun g => ?_)
  · have g' : (400 : Int) < (xs.length : Int) := of_decide_eq_true g
    rw [if_pos (by omega)] at q
    exact q _ _ (Same.refl _) rfl
  have g' : ¬ (400 : Int) < (xs.length : Int) := fun z => g (decide_eq_true z)
  rw [if_neg (by omega)] at q
  refine ⟨_, rfl, a, rfl, ⟨xs, hxs⟩, ?_⟩
  -- the loop: what is left of the parts gives what is left of the sizes
  refine for_tup (K := K) (a := a) (xs := xs) (fun i σ H' => ∃ (nodes steps : Int) (y5 y6 : Option V), σ = [some (.ref a), some (.ref T.f_steps_of_leaf), some (.int room), some (.int lv), some (.int nodes), some (.int steps), y5, y6] ∧ Same H H' ∧
    szJs js 1 0 room lv = szJs (js.drop i) nodes steps room lv) ⟨1, 0, none, none, rfl, Same.refl _, rfl⟩ (fun i σ H' _ ⟨_, _, _, _, _, s1, _⟩ => same_sqT s1 hxs) ?_ ?_
  · rintro i x σ H' hi ⟨nodes, steps, y5, y6, rfl, s1, es⟩
    obtain ⟨d, ed, hd'⟩ := dpAll_get hall hi
    have hij : i < js.length := by
      rw [← hlen]
      exact (List.getElem?_eq_some_iff.mp hi).1
    have ej : d = (js[i]).toD := by
      rw [J.toDs_eq, List.getElem?_map, List.getElem?_eq_getElem hij] at ed
      exact (Option.some.inj ed).symm
    subst ej
    have hdrop : js.drop i = js[i] :: js.drop (i + 1) := List.drop_eq_getElem_cons hij
    rw [hdrop] at es
    refine ⟨_, rfl, _, rfl, _, rfl, _, rfl, _, _, rfl, rfl, _, rfl, _, _, rfl, rfl, x, js[i], room - nodes, lv - 1, rfl, dp_same s1 hd', by omega, by omega, fun H2 r2 s2 h2 => ?_⟩
    simp only [szJs] at es
    cases ez : szJ js[i] (room - nodes) (lv - 1) with
    | none =>
      rw [ez] at h2 es
      obtain rfl : r2 = .non := h2
      refine ⟨_, rfl, rfl, _, rfl, ?_⟩
      refine iteT ?_
      rw [es] at q
      exact q _ _ (s1.trans s2) rfl
    | some ab =>
      obtain ⟨a1, b1⟩ := ab
      rw [ez] at h2 es
      obtain ⟨t, rfl, ht⟩ := h2
      refine ⟨_, rfl, rfl, _, rfl, ?_⟩
      refine iteF ?_
      refine ⟨_, rfl, _, rfl, _, _, _, _, rfl, rfl, SqT.of ht, rfl, _, _, rfl, rfl, ?_⟩
      refine ⟨_, rfl, _, rfl, _, _, _, _, rfl, rfl, SqT.of ht, rfl, _, _, rfl, rfl, ?_⟩
      exact ⟨_, _, _, _, rfl, s1.trans s2, es⟩
  · rintro σ H' ⟨nodes, steps, y5, y6, rfl, s1, es⟩
    rw [hlen, List.drop_length] at es
    simp only [szJs] at es
    refine ⟨_, rfl, _, rfl, nodes, steps, rfl, fun H2 r2 s2 h2 => ?_⟩
    rw [es] at q
    exact q _ _ (s1.trans s2) h2
theorem ok_szr (T : Txt K mg) {n : Nat} (g__sizes : FnOk P w K mg base CX0 (2 * n + 2) T.f__sizes T.d__sizes ["value", "leaf_steps", "room", "levels"] (spSz K T.f_steps_of_leaf n)) :
    FnOk P w K mg base CX0 (2 * n + 3) T.f__sizes_of_rounds T.d__sizes_of_rounds ["n", "inner", "leaf_steps", "room", "levels"] (spSzr K T.f_steps_of_leaf n) := by
  have g__within_count : FnOk P w K mg base CX0 1 T.f__within_count T.d__within_count ["nodes", "steps"] spWithin := ok_within T
  have g_is_within := ok_wi (P := P) (w := w) (base := base) T
  refine T.F__sizes_of_rounds.ok sc__sizes_of_rounds (fun vs H Q E h => ?_) (fun cdv A outer s H vs Q E hr h => ?_)
  · obtain ⟨v, c, j, room, lv, rfl, _⟩ := h
    rfl
  obtain ⟨v, c, j, room, lv, rfl, hd, hn1, hn, q⟩ := h
  refine ⟨_, (pss_cons (ps_if (pt_not (pt_val (pe_call g_is_within (hr.mono (by omega)) rfl T.m_is_within T.F_is_within.kp T.b_is_within .nil pass0 (pa_cons (pv 0) (pa_cons pe_int (pa_cons (pe_glob (v := .int 1000000000000000000000000000000) rfl T.g_MAX_COUNT ⟨_, rfl⟩) pa_nil)))))) (pss_one (ps_ret pe_non)) pss_nil)
      (pss_cons (ps_set (i := 5) sc__sizes_of_rounds.nd rfl (Or.inl rfl) (pe_call g__sizes (hr.mono (by omega)) rfl T.m__sizes T.F__sizes.kp T.b__sizes .nil pass0 (pa_cons (pv 1) (pa_cons (pv 2) (pa_cons (pe_op op_sub (pv 3) pe_int) (pa_cons (pe_op op_sub (pv 4) pe_int) pa_nil))))))
      (pss_cons (ps_if (pt_cmpR op_isN (pv 5) pe_non (nomark _)) (pss_one (ps_ret pe_non)) pss_nil)
      (pss_one (ps_ret (pe_call g__within_count (hr.mono (by omega)) rfl T.m__within_count T.F__within_count.kp T.b__within_count .nil pass0 (pa_cons (pe_op op_add (pe_ix (r := rIxT K) ix_tup (pv 5) pe_int (fun _ _ => rfl)) pe_int) (pa_cons (pe_op op_mulW (pe_ix (r := rIxT K) ix_tup (pv 5) pe_int (fun _ _ => rfl)) (pv 0)) pa_nil)))))))), ?_⟩
  refine ⟨_, rfl, .int c, .int c, 0, M30, rfl, .int c, _, rfl, ?_⟩
  show if (!(decide (0 ≤ c) && decide (c ≤ M30))) = true then _ else _
  refine ite2 (fun g => ?_) (fun g => ?_)
  · rw [if_pos (fun z => by rw [decide_eq_true z.1, decide_eq_true z.2] at g; cases g)] at q
    exact q _ _ (Same.refl _) rfl
  obtain ⟨g0, g1⟩ : 0 ≤ c ∧ c ≤ M30 := by
    by_cases z : 0 ≤ c ∧ c ≤ M30
    · exact z
    · exfalso
      apply g
      rw [Bool.not_eq_true', Bool.and_eq_false_iff]
      by_cases z0 : 0 ≤ c
      · exact .inr (decide_eq_false fun y => z ⟨z0, y⟩)
      · exact .inl (decide_eq_false z0)
  rw [if_neg (fun z => z ⟨g0, g1⟩)] at q
  refine ⟨_, rfl, _, rfl, _, rfl, _, _, rfl, rfl, _, rfl, _, _, rfl, rfl, v, j, room - 1, lv - 1, rfl, hd, by omega, by omega, fun H2 r2 s2 h2 => ?_⟩
  cases ez : szJ j (room - 1) (lv - 1) with
  | none =>
    rw [ez] at h2 q
    obtain rfl : r2 = .non := h2
    refine ⟨_, rfl, rfl, _, rfl, ?_⟩
    refine iteT ?_
    exact q _ _ s2 rfl
  | some ab =>
    obtain ⟨a1, b1⟩ := ab
    rw [ez] at h2 q
    obtain ⟨t, rfl, ht⟩ := h2
    refine ⟨_, rfl, rfl, _, rfl, ?_⟩
    refine iteF ?_
    obtain ⟨jo, _, _, ea, eb⟩ := szJ_inv j _ _ _ _ ez
    have hb0 := J.steps_nn j jo
    have hb1 := J.steps_le j jo
    rw [← eb] at hb0 hb1
    refine ⟨_, rfl, _, _, _, _, rfl, rfl, SqT.of ht, rfl, _, _, rfl, rfl, _, rfl, _, _, _, _, rfl, rfl, SqT.of ht, rfl, _, rfl, _, _, rfl, rfl, ?_, ?_⟩
    · have e1 : b1.natAbs < 2 ^ 128 := Nat.lt_of_le_of_lt (show b1.natAbs ≤ 1000000000000000000000000000000 by simp only [M30] at hb1; omega) (by decide)
      have e2 : c.natAbs < 2 ^ 128 := Nat.lt_of_le_of_lt (show c.natAbs ≤ 1000000000000000000000000000000 by simp only [M30] at g1; omega) (by decide)
      exact wide_mul (a := 128) (b := 128) e1 e2 (by decide) (by decide) (by decide)
    refine ⟨_, _, rfl, fun H3 r3 s3 h3 => ?_⟩
    exact q _ _ (s2.trans s3) h3
theorem in_parts (k : Bool) : inV (.str (kwP k)) [.str "seq", .str "par"] = true := by cases k <;> decide +kernel
theorem in_parts_no (k : Bool) : inV (.str (kwR k)) [.str "seq", .str "par"] = false := by cases k <;> decide +kernel
theorem in_rounds (k : Bool) : inV (.str (kwR k)) [.str "repeat", .str "copies"] = true := by cases k <;> decide +kernel
theorem ok_sz (T : Txt K mg) {n : Nat} (g__sizes_of_parts : FnOk P w K mg base CX0 (2 * n + 3) T.f__sizes_of_parts T.d__sizes_of_parts ["parts", "leaf_steps", "room", "levels"] (spSzs K T.f_steps_of_leaf n))
    (g__sizes_of_rounds : FnOk P w K mg base CX0 (2 * n + 3) T.f__sizes_of_rounds T.d__sizes_of_rounds ["n", "inner", "leaf_steps", "room", "levels"] (spSzr K T.f_steps_of_leaf n)) :
    FnOk P w K mg base CX0 (2 * (n + 1) + 2) T.f__sizes T.d__sizes ["value", "leaf_steps", "room", "levels"] (spSz K T.f_steps_of_leaf (n + 1)) := by
  have g_steps_of_leaf := ok_leaf (P := P) (w := w) (base := base) T
  refine T.F__sizes.ok sc__sizes (fun vs H Q E h => ?_) (fun cdv A outer s H vs Q E hr h => ?_)
  · obtain ⟨v, j, room, lv, rfl, _⟩ := h
    rfl
  obtain ⟨v, j, room, lv, rfl, hd, hn1, hn, q⟩ := h
  refine ⟨_, (pss_cons (ps_if (PW.pt (pw_or (pt_cmpR op_lt (pv 2) pe_int (nomark _)) (pw_or1 (pt_cmpR op_lt (pv 3) pe_int (nomark _))))) (pss_one (ps_ret pe_non)) pss_nil)
      (pss_cons (ps_set (i := 4) sc__sizes.nd rfl (Or.inl rfl) (pe_callL (i := 1) g_steps_of_leaf (hr.mono (by omega)) rfl (.inl rfl) T.F_steps_of_leaf.kp T.b_steps_of_leaf .nil pass0 (pa_cons (pv 0) pa_nil)))
      (pss_cons (ps_if (pt_cmpR op_notN (pv 4) pe_non (nomark _)) (pss_one (ps_ret (pe_tup (pa_cons pe_int (pa_cons (pv 4) pa_nil))))) pss_nil)
      (pss_cons (ps_if (pt_not (pt_val (pe_callB (r := rIsD K) call_isD (by rfl) T.n_isinstance (by decide +kernel) (pa_cons (pv 0) (pa_cons (pe_bltn (v := .ty "tuple") (by rfl) T.n_tuple (by decide +kernel) rfl) pa_nil))))) (pss_one (ps_ret pe_non)) pss_nil)
      (pss_cons (ps_if (PW.pt (pw_and (pt_cmpR op_eq (pe_callB (r := rLenS K) call_lenS (by rfl) T.n_len (by decide +kernel) (pa_cons (pv 0) pa_nil)) pe_int (nomark _)) (pw_and1 (pt_cmpR (r := rIn K false) op_in_seq (pe_ix (r := rIxT K) ix_tup (pv 0) pe_int (fun _ _ => rfl)) (pe_tup (pa_cons pe_str (pa_cons pe_str pa_nil))) (by rfl))))) (pss_one (ps_ret (pe_call g__sizes_of_parts (hr.mono (by omega)) rfl T.m__sizes_of_parts T.F__sizes_of_parts.kp T.b__sizes_of_parts .nil pass0 (pa_cons (pe_ix (r := rIxT K) ix_tup (pv 0) pe_int (fun _ _ => rfl)) (pa_cons (pv 1) (pa_cons (pv 2) (pa_cons (pv 3) pa_nil))))))) pss_nil)
      (pss_cons (ps_if (PW.pt (pw_and (pt_cmpR op_eq (pe_callB (r := rLenS K) call_lenS (by rfl) T.n_len (by decide +kernel) (pa_cons (pv 0) pa_nil)) pe_int (nomark _)) (pw_and1 (pt_cmpR (r := rIn K false) op_in_seq (pe_ix (r := rIxT K) ix_tup (pv 0) pe_int (fun _ _ => rfl)) (pe_tup (pa_cons pe_str (pa_cons pe_str pa_nil))) (by rfl))))) (pss_one (ps_ret (pe_call g__sizes_of_rounds (hr.mono (by omega)) rfl T.m__sizes_of_rounds T.F__sizes_of_rounds.kp T.b__sizes_of_rounds .nil pass0 (pa_cons (pe_ix (r := rIxT K) ix_tup (pv 0) pe_int (fun _ _ => rfl)) (pa_cons (pe_ix (r := rIxT K) ix_tup (pv 0) pe_int (fun _ _ => rfl)) (pa_cons (pv 1) (pa_cons (pv 2) (pa_cons (pv 3) pa_nil)))))))) pss_nil)
      (pss_one (ps_ret pe_non)))))))), ?_⟩
  -- room < 1 or levels < 1
  have no : ∀ R : V → Hp → Prop, R = Q → (room < 1 ∨ lv < 1) → R .non H := by
    rintro R rfl z
    have e : szJ j room lv = none := by cases j <;> simp only [szJ] <;> rw [if_pos z]
    rw [e] at q
    exact q _ _ (Same.refl _) rfl
  refine ⟨_, rfl, _, _, rfl, rfl, _, rfl, ?_⟩
  refine ite2 (fun g => ?_) (fun g => ?_)
  · refine iteT ?_
    exact no _ rfl (.inl (of_decide_eq_true g))
  refine ⟨_, rfl, _, _, rfl, rfl, _, rfl, ?_⟩
  refine ite2 (fun g2 => ?_) (fun g2 => ?_)
  · exact no _ rfl (.inr (of_decide_eq_true g2))
  have g' : ¬ (room < 1 ∨ lv < 1) := fun z => z.elim (fun y => g (decide_eq_true y)) (fun y => g2 (decide_eq_true y))
  clear no
  cases j with
  | st i =>
    obtain rfl := dp_int_inv hd
    simp only [szJ] at q
    rw [if_neg g'] at q
    refine ⟨rfl, _, rfl, .int i, .int i, rfl, .int i, ?_⟩
    by_cases z : -M30 ≤ i ∧ i ≤ M30
    · rw [if_pos z] at q
      have e : inW (.int i) (-M30) M30 = true := by
        rw [inW_int, decide_eq_true z.1, decide_eq_true z.2] <;> rfl
      rw [if_pos e]
      refine ⟨_, rfl, rfl, _, rfl, ?_⟩
      refine iteT ?_
      refine ⟨_, rfl, (by show 2 ≤ sizeLine; decide), fun t ht => ?_⟩
      exact q _ _ (same_new ht) ⟨t, rfl, upd_same⟩
    · rw [if_neg z] at q
      have e : ¬ inW (.int i) (-M30) M30 = true := by
        rw [inW_int, Bool.and_eq_true, decide_eq_true_eq, decide_eq_true_eq]
        exact z
      rw [if_neg e]
      refine ⟨_, rfl, rfl, _, rfl, ?_⟩
      refine iteF ?_
      refine ⟨_, rfl, _, _, _, _, rfl, .int i, kit_tuple _, _, rfl, ?_⟩
      refine iteT ?_
      exact q _ _ (Same.refl _) rfl
  | ps k xs =>
    simp only [szJ] at q
    rw [if_neg g'] at q
    have hd0 := hd
    rw [J.toD] at hd
    obtain ⟨a, ys, rfl, hys, hall⟩ := dp_tup_inv hd
    cases hall with
    | cons e1 hall =>
      obtain rfl := dp_str_inv e1
      cases hall with
      | cons e2 hall =>
        cases hall
        rename_i vp
        refine ⟨rfl, _, rfl, .ref a, _, rfl, hd, ?_⟩
        refine ⟨_, rfl, rfl, _, rfl, ?_⟩
        refine iteF ?_
        refine ⟨_, rfl, _, _, _, _, rfl, hd, kit_tuple _, _, rfl, ?_⟩
        refine iteF ?_
        refine ⟨_, rfl, a, _, rfl, .inr hys, rfl, _, rfl, ?_⟩
        refine iteT ?_
        refine ⟨_, rfl, _, _, _, _, rfl, rfl, hys, rfl, (by show 2 ≤ sizeLine; decide), fun t ht => ?_⟩
        refine ⟨t, _, rfl, .inr (SqT.of upd_same), rfl, rfl, _, rfl, ?_⟩
        have s1 : Same H (upd H t (.tup [.str "seq", .str "par"])) := same_new ht
        show if inV (.str (kwP k)) [.str "seq", .str "par"] = true then _ else _
        rw [in_parts]
        refine iteT ?_
        refine ⟨_, rfl, _, _, _, _, rfl, rfl, same_sqT s1 hys, rfl, _, rfl, _, rfl, _, rfl, vp, xs, room, lv, rfl, dp_same s1 e2, by omega, by omega, fun H2 r2 s2 h2 => ?_⟩
        exact q _ _ (s1.trans s2) h2
  | rn k c x =>
    simp only [szJ] at q
    rw [if_neg g'] at q
    rw [J.toD] at hd
    obtain ⟨a, ys, rfl, hys, hall⟩ := dp_tup_inv hd
    cases hall with
    | cons e1 hall =>
      obtain rfl := dp_str_inv e1
      cases hall with
      | cons e2 hall =>
        obtain rfl := dp_int_inv e2
        cases hall with
        | cons e3 hall =>
          cases hall
          rename_i vx
          refine ⟨rfl, _, rfl, .ref a, _, rfl, hd, ?_⟩
          refine ⟨_, rfl, rfl, _, rfl, ?_⟩
          refine iteF ?_
          refine ⟨_, rfl, _, _, _, _, rfl, hd, kit_tuple _, _, rfl, ?_⟩
          refine iteF ?_
          refine ⟨_, rfl, a, _, rfl, .inr hys, rfl, _, rfl, ?_⟩
          refine iteF ?_
          refine ⟨_, rfl, a, _, rfl, .inr hys, rfl, _, rfl, ?_⟩
          refine iteT ?_
          refine ⟨_, rfl, _, _, _, _, rfl, rfl, hys, rfl, (by show 2 ≤ sizeLine; decide), fun t ht => ?_⟩
          refine ⟨t, _, rfl, .inr (SqT.of upd_same), rfl, rfl, _, rfl, ?_⟩
          have s1 : Same H (upd H t (.tup [.str "repeat", .str "copies"])) := same_new ht
          show if inV (.str (kwR k)) [.str "repeat", .str "copies"] = true then _ else _
          rw [in_rounds]
          refine iteT ?_
          refine ⟨_, rfl, _, _, _, _, rfl, rfl, same_sqT s1 hys, rfl, _, rfl, _, _, _, _, rfl, rfl, same_sqT s1 hys, rfl, _, rfl, _, rfl, _, rfl, vx, c, x, room, lv, rfl, dp_same s1 e3, by omega, by omega, fun H2 r2 s2 h2 => ?_⟩
          exact q _ _ (s1.trans s2) h2
theorem ok_sizes (T : Txt K mg) : ∀ n : Nat, FnOk P w K mg base CX0 (2 * n + 2) T.f__sizes T.d__sizes ["value", "leaf_steps", "room", "levels"] (spSz K T.f_steps_of_leaf n)
  | 0 => by
    have no : ∀ vs H Q E, ¬ spSz K T.f_steps_of_leaf 0 vs H Q E := by
      rintro vs H Q E ⟨v, j, room, lv, _, _, h1, h2, _⟩
      omega
    exact ⟨fun vs H Q E h => absurd h (no vs H Q E), fun A outer s H args us vs Q E _ _ _ _ h => absurd h (no vs H Q E)⟩
  | n + 1 => ok_sz T (ok_szs T (ok_sizes T n)) (ok_szr T (ok_sizes T n))
/-- jobs of at most thirteen levels -/
def spIsJob (K : PySem.W.Frag) : Sp := fun vs H Q _ => ∃ (v : V) (j : J), vs = [v] ∧ Dp K H v j.toD ∧ j.deep ≤ 20 ∧ ∀ H', Same H H' → Q (.bl (szJ j 400 13).isSome) H'
def spChecked (K : PySem.W.Frag) : Sp := fun vs H Q _ => ∃ (v : V) (j : J) (a b : Int), vs = [v] ∧ Dp K H v j.toD ∧ j.deep ≤ 20 ∧ szJ j 400 13 = some (a, b) ∧
  ∀ (H' : Hp) (t : Addr), Same H H' → H' t = some (.tup [.int a, .int b]) → Q (.ref t) H'
def spSzOf (K : PySem.W.Frag) (L : Addr) : Sp := fun vs H Q _ => ∃ (v : V) (j : J), vs = [v, .ref L] ∧ Dp K H v j.toD ∧ ∀ (H' : Hp) (r : V), Same H H' → RepSz H' r (szJ j 400 13) → Q r H'
theorem ok_szof (T : Txt K mg) : FnOk P w K mg base CX0 31 T.f_sizes_of T.d_sizes_of ["value", "leaf_steps"] (spSzOf K T.f_steps_of_leaf) := by
  have g__sizes := ok_sizes (P := P) (w := w) (base := base) T 14
  refine T.F_sizes_of.ok sc_sizes_of (fun vs H Q E h => ?_) (fun cdv A outer s H vs Q E hr h => ?_)
  · obtain ⟨v, j, rfl, _⟩ := h
    rfl
  obtain ⟨v, j, rfl, hd, q⟩ := h
  refine ⟨_, (pss_one (ps_ret (pe_call g__sizes (hr.mono (by omega)) rfl T.m__sizes T.F__sizes.kp T.b__sizes .nil pass0 (pa_cons (pv 0) (pa_cons (pv 1) (pa_cons (pe_glob (v := .int 400) rfl T.g_MAX_NODES ⟨_, rfl⟩) (pa_cons (pe_glob (v := .int 13) rfl T.g_MAX_DEPTH ⟨_, rfl⟩) pa_nil))))))), ?_⟩
  exact ⟨_, rfl, _, rfl, v, j, 400, 13, rfl, hd, by decide, by decide, q⟩
theorem ok_checked (T : Txt K mg) : FnOk P w K mg base CX0 43 T.f_checked_sizes T.d_checked_sizes ["job"] (spChecked K) := by
  have g_sizes_of := ok_szof (P := P) (w := w) (base := base) T
  refine T.F_checked_sizes.ok sc_checked_sizes (fun vs H Q E h => ?_) (fun cdv A outer s H vs Q E hr h => ?_)
  · obtain ⟨v, j, a, b, rfl, _⟩ := h
    rfl
  obtain ⟨v, j, a, b, rfl, hd, hn, ez, q⟩ := h
  refine ⟨_, (pss_cons (ps_set (i := 1) sc_checked_sizes.nd rfl (Or.inl rfl) (pe_call g_sizes_of (hr.mono (by omega)) rfl T.m_sizes_of T.F_sizes_of.kp T.b_sizes_of .nil pass0 (pa_cons (pv 0) (pa_cons (pe_glob (v := .ref T.f_steps_of_leaf) rfl T.m_steps_of_leaf rfl) pa_nil))))
      (pss_cons (ps_if (pt_cmpR op_isN (pv 1) pe_non (nomark _)) (pss_one ps_never) pss_nil)
      (pss_one (ps_ret (pv 1))))), ?_⟩
  refine ⟨_, rfl, v, j, rfl, hd, fun H2 r2 s2 h2 => ?_⟩
  rw [ez] at h2
  obtain ⟨t, rfl, ht⟩ := h2
  refine ⟨_, rfl, rfl, _, rfl, ?_⟩
  refine iteF ?_
  exact ⟨_, rfl, q _ t s2 ht⟩
end
/-! block Vall: is_valleys, is_start_valleys, least_usages and _law_valleys (behind bSizes) -/
abbrev prD (p : P2) : PyData := .tuple [.int p.1, .int p.2]
abbrev prDs (ps : List P2) : List PyData := ps.map prD
theorem pv_ints {K : PySem.W.Frag} {H : Hp} : ∀ {a : List Int} {xs : List V}, DpAll K H xs (a.map .int) → xs = a.map V.int
  | [], _, h => by
    cases h
    rfl
  | k :: a, _, h => by
    cases h with
    | cons hx hr =>
    cases hx
    rw [pv_ints hr]
    rfl
theorem pr_inv {K : PySem.W.Frag} {H : Hp} {v : V} {p : P2} (h : Dp K H v (prD p)) : ∃ t, v = .ref t ∧ SqT K H t [.int p.1, .int p.2] := by
  obtain ⟨t, xs, rfl, hs, ha⟩ := dp_tup_inv h
  obtain rfl := pv_ints (a := [p.1, p.2]) ha
  exact ⟨t, rfl, hs⟩
theorem prs_at {K : PySem.W.Frag} {H : Hp} {vs : List V} {ps : List P2} {i : Nat} {x : V} (h : DpAll K H vs (prDs ps)) (hi : vs[i]? = some x) : ∃ p, ps[i]? = some p ∧ Dp K H x (prD p) := by
  obtain ⟨d, ed, hd⟩ := dpAll_get h hi
  rw [prDs, List.getElem?_map] at ed
  obtain ⟨p, ep, rfl⟩ := Option.map_eq_some_iff.mp ed
  exact ⟨p, ep, hd⟩
theorem slT {K : PySem.W.Frag} {H : Hp} {Q : VK} {a : Addr} {xs : List V} {lo hi : Option Int} (h1 : SqT K H a xs)
    (h : ∀ (H' : Hp) (t : Addr), Same H H' → SqT K H' t (cutV xs lo hi) → Q (.ref t) H') : rSlA K (.ref a) lo hi H Q := by
  refine ⟨a, xs, rfl, h1, fun z => ?_, fun _ p hp => h _ p (same_new hp) (SqT.of upd_same)⟩
  have e : cutV xs lo hi = xs := by simp [cutV, z.1, z.2]
  exact h H a (Same.refl _) (by rw [e]; exact h1)
theorem cut_1 {us : List V} : cutV us (some 1) none = us.drop 1 := by
  unfold cutV HT.sIx
  simp only [show ¬((1 : Int) < 0) by decide, if_false]
  have e : (1 : Int).toNat = 1 := rfl
  rw [e]
  by_cases h : us.length = 0
  · rw [List.length_eq_zero_iff.mp h]
    rfl
  · have e2 : min 1 us.length = 1 := by omega
    rw [e2, List.take_of_length_le (by rw [List.length_drop]; omega)]
def spPair (K : PySem.W.Frag) : Sp := fun vs H Q _ => ∃ (v : V) (p : P2), vs = [v] ∧ Dp K H v (prD p) ∧ ∀ H', Same H H' → Q (.bl true) H'
def spVal (K : PySem.W.Frag) : Sp := fun vs H Q _ => ∃ (v : V) (ps : List P2), vs = [v] ∧ Dp K H v (.tuple (prDs ps)) ∧ 1 ≤ ps.length ∧ ps.length ≤ 400 ∧ Strict ps ∧ ∀ H', Same H H' → Q (.bl true) H'
def spSVal (K : PySem.W.Frag) : Sp := fun vs H Q _ => ∃ (v : V) (ps : List P2) (l : Int) (W : List P2), vs = [v] ∧ Dp K H v (.tuple (prDs ps)) ∧ ps = (0, l) :: W ∧ l ≤ 0 ∧ ps.length ≤ 400 ∧ Strict ps ∧ ∀ H', Same H H' → Q (.bl true) H'
section
variable {P : Program} {w : World} {K : PySem.W.Frag} {mg : Str → Option Value} {base : Heap}
theorem ok_pair (T : Txt K mg) : FnOk P w K mg base CX0 2 T.f__is_pair T.d__is_pair ["value"] (spPair K) := by
  have g_is_integer := ok_isint (P := P) (w := w) (base := base) T
  refine T.F__is_pair.ok sc__is_pair (fun vs H Q E h => ?_) (fun cdv A outer s H vs Q E hr h => ?_)
  · obtain ⟨v, p, rfl, _⟩ := h
    rfl
  obtain ⟨v, p, rfl, hd, q⟩ := h
  refine ⟨_, (pss_one (ps_ret (pe_and (pe_callB (r := rIsD K) call_isD (by rfl) T.n_isinstance (by decide +kernel) (pa_cons (pv 0) (pa_cons (pe_bltn (v := .ty "tuple") (by rfl) T.n_tuple (by decide +kernel) rfl) pa_nil))) (pe_and (pe_cmpR op_eq (pe_callB (r := rLenS K) call_lenS (by rfl) T.n_len (by decide +kernel) (pa_cons (pv 0) pa_nil)) pe_int (nomark _)) (pe_and (pe_call g_is_integer (hr.mono (by omega)) rfl T.m_is_integer T.F_is_integer.kp T.b_is_integer .nil pass0 (pa_cons (pe_ix (r := rIxT K) ix_tup (pv 0) pe_int (fun _ _ => rfl)) pa_nil)) (pe_one (pe_call g_is_integer (hr.mono (by omega)) rfl T.m_is_integer T.F_is_integer.kp T.b_is_integer .nil pass0 (pa_cons (pe_ix (r := rIxT K) ix_tup (pv 0) pe_int (fun _ _ => rfl)) pa_nil)))))))), ?_⟩
  obtain ⟨t, rfl, hs⟩ := pr_inv hd
  refine ⟨_, rfl, _, _, _, _, rfl, hd, kit_tuple _, _, rfl, ?_⟩
  refine iteT ?_
  refine ⟨_, rfl, t, _, rfl, .inr hs, rfl, _, rfl, ?_⟩
  refine iteT ?_
  refine ⟨_, rfl, _, _, _, _, rfl, rfl, hs, atI_at (j := 0) rfl rfl, _, .int p.1, rfl, .int _, _, rfl, ?_⟩
  refine iteT ?_
  refine ⟨_, rfl, _, _, _, _, rfl, rfl, hs, atI_at (j := 1) rfl rfl, _, .int p.2, rfl, .int _, ?_⟩
  exact q _ (Same.refl _)
theorem ok_val (T : Txt K mg) : FnOk P w K mg base CX0 3 T.f_is_valleys T.d_is_valleys ["value"] (spVal K) := by
  have g__is_pair := ok_pair (P := P) (w := w) (base := base) T
  refine T.F_is_valleys.ok sc_is_valleys (fun vs H Q E h => ?_) (fun cdv A outer s H vs Q E hr h => ?_)
  · obtain ⟨v, ps, rfl, _⟩ := h
    rfl
  obtain ⟨v, ps, rfl, hd, h1, h400, hst, q⟩ := h
  refine ⟨_, (pss_cons (ps_if (PW.pt (pw_or (pt_not (pt_val (pe_callB (r := rIsD K) call_isD (by rfl) T.n_isinstance (by decide +kernel) (pa_cons (pv 0) (pa_cons (pe_bltn (v := .ty "tuple") (by rfl) T.n_tuple (by decide +kernel) rfl) pa_nil))))) (pw_or1 (pt_not (pt_chain op_le op_le pe_int (pe_callB (r := rLenS K) call_lenS (by rfl) T.n_len (by decide +kernel) (pa_cons (pv 0) pa_nil)) (pe_glob (v := .int 400) rfl T.g_MAX_VALLEYS ⟨_, rfl⟩)))))) (pss_one (ps_ret pe_bl)) pss_nil)
      (pss_cons (ps_if (pt_not (pt_val (pe_callB (r := rAll K) (cr_all rfl) (by rfl) T.n_all (by decide +kernel) (pa_cons (pe_lc (own := [("pair", 1)]) (g := (gName 1)) (by rfl) sc_is_valleys.nd (pi_tup (pv 0)) (blkOk_by (N := N_is_valleys) (sc := (defScope s_is_valleys)) (by decide +kernel)) (fun _ _ _ _ _ => (pg_name (i := 1) sc_is_valleys.nd rfl (Or.inl rfl))) (fun _ _ _ _ _ => pts_nil) (fun _ _ _ _ _ => (pe_call g__is_pair (hr.mono (by omega)) rfl T.m__is_pair T.F__is_pair.kp T.b__is_pair .nil pass0 (pa_cons (pv 1) pa_nil)))) pa_nil)))) (pss_one (ps_ret pe_bl)) pss_nil)
      (pss_one (ps_ret (pe_callB (r := rAll K) (cr_all rfl) (by rfl) T.n_all (by decide +kernel) (pa_cons (pe_lc (own := [("left", 2), ("right", 3)]) (g := (gTup K 2 (gCons (gName 2) (gCons (gName 3) gNil)))) (by rfl) sc_is_valleys.nd (RZ.pi_zipA (by rfl) T.n_zip (pa_cons (pv 0) (pa_cons (pe_slice (r := rSlA K) sl_tupA (pv 0) (po_some pe_int) po_none) pa_nil))) (blkOk_by (N := N_is_valleys) (sc := (defScope s_is_valleys)) (by decide +kernel)) (fun _ _ _ _ _ => (pg_tup (by rfl) (pgs_cons (pg_name (i := 2) sc_is_valleys.nd rfl (Or.inl rfl)) (pgs_cons (pg_name (i := 3) sc_is_valleys.nd rfl (Or.inl rfl)) pgs_nil)))) (fun _ _ _ _ _ => pts_nil) (fun _ _ _ _ _ => (pe_and (pe_cmpR op_lt (pe_ix (r := rIxT K) ix_tup (pv 2) pe_int (fun _ _ => rfl)) (pe_ix (r := rIxT K) ix_tup (pv 3) pe_int (fun _ _ => rfl)) (nomark _)) (pe_one (pe_cmpR op_gt (pe_ix (r := rIxT K) ix_tup (pv 2) pe_int (fun _ _ => rfl)) (pe_ix (r := rIxT K) ix_tup (pv 3) pe_int (fun _ _ => rfl)) (nomark _)))))) pa_nil)))))), ?_⟩
  obtain ⟨a, xs, rfl, hs, hall⟩ := dp_tup_inv hd
  have hl : xs.length = ps.length := by rw [dpAll_length hall, prDs, List.length_map]
  refine ⟨_, rfl, _, _, _, _, rfl, hd, kit_tuple _, _, rfl, ?_⟩
  refine iteF ?_
  refine ⟨_, rfl, a, _, rfl, .inr hs, ?_⟩
  refine ⟨_, _, rfl, rfl, _, rfl, ?_⟩
  refine ite2 (fun g => ?_) (fun g => absurd (decide_eq_true (by rw [hl]; omega)) g)
  refine ⟨_, _, rfl, rfl, _, rfl, ?_⟩
  have e400 : decide ((xs.length : Int) ≤ 400) = true := decide_eq_true (by rw [hl]; omega)
  show (if (!decide ((xs.length : Int) ≤ 400)) = true then _ else _)
  rw [e400]
  refine iteF ?_
  clear g e400
  refine ⟨_, rfl, a, rfl, ⟨xs, hs⟩, fun D hD => ?_⟩
  refine lc_tup (K := K) (a := a) (xs := xs) (fun i G => Same H G ∧ G D = some (.lst ((List.replicate i true).map V.bl))) ?_ ?_ ?_ ?_
  · exact ⟨same_new hD, by simpa using upd_same⟩
  · rintro i G _ ⟨s1, _⟩
    exact same_sqT s1 hs
  · rintro i x G hi ⟨s1, eD⟩
    obtain ⟨p, ep, hx⟩ := prs_at hall hi
    have hi2 := (List.getElem?_eq_some_iff.mp hi).1
    refine ⟨rfl, ?_⟩
    unfold tYes
    refine iteT ?_
    refine ⟨_, rfl, x, p, rfl, dp_same s1 hx, fun G1 s2 => ?_⟩
    refine ⟨_, s2 _ _ eD, ?_, ?_, ?_⟩
    · rw [List.length_map, List.length_replicate]
      exact small1000 (by omega)
    · intro c o hc
      rw [upd_ne (ne_of_none hc hD)]
      exact s2 _ _ (s1 _ _ hc)
    · rw [upd_same, List.replicate_succ', List.map_append]
      rfl
  rintro G ⟨s1, eD⟩
  refine ⟨D, _, rfl, SqL.of eD, ?_⟩
  have eall : ∀ n : Nat, (List.replicate n true).all id = true := fun n => by
    rw [List.all_eq_true]
    intro x hx
    rw [(List.mem_replicate.mp hx).2]
    rfl
  refine ⟨_, rfl, ?_⟩
  show (if (!(List.replicate xs.length true).all id) = true then _ else _)
  rw [eall]
  refine iteF ?_
  clear eD
  -- neighbours
  have hsG := same_sqT s1 hs
  refine ⟨_, rfl, _, rfl, _, rfl, ?_⟩
  unfold tNoPart
  dsimp only
  refine slT hsG (fun G1 b s2 hb => ?_)
  rw [cut_1] at hb
  refine ⟨a, b, _, _, rfl, .inr ⟨same_sqT s2 hsG, hb, fun D hD => ?_⟩⟩
  have hsG1 := same_sqT s2 hsG
  have hall1 := dpAll_same (s1.trans s2) hall
  refine lc_it (walk_zipT2 (xs := xs) (ys := xs.drop 1) (n := xs.length - 1) (by rw [List.length_drop]; omega)) (fun i F => Same G1 F ∧ F D = some (.lst ((List.replicate i true).map V.bl))) ?_ ?_ ?_ ?_
  · exact ⟨same_new hD, by simpa using upd_same⟩
  · rintro i F _ ⟨s3, _⟩
    exact ⟨same_sqT s3 hsG1, same_sqT s3 hb⟩
  · rintro i z F F' hi ⟨s3, eD⟩ ⟨t, x, y, rfl, ht, rfl, hx, hy⟩
    dsimp only at hx hy
    rw [List.getElem?_drop] at hy
    obtain ⟨p1, ep1, dx⟩ := prs_at hall1 hx
    obtain ⟨p2, ep2, dy⟩ := prs_at hall1 hy
    obtain ⟨t1, rfl, k1⟩ := pr_inv dx
    obtain ⟨t2, rfl, k2⟩ := pr_inv dy
    have s4 : Same F (upd F t (.tup [.ref t1, .ref t2])) := same_new ht
    have kt : SqT K (upd F t (.tup [.ref t1, .ref t2])) t [.ref t1, .ref t2] := SqT.of upd_same
    have eD4 := s4 _ _ eD
    generalize (upd F t (.tup [.ref t1, .ref t2])) = F2 at s4 kt eD4 ⊢
    have s34 := s3.trans s4
    have k1 := same_sqT s34 k1
    have k2 := same_sqT s34 k2
    refine ⟨t, _, rfl, kt, rfl, _, _, rfl, _, _, rfl, rfl, rfl, ?_⟩
    unfold tYes
    refine iteT ?_
    have hlt := (List.pairwise_iff_getElem.mp hst) i (1 + i) (List.getElem?_eq_some_iff.mp ep1).1 (List.getElem?_eq_some_iff.mp ep2).1 (by omega)
    rw [(List.getElem?_eq_some_iff.mp ep1).2, (List.getElem?_eq_some_iff.mp ep2).2] at hlt
    refine ⟨_, rfl, _, _, _, _, rfl, rfl, k1, atI_at (j := 0) rfl rfl, _, rfl, _, _, _, _, rfl, rfl, k2, atI_at (j := 0) rfl rfl, _, _, rfl, rfl, _, rfl, ?_⟩
    refine ite2 (fun g => ?_) (fun g => absurd (decide_eq_true hlt.1) g)
    refine ⟨_, rfl, _, _, _, _, rfl, rfl, k1, atI_at (j := 1) rfl rfl, _, rfl, _, _, _, _, rfl, rfl, k2, atI_at (j := 1) rfl rfl, _, _, rfl, rfl, ?_⟩
    have e1 : decide (p2.2 < p1.2) = true := decide_eq_true hlt.2
    dsimp only
    rw [e1]
    refine ⟨_, eD4, ?_, ?_, ?_⟩
    · rw [List.length_map, List.length_replicate]
      exact small1000 (by omega)
    · intro c o hc
      rw [upd_ne (ne_of_none hc hD)]
      exact s34 _ _ hc
    · rw [upd_same, List.replicate_succ', List.map_append]
      rfl
  rintro F ⟨s3, eD⟩
  refine ⟨D, _, rfl, SqL.of eD, ?_⟩
  rw [eall]
  exact q _ (s1.trans (s2.trans s3))
theorem ok_sval (T : Txt K mg) : FnOk P w K mg base CX0 4 T.f_is_start_valleys T.d_is_start_valleys ["value"] (spSVal K) := by
  have g_is_valleys := ok_val (P := P) (w := w) (base := base) T
  refine T.F_is_start_valleys.ok sc_is_start_valleys (fun vs H Q E h => ?_) (fun cdv A outer s H vs Q E hr h => ?_)
  · obtain ⟨v, ps, l, W, rfl, _⟩ := h
    rfl
  obtain ⟨v, ps, l, W, rfl, hd, eps, hl0, h400, hst, q⟩ := h
  refine ⟨_, (pss_one (ps_ret (pe_and (pe_call g_is_valleys (hr.mono (by omega)) rfl T.m_is_valleys T.F_is_valleys.kp T.b_is_valleys .nil pass0 (pa_cons (pv 0) pa_nil)) (pe_and (pe_cmpR (r := rEqD K) (op_eqD hr.units) (pe_ix (r := rIxT K) ix_tup (pe_ix (r := rIxT K) ix_tup (pv 0) pe_int (fun _ _ => rfl)) pe_int (fun _ _ => rfl)) pe_int (nomark _)) (pe_one (pe_cmpR op_le (pe_ix (r := rIxT K) ix_tup (pe_ix (r := rIxT K) ix_tup (pv 0) pe_int (fun _ _ => rfl)) pe_int (fun _ _ => rfl)) pe_int (nomark _))))))), ?_⟩
  refine ⟨_, rfl, v, ps, rfl, hd, by rw [eps, List.length_cons]; omega, h400, hst, fun H1 s1 => ?_⟩
  obtain ⟨a, xs, rfl, hs, hall⟩ := dp_tup_inv (dp_same s1 hd)
  rw [eps] at hall
  cases hall with
  | @cons x _ xs' _ hx hr =>
  obtain ⟨t, rfl, kt⟩ := pr_inv hx
  refine ⟨_, rfl, ?_⟩
  refine iteT ?_
  refine ⟨_, rfl, _, _, _, _, rfl, rfl, hs, atI_at (j := 0) rfl rfl, _, _, _, _, rfl, rfl, kt, atI_at (j := 0) rfl rfl, .int 0, .int 0, .int _, .int _, by decide, by decide, _, rfl, ?_⟩
  refine iteT ?_
  refine ⟨_, rfl, _, _, _, _, rfl, rfl, hs, atI_at (j := 0) rfl rfl, _, _, _, _, rfl, rfl, kt, atI_at (j := 1) rfl rfl, _, _, rfl, rfl, ?_⟩
  have e : decide (l ≤ 0) = true := decide_eq_true hl0
  show Q (.bl (decide (l ≤ 0))) _
  rw [e]
  exact q _ s1
end
/-! block Least: least_usages and _law_valleys (behind bVall) -/
abbrev keyP (p : P2) : List Int := [p.1, p.2]
def backP : List Int → P2
  | a :: b :: _ => (a, b)
  | _ => (0, 0)
theorem keys_pairs {K : PySem.W.Frag} {H : Hp} : ∀ {vs : List V} {ps : List P2}, DpAll K H vs (prDs ps) → KeysT K H vs (ps.map keyP)
  | _, [], h => by
    cases h
    exact .nil
  | _, p :: ps, h => by
    cases h with
    | cons hx hr =>
    obtain ⟨t, rfl, k⟩ := pr_inv hx
    exact .cons k (by simp) (keys_pairs hr)
theorem pairs_keys {K : PySem.W.Frag} {H : Hp} : ∀ {vs : List V} {ps : List P2}, KeysT K H vs (ps.map keyP) → DpAll K H vs (prDs ps)
  | _, [], h => by
    cases h
    exact .nil
  | _, p :: ps, h => by
    cases h with
    | cons k ne r =>
    exact .cons (.tup k (.cons (.int _) (.cons (.int _) .nil))) (pairs_keys r)
theorem sorted_pairs {ls : List (List Int)} {ps : List P2} (ho : ls.Pairwise fun x y => HT.lexLt y x = false) (hp : ls.Perm (ps.map keyP)) :
    ∃ qs : List P2, ls = qs.map keyP ∧ qs.Perm ps ∧ qs.Pairwise fun x y => x.1 < y.1 ∨ (x.1 = y.1 ∧ x.2 ≤ y.2) := by
  have hb : ∀ l ∈ ls, ∃ p : P2, l = keyP p := fun l hl => by
    obtain ⟨p, _, e⟩ := List.mem_map.mp (hp.mem_iff.mp hl)
    exact ⟨p, e.symm⟩
  have e1 : (ls.map backP).map keyP = ls := by
    rw [List.map_map]
    have : ls.map (keyP ∘ backP) = ls.map id := List.map_congr_left fun l hl => by
      obtain ⟨p, rfl⟩ := hb l hl
      rfl
    rw [this, List.map_id]
  have e2 : (ls.map backP).Perm ps := by
    have := hp.map backP
    rw [List.map_map] at this
    have e3 : ps.map (backP ∘ keyP) = ps.map id := List.map_congr_left fun p _ => rfl
    rw [e3, List.map_id] at this
    exact this
  refine ⟨ls.map backP, e1.symm, e2, ?_⟩
  rw [← e1, List.pairwise_map] at ho
  refine ho.imp fun {x y} h => ?_
  rw [HT.lexLt_cons, HT.lexLt_cons] at h
  by_cases e : y.1 = x.1
  · rw [if_pos e] at h
    by_cases e4 : y.2 = x.2
    · exact .inr ⟨e.symm, by omega⟩
    · rw [if_neg e4] at h
      have := of_decide_eq_false h
      exact .inr ⟨e.symm, by omega⟩
  · rw [if_neg e] at h
    have := of_decide_eq_false h
    exact .inl (by omega)
theorem behind_take {qs : List P2} {i : Nat} {p : P2} (ho : qs.Pairwise fun x y => x.1 < y.1 ∨ (x.1 = y.1 ∧ x.2 ≤ y.2)) (hi : qs[i]? = some p) : Behind (qs.take i) p := by
  intro q hq
  obtain ⟨j, hj, rfl⟩ := List.getElem_of_mem hq
  rw [List.length_take] at hj
  obtain ⟨hi1, rfl⟩ := List.getElem?_eq_some_iff.mp hi
  rw [List.getElem_take]
  exact (List.pairwise_iff_getElem.mp ho) j i (by omega) hi1 (by omega)
theorem IsVal.perm {P Q V : List P2} (h : IsVal P V) (e : ∀ p, p ∈ P ↔ p ∈ Q) : IsVal Q V :=
  ⟨h.strict, fun v hv => (e v).mp (h.sub v hv), fun p hp => h.cov p ((e p).mpr hp)⟩
theorem dp_last {K : PySem.W.Frag} {H : Hp} {rs : List V} {ps : List P2} {v : P2} (h : DpAll K H rs (prDs ps)) (e : ps.getLast? = some v) : ∃ t, atI rs (-1) = some (.ref t) ∧ SqT K H t [.int v.1, .int v.2] := by
  obtain ⟨l, rfl⟩ := List.getLast?_eq_some_iff.mp e
  have e2 : prDs (l ++ [v]) = prDs l ++ [prD v] := by rw [prDs, List.map_append]; rfl
  rw [e2] at h
  have hl : rs.length = l.length + 1 := by rw [dpAll_length h, List.length_append, prDs, List.length_map]; rfl
  have hne : rs ≠ [] := fun z => by rw [z] at hl; simp at hl
  obtain ⟨x, r', e3⟩ : ∃ x r', rs = r' ++ [x] := ⟨rs.getLast hne, rs.dropLast, (List.dropLast_concat_getLast hne).symm⟩
  subst e3
  have hi : (r' ++ [x])[l.length]? = some x := by
    rw [List.length_append, List.length_singleton] at hl
    have : l.length = r'.length := by omega
    rw [this]
    simp
  obtain ⟨d, ed, hd⟩ := dpAll_get h hi
  have : d = prD v := by
    rw [List.getElem?_append_right (by rw [prDs, List.length_map]; exact Nat.le_refl _)] at ed
    simpa [prDs] using ed.symm
  subst this
  obtain ⟨t, rfl, k⟩ := pr_inv hd
  exact ⟨t, L2.atI_last _ _, k⟩
def spLeast (K : PySem.W.Frag) : Sp := fun vs H Q _ => ∃ (a : Addr) (xs : List V) (ps : List P2), vs = [.ref a] ∧ SqL K H a xs ∧ DpAll K H xs (prDs ps) ∧ ps.length ≤ 1000 ∧
  ∀ (H' : Hp) (t : Addr) (W : List P2), Same H H' → Dp K H' (.ref t) (.tuple (prDs W)) → IsVal ps W → Q (.ref t) H'
theorem noLs_pr : ∀ ps : List P2, noLs (prDs ps) = true
  | [] => rfl
  | p :: ps => by
    have := noLs_pr ps
    show noLs (prD p :: prDs ps) = true
    simp only [noLs, noL, this, Bool.and_self]
theorem prs_lay : ∀ ps : List P2, PyData.canLayAll0 (prDs ps) = true
  | [] => rfl
  | p :: ps => by
    show PyData.canLayAll0 (prD p :: prDs ps) = true
    simp only [PyData.canLayAll0, prD, PyData.canLay0, prs_lay ps, Bool.and_self]
theorem prs_depth : ∀ ps : List P2, PyData.depthAll (prDs ps) ≤ 2
  | [] => by simp [prDs, PyData.depthAll]
  | p :: ps => by
    have h1 := prs_depth ps
    show PyData.depthAll (prD p :: prDs ps) ≤ 2
    simp only [PyData.depthAll, prD, PyData.depth]
    omega
theorem shaped_prs (ps : List P2) : SeqAt.shaped (.list (prDs ps)) = true := by
  have h := prs_depth ps
  have e : (PyData.list (prDs ps)).depth ≤ 64 := by
    simp only [PyData.depth]
    omega
  unfold SeqAt.shaped
  rw [decide_eq_true e]
  simp only [PyData.canLay0, prs_lay ps, Bool.and_self]
section
variable {P : Program} {w : World} {K : PySem.W.Frag} {mg : Str → Option Value} {base : Heap}
theorem ok_least (T : Txt K mg) : FnOk P w K mg base CX0 1 T.f_least_usages T.d_least_usages ["pairs"] (spLeast K) := by
  refine T.F_least_usages.ok sc_least_usages (fun vs H Q E h => ?_) (fun cdv A outer s H vs Q E hr h => ?_)
  · obtain ⟨a, xs, ps, rfl, _⟩ := h
    rfl
  obtain ⟨a, xs, ps, rfl, hs, hd, hl, q⟩ := h
  refine ⟨_, (pss_cons (ps_set (i := 1) sc_least_usages.nd rfl (Or.inl rfl) (pe_lst pa_nil))
      (pss_cons (ps_for PassesOwn.never rfl (pi_list (pe_callB (r := rSortTP K) cr_sortTP (by rfl) T.n_sorted (by decide +kernel) (pa_cons (pv 0) pa_nil))) (pg_tup (by rfl) (pgs_cons (pg_name (i := 2) sc_least_usages.nd rfl (Or.inl rfl)) (pgs_cons (pg_name (i := 3) sc_least_usages.nd rfl (Or.inl rfl)) pgs_nil)))
        (pss_one (ps_if (PW.pt (pw_or (pt_not (pt_truth (pv 1) (by intro _; rfl))) (pw_or1 (pt_cmpR op_lt (pv 3) (pe_ix (r := rIxT K) ix_tup (pe_ix (r := rIxL K) ix_list (pv 1) (pe_un un_neg pe_int) (fun _ _ => rfl)) pe_int (fun _ _ => rfl)) (nomark _))))) (pss_one (ps_expr (pe_bm PySem.F.plainAttrs_list PySem.F.slot_list_append PySem.F.type_list_append mt_append (pv 1) (pa_cons (pe_tup (pa_cons (pv 2) (pa_cons (pv 3) pa_nil))) pa_nil)))) pss_nil)))
      (pss_one (ps_ret (pe_callTy (r := rTupS K) call_tupS (by rfl) T.n_tuple (by decide +kernel) (pa_cons (pv 1) pa_nil)))))), ?_⟩
  refine ⟨(by show 0 ≤ sizeLine; decide), fun r hr => ?_⟩
  have s0 : Same H (upd H r (.lst [])) := same_new hr
  have er0 : upd H r (.lst []) r = some (.lst []) := upd_same
  generalize (upd H r (.lst [])) = H1 at s0 er0 ⊢
  refine ⟨_, rfl, a, xs, ps.map keyP, rfl, same_sqL s0 hs, keys_pairs (dpAll_same s0 hd), fun ys ls p hk ho hperm hp => ?_⟩
  obtain ⟨qs, rfl, hqp, hqo⟩ := sorted_pairs ho hperm
  have s1 : Same H1 (upd H1 p (.lst ys)) := same_new hp
  have ep : upd H1 p (.lst ys) p = some (.lst ys) := upd_same
  have nrp : p ≠ r := fun z => by rw [z, er0] at hp; cases hp
  have dys := dpAll_same s1 (pairs_keys hk)
  have er1 := s1 _ _ er0
  have s01 := s0.trans s1
  generalize (upd H1 p (.lst ys)) = H2 at s1 ep dys er1 s01 ⊢
  have yl : ys.length = qs.length := by rw [dpAll_length dys, prDs, List.length_map]
  have ql : qs.length ≤ 1000 := by rw [hqp.length_eq]; exact hl
  refine ⟨p, rfl, ⟨ys, SqL.of ep⟩, ?_⟩
  refine for_list (K := K) (a := p) (xs := ys) (fun i σ G => ∃ (y2 y3 : Option V) (rs : List V) (W : List P2), σ = [some (.ref a), some (.ref r), y2, y3] ∧ Sx r H2 G ∧ G r = some (.lst rs) ∧ DpAll K G rs (prDs W) ∧ Found (qs.take i) W ∧ W.length ≤ i)
    ⟨none, none, [], [], rfl, Sx.refl, er1, .nil, by simpa using Found.nil, by simp⟩ ?_ ?_ ?_
  · rintro i σ G _ ⟨_, _, _, _, _, sx, _⟩
    exact SqL.of (sx _ _ nrp ep)
  · rintro i x σ G hi ⟨y2, y3, rs, W, rfl, sx, er, dW, fW, lW⟩
    obtain ⟨pp, epp, dx⟩ := prs_at dys hi
    obtain ⟨t, rfl, kt⟩ := pr_inv (dp_keep (fun b xs h => sx.sqT er1 h) rfl dx)
    have hb := behind_take hqo epp
    have et : qs.take (i + 1) = qs.take i ++ [pp] := by rw [List.take_add_one, epp]; rfl
    have hi1 := (List.getElem?_eq_some_iff.mp epp).1
    have rl : rs.length = W.length := by rw [dpAll_length dW, prDs, List.length_map]
    refine ⟨t, _, rfl, kt, rfl, _, _, rfl, _, _, rfl, rfl, ?_⟩
    -- a new row
    have add : ∀ (c : ∀ v, W.getLast? = some v → pp.2 < v.2) (G2 : Hp) (t2 : Addr), G t2 = none → G2 = upd (upd G t2 (.tup [.int pp.1, .int pp.2])) r (.lst (rs ++ [.ref t2])) →
        ∃ (y2 y3 : Option V) (rs : List V) (W : List P2), [some (.ref a), some (.ref r), some (.int pp.1), some (.int pp.2)] = [some (.ref a), some (.ref r), y2, y3] ∧ Sx r H2 G2 ∧ G2 r = some (.lst rs) ∧ DpAll K G2 rs (prDs W) ∧ Found (qs.take (i + 1)) W ∧ W.length ≤ i + 1 := by
      rintro c G2 t2 ht2 rfl
      have s3 : Same G (upd G t2 (.tup [.int pp.1, .int pp.2])) := same_new ht2
      have k2 : SqT K (upd G t2 (.tup [.int pp.1, .int pp.2])) t2 [.int pp.1, .int pp.2] := SqT.of upd_same
      generalize (upd G t2 (.tup [.int pp.1, .int pp.2])) = G1 at s3 k2 ⊢
      have er3 := s3 _ _ er
      have kk : ∀ b xs, SqT K G1 b xs → SqT K (upd G1 r (.lst (rs ++ [.ref t2]))) b xs := fun b xs h => (sx_upd (p := r)).sqT er3 h
      refine ⟨_, _, _, W ++ [pp], rfl, sx.trans ((Same.sx s3).trans sx_upd), upd_same, ?_, ?_, by rw [List.length_append, List.length_singleton]; omega⟩
      · have e : prDs (W ++ [pp]) = prDs W ++ [prD pp] := by rw [prDs, List.map_append]; rfl
        rw [e]
        exact dpAll_append (dpAll_keep kk (noLs_pr W) (dpAll_same s3 dW)) (.cons (.tup (kk _ _ k2) (.cons (.int _) (.cons (.int _) .nil))) .nil)
      · rw [et]
        exact fW.add hb c
    have skip : ∀ v, W.getLast? = some v → ¬ pp.2 < v.2 →
        ∃ (y2 y3 : Option V) (rs : List V) (W : List P2), [some (.ref a), some (.ref r), some (.int pp.1), some (.int pp.2)] = [some (.ref a), some (.ref r), y2, y3] ∧ Sx r H2 G ∧ G r = some (.lst rs) ∧ DpAll K G rs (prDs W) ∧ Found (qs.take (i + 1)) W ∧ W.length ≤ i + 1 := by
      intro v hv hn
      refine ⟨_, _, rs, W, rfl, sx, er, dW, ?_, by omega⟩
      rw [et]
      exact fW.skip hv hb hn
    cases eW : W.getLast? with
    | none =>
      rw [List.getLast?_eq_none_iff] at eW
      subst eW
      have rs0 : rs = [] := List.length_eq_zero_iff.mp (by rw [rl]; rfl)
      subst rs0
      refine ⟨_, rfl, _, .inl ⟨[], SqL.of er, rfl⟩, ?_⟩
      refine iteT ?_
      refine iteT ?_
      refine ⟨_, rfl, .inl ⟨rfl, [], SqL.of er⟩, _, rfl, _, rfl, (by show 2 ≤ sizeLine; decide), fun t2 ht2 => ?_⟩
      have s3 : Same G (upd G t2 (.tup [.int pp.1, .int pp.2])) := same_new ht2
      refine ⟨r, [], _, rfl, rfl, s3 _ _ er, by decide, ?_⟩
      exact add (fun v hv => by cases hv) _ t2 ht2 rfl
    | some v =>
      obtain ⟨tl, eat, kl⟩ := dp_last dW eW
      have rs1 : rs.isEmpty = false := by
        cases rs with
        | nil => rw [List.getLast?_eq_some_iff] at eW; obtain ⟨l, rfl⟩ := eW; simp at rl
        | cons _ _ => rfl
      refine ⟨_, rfl, _, .inl ⟨rs, SqL.of er, rfl⟩, ?_⟩
      rw [rs1]
      refine iteF ?_
      refine ⟨_, rfl, _, rfl, _, rfl, _, _, _, _, rfl, rfl, SqL.of er, eat, _, _, _, _, rfl, rfl, kl, atI_at (j := 1) rfl rfl, _, _, rfl, rfl, _, rfl, ?_⟩
      refine ite2 (fun g => ?_) (fun g => ?_)
      · refine ⟨_, rfl, .inl ⟨rfl, rs, SqL.of er⟩, _, rfl, _, rfl, (by show 2 ≤ sizeLine; decide), fun t2 ht2 => ?_⟩
        have s3 : Same G (upd G t2 (.tup [.int pp.1, .int pp.2])) := same_new ht2
        refine ⟨r, rs, _, rfl, rfl, s3 _ _ er, small1000 (by omega), ?_⟩
        exact add (fun u hu => by rw [eW] at hu; cases hu; exact of_decide_eq_true g) _ t2 ht2 rfl
      · exact skip v eW fun z => g (decide_eq_true z)
  · rintro σ G ⟨y2, y3, rs, W, rfl, sx, er, dW, fW, lW⟩
    rw [yl, List.take_length] at fW
    refine ⟨_, rfl, r, rs, rfl, .inl ⟨SqL.of er, fun t ht => ?_⟩⟩
    have s3 : Same G (upd G t (.tup rs)) := same_new ht
    exact q _ t W ((Same.sx_free s01 hr sx).trans s3) (.tup (SqT.of upd_same) (dpAll_same s3 dW)) (fW.val.perm fun p => hqp.mem_iff)
theorem ok_lval (T : Txt K mg) : FnOk P w K mg base CX0 1 T.f__law_valleys T.d__law_valleys ["_law_pairs"] (spLeast K) := by
  refine T.F__law_valleys.ok sc__law_valleys (fun vs H Q E h => ?_) (fun cdv A outer s H vs Q E hr h => ?_)
  · obtain ⟨a, xs, ps, rfl, _⟩ := h
    rfl
  obtain ⟨a, xs, ps, rfl, hs, hd, hl, q⟩ := h
  refine ⟨_, (pss_cons (ps_set (i := 1) sc__law_valleys.nd rfl (Or.inl rfl) (pe_lst pa_nil))
      (pss_cons (ps_for PassesOwn.never rfl (pi_list (pe_callB (r := rSortTP K) cr_sortTP (by rfl) T.n_sorted (by decide +kernel) (pa_cons (pv 0) pa_nil))) (pg_tup (by rfl) (pgs_cons (pg_name (i := 2) sc__law_valleys.nd rfl (Or.inl rfl)) (pgs_cons (pg_name (i := 3) sc__law_valleys.nd rfl (Or.inl rfl)) pgs_nil)))
        (pss_one (ps_if (PW.pt (pw_or (pt_cmpR (r := rEqD K) (op_eqD hr.units) (pv 1) (pe_lst pa_nil) (nomark _)) (pw_or1 (pt_cmpR op_lt (pv 3) (pe_ix (r := rIxT K) ix_tup (pe_ix (r := rIxL K) ix_list (pv 1) (pe_un un_neg pe_int) (fun _ _ => rfl)) pe_int (fun _ _ => rfl)) (nomark _))))) (pss_one (ps_expr (pe_bm PySem.F.plainAttrs_list PySem.F.slot_list_append PySem.F.type_list_append mt_append (pv 1) (pa_cons (pe_tup (pa_cons (pv 2) (pa_cons (pv 3) pa_nil))) pa_nil)))) pss_nil)))
      (pss_one (ps_ret (pe_callTy (r := rTupS K) call_tupS (by rfl) T.n_tuple (by decide +kernel) (pa_cons (pv 1) pa_nil)))))), ?_⟩
  refine ⟨(by show 0 ≤ sizeLine; decide), fun r hr => ?_⟩
  have s0 : Same H (upd H r (.lst [])) := same_new hr
  have er0 : upd H r (.lst []) r = some (.lst []) := upd_same
  generalize (upd H r (.lst [])) = H1 at s0 er0 ⊢
  refine ⟨_, rfl, a, xs, ps.map keyP, rfl, same_sqL s0 hs, keys_pairs (dpAll_same s0 hd), fun ys ls p hk ho hperm hp => ?_⟩
  obtain ⟨qs, rfl, hqp, hqo⟩ := sorted_pairs ho hperm
  have s1 : Same H1 (upd H1 p (.lst ys)) := same_new hp
  have ep : upd H1 p (.lst ys) p = some (.lst ys) := upd_same
  have nrp : p ≠ r := fun z => by rw [z, er0] at hp; cases hp
  have dys := dpAll_same s1 (pairs_keys hk)
  have er1 := s1 _ _ er0
  have s01 := s0.trans s1
  generalize (upd H1 p (.lst ys)) = H2 at s1 ep dys er1 s01 ⊢
  have yl : ys.length = qs.length := by rw [dpAll_length dys, prDs, List.length_map]
  have ql : qs.length ≤ 1000 := by rw [hqp.length_eq]; exact hl
  refine ⟨p, rfl, ⟨ys, SqL.of ep⟩, ?_⟩
  refine for_list (K := K) (a := p) (xs := ys) (fun i σ G => ∃ (y2 y3 : Option V) (rs : List V) (W : List P2), σ = [some (.ref a), some (.ref r), y2, y3] ∧ Sx r H2 G ∧ G r = some (.lst rs) ∧ DpAll K G rs (prDs W) ∧ Found (qs.take i) W ∧ W.length ≤ i)
    ⟨none, none, [], [], rfl, Sx.refl, er1, .nil, by simpa using Found.nil, by simp⟩ ?_ ?_ ?_
  · rintro i σ G _ ⟨_, _, _, _, _, sx, _⟩
    exact SqL.of (sx _ _ nrp ep)
  · rintro i x σ G hi ⟨y2, y3, rs, W, rfl, sx, er, dW, fW, lW⟩
    obtain ⟨pp, epp, dx⟩ := prs_at dys hi
    obtain ⟨t, rfl, kt⟩ := pr_inv (dp_keep (fun b xs h => sx.sqT er1 h) rfl dx)
    have hb := behind_take hqo epp
    have et : qs.take (i + 1) = qs.take i ++ [pp] := by rw [List.take_add_one, epp]; rfl
    have hi1 := (List.getElem?_eq_some_iff.mp epp).1
    have rl : rs.length = W.length := by rw [dpAll_length dW, prDs, List.length_map]
    refine ⟨t, _, rfl, kt, rfl, _, _, rfl, _, _, rfl, rfl, ?_⟩
    refine ⟨_, rfl, (by show 0 ≤ sizeLine; decide), fun e0 he0 => ?_⟩
    have se : Same G (upd G e0 (.lst [])) := same_new he0
    have de : Dp K (upd G e0 (.lst [])) (.ref e0) (.list []) := .lst (SqL.of upd_same) .nil
    generalize (upd G e0 (.lst [])) = Ge at se de ⊢
    have sx := sx.trans (Same.sx se)
    have er := se _ _ er
    have dW := dpAll_same se dW
    have kt := same_sqT se kt
    -- a new row
    have add : ∀ (c : ∀ v, W.getLast? = some v → pp.2 < v.2) (G2 : Hp) (t2 : Addr), Ge t2 = none → G2 = upd (upd Ge t2 (.tup [.int pp.1, .int pp.2])) r (.lst (rs ++ [.ref t2])) →
        ∃ (y2 y3 : Option V) (rs : List V) (W : List P2), [some (.ref a), some (.ref r), some (.int pp.1), some (.int pp.2)] = [some (.ref a), some (.ref r), y2, y3] ∧ Sx r H2 G2 ∧ G2 r = some (.lst rs) ∧ DpAll K G2 rs (prDs W) ∧ Found (qs.take (i + 1)) W ∧ W.length ≤ i + 1 := by
      rintro c G2 t2 ht2 rfl
      have s3 : Same Ge (upd Ge t2 (.tup [.int pp.1, .int pp.2])) := same_new ht2
      have k2 : SqT K (upd Ge t2 (.tup [.int pp.1, .int pp.2])) t2 [.int pp.1, .int pp.2] := SqT.of upd_same
      generalize (upd Ge t2 (.tup [.int pp.1, .int pp.2])) = G1 at s3 k2 ⊢
      have er3 := s3 _ _ er
      have kk : ∀ b xs, SqT K G1 b xs → SqT K (upd G1 r (.lst (rs ++ [.ref t2]))) b xs := fun b xs h => (sx_upd (p := r)).sqT er3 h
      refine ⟨_, _, _, W ++ [pp], rfl, sx.trans ((Same.sx s3).trans sx_upd), upd_same, ?_, ?_, by rw [List.length_append, List.length_singleton]; omega⟩
      · have e : prDs (W ++ [pp]) = prDs W ++ [prD pp] := by rw [prDs, List.map_append]; rfl
        rw [e]
        exact dpAll_append (dpAll_keep kk (noLs_pr W) (dpAll_same s3 dW)) (.cons (.tup (kk _ _ k2) (.cons (.int _) (.cons (.int _) .nil))) .nil)
      · rw [et]
        exact fW.add hb c
    have skip : ∀ v, W.getLast? = some v → ¬ pp.2 < v.2 →
        ∃ (y2 y3 : Option V) (rs : List V) (W : List P2), [some (.ref a), some (.ref r), some (.int pp.1), some (.int pp.2)] = [some (.ref a), some (.ref r), y2, y3] ∧ Sx r H2 Ge ∧ Ge r = some (.lst rs) ∧ DpAll K Ge rs (prDs W) ∧ Found (qs.take (i + 1)) W ∧ W.length ≤ i + 1 := by
      intro v hv hn
      refine ⟨_, _, rs, W, rfl, sx, er, dW, ?_, by omega⟩
      rw [et]
      exact fW.skip hv hb hn
    cases eW : W.getLast? with
    | none =>
      rw [List.getLast?_eq_none_iff] at eW
      subst eW
      have rs0 : rs = [] := List.length_eq_zero_iff.mp (by rw [rl]; rfl)
      subst rs0
      refine ⟨.list [], .list [], .lst (SqL.of er) .nil, de, by decide, by decide, _, rfl, ?_⟩
      refine iteT ?_
      refine iteT ?_
      refine ⟨_, rfl, .inl ⟨rfl, [], SqL.of er⟩, _, rfl, _, rfl, (by show 2 ≤ sizeLine; decide), fun t2 ht2 => ?_⟩
      have s3 : Same Ge (upd Ge t2 (.tup [.int pp.1, .int pp.2])) := same_new ht2
      refine ⟨r, [], _, rfl, rfl, s3 _ _ er, by decide, ?_⟩
      exact add (fun v hv => by cases hv) _ t2 ht2 rfl
    | some v =>
      obtain ⟨tl, eat, kl⟩ := dp_last dW eW
      have rs1 : rs.isEmpty = false := by
        cases rs with
        | nil => rw [List.getLast?_eq_some_iff] at eW; obtain ⟨l, rfl⟩ := eW; simp at rl
        | cons _ _ => rfl
      refine ⟨.list (prDs W), .list [], .lst (SqL.of er) dW, de, shaped_prs W, by decide, _, rfl, ?_⟩
      have ne : PyData.eqv (.list (prDs W)) (.list []) = false := by
        obtain ⟨l, rfl⟩ := List.getLast?_eq_some_iff.mp eW
        cases l <;> simp [prDs, PyData.eqv, PyData.eqvAll]
      rw [ne]
      refine iteF ?_
      refine ⟨_, rfl, _, rfl, _, rfl, _, _, _, _, rfl, rfl, SqL.of er, eat, _, _, _, _, rfl, rfl, kl, atI_at (j := 1) rfl rfl, _, _, rfl, rfl, _, rfl, ?_⟩
      refine ite2 (fun g => ?_) (fun g => ?_)
      · refine ⟨_, rfl, .inl ⟨rfl, rs, SqL.of er⟩, _, rfl, _, rfl, (by show 2 ≤ sizeLine; decide), fun t2 ht2 => ?_⟩
        have s3 : Same Ge (upd Ge t2 (.tup [.int pp.1, .int pp.2])) := same_new ht2
        refine ⟨r, rs, _, rfl, rfl, s3 _ _ er, small1000 (by omega), ?_⟩
        exact add (fun u hu => by rw [eW] at hu; cases hu; exact of_decide_eq_true g) _ t2 ht2 rfl
      · exact skip v eW fun z => g (decide_eq_true z)
  · rintro σ G ⟨y2, y3, rs, W, rfl, sx, er, dW, fW, lW⟩
    rw [yl, List.take_length] at fW
    refine ⟨_, rfl, r, rs, rfl, .inl ⟨SqL.of er, fun t ht => ?_⟩⟩
    have s3 : Same G (upd G t (.tup rs)) := same_new ht
    exact q _ t W ((Same.sx_free s01 hr sx).trans s3) (.tup (SqT.of upd_same) (dpAll_same s3 dW)) (fW.val.perm fun p => hqp.mem_iff)
end
/-! block Form: the form of a profile, what checks it (behind bLeast, bStep25) -/
structure Form (N p : Int) (S E : List P2) : Prop where
  s1 : ∃ l W, S = (0, l) :: W ∧ l ≤ 0
  sL : S.length ≤ 400
  sS : Strict S
  e1 : ∃ l W, E = (N, l) :: W ∧ l ≤ N
  eL : E.length ≤ 400
  eS : Strict E
  last : ∃ u v, S.getLast? = some u ∧ E.getLast? = some v ∧ v.2 = u.2 ∧ u.1 ≤ p ∧ v.1 ≤ p
  pk : 0 ≤ p ∧ N ≤ p
theorem Prof.form {ss : List Int} {N p : Int} {S E : List P2} (h : Prof ss N p S E) (hl : ss.length ≤ 399) : Form N p S E := by
  have m0 : ((0, 0) : P2) ∈ front 0 0 ss := by
    have := front_first ss 0 0
    simpa using this
  have mN : ((ss.sum, ss.sum) : P2) ∈ front ss.sum ss.sum (bw ss) := by
    have := front_first (bw ss) ss.sum ss.sum
    simpa using this
  obtain ⟨l, W, eS, hl0⟩ := h.start.first m0 fun q hq => by have := (front_ge _ _ _ q hq).1; simpa using this
  obtain ⟨l', W', eE, hl1⟩ := h.fin.first mN fun q hq => by have := (front_ge _ _ _ q hq).1; simpa using this
  have hg := highs_ge ss 0 0
  rw [Int.zero_add] at hg
  refine ⟨⟨l, W, eS, hl0⟩, ?_, h.start.strict, ⟨l', W', ?_, ?_⟩, ?_, h.fin.strict, ?_, ?_⟩
  · have := h.start.len
    rw [front_len] at this
    omega
  · rw [h.net]
    exact eE
  · rw [h.net]
    exact hl1
  · have := h.fin.len
    rw [front_len] at this
    simp only [bw, List.length_map, List.length_reverse] at this
    omega
  · have nS : S ≠ [] := by rw [eS]; simp
    have nE : E ≠ [] := by rw [eE]; simp
    obtain ⟨u, hu⟩ : ∃ u, S.getLast? = some u := by
      cases e : S.getLast? with
      | none => rw [List.getLast?_eq_none_iff] at e; exact absurd e nS
      | some x => exact ⟨x, rfl⟩
    obtain ⟨v, hv⟩ : ∃ v, E.getLast? = some v := by
      cases e : E.getLast? with
      | none => rw [List.getLast?_eq_none_iff] at e; exact absurd e nE
      | some x => exact ⟨x, rfl⟩
    refine ⟨u, v, hu, hv, h.same_low hu hv, ?_, ?_⟩
    · have := (front_ge _ _ _ u (h.start.low hu).1).2.2
      rw [h.peak]
      exact this
    · have := (front_ge _ _ _ v (h.fin.low hv).1).2.2
      rw [highs_max, highs_bw] at this
      rw [h.peak]
      omega
  · rw [h.peak, h.net]
    omega
abbrev profD (N p : Int) (S E : List P2) : PyData := .tuple [.int N, .int p, .tuple (prDs S), .tuple (prDs E)]
theorem prof_inv {K : PySem.W.Frag} {H : Hp} {v : V} {N p : Int} {S E : List P2} (h : Dp K H v (profD N p S E)) : ∃ t a b, v = .ref t ∧ SqT K H t [.int N, .int p, .ref a, .ref b] ∧ Dp K H (.ref a) (.tuple (prDs S)) ∧ Dp K H (.ref b) (.tuple (prDs E)) := by
  obtain ⟨t, xs, rfl, hs, ha⟩ := dp_tup_inv h
  cases ha with
  | cons h1 ha =>
  cases ha with
  | cons h2 ha =>
  cases ha with
  | cons h3 ha =>
  cases ha with
  | cons h4 ha =>
  cases ha
  cases h1
  cases h2
  obtain ⟨a, _, rfl, k3, d3⟩ := dp_tup_inv h3
  obtain ⟨b, _, rfl, k4, d4⟩ := dp_tup_inv h4
  exact ⟨t, a, b, rfl, hs, .tup k3 d3, .tup k4 d4⟩
theorem prof_noL (N p : Int) (S E : List P2) : noL (profD N p S E) = true := by
  simp only [noL, noLs, noLs_pr, Bool.and_self]
theorem dpT_at {K : PySem.W.Frag} {H : Hp} {a : Addr} {p : P2} {W : List P2} (h : Dp K H (.ref a) (.tuple (prDs (p :: W)))) : ∃ xs t, SqT K H a xs ∧ atI xs 0 = some (.ref t) ∧ SqT K H t [.int p.1, .int p.2] := by
  obtain ⟨_, xs, e, hs, ha⟩ := dp_tup_inv h
  cases e
  cases ha with
  | cons hx hr =>
  obtain ⟨t, rfl, k⟩ := pr_inv hx
  exact ⟨_, t, hs, atI_at (j := 0) rfl rfl, k⟩
theorem dpT_last {K : PySem.W.Frag} {H : Hp} {a : Addr} {v : P2} {W : List P2} (h : Dp K H (.ref a) (.tuple (prDs W))) (e : W.getLast? = some v) : ∃ xs t, SqT K H a xs ∧ atI xs (-1) = some (.ref t) ∧ SqT K H t [.int v.1, .int v.2] := by
  obtain ⟨_, xs, e0, hs, ha⟩ := dp_tup_inv h
  cases e0
  obtain ⟨t, e1, k⟩ := dp_last ha e
  exact ⟨_, t, hs, e1, k⟩
theorem sh_int (i : Int) : SeqAt.shaped (.int i) = true := by simp [SeqAt.shaped, PyData.canLay0, PyData.depth]
theorem eqv_int (i j : Int) : PyData.eqv (.int i) (.int j) = decide (i = j) := by
  simp only [PyData.eqv]
  rw [Bool.eq_iff_iff]
  simp
def spLen (K : PySem.W.Frag) : Sp := fun vs H Q _ => ∃ (a : Addr) (ps : List P2), vs = [.ref a] ∧ Dp K H (.ref a) (.tuple (prDs ps)) ∧ ps.length ≤ 400 ∧ Q (.ref a) H
def spForm (K : PySem.W.Frag) : Sp := fun vs H Q _ => ∃ (v : V) (N p : Int) (S E : List P2), vs = [v] ∧ Dp K H v (profD N p S E) ∧ Form N p S E ∧ ∀ H', Same H H' → Q (.bl true) H'
def spCkProf (K : PySem.W.Frag) : Sp := fun vs H Q _ => ∃ (v : V) (N p : Int) (S E : List P2), vs = [v] ∧ Dp K H v (profD N p S E) ∧ Form N p S E ∧ ∀ H', Same H H' → Q .non H'
def spCked (K : PySem.W.Frag) : Sp := fun vs H Q _ => ∃ (v : V) (N p : Int) (S E : List P2), vs = [v] ∧ Dp K H v (profD N p S E) ∧ S.length ≤ 400 ∧ E.length ≤ 400 ∧ ∀ H' v', Same H H' → Dp K H' v' (profD N p S E) → Q v' H'
def spNum : Sp := fun vs H Q _ => ∃ i : Int, vs = [.int i] ∧ -E61 ≤ i ∧ i ≤ E61 ∧ Q .non H
def spShort : Sp := fun vs H Q _ => ∃ i : Int, vs = [.int i] ∧ -E61 ≤ i ∧ i ≤ E61 ∧ Q (.bl true) H
section
variable {P : Program} {w : World} {K : PySem.W.Frag} {mg : Str → Option Value} {base : Heap}
theorem ok_short (T : Txt K mg) : FnOk P w K mg base CX0 2 T.f_is_short_integer T.d_is_short_integer ["value"] spShort := by
  have g_is_integer := ok_isint (P := P) (w := w) (base := base) T
  refine T.F_is_short_integer.ok sc_is_short_integer (fun vs H Q E h => ?_) (fun cdv A outer s H vs Q E hr h => ?_)
  · obtain ⟨i, rfl, _⟩ := h
    rfl
  obtain ⟨i, rfl, h1, h2, q⟩ := h
  simp only [E61] at h1 h2
  refine ⟨_, (pss_one (ps_ret (pe_and (pe_call g_is_integer (hr.mono (by omega)) rfl T.m_is_integer T.F_is_integer.kp T.b_is_integer .nil pass0 (pa_cons (pv 0) pa_nil)) (pe_one (pe_chain op_lt op_lt (pe_un un_neg (pe_glob (v := .int 10000000000000000000000000000000000000000000000000000000000000) rfl T.g_NUMBER_END ⟨_, rfl⟩)) (pv 0) (pe_glob (v := .int 10000000000000000000000000000000000000000000000000000000000000) rfl T.g_NUMBER_END ⟨_, rfl⟩)))))), ?_⟩
  refine ⟨_, rfl, _, .int i, rfl, .int _, _, rfl, ?_⟩
  refine iteT ?_
  refine ⟨_, rfl, _, rfl, _, _, rfl, rfl, _, rfl, ?_⟩
  refine ite2 (fun g => ?_) (fun g => absurd (decide_eq_true (by omega)) g)
  refine ⟨_, _, rfl, rfl, ?_⟩
  have e : decide (i < 10000000000000000000000000000000000000000000000000000000000000) = true := decide_eq_true (by omega)
  dsimp only
  rw [e]
  exact q
theorem ok_num (T : Txt K mg) : FnOk P w K mg base CX0 3 T.f_check_number T.d_check_number ["value"] spNum := by
  have g_is_short_integer := ok_short (P := P) (w := w) (base := base) T
  refine T.F_check_number.ok sc_check_number (fun vs H Q E h => ?_) (fun cdv A outer s H vs Q E hr h => ?_)
  · obtain ⟨i, rfl, _⟩ := h
    rfl
  obtain ⟨i, rfl, h1, h2, q⟩ := h
  refine ⟨_, (pss_one (ps_if (pt_not (pt_val (pe_call g_is_short_integer (hr.mono (by omega)) rfl T.m_is_short_integer T.F_is_short_integer.kp T.b_is_short_integer .nil pass0 (pa_cons (pv 0) pa_nil)))) (pss_one ps_never) pss_nil)), ?_⟩
  refine ⟨_, rfl, i, rfl, h1, h2, _, rfl, ?_⟩
  refine iteF ?_
  exact q
theorem ok_len (T : Txt K mg) : FnOk P w K mg base CX0 1 T.f_checked_length T.d_checked_length ["pairs"] (spLen K) := by
  refine T.F_checked_length.ok sc_checked_length (fun vs H Q E h => ?_) (fun cdv A outer s H vs Q E hr h => ?_)
  · obtain ⟨a, ps, rfl, _⟩ := h
    rfl
  obtain ⟨a, ps, rfl, hd, h4, q⟩ := h
  refine ⟨_, (pss_cons (ps_if (pt_cmpR op_gt (pe_callB (r := rLenS K) call_lenS (by rfl) T.n_len (by decide +kernel) (pa_cons (pv 0) pa_nil)) (pe_glob (v := .int 400) rfl T.g_MAX_VALLEYS ⟨_, rfl⟩) (nomark _)) (pss_one ps_never) pss_nil)
      (pss_one (ps_ret (pv 0)))), ?_⟩
  obtain ⟨_, xs, e, hs, hall⟩ := dp_tup_inv hd
  cases e
  have hl : xs.length = ps.length := by rw [dpAll_length hall, prDs, List.length_map]
  refine ⟨_, rfl, a, xs, rfl, .inr hs, _, _, rfl, rfl, _, rfl, ?_⟩
  refine ite2 (fun g => ?_) (fun g => ?_)
  · have := of_decide_eq_true g
    omega
  · exact ⟨_, rfl, q⟩
theorem ok_form (T : Txt K mg) : FnOk P w K mg base CX0 5 T.f_has_profile_form T.d_has_profile_form ["value"] (spForm K) := by
  have g_is_integer := ok_isint (P := P) (w := w) (base := base) T
  have g_is_valleys := ok_val (P := P) (w := w) (base := base) T
  have g_is_start_valleys := ok_sval (P := P) (w := w) (base := base) T
  refine T.F_has_profile_form.ok sc_has_profile_form (fun vs H Q E h => ?_) (fun cdv A outer s H vs Q E hr h => ?_)
  · obtain ⟨v, N, p, S, E', rfl, _⟩ := h
    rfl
  obtain ⟨v, N, p, S, E', rfl, hd, fo, q⟩ := h
  refine ⟨_, (pss_cons (ps_if (PW.pt (pw_or (pt_not (pt_val (pe_callB (r := rIsD K) call_isD (by rfl) T.n_isinstance (by decide +kernel) (pa_cons (pv 0) (pa_cons (pe_bltn (v := .ty "tuple") (by rfl) T.n_tuple (by decide +kernel) rfl) pa_nil))))) (pw_or1 (pt_cmpR op_ne (pe_callB (r := rLenS K) call_lenS (by rfl) T.n_len (by decide +kernel) (pa_cons (pv 0) pa_nil)) pe_int (nomark _))))) (pss_one (ps_ret pe_bl)) pss_nil)
      (pss_cons (ps_asg (pv 0) (pg_tup (by rfl) (pgs_cons (pg_name (i := 1) sc_has_profile_form.nd rfl (Or.inl rfl)) (pgs_cons (pg_name (i := 2) sc_has_profile_form.nd rfl (Or.inl rfl)) (pgs_cons (pg_name (i := 3) sc_has_profile_form.nd rfl (Or.inl rfl)) (pgs_cons (pg_name (i := 4) sc_has_profile_form.nd rfl (Or.inl rfl)) pgs_nil))))))
      (pss_cons (ps_if (PW.pt (pw_or (pt_not (pt_val (pe_call g_is_integer (hr.mono (by omega)) rfl T.m_is_integer T.F_is_integer.kp T.b_is_integer .nil pass0 (pa_cons (pv 1) pa_nil)))) (pw_or (pt_not (pt_val (pe_call g_is_integer (hr.mono (by omega)) rfl T.m_is_integer T.F_is_integer.kp T.b_is_integer .nil pass0 (pa_cons (pv 2) pa_nil)))) (pw_or (pt_not (pt_val (pe_call g_is_start_valleys (hr.mono (by omega)) rfl T.m_is_start_valleys T.F_is_start_valleys.kp T.b_is_start_valleys .nil pass0 (pa_cons (pv 3) pa_nil)))) (pw_or1 (pt_not (pt_val (pe_call g_is_valleys (hr.mono (by omega)) rfl T.m_is_valleys T.F_is_valleys.kp T.b_is_valleys .nil pass0 (pa_cons (pv 4) pa_nil))))))))) (pss_one (ps_ret pe_bl)) pss_nil)
      (pss_cons (ps_if (PW.pt (pw_or (pt_cmpR (r := rNeD K) (op_neD hr.units) (pe_ix (r := rIxT K) ix_tup (pe_ix (r := rIxT K) ix_tup (pv 4) pe_int (fun _ _ => rfl)) pe_int (fun _ _ => rfl)) (pv 1) (nomark _)) (pw_or (pt_cmpR op_gt (pe_ix (r := rIxT K) ix_tup (pe_ix (r := rIxT K) ix_tup (pv 4) pe_int (fun _ _ => rfl)) pe_int (fun _ _ => rfl)) (pv 1) (nomark _)) (pw_or1 (pt_cmpR (r := rNeD K) (op_neD hr.units) (pe_ix (r := rIxT K) ix_tup (pe_ix (r := rIxT K) ix_tup (pv 4) (pe_un un_neg pe_int) (fun _ _ => rfl)) pe_int (fun _ _ => rfl)) (pe_ix (r := rIxT K) ix_tup (pe_ix (r := rIxT K) ix_tup (pv 3) (pe_un un_neg pe_int) (fun _ _ => rfl)) pe_int (fun _ _ => rfl)) (nomark _)))))) (pss_one (ps_ret pe_bl)) pss_nil)
      (pss_one (ps_ret (pe_cmpR op_ge (pv 2) (pe_callB (call_max4 rfl) (by rfl) T.n_max (by decide +kernel) (pa_cons pe_int (pa_cons (pv 1) (pa_cons (pe_ix (r := rIxT K) ix_tup (pe_ix (r := rIxT K) ix_tup (pv 3) (pe_un un_neg pe_int) (fun _ _ => rfl)) pe_int (fun _ _ => rfl)) (pa_cons (pe_ix (r := rIxT K) ix_tup (pe_ix (r := rIxT K) ix_tup (pv 4) (pe_un un_neg pe_int) (fun _ _ => rfl)) pe_int (fun _ _ => rfl)) pa_nil))))) (nomark _)))))))), ?_⟩
  obtain ⟨t, a, b, rfl, ht, ha, hb⟩ := prof_inv hd
  obtain ⟨l, W, eS, hl⟩ := fo.s1
  obtain ⟨l', W', eE, hl'⟩ := fo.e1
  obtain ⟨u, v, hu, hv, elast, hup, hvp⟩ := fo.last
  refine ⟨_, rfl, _, _, _, _, rfl, hd, kit_tuple _, _, rfl, ?_⟩
  refine iteF ?_
  refine ⟨_, rfl, t, _, rfl, .inr ht, rfl, _, rfl, ?_⟩
  refine iteNS rfl ?_
  refine ⟨_, rfl, t, _, rfl, ht, rfl, _, _, rfl, _, _, rfl, _, _, rfl, _, _, rfl, rfl, ?_⟩
  refine ⟨_, rfl, _, .int N, rfl, .int _, _, rfl, ?_⟩
  refine iteF ?_
  refine ⟨_, rfl, _, .int p, rfl, .int _, _, rfl, ?_⟩
  refine iteF ?_
  refine ⟨_, rfl, _, S, l, W, rfl, ha, eS, hl, fo.sL, fo.sS, fun H1 s1 => ?_⟩
  refine ⟨_, rfl, ?_⟩
  refine iteF ?_
  refine ⟨_, rfl, _, E', rfl, dp_same s1 hb, by rw [eE, List.length_cons]; omega, fo.eL, fo.eS, fun H2 s2 => ?_⟩
  refine ⟨_, rfl, ?_⟩
  refine iteF ?_
  have s12 := s1.trans s2
  have ha2 := dp_same s12 ha
  have hb2 := dp_same s12 hb
  obtain ⟨xe, te, kxe, ate, kte⟩ := dpT_at (by rw [eE] at hb2; exact hb2)
  obtain ⟨xl, tl, kxl, atl, ktl⟩ := dpT_last hb2 hv
  obtain ⟨xs, ts, kxs, ats, kts⟩ := dpT_last ha2 hu
  refine ⟨_, rfl, _, _, _, _, rfl, rfl, kxe, ate, _, _, _, _, rfl, rfl, kte, atI_at (j := 0) rfl rfl, _, rfl, .int N, .int N, .int _, .int _, sh_int _, sh_int _, _, rfl, ?_⟩
  rw [eqv_int, decide_eq_true rfl]
  refine iteF ?_
  refine ⟨_, rfl, _, _, _, _, rfl, rfl, kxe, ate, _, _, _, _, rfl, rfl, kte, atI_at (j := 1) rfl rfl, _, rfl, _, _, rfl, rfl, _, rfl, ?_⟩
  refine ite2 (fun g => absurd (of_decide_eq_true g) (by dsimp only; omega)) (fun g => ?_)
  refine ⟨_, rfl, _, rfl, _, _, _, _, rfl, rfl, kxl, atl, _, _, _, _, rfl, rfl, ktl, atI_at (j := 1) rfl rfl, _, rfl, _, rfl, _, _, _, _, rfl, rfl, kxs, ats, _, _, _, _, rfl, rfl, kts, atI_at (j := 1) rfl rfl, .int v.2, .int u.2, .int _, .int _, sh_int _, sh_int _, _, rfl, ?_⟩
  rw [eqv_int, decide_eq_true elast]
  refine iteF ?_
  refine ⟨_, rfl, _, rfl, _, rfl, _, rfl, _, _, _, _, rfl, rfl, kxs, ats, _, _, _, _, rfl, rfl, kts, atI_at (j := 0) rfl rfl, _, rfl, _, rfl, _, _, _, _, rfl, rfl, kxl, atl, _, _, _, _, rfl, rfl, ktl, atI_at (j := 0) rfl rfl, _, _, _, _, rfl, fun m hm _ _ _ _ => ?_⟩
  refine ⟨_, _, rfl, rfl, ?_⟩
  have hmp : m ≤ p := by
    have h0 := fo.pk
    simp only [List.mem_cons, List.not_mem_nil, or_false] at hm
    omega
  have e : decide (m ≤ p) = true := decide_eq_true hmp
  dsimp only
  rw [e]
  exact q _ s12
theorem ok_ckprof (T : Txt K mg) : FnOk P w K mg base CX0 6 T.f_check_profile T.d_check_profile ["value"] (spCkProf K) := by
  have g_has_profile_form := ok_form (P := P) (w := w) (base := base) T
  refine T.F_check_profile.ok sc_check_profile (fun vs H Q E h => ?_) (fun cdv A outer s H vs Q E hr h => ?_)
  · obtain ⟨v, N, p, S, E', rfl, _⟩ := h
    rfl
  obtain ⟨v, N, p, S, E', rfl, hd, fo, q⟩ := h
  refine ⟨_, (pss_one (ps_if (pt_not (pt_val (pe_call g_has_profile_form (hr.mono (by omega)) rfl T.m_has_profile_form T.F_has_profile_form.kp T.b_has_profile_form .nil pass0 (pa_cons (pv 0) pa_nil)))) (pss_one ps_never) pss_nil)), ?_⟩
  refine ⟨_, rfl, v, N, p, S, E', rfl, hd, fo, fun H1 s1 => ?_⟩
  refine ⟨_, rfl, ?_⟩
  refine iteF ?_
  exact q _ s1
/-- profiles of these steps -/
inductive Profs (K : PySem.W.Frag) (H : Hp) : List V → List (List Int) → Prop
  | nil : Profs K H [] []
  | cons {v : V} {ss : List Int} {vs : List V} {sss : List (List Int)} {N p : Int} {S E : List P2} (hd : Dp K H v (profD N p S E)) (hp : Prof ss N p S E) (r : Profs K H vs sss) : Profs K H (v :: vs) (ss :: sss)
theorem Profs.len {K : PySem.W.Frag} {H : Hp} {vs : List V} {sss : List (List Int)} (h : Profs K H vs sss) : vs.length = sss.length := by
  induction h with
  | nil => rfl
  | cons _ _ _ ih => rw [List.length_cons, List.length_cons, ih]
theorem Profs.keep {K : PySem.W.Frag} {H H' : Hp} {vs : List V} {sss : List (List Int)} (h : Profs K H vs sss) (k : ∀ b xs, SqT K H b xs → SqT K H' b xs) : Profs K H' vs sss := by
  induction h with
  | nil => exact .nil
  | cons hd hp _ ih => exact .cons (dp_keep k (prof_noL _ _ _ _) hd) hp ih
theorem Profs.same {K : PySem.W.Frag} {H H' : Hp} {vs : List V} {sss : List (List Int)} (h : Profs K H vs sss) (s : Same H H') : Profs K H' vs sss := h.keep fun _ _ => same_sqT s
theorem Profs.at {K : PySem.W.Frag} {H : Hp} {vs : List V} {sss : List (List Int)} (h : Profs K H vs sss) : ∀ {i : Nat} {x : V}, vs[i]? = some x → ∃ ss N p S E, sss[i]? = some ss ∧ Dp K H x (profD N p S E) ∧ Prof ss N p S E := by
  induction h with
  | nil => intro i x hi; simp at hi
  | @cons v ss vs sss N p S E hd hp r ih =>
    intro i x hi
    cases i with
    | zero =>
      simp only [List.getElem?_cons_zero, Option.some.injEq] at hi
      subst hi
      exact ⟨ss, N, p, S, E, rfl, hd, hp⟩
    | succ i => exact ih (by simpa using hi)
theorem Profs.dp {K : PySem.W.Frag} {H : Hp} {vs : List V} {sss : List (List Int)} (h : Profs K H vs sss) : ∃ ds, DpAll K H vs ds := by
  induction h with
  | nil => exact ⟨[], .nil⟩
  | cons hd _ _ ih =>
    obtain ⟨ds, h⟩ := ih
    exact ⟨_ :: ds, .cons hd h⟩
def spCkProfs (K : PySem.W.Frag) : Sp := fun vs H Q _ => ∃ (a : Addr) (xs : List V) (sss : List (List Int)), vs = [.ref a] ∧ SqT K H a xs ∧ Profs K H xs sss ∧ sss.length ≤ 400 ∧ (∀ ss ∈ sss, ss.length ≤ 399) ∧ ∀ H', Same H H' → Q .non H'
theorem ok_ckprofs (T : Txt K mg) : FnOk P w K mg base CX0 7 T.f_check_profiles T.d_check_profiles ["profiles"] (spCkProfs K) := by
  have g_check_profile := ok_ckprof (P := P) (w := w) (base := base) T
  refine T.F_check_profiles.ok sc_check_profiles (fun vs H Q E h => ?_) (fun cdv A outer s H vs Q E hr h => ?_)
  · obtain ⟨a, xs, sss, rfl, _⟩ := h
    rfl
  obtain ⟨a, xs, sss, rfl, hs, hp, hl, hb, q⟩ := h
  refine ⟨_, (pss_cons (ps_if (PW.pt (pw_or (pt_not (pt_val (pe_callB (r := rIsD K) call_isD (by rfl) T.n_isinstance (by decide +kernel) (pa_cons (pv 0) (pa_cons (pe_bltn (v := .ty "tuple") (by rfl) T.n_tuple (by decide +kernel) rfl) pa_nil))))) (pw_or1 (pt_cmpR op_gt (pe_callB (r := rLenS K) call_lenS (by rfl) T.n_len (by decide +kernel) (pa_cons (pv 0) pa_nil)) (pe_glob (v := .int 400) rfl T.g_MAX_PROFILES ⟨_, rfl⟩) (nomark _))))) (pss_one ps_never) pss_nil)
      (pss_one (ps_for PassesOwn.never rfl (pi_tup (pv 0)) (pg_name (i := 1) sc_check_profiles.nd rfl (Or.inl rfl))
        (pss_one (ps_expr (pe_call g_check_profile (hr.mono (by omega)) rfl T.m_check_profile T.F_check_profile.kp T.b_check_profile .nil pass0 (pa_cons (pv 1) pa_nil))))))), ?_⟩
  have xl := hp.len
  obtain ⟨ds, hds⟩ := hp.dp
  refine ⟨_, rfl, _, _, _, _, rfl, .tup hs hds, kit_tuple _, _, rfl, ?_⟩
  refine iteF ?_
  refine ⟨_, rfl, a, xs, rfl, .inr hs, _, _, rfl, rfl, _, rfl, ?_⟩
  refine ite2 (fun g => ?_) (fun _ => ?_)
  · have := of_decide_eq_true g
    omega
  refine ⟨_, rfl, a, rfl, ⟨xs, hs⟩, ?_⟩
  refine for_tup (K := K) (a := a) (xs := xs) (fun i σ G => ∃ y1 : Option V, σ = [some (.ref a), y1] ∧ Same H G) ⟨none, rfl, Same.refl _⟩ ?_ ?_ ?_
  · rintro i σ G _ ⟨_, _, s1⟩
    exact same_sqT s1 hs
  · rintro i x σ G hi ⟨y1, rfl, s1⟩
    obtain ⟨ss, N, p, S, E', es, dx, px⟩ := hp.at hi
    refine ⟨_, rfl, x, N, p, S, E', rfl, dp_same s1 dx, px.form (hb ss (List.mem_of_getElem? es)), fun G1 s2 => ?_⟩
    exact ⟨_, rfl, s1.trans s2⟩
  · rintro σ G ⟨_, _, s1⟩
    exact q _ s1
theorem ok_cked (T : Txt K mg) : FnOk P w K mg base CX0 2 T.f_checked_profile T.d_checked_profile ["profile"] (spCked K) := by
  have g_checked_length := ok_len (P := P) (w := w) (base := base) T
  refine T.F_checked_profile.ok sc_checked_profile (fun vs H Q E h => ?_) (fun cdv A outer s H vs Q E hr h => ?_)
  · obtain ⟨v, N, p, S, E', rfl, _⟩ := h
    rfl
  obtain ⟨v, N, p, S, E', rfl, hd, hS, hE, q⟩ := h
  refine ⟨_, (pss_cons (ps_asg (pv 0) (pg_tup (by rfl) (pgs_cons (pg_name (i := 1) sc_checked_profile.nd rfl (Or.inl rfl)) (pgs_cons (pg_name (i := 2) sc_checked_profile.nd rfl (Or.inl rfl)) (pgs_cons (pg_name (i := 3) sc_checked_profile.nd rfl (Or.inl rfl)) (pgs_cons (pg_name (i := 4) sc_checked_profile.nd rfl (Or.inl rfl)) pgs_nil))))))
      (pss_one (ps_ret (pe_tup (pa_cons (pv 1) (pa_cons (pv 2) (pa_cons (pe_call g_checked_length (hr.mono (by omega)) rfl T.m_checked_length T.F_checked_length.kp T.b_checked_length .nil pass0 (pa_cons (pv 3) pa_nil)) (pa_cons (pe_call g_checked_length (hr.mono (by omega)) rfl T.m_checked_length T.F_checked_length.kp T.b_checked_length .nil pass0 (pa_cons (pv 4) pa_nil)) pa_nil)))))))), ?_⟩
  obtain ⟨t, a, b, rfl, ht, ha, hb⟩ := prof_inv hd
  refine ⟨_, rfl, t, _, rfl, ht, rfl, _, _, rfl, _, _, rfl, _, _, rfl, _, _, rfl, rfl, ?_⟩
  refine ⟨_, rfl, _, rfl, _, rfl, a, S, rfl, ha, hS, ?_⟩
  refine ⟨_, rfl, b, E', rfl, hb, hE, ?_⟩
  refine ⟨(by show 4 ≤ sizeLine; decide), fun r hr => ?_⟩
  have s1 : Same H (upd H r (.tup [.int N, .int p, .ref a, .ref b])) := same_new hr
  exact q _ _ s1 (.tup (SqT.of upd_same) (.cons (.int _) (.cons (.int _) (.cons (dp_same s1 ha) (.cons (dp_same s1 hb) .nil)))))
end
/-! block Seq25: of_step, step_profile, _from_begin, _from_end, in_sequence, seq_profiles (behind bForm) -/
theorem if_max (i j : Int) : (if j > i then j else i) = max i j := by
  split <;> omega
theorem if_min (i j : Int) : (if j < i then j else i) = min i j := by
  split <;> omega
def spOfStep (K : PySem.W.Frag) : Sp := fun vs H Q _ => ∃ i : Int, vs = [.int i] ∧ ∀ (H' : Hp) (v : V) (N p : Int) (S E : List P2), Same H H' → Dp K H' v (profD N p S E) → Prof [i] N p S E → Q v H'
def spStepProf (K : PySem.W.Frag) : Sp := fun vs H Q _ => ∃ i : Int, vs = [.int i] ∧ -E61 ≤ i ∧ i ≤ E61 ∧ ∀ (H' : Hp) (v : V) (N p : Int) (S E : List P2), Same H H' → Dp K H' v (profD N p S E) → Prof [i] N p S E → Q v H'
/-- so few that every list is short -/
def Few (sss : List (List Int)) : Prop := sss.flatten.length + sss.length ≤ 390
def spBegin (K : PySem.W.Frag) : Sp := fun vs H Q _ => ∃ (a : Addr) (xs : List V) (sss : List (List Int)), vs = [.ref a] ∧ SeqA K H a xs ∧ Profs K H xs sss ∧ Few sss ∧
  ∀ (H' : Hp) (t ol : Addr) (os : List V) (O : List P2), Same H H' → H' t = some (.tup [.int sss.flatten.sum, .int (highs 0 0 sss.flatten), .ref ol]) → H' ol = some (.lst os) → DpAll K H' os (prDs O) → O.length ≤ 400 → Alike O (front 0 0 sss.flatten) → Q (.ref t) H'
def spEnd (K : PySem.W.Frag) : Sp := fun vs H Q _ => ∃ (a : Addr) (xs : List V) (sss : List (List Int)), vs = [.ref a, .int sss.flatten.sum] ∧ SeqA K H a xs ∧ Profs K H xs sss ∧ Few sss ∧
  ∀ (H' : Hp) (ol : Addr) (os : List V) (O : List P2), Same H H' → H' ol = some (.lst os) → DpAll K H' os (prDs O) → O.length ≤ 400 → Alike O (front sss.flatten.sum sss.flatten.sum (bw sss.flatten)) → Q (.ref ol) H'
def spInSeq (K : PySem.W.Frag) : Sp := fun vs H Q _ => ∃ (a : Addr) (xs : List V) (sss : List (List Int)), vs = [.ref a] ∧ SeqA K H a xs ∧ Profs K H xs sss ∧ Few sss ∧
  ∀ (H' : Hp) (v : V) (N p : Int) (S E : List P2), Same H H' → Dp K H' v (profD N p S E) → Prof sss.flatten N p S E → Q v H'
def spSeqProfs (K : PySem.W.Frag) : Sp := fun vs H Q _ => ∃ (a : Addr) (xs : List V) (sss : List (List Int)), vs = [.ref a] ∧ SqT K H a xs ∧ Profs K H xs sss ∧ Few sss ∧
  ∀ (H' : Hp) (v : V) (N p : Int) (S E : List P2), Same H H' → Dp K H' v (profD N p S E) → Prof sss.flatten N p S E → Q v H'
theorem few_take {sss : List (List Int)} (h : Few sss) (i : Nat) : Few (sss.take i) := by
  have e : sss = sss.take i ++ sss.drop i := (List.take_append_drop _ _).symm
  unfold Few at h ⊢
  rw [e, List.flatten_append, List.length_append, List.length_append] at h
  omega
theorem flat_take {sss : List (List Int)} {i : Nat} {ss : List Int} (h : sss[i]? = some ss) : (sss.take (i + 1)).flatten = (sss.take i).flatten ++ ss := by
  rw [List.take_add_one, h, List.flatten_append]
  simp
theorem len_flat : ∀ {sss : List (List Int)} {ss : List Int}, ss ∈ sss → ss.length ≤ sss.flatten.length
  | [], _, h => by cases h
  | a :: sss, ss, h => by
    rw [List.flatten_cons, List.length_append]
    rcases List.mem_cons.mp h with rfl | h
    · omega
    · have := len_flat h
      omega
theorem strict_dist : ∀ {V : List P2}, Strict V → ∀ x ∈ V, ∀ y ∈ V, Dm x y → x = y
  | [], _, _, hx, _, _, _ => by cases hx
  | z :: V, s, x, hx, y, hy, hd => by
    have s' := List.pairwise_cons.mp s
    rcases List.mem_cons.mp hx with e | hx2
    · subst e
      rcases List.mem_cons.mp hy with e | hy2
      · exact e.symm
      · have := s'.1 y hy2
        have := hd.2
        omega
    · rcases List.mem_cons.mp hy with e | hy2
      · subst e
        have := s'.1 x hx2
        have := hd.1
        omega
      · exact strict_dist s'.2 x hx2 y hy2 hd
theorem IsVal.to {P Q V : List P2} (h : IsVal P V) (e : Alike P Q) : IsVal Q V := by
  refine ⟨h.strict, fun v hv => ?_, fun p hp => ?_⟩
  · obtain ⟨f, hf, e1⟩ := e.2 v (h.sub v hv)
    obtain ⟨o, ho, e2⟩ := e.1 f hf
    obtain ⟨u, hu, e3⟩ := h.cov o ho
    have huv := strict_dist h.strict u hu v hv ⟨Int.le_trans e3.1 (Int.le_trans e2.1 e1.1), Int.le_trans e3.2 (Int.le_trans e2.2 e1.2)⟩
    subst huv
    have : f = u := Prod.ext (Int.le_antisymm e1.1 (Int.le_trans e3.1 e2.1)) (Int.le_antisymm e1.2 (Int.le_trans e3.2 e2.2))
    rw [← this]
    exact hf
  · obtain ⟨u, hu, e1⟩ := e.1 p hp
    obtain ⟨v, hv, e2⟩ := h.cov u hu
    exact ⟨v, hv, Int.le_trans e2.1 e1.1, Int.le_trans e2.2 e1.2⟩
section
variable {P : Program} {w : World} {K : PySem.W.Frag} {mg : Str → Option Value} {base : Heap}
theorem ok_ofstep (T : Txt K mg) : FnOk P w K mg base CX0 1 T.f_of_step T.d_of_step ["step"] (spOfStep K) := by
  refine T.F_of_step.ok sc_of_step (fun vs H Q E h => ?_) (fun cdv A outer s H vs Q E hr h => ?_)
  · obtain ⟨i, rfl, _⟩ := h
    rfl
  obtain ⟨i, rfl, q⟩ := h
  refine ⟨_, (pss_cons (ps_set (i := 1) sc_of_step.nd rfl (Or.inl rfl) (pe_callB (call_min2 rfl) (by rfl) T.n_min (by decide +kernel) (pa_cons pe_int (pa_cons (pv 0) pa_nil))))
      (pss_one (ps_ret (pe_tup (pa_cons (pv 0) (pa_cons (pe_callB (call_max2 rfl) (by rfl) T.n_max (by decide +kernel) (pa_cons pe_int (pa_cons (pv 0) pa_nil))) (pa_cons (pe_tup (pa_cons (pe_tup (pa_cons pe_int (pa_cons (pv 1) pa_nil))) pa_nil)) (pa_cons (pe_tup (pa_cons (pe_tup (pa_cons (pv 0) (pa_cons (pv 1) pa_nil))) pa_nil)) pa_nil)))))))), ?_⟩
  refine ⟨_, rfl, _, _, rfl, ?_⟩
  refine ⟨_, rfl, _, rfl, _, _, rfl, ?_⟩
  rw [if_max, if_min]
  refine ⟨_, rfl, (by show 2 ≤ sizeLine; decide), fun a ha => ?_⟩
  have s1 : Same H (upd H a (.tup [.int 0, .int (min 0 i)])) := same_new ha
  have d1 : Dp K (upd H a (.tup [.int 0, .int (min 0 i)])) (.ref a) (prD (0, min 0 i)) := .tup (SqT.of upd_same) (.cons (.int _) (.cons (.int _) .nil))
  generalize (upd H a (.tup [.int 0, .int (min 0 i)])) = H1 at s1 d1 ⊢
  refine ⟨(by show 1 ≤ sizeLine; decide), fun b hb => ?_⟩
  obtain ⟨s2, d2⟩ := tup_fresh (K := K) (ds := [prD (0, min 0 i)]) hb (.cons d1 .nil)
  generalize (upd H1 b (.tup [.ref a])) = H2 at s2 d2 ⊢
  refine ⟨_, rfl, _, rfl, (by show 2 ≤ sizeLine; decide), fun c hc => ?_⟩
  obtain ⟨s3, d3⟩ := tup_fresh (K := K) (ds := [.int i, .int (min 0 i)]) hc (.cons (.int _) (.cons (.int _) .nil))
  generalize (upd H2 c (.tup [.int i, .int (min 0 i)])) = H3 at s3 d3 ⊢
  refine ⟨(by show 1 ≤ sizeLine; decide), fun e he => ?_⟩
  obtain ⟨s4, d4⟩ := tup_fresh (K := K) (ds := [prD (i, min 0 i)]) he (.cons d3 .nil)
  generalize (upd H3 e (.tup [.ref c])) = H4 at s4 d4 ⊢
  refine ⟨(by show 4 ≤ sizeLine; decide), fun g hg => ?_⟩
  obtain ⟨s5, d5⟩ := tup_fresh (K := K) (ds := [.int i, .int (max 0 i), .tuple [prD (0, min 0 i)], .tuple [prD (i, min 0 i)]]) hg (.cons (.int _) (.cons (.int _) (.cons (dp_same (s3.trans s4) d2) (.cons d4 .nil))))
  exact q _ _ i (max 0 i) [(0, min 0 i)] [(i, min 0 i)] (s1.trans (s2.trans (s3.trans (s4.trans s5)))) d5 (prof_step i)
theorem ok_stepprof (T : Txt K mg) : FnOk P w K mg base CX0 4 T.f_step_profile T.d_step_profile ["value"] (spStepProf K) := by
  have g_check_number := ok_num (P := P) (w := w) (base := base) T
  have g_of_step := ok_ofstep (P := P) (w := w) (base := base) T
  refine T.F_step_profile.ok sc_step_profile (fun vs H Q E h => ?_) (fun cdv A outer s H vs Q E hr h => ?_)
  · obtain ⟨i, rfl, _⟩ := h
    rfl
  obtain ⟨i, rfl, h1, h2, q⟩ := h
  refine ⟨_, (pss_cons (ps_expr (pe_call g_check_number (hr.mono (by omega)) rfl T.m_check_number T.F_check_number.kp T.b_check_number .nil pass0 (pa_cons (pv 0) pa_nil)))
      (pss_one (ps_ret (pe_call g_of_step (hr.mono (by omega)) rfl T.m_of_step T.F_of_step.kp T.b_of_step .nil pass0 (pa_cons (pv 0) pa_nil))))), ?_⟩
  refine ⟨_, rfl, i, rfl, h1, h2, ?_⟩
  exact ⟨_, rfl, i, rfl, q⟩
theorem ok_begin (T : Txt K mg) : FnOk P w K mg base CX0 1 T.f__from_begin T.d__from_begin ["profiles"] (spBegin K) := by
  refine T.F__from_begin.ok sc__from_begin (fun vs H Q E h => ?_) (fun cdv A outer s H vs Q E hr h => ?_)
  · obtain ⟨a, xs, sss, rfl, _⟩ := h
    rfl
  obtain ⟨a, xs, sss, rfl, hs, hp, hf, q⟩ := h
  refine ⟨_, (pss_cons (ps_set (i := 1) sc__from_begin.nd rfl (Or.inr rfl) pe_int)
      (pss_cons (ps_set (i := 2) sc__from_begin.nd rfl (Or.inr rfl) pe_int)
      (pss_cons (ps_set (i := 3) sc__from_begin.nd rfl (Or.inl rfl) (pe_lst (pa_cons (pe_tup (pa_cons pe_int (pa_cons pe_int pa_nil))) pa_nil)))
      (pss_cons (ps_for PassesOwn.never rfl (pi_seqA (pv 0)) (pg_tup (by rfl) (pgs_cons (pg_name (i := 4) sc__from_begin.nd rfl (Or.inl rfl)) (pgs_cons (pg_name (i := 5) sc__from_begin.nd rfl (Or.inl rfl)) (pgs_cons (pg_name (i := 6) sc__from_begin.nd rfl (Or.inl rfl)) (pgs_cons (pg_name (i := 7) sc__from_begin.nd rfl (Or.inl rfl)) pgs_nil)))))
        (pss_cons (ps_expr (pe_bm PySem.F.plainAttrs_list PySem.F.slot_list_extend PySem.F.type_list_extend mt_extend (pv 3) (pa_cons (pe_lc (own := [("capacity", 8), ("low", 9)]) (g := (gTup K 2 (gCons (gName 8) (gCons (gName 9) gNil)))) (by rfl) sc__from_begin.nd (pi_tup (pv 6)) (blkOk_by (N := N__from_begin) (sc := (defScope s__from_begin)) (by decide +kernel)) (fun _ _ _ _ _ => (pg_tup (by rfl) (pgs_cons (pg_name (i := 8) sc__from_begin.nd rfl (Or.inl rfl)) (pgs_cons (pg_name (i := 9) sc__from_begin.nd rfl (Or.inl rfl)) pgs_nil)))) (fun _ _ _ _ _ => pts_nil) (fun _ _ _ _ _ => (pe_tup (pa_cons (pe_callB (call_max2 rfl) (by rfl) T.n_max (by decide +kernel) (pa_cons (pv 2) (pa_cons (pe_op op_add (pv 1) (pv 8)) pa_nil))) (pa_cons (pe_op op_add (pv 1) (pv 9)) pa_nil))))) pa_nil)))
        (pss_cons (ps_set (i := 2) sc__from_begin.nd rfl (Or.inr rfl) (pe_callB (call_max2 rfl) (by rfl) T.n_max (by decide +kernel) (pa_cons (pv 2) (pa_cons (pe_op op_add (pv 1) (pv 5)) pa_nil))))
        (pss_one (ps_aug (i := 1) sc__from_begin.nd rfl (Or.inr rfl) (pv 4) ip_add)))))
      (pss_one (ps_ret (pe_tup (pa_cons (pv 1) (pa_cons (pv 2) (pa_cons (pv 3) pa_nil)))))))))), ?_⟩
  refine ⟨(by show 2 ≤ sizeLine; decide), fun t0 ht0 => ?_⟩
  have s0 : Same H (upd H t0 (.tup [.int 0, .int 0])) := same_new ht0
  have d0 : Dp K (upd H t0 (.tup [.int 0, .int 0])) (.ref t0) (prD (0, 0)) := .tup (SqT.of upd_same) (.cons (.int _) (.cons (.int _) .nil))
  generalize (upd H t0 (.tup [.int 0, .int 0])) = H0 at s0 d0 ⊢
  refine ⟨(by show 1 ≤ sizeLine; decide), fun ol hol => ?_⟩
  have s1 : Same H0 (upd H0 ol (.lst [.ref t0])) := same_new hol
  have eo0 : upd H0 ol (.lst [.ref t0]) ol = some (.lst [.ref t0]) := upd_same
  have d1 := dp_same s1 d0
  have s01 := s0.trans s1
  have holH : H ol = none := s0.free hol
  generalize (upd H0 ol (.lst [.ref t0])) = H1 at s1 eo0 d1 s01 ⊢
  refine ⟨_, rfl, a, rfl, ?_⟩
  have hp1 := hp.same s01
  have xl := hp.len
  refine for_seqA hs s01 (fun i σ G => ∃ (y4 y5 y6 y7 : Option V) (os : List V) (O : List P2), σ = [some (.ref a), some (.int (sss.take i).flatten.sum), some (.int (highs 0 0 (sss.take i).flatten)), some (.ref ol), y4, y5, y6, y7, none, none] ∧
      Sx ol H1 G ∧ G ol = some (.lst os) ∧ DpAll K G os (prDs O) ∧ Alike O (front 0 0 (sss.take i).flatten) ∧ O.length ≤ 1 + (sss.take i).flatten.length + i)
    ⟨none, none, none, none, _, [(0, 0)], rfl, Sx.refl, eo0, .cons d1 .nil, by simpa [front] using Alike.refl [(0, 0)], by simp⟩ ?_ ?_ ?_
  · rintro i σ G _ ⟨_, _, _, _, _, _, _, sx, _⟩
    exact Same.sx_free s01 holH sx
  · rintro i x σ G hi ⟨y4, y5, y6, y7, os, O, rfl, sx, eo, dO, aO, lO⟩
    obtain ⟨ss, N, p, S, E', es, dx, px⟩ := hp1.at hi
    have kk1 : ∀ b xs, SqT K H1 b xs → SqT K G b xs := fun b xs h => sx.sqT eo0 h
    obtain ⟨t, sa, ea, rfl, kt, dS, dE⟩ := prof_inv (dp_keep kk1 (prof_noL _ _ _ _) dx)
    have ef := flat_take es
    have hil := (List.getElem?_eq_some_iff.mp es).1
    have hfi := few_take hf (i + 1)
    unfold Few at hfi
    rw [ef, List.length_append, List.length_take] at hfi
    have hmin : min (i + 1) sss.length = i + 1 := by omega
    rw [hmin] at hfi
    have hS := px.start.len
    rw [front_len] at hS
    generalize hB : (sss.take i).flatten.sum = bef at *
    generalize hT : highs 0 0 (sss.take i).flatten = top at *
    refine ⟨t, _, rfl, kt, rfl, _, _, rfl, _, _, rfl, _, _, rfl, _, _, rfl, rfl, ?_⟩
    refine ⟨_, rfl, .inl ⟨rfl, os, SqL.of eo⟩, ?_⟩
    obtain ⟨_, sv, e0, ks, hall⟩ := dp_tup_inv dS
    cases e0
    have svl : sv.length = S.length := by rw [dpAll_length hall, prDs, List.length_map]
    refine ⟨_, rfl, sa, rfl, ⟨sv, ks⟩, fun D hD => ?_⟩
    refine lc_tup (K := K) (a := sa) (xs := sv) (fun k F => Same G F ∧ ∃ ws, F D = some (.lst ws) ∧ DpAll K F ws (prDs ((S.take k).map (lift2 top bef)))) ?_ ?_ ?_ ?_
    · exact ⟨same_new hD, [], upd_same, .nil⟩
    · rintro k F _ ⟨sF, _⟩
      exact same_sqT sF ks
    · rintro k y F hk ⟨sF, ws, eD, dws⟩
      obtain ⟨pp, ep, dy⟩ := prs_at hall hk
      obtain ⟨ty, rfl, ky⟩ := pr_inv dy
      have wl : ws.length = k := by
        rw [dpAll_length dws, prDs, List.length_map, List.length_map, List.length_take]
        have := (List.getElem?_eq_some_iff.mp ep).1
        omega
      have kl := (List.getElem?_eq_some_iff.mp ep).1
      refine ⟨ty, _, rfl, same_sqT sF ky, rfl, _, _, rfl, _, _, rfl, rfl, rfl, ?_⟩
      unfold tYes
      refine iteT ?_
      refine ⟨_, rfl, _, rfl, _, rfl, _, _, rfl, rfl, _, _, rfl, ?_⟩
      refine ⟨_, rfl, _, rfl, _, _, rfl, rfl, ?_⟩
      dsimp only
      rw [if_max]
      refine ⟨(by show 2 ≤ sizeLine; decide), fun q5 hq5 => ?_⟩
      have sq : Same F (upd F q5 (.tup [.int (max top (bef + pp.1)), .int (bef + pp.2)])) := same_new hq5
      have dq5 : Dp K (upd F q5 (.tup [.int (max top (bef + pp.1)), .int (bef + pp.2)])) (.ref q5) (prD (lift2 top bef pp)) := .tup (SqT.of upd_same) (.cons (.int _) (.cons (.int _) .nil))
      generalize (upd F q5 (.tup [.int (max top (bef + pp.1)), .int (bef + pp.2)])) = F1 at sq dq5 ⊢
      have eD1 := sq _ _ eD
      refine ⟨ws, eD1, small1000 (by omega), ?_, ws ++ [.ref q5], upd_same, ?_⟩
      · intro c2 o hc
        rw [upd_ne (ne_of_none hc hD)]
        exact sq _ _ (sF _ _ hc)
      · have k2 : ∀ b xs, SqT K F1 b xs → SqT K (upd F1 D (.lst (ws ++ [.ref q5]))) b xs := fun b xs h => (sx_upd (p := D)).sqT eD1 h
        have e1 : prDs ((S.take (k + 1)).map (lift2 top bef)) = prDs ((S.take k).map (lift2 top bef)) ++ [prD (lift2 top bef pp)] := by
          rw [List.take_add_one, ep, List.map_append, prDs, List.map_append]
          rfl
        rw [e1]
        exact dpAll_append (dpAll_keep k2 (noLs_pr _) (dpAll_same sq dws)) (.cons (dp_keep k2 rfl dq5) .nil)
    rintro F ⟨sF, ws, eD, dws⟩
    rw [svl, List.take_length] at dws
    have eoF := sF _ _ eo
    have osl : os.length = O.length := by rw [dpAll_length dO, prDs, List.length_map]
    have wsl : ws.length = S.length := by rw [dpAll_length dws, prDs, List.length_map, List.length_map]
    refine ⟨ol, D, os, ws, rfl, rfl, eoF, eD, small (by omega), ?_⟩
    have kk : ∀ b xs, SqT K F b xs → SqT K (upd F ol (.lst (os ++ ws))) b xs := fun b xs h => (sx_upd (p := ol)).sqT eoF h
    have en : upd F ol (.lst (os ++ ws)) ol = some (.lst (os ++ ws)) := upd_same
    have sn : Sx ol F (upd F ol (.lst (os ++ ws))) := sx_upd
    have dn : DpAll K (upd F ol (.lst (os ++ ws))) (os ++ ws) (prDs (O ++ S.map (lift2 top bef))) := by
      have e1 : prDs (O ++ S.map (lift2 top bef)) = prDs O ++ prDs (S.map (lift2 top bef)) := by rw [prDs, List.map_append]
      rw [e1]
      exact dpAll_append (dpAll_keep kk (noLs_pr _) (dpAll_same sF dO)) (dpAll_keep kk (noLs_pr _) dws)
    generalize (upd F ol (.lst (os ++ ws))) = F2 at kk en sn dn ⊢
    refine ⟨_, rfl, _, rfl, _, rfl, _, _, rfl, rfl, _, _, rfl, ?_⟩
    refine ⟨_, rfl, _, rfl, _, _, rfl, rfl, ?_⟩
    have aN := begin_more (by rw [hT, hB] at *; exact aO) px
    rw [hT, hB] at aN
    have pN := begin_peak (cat := (sss.take i).flatten) px
    rw [hT, hB] at pN
    refine ⟨some (.int N), some (.int p), some (.ref sa), some (.ref ea), os ++ ws, O ++ S.map (lift2 top bef), ?_, sx.trans ((Same.sx sF).trans sn), en, dn, ?_, ?_⟩
    · rw [ef, List.sum_append, hB, ← pN, if_max, px.net]
      rfl
    · rw [ef]
      exact aN
    · rw [ef, List.length_append, List.length_append, List.length_map]
      omega
  · rintro σ G ⟨y4, y5, y6, y7, os, O, rfl, sx, eo, dO, aO, lO⟩
    rw [xl, List.take_length] at *
    refine ⟨_, rfl, _, rfl, _, rfl, (by show 3 ≤ sizeLine; decide), fun tt htt => ?_⟩
    have s3 : Same G (upd G tt (.tup [.int sss.flatten.sum, .int (highs 0 0 sss.flatten), .ref ol])) := same_new htt
    unfold Few at hf
    exact q _ tt ol os O ((Same.sx_free s01 holH sx).trans s3) upd_same (s3 _ _ eo) (dpAll_same s3 dO) (by omega) aO
theorem drop_cons {sss : List (List Int)} {j : Nat} {ss : List Int} (h : sss[j]? = some ss) : (sss.drop j).flatten = ss ++ (sss.drop (j + 1)).flatten := by
  obtain ⟨hj, rfl⟩ := List.getElem?_eq_some_iff.mp h
  rw [List.drop_eq_getElem_cons hj, List.flatten_cons]
theorem few_drop {sss : List (List Int)} (h : Few sss) (i : Nat) : Few (sss.drop i) := by
  have e : sss = sss.take i ++ sss.drop i := (List.take_append_drop _ _).symm
  unfold Few at h ⊢
  rw [e, List.flatten_append, List.length_append, List.length_append] at h
  omega
theorem ok_end (T : Txt K mg) : FnOk P w K mg base CX0 1 T.f__from_end T.d__from_end ["profiles", "total"] (spEnd K) := by
  refine T.F__from_end.ok sc__from_end (fun vs H Q E h => ?_) (fun cdv A outer s H vs Q E hr h => ?_)
  · obtain ⟨a, xs, sss, rfl, _⟩ := h
    rfl
  obtain ⟨a, xs, sss, rfl, hs, hp, hf, q⟩ := h
  refine ⟨_, (pss_cons (ps_set (i := 2) sc__from_end.nd rfl (Or.inr rfl) (pv 1))
      (pss_cons (ps_set (i := 3) sc__from_end.nd rfl (Or.inr rfl) (pv 1))
      (pss_cons (ps_set (i := 4) sc__from_end.nd rfl (Or.inl rfl) (pe_lst (pa_cons (pe_tup (pa_cons (pv 1) (pa_cons (pv 1) pa_nil))) pa_nil)))
      (pss_cons (ps_for PassesOwn.never rfl (RT.pi_revA (by rfl) T.n_reversed (pv 0)) (pg_tup (by rfl) (pgs_cons (pg_name (i := 5) sc__from_end.nd rfl (Or.inl rfl)) (pgs_cons (pg_name (i := 6) sc__from_end.nd rfl (Or.inl rfl)) (pgs_cons (pg_name (i := 7) sc__from_end.nd rfl (Or.inl rfl)) (pgs_cons (pg_name (i := 8) sc__from_end.nd rfl (Or.inl rfl)) pgs_nil)))))
        (pss_cons (ps_aug (i := 2) sc__from_end.nd rfl (Or.inr rfl) (pv 5) ip_sub)
        (pss_cons (ps_expr (pe_bm PySem.F.plainAttrs_list PySem.F.slot_list_extend PySem.F.type_list_extend mt_extend (pv 4) (pa_cons (pe_lc (own := [("capacity", 9), ("low", 10)]) (g := (gTup K 2 (gCons (gName 9) (gCons (gName 10) gNil)))) (by rfl) sc__from_end.nd (pi_tup (pv 8)) (blkOk_by (N := N__from_end) (sc := (defScope s__from_end)) (by decide +kernel)) (fun _ _ _ _ _ => (pg_tup (by rfl) (pgs_cons (pg_name (i := 9) sc__from_end.nd rfl (Or.inl rfl)) (pgs_cons (pg_name (i := 10) sc__from_end.nd rfl (Or.inl rfl)) pgs_nil)))) (fun _ _ _ _ _ => pts_nil) (fun _ _ _ _ _ => (pe_tup (pa_cons (pe_callB (call_max2 rfl) (by rfl) T.n_max (by decide +kernel) (pa_cons (pv 3) (pa_cons (pe_op op_add (pv 2) (pv 9)) pa_nil))) (pa_cons (pe_op op_add (pv 2) (pv 10)) pa_nil))))) pa_nil)))
        (pss_one (ps_set (i := 3) sc__from_end.nd rfl (Or.inr rfl) (pe_callB (call_max2 rfl) (by rfl) T.n_max (by decide +kernel) (pa_cons (pv 3) (pa_cons (pe_op op_add (pv 2) (pv 6)) pa_nil))))))))
      (pss_one (ps_ret (pv 4))))))), ?_⟩
  generalize hto : sss.flatten.sum = tot at *
  refine ⟨_, rfl, _, rfl, _, rfl, _, rfl, (by show 2 ≤ sizeLine; decide), fun t0 ht0 => ?_⟩
  have s0 : Same H (upd H t0 (.tup [.int tot, .int tot])) := same_new ht0
  have d0 : Dp K (upd H t0 (.tup [.int tot, .int tot])) (.ref t0) (prD (tot, tot)) := .tup (SqT.of upd_same) (.cons (.int _) (.cons (.int _) .nil))
  generalize (upd H t0 (.tup [.int tot, .int tot])) = H0 at s0 d0 ⊢
  refine ⟨(by show 1 ≤ sizeLine; decide), fun ol hol => ?_⟩
  have s1 : Same H0 (upd H0 ol (.lst [.ref t0])) := same_new hol
  have eo0 : upd H0 ol (.lst [.ref t0]) ol = some (.lst [.ref t0]) := upd_same
  have d1 := dp_same s1 d0
  have s01 := s0.trans s1
  have holH : H ol = none := s0.free hol
  generalize (upd H0 ol (.lst [.ref t0])) = H1 at s1 eo0 d1 s01 ⊢
  have hp1 := hp.same s01
  have xl := hp.len
  refine ⟨_, rfl, a, xs, rfl, ?_⟩
  refine for_revA hs s01 (fun i σ G => ∃ (y5 y6 y7 y8 : Option V) (os : List V) (O : List P2), σ = [some (.ref a), some (.int tot), some (.int (tot + (bw (sss.drop (xs.length - i)).flatten).sum)), some (.int (highs tot tot (bw (sss.drop (xs.length - i)).flatten))), some (.ref ol), y5, y6, y7, y8, none, none] ∧
      Sx ol H1 G ∧ G ol = some (.lst os) ∧ DpAll K G os (prDs O) ∧ Alike O (front tot tot (bw (sss.drop (xs.length - i)).flatten)) ∧ O.length ≤ 1 + (sss.drop (xs.length - i)).flatten.length + i)
    ⟨none, none, none, none, _, [(tot, tot)], ?_, Sx.refl, eo0, .cons d1 .nil, ?_, by simp⟩ ?_ ?_ ?_
  · have e : sss.drop (xs.length - 0) = [] := List.drop_eq_nil_of_le (by omega)
    rw [e]
    simp only [List.flatten_nil, bw, List.reverse_nil, List.map_nil, List.sum_nil, highs, Int.add_zero]
    rw [show max tot tot = tot by omega]
    rfl
  · have e : sss.drop (xs.length - 0) = [] := List.drop_eq_nil_of_le (by omega)
    rw [e]
    simp only [List.flatten_nil, bw, List.reverse_nil, List.map_nil, front]
    rw [show max tot tot = tot by omega]
    exact Alike.refl _
  · rintro i σ G _ ⟨_, _, _, _, _, _, _, sx, _⟩
    exact Same.sx_free s01 holH sx
  · rintro i x σ G hin hi ⟨y5, y6, y7, y8, os, O, rfl, sx, eo, dO, aO, lO⟩
    obtain ⟨ss, N, p, S, E', es, dx, px⟩ := hp1.at hi
    have kk1 : ∀ b xs, SqT K H1 b xs → SqT K G b xs := fun b xs h => sx.sqT eo0 h
    obtain ⟨t, sa, ea, rfl, kt, dS, dE⟩ := prof_inv (dp_keep kk1 (prof_noL _ _ _ _) dx)
    have ef := drop_cons es
    have en1 : xs.length - (i + 1) = xs.length - 1 - i := by omega
    have en2 : xs.length - 1 - i + 1 = xs.length - i := by omega
    rw [en2] at ef
    rw [en1]
    have hfi := few_drop hf (xs.length - 1 - i)
    unfold Few at hfi
    rw [ef, List.length_append, List.length_drop] at hfi
    have hS := px.fin.len
    rw [front_len] at hS
    simp only [bw, List.length_map, List.length_reverse] at hS
    have aN := end_more aO px
    have pN := end_peak (m := bw (sss.drop (xs.length - i)).flatten) (t := tot) px
    have bN : tot + (bw (sss.drop (xs.length - i)).flatten).sum - N = tot + (bw (sss.drop (xs.length - 1 - i)).flatten).sum := by
      rw [ef, bw_app, List.sum_append, bw_sum ss, px.net]
      omega
    rw [ef, bw_app, List.length_append]
    rw [← bw_app, ← ef] at aN pN ⊢
    generalize hB : tot + (bw (sss.drop (xs.length - i)).flatten).sum = bef0 at *
    generalize hT : highs tot tot (bw (sss.drop (xs.length - i)).flatten) = top at *
    refine ⟨t, _, rfl, kt, rfl, _, _, rfl, _, _, rfl, _, _, rfl, _, _, rfl, rfl, ?_⟩
    refine ⟨_, rfl, _, rfl, _, _, rfl, rfl, ?_⟩
    dsimp only
    generalize hC : bef0 - N = bef at *
    refine ⟨_, rfl, .inl ⟨rfl, os, SqL.of eo⟩, ?_⟩
    obtain ⟨_, sv, e0, ks, hall⟩ := dp_tup_inv dE
    cases e0
    have svl : sv.length = E'.length := by rw [dpAll_length hall, prDs, List.length_map]
    refine ⟨_, rfl, ea, rfl, ⟨sv, ks⟩, fun D hD => ?_⟩
    refine lc_tup (K := K) (a := ea) (xs := sv) (fun k F => Same G F ∧ ∃ ws, F D = some (.lst ws) ∧ DpAll K F ws (prDs ((E'.take k).map (lift2 top bef)))) ?_ ?_ ?_ ?_
    · exact ⟨same_new hD, [], upd_same, .nil⟩
    · rintro k F _ ⟨sF, _⟩
      exact same_sqT sF ks
    · rintro k y F hk ⟨sF, ws, eD, dws⟩
      obtain ⟨pp, ep, dy⟩ := prs_at hall hk
      obtain ⟨ty, rfl, ky⟩ := pr_inv dy
      have wl : ws.length = k := by
        rw [dpAll_length dws, prDs, List.length_map, List.length_map, List.length_take]
        have := (List.getElem?_eq_some_iff.mp ep).1
        omega
      have kl := (List.getElem?_eq_some_iff.mp ep).1
      refine ⟨ty, _, rfl, same_sqT sF ky, rfl, _, _, rfl, _, _, rfl, rfl, rfl, ?_⟩
      unfold tYes
      refine iteT ?_
      refine ⟨_, rfl, _, rfl, _, rfl, _, _, rfl, rfl, _, _, rfl, ?_⟩
      refine ⟨_, rfl, _, rfl, _, _, rfl, rfl, ?_⟩
      dsimp only
      rw [if_max]
      refine ⟨(by show 2 ≤ sizeLine; decide), fun q5 hq5 => ?_⟩
      have sq : Same F (upd F q5 (.tup [.int (max top (bef + pp.1)), .int (bef + pp.2)])) := same_new hq5
      have dq5 : Dp K (upd F q5 (.tup [.int (max top (bef + pp.1)), .int (bef + pp.2)])) (.ref q5) (prD (lift2 top bef pp)) := .tup (SqT.of upd_same) (.cons (.int _) (.cons (.int _) .nil))
      generalize (upd F q5 (.tup [.int (max top (bef + pp.1)), .int (bef + pp.2)])) = F1 at sq dq5 ⊢
      have eD1 := sq _ _ eD
      refine ⟨ws, eD1, small1000 (by omega), ?_, ws ++ [.ref q5], upd_same, ?_⟩
      · intro c2 o hc
        rw [upd_ne (ne_of_none hc hD)]
        exact sq _ _ (sF _ _ hc)
      · have k2 : ∀ b xs, SqT K F1 b xs → SqT K (upd F1 D (.lst (ws ++ [.ref q5]))) b xs := fun b xs h => (sx_upd (p := D)).sqT eD1 h
        have e1 : prDs ((E'.take (k + 1)).map (lift2 top bef)) = prDs ((E'.take k).map (lift2 top bef)) ++ [prD (lift2 top bef pp)] := by
          rw [List.take_add_one, ep, List.map_append, prDs, List.map_append]
          rfl
        rw [e1]
        exact dpAll_append (dpAll_keep k2 (noLs_pr _) (dpAll_same sq dws)) (.cons (dp_keep k2 rfl dq5) .nil)
    rintro F ⟨sF, ws, eD, dws⟩
    rw [svl, List.take_length] at dws
    have eoF := sF _ _ eo
    have osl : os.length = O.length := by rw [dpAll_length dO, prDs, List.length_map]
    have wsl : ws.length = E'.length := by rw [dpAll_length dws, prDs, List.length_map, List.length_map]
    refine ⟨ol, D, os, ws, rfl, rfl, eoF, eD, small (by omega), ?_⟩
    have kk : ∀ b xs, SqT K F b xs → SqT K (upd F ol (.lst (os ++ ws))) b xs := fun b xs h => (sx_upd (p := ol)).sqT eoF h
    have en : upd F ol (.lst (os ++ ws)) ol = some (.lst (os ++ ws)) := upd_same
    have sn : Sx ol F (upd F ol (.lst (os ++ ws))) := sx_upd
    have dn : DpAll K (upd F ol (.lst (os ++ ws))) (os ++ ws) (prDs (O ++ E'.map (lift2 top bef))) := by
      have e1 : prDs (O ++ E'.map (lift2 top bef)) = prDs O ++ prDs (E'.map (lift2 top bef)) := by rw [prDs, List.map_append]
      rw [e1]
      exact dpAll_append (dpAll_keep kk (noLs_pr _) (dpAll_same sF dO)) (dpAll_keep kk (noLs_pr _) dws)
    generalize (upd F ol (.lst (os ++ ws))) = F2 at kk en sn dn ⊢
    refine ⟨_, rfl, _, rfl, _, rfl, _, _, rfl, rfl, _, _, rfl, ?_⟩
    refine ⟨some (.int N), some (.int p), some (.ref sa), some (.ref ea), os ++ ws, O ++ E'.map (lift2 top bef), ?_, sx.trans ((Same.sx sF).trans sn), en, dn, aN, ?_⟩
    · rw [← bN, ← pN, if_max]
      rfl
    · rw [List.length_append, List.length_map]
      omega
  · rintro σ G ⟨y5, y6, y7, y8, os, O, rfl, sx, eo, dO, aO, lO⟩
    rw [Nat.sub_self, List.drop_zero] at *
    unfold Few at hf
    exact ⟨_, rfl, q _ ol os O (Same.sx_free s01 holH sx) eo dO (by omega) aO⟩
theorem ok_inseq (T : Txt K mg) : FnOk P w K mg base CX0 2 T.f_in_sequence T.d_in_sequence ["profiles"] (spInSeq K) := by
  have g__from_begin := ok_begin (P := P) (w := w) (base := base) T
  have g__from_end := ok_end (P := P) (w := w) (base := base) T
  have g_least_usages := ok_least (P := P) (w := w) (base := base) T
  refine T.F_in_sequence.ok sc_in_sequence (fun vs H Q E h => ?_) (fun cdv A outer s H vs Q E hr h => ?_)
  · obtain ⟨a, xs, sss, rfl, _⟩ := h
    rfl
  obtain ⟨a, xs, sss, rfl, hs, hp, hf, q⟩ := h
  refine ⟨_, (pss_cons (ps_asg (pe_call g__from_begin (hr.mono (by omega)) rfl T.m__from_begin T.F__from_begin.kp T.b__from_begin .nil pass0 (pa_cons (pv 0) pa_nil)) (pg_tup (by rfl) (pgs_cons (pg_name (i := 1) sc_in_sequence.nd rfl (Or.inl rfl)) (pgs_cons (pg_name (i := 2) sc_in_sequence.nd rfl (Or.inl rfl)) (pgs_cons (pg_name (i := 3) sc_in_sequence.nd rfl (Or.inl rfl)) pgs_nil)))))
      (pss_cons (ps_set (i := 4) sc_in_sequence.nd rfl (Or.inl rfl) (pe_call g__from_end (hr.mono (by omega)) rfl T.m__from_end T.F__from_end.kp T.b__from_end .nil pass0 (pa_cons (pv 0) (pa_cons (pv 1) pa_nil))))
      (pss_one (ps_ret (pe_tup (pa_cons (pv 1) (pa_cons (pv 2) (pa_cons (pe_call g_least_usages (hr.mono (by omega)) rfl T.m_least_usages T.F_least_usages.kp T.b_least_usages .nil pass0 (pa_cons (pv 3) pa_nil)) (pa_cons (pe_call g_least_usages (hr.mono (by omega)) rfl T.m_least_usages T.F_least_usages.kp T.b_least_usages .nil pass0 (pa_cons (pv 4) pa_nil)) pa_nil))))))))), ?_⟩
  refine ⟨_, rfl, a, xs, sss, rfl, hs, hp, hf, fun H1 t ol os O s1 et eo dO lO aO => ?_⟩
  refine ⟨t, _, rfl, SqT.of et, rfl, _, _, rfl, _, _, rfl, _, _, rfl, rfl, ?_⟩
  refine ⟨_, rfl, _, rfl, a, xs, sss, rfl, hs.same s1, hp.same s1, hf, fun H2 ol2 os2 O2 s2 eo2 dO2 lO2 aO2 => ?_⟩
  refine ⟨_, rfl, _, rfl, _, rfl, ol, os, O, rfl, SqL.of (s2 _ _ eo), dpAll_same s2 dO, by omega, fun H3 t3 S s3 dS vS => ?_⟩
  refine ⟨_, rfl, ol2, os2, O2, rfl, SqL.of (s3 _ _ eo2), dpAll_same s3 dO2, by omega, fun H4 t4 E' s4 dE vE => ?_⟩
  refine ⟨(by show 4 ≤ sizeLine; decide), fun r hr => ?_⟩
  obtain ⟨s5, d5⟩ := tup_fresh (K := K) (ds := [.int sss.flatten.sum, .int (highs 0 0 sss.flatten), .tuple (prDs S), .tuple (prDs E')]) hr (.cons (.int _) (.cons (.int _) (.cons (dp_same s4 dS) (.cons dE .nil))))
  exact q _ _ _ _ S E' (s1.trans (s2.trans (s3.trans (s4.trans s5)))) d5 ⟨rfl, rfl, vS.to aO, vE.to aO2⟩
theorem ok_seqprofs (T : Txt K mg) : FnOk P w K mg base CX0 8 T.f_seq_profiles T.d_seq_profiles ["profiles"] (spSeqProfs K) := by
  have g_check_profiles := ok_ckprofs (P := P) (w := w) (base := base) T
  have g_in_sequence := ok_inseq (P := P) (w := w) (base := base) T
  have g_checked_profile := ok_cked (P := P) (w := w) (base := base) T
  refine T.F_seq_profiles.ok sc_seq_profiles (fun vs H Q E h => ?_) (fun cdv A outer s H vs Q E hr h => ?_)
  · obtain ⟨a, xs, sss, rfl, _⟩ := h
    rfl
  obtain ⟨a, xs, sss, rfl, hs, hp, hf, q⟩ := h
  have hf' := hf
  unfold Few at hf'
  have hfl : ∀ ss ∈ sss, ss.length ≤ 399 := fun ss hss => by
    have : ss.length ≤ sss.flatten.length := by
      exact len_flat hss
    omega
  refine ⟨_, (pss_cons (ps_expr (pe_call g_check_profiles (hr.mono (by omega)) rfl T.m_check_profiles T.F_check_profiles.kp T.b_check_profiles .nil pass0 (pa_cons (pv 0) pa_nil)))
      (pss_one (ps_ret (pe_call g_checked_profile (hr.mono (by omega)) rfl T.m_checked_profile T.F_checked_profile.kp T.b_checked_profile .nil pass0 (pa_cons (pe_call g_in_sequence (hr.mono (by omega)) rfl T.m_in_sequence T.F_in_sequence.kp T.b_in_sequence .nil pass0 (pa_cons (pv 0) pa_nil)) pa_nil))))), ?_⟩
  refine ⟨_, rfl, a, xs, sss, rfl, hs, hp, by omega, hfl, fun H1 s1 => ?_⟩
  refine ⟨_, rfl, a, xs, sss, rfl, .inr (same_sqT s1 hs), hp.same s1, hf, fun H2 v N p S E' s2 dv pv => ?_⟩
  have fo := pv.form (by omega)
  exact ⟨v, N, p, S, E', rfl, dv, fo.sL, fo.eL, fun H3 v' s3 dv' => q _ v' N p S E' (s1.trans (s2.trans s3)) dv' pv⟩
end
/-! block Prof25: composed, job_profile of steps in sequence, profile (behind bSeq25) -/
abbrev sq25 (ss : List Int) : J := .ps false (ss.map J.st)
theorem st_dp25 {K : PySem.W.Frag} {H : Hp} : ∀ ns : List Int, DpAll K H (ns.map V.int) (J.toDs (ns.map J.st))
  | [] => .nil
  | k :: ns => .cons (.int k) (st_dp25 ns)
theorem st_vals25 {K : PySem.W.Frag} {H : Hp} : ∀ {ns : List Int} {xs : List V}, DpAll K H xs (J.toDs (ns.map J.st)) → xs = ns.map V.int
  | [], _, h => by
    cases h
    rfl
  | k :: ns, _, h => by
    cases h with
    | cons hx hr =>
    cases hx
    rw [st_vals25 hr]
    rfl
theorem sts25 : ∀ ss : List Int, (∀ s ∈ ss, -M30 ≤ s ∧ s ≤ M30) → J.okL (ss.map J.st) ∧ J.stepsL (ss.map J.st) = ss.length ∧ J.nodesL (ss.map J.st) = ss.length ∧ J.deepL (ss.map J.st) ≤ 1
  | [], _ => by simp [J.okL, J.stepsL, J.nodesL, J.deepL]
  | s :: ss, h => by
    obtain ⟨a, b, c, d⟩ := sts25 ss fun x hx => h x (List.mem_cons_of_mem _ hx)
    have h0 := h s (List.mem_cons_self ..)
    simp only [List.map_cons, J.okL, J.stepsL, J.nodesL, J.deepL, J.ok, J.steps, J.nodes, J.deep, b, c, List.length_cons]
    exact ⟨⟨h0, a⟩, by omega, by omega, by omega⟩
theorem sz25 (ss : List Int) (h : ∀ s ∈ ss, -M30 ≤ s ∧ s ≤ M30) (hl : ss.length ≤ 300) : ∃ a b, szJ (sq25 ss) 400 13 = some (a, b) := by
  obtain ⟨o, st, nd, dp⟩ := sts25 ss h
  refine ⟨_, _, szJ_some (sq25 ss) 400 13 ?_ ?_ ?_⟩
  · simp only [J.ok, List.length_map, st, M30]
    exact ⟨by omega, o, by omega⟩
  · simp only [J.nodes, nd]
    omega
  · simp only [J.deep]
    omega
def ones25 (ss : List Int) : List (List Int) := ss.map fun s => [s]
theorem ones25_flat : ∀ ss : List Int, (ones25 ss).flatten = ss
  | [] => rfl
  | s :: ss => by
    show [s] ++ (ones25 ss).flatten = s :: ss
    rw [ones25_flat ss]
    rfl
theorem Profs.append {K : PySem.W.Frag} {H : Hp} {xs ys : List V} {as bs : List (List Int)} (h : Profs K H xs as) (k : Profs K H ys bs) : Profs K H (xs ++ ys) (as ++ bs) := by
  induction h with
  | nil => exact k
  | cons hd hp _ ih => exact .cons hd hp ih
def spComposed (K : PySem.W.Frag) : Sp := fun vs H Q _ => ∃ (a : Addr) (xs : List V) (sss : List (List Int)), vs = [.str "seq", .ref a] ∧ SeqA K H a xs ∧ Profs K H xs sss ∧ Few sss ∧
  ∀ (H' : Hp) (v : V) (N p : Int) (S E : List P2), Same H H' → Dp K H' v (profD N p S E) → Prof sss.flatten N p S E → Q v H'
def spNo : Sp := fun _ _ _ _ => False
def spJP0 (K : PySem.W.Frag) : Sp := spOfStep K
def spJP1 (K : PySem.W.Frag) : Sp := fun vs H Q _ => ∃ (v : V) (ss : List Int), vs = [v] ∧ Dp K H v (sq25 ss).toD ∧ ss.length ≤ 100 ∧
  ∀ (H' : Hp) (v : V) (N p : Int) (S E : List P2), Same H H' → Dp K H' v (profD N p S E) → Prof ss N p S E → Q v H'
def spProfile (K : PySem.W.Frag) : Sp := fun vs H Q _ => ∃ (v : V) (ss : List Int), vs = [v] ∧ Dp K H v (sq25 ss).toD ∧ ss.length ≤ 100 ∧ (∀ s ∈ ss, -M30 ≤ s ∧ s ≤ M30) ∧
  ∀ (H' : Hp) (v : V) (N p : Int) (S E : List P2), Same H H' → Dp K H' v (profD N p S E) → Prof ss N p S E → Q v H'
section
variable {P : Program} {w : World} {K : PySem.W.Frag} {mg : Str → Option Value} {base : Heap}
theorem no_par (T : Txt K mg) : FnOk P w K mg base CX0 1 T.f_in_parallel T.d_in_parallel ["profiles"] spNo := by
  refine T.F_in_parallel.ok sc_in_parallel (fun vs H Q E h => ?_) (fun cdv A outer s H vs Q E hr h => ?_)
  · exact False.elim h
  · exact False.elim h
theorem no_mul (T : Txt K mg) : FnOk P w K mg base CX0 1 T.f_multiplied T.d_multiplied ["kind", "count", "profile"] spNo := by
  refine T.F_multiplied.ok sc_multiplied (fun vs H Q E h => ?_) (fun cdv A outer s H vs Q E hr h => ?_)
  · exact False.elim h
  · exact False.elim h
theorem no_jp (T : Txt K mg) : FnOk P w K mg base CX0 1 T.f_job_profile T.d_job_profile ["job"] spNo := by
  refine T.F_job_profile.ok sc_job_profile (fun vs H Q E h => ?_) (fun cdv A outer s H vs Q E hr h => ?_)
  · exact False.elim h
  · exact False.elim h
theorem ok_composed (T : Txt K mg) : FnOk P w K mg base CX0 3 T.f_composed T.d_composed ["kind", "profiles"] (spComposed K) := by
  have g_in_sequence := ok_inseq (P := P) (w := w) (base := base) T
  have g_in_parallel := no_par (P := P) (w := w) (base := base) T
  refine T.F_composed.ok sc_composed (fun vs H Q E h => ?_) (fun cdv A outer s H vs Q E hr h => ?_)
  · obtain ⟨a, xs, sss, rfl, _⟩ := h
    rfl
  obtain ⟨a, xs, sss, rfl, hs, hp, hf, q⟩ := h
  refine ⟨_, (pss_one (ps_ret (pe_ifExp (pt_cmpR op_eq (pv 0) pe_str (nomark _)) (pe_call g_in_sequence (hr.mono (by omega)) rfl T.m_in_sequence T.F_in_sequence.kp T.b_in_sequence .nil pass0 (pa_cons (pv 1) pa_nil)) (pe_call g_in_parallel (hr.mono (by omega)) rfl T.m_in_parallel T.F_in_parallel.kp T.b_in_parallel .nil pass0 (pa_cons (pv 1) pa_nil))))), ?_⟩
  refine ⟨_, rfl, rfl, _, rfl, ?_⟩
  refine iteT ?_
  exact ⟨_, rfl, a, xs, sss, rfl, hs, hp, hf, q⟩
theorem ok_jp0 (T : Txt K mg) : FnOk P w K mg base CX0 4 T.f_job_profile T.d_job_profile ["job"] (spJP0 K) := by
  have g_is_integer := ok_isint (P := P) (w := w) (base := base) T
  have g_of_step := ok_ofstep (P := P) (w := w) (base := base) T
  have g_composed := ok_composed (P := P) (w := w) (base := base) T
  have g_multiplied := no_mul (P := P) (w := w) (base := base) T
  have g_job_profile := no_jp (P := P) (w := w) (base := base) T
  refine T.F_job_profile.ok sc_job_profile (fun vs H Q E h => ?_) (fun cdv A outer s H vs Q E hr h => ?_)
  · obtain ⟨i, rfl, _⟩ := h
    rfl
  obtain ⟨i, rfl, q⟩ := h
  refine ⟨_, (pss_cons (ps_if (pt_val (pe_call g_is_integer (hr.mono (by omega)) rfl T.m_is_integer T.F_is_integer.kp T.b_is_integer .nil pass0 (pa_cons (pv 0) pa_nil))) (pss_one (ps_ret (pe_call g_of_step (hr.mono (by omega)) rfl T.m_of_step T.F_of_step.kp T.b_of_step .nil pass0 (pa_cons (pv 0) pa_nil)))) pss_nil)
      (pss_cons (ps_if (pt_cmpR (r := rIn K false) op_in_seq (pe_ix (r := rIxT K) ix_tup (pv 0) pe_int (fun _ _ => rfl)) (pe_tup (pa_cons pe_str (pa_cons pe_str pa_nil))) (by rfl)) (pss_one (ps_ret (pe_call g_composed (hr.mono (by omega)) rfl T.m_composed T.F_composed.kp T.b_composed .nil pass0 (pa_cons (pe_ix (r := rIxT K) ix_tup (pv 0) pe_int (fun _ _ => rfl)) (pa_cons (pe_lc (own := [("part", 1)]) (g := (gName 1)) (by rfl) sc_job_profile.nd (pi_tup (pe_ix (r := rIxT K) ix_tup (pv 0) pe_int (fun _ _ => rfl))) (blkOk_by (N := N_job_profile) (sc := (defScope s_job_profile)) (by decide +kernel)) (fun _ _ _ _ _ => (pg_name (i := 1) sc_job_profile.nd rfl (Or.inl rfl))) (fun _ _ _ _ _ => pts_nil) (fun _ _ _ _ _ => (pe_call g_job_profile (hr.mono (by omega)) rfl T.m_job_profile T.F_job_profile.kp T.b_job_profile .nil pass0 (pa_cons (pv 1) pa_nil)))) pa_nil))))) pss_nil)
      (pss_one (ps_ret (pe_call g_multiplied (hr.mono (by omega)) rfl T.m_multiplied T.F_multiplied.kp T.b_multiplied .nil pass0 (pa_cons (pe_ix (r := rIxT K) ix_tup (pv 0) pe_int (fun _ _ => rfl)) (pa_cons (pe_ix (r := rIxT K) ix_tup (pv 0) pe_int (fun _ _ => rfl)) (pa_cons (pe_call g_job_profile (hr.mono (by omega)) rfl T.m_job_profile T.F_job_profile.kp T.b_job_profile .nil pass0 (pa_cons (pe_ix (r := rIxT K) ix_tup (pv 0) pe_int (fun _ _ => rfl)) pa_nil)) pa_nil)))))))), ?_⟩
  refine ⟨_, rfl, _, .int i, rfl, .int _, _, rfl, ?_⟩
  refine iteT ?_
  exact ⟨_, rfl, i, rfl, q⟩
theorem ok_jp1 (T : Txt K mg) : FnOk P w K mg base CX0 5 T.f_job_profile T.d_job_profile ["job"] (spJP1 K) := by
  have g_is_integer := ok_isint (P := P) (w := w) (base := base) T
  have g_of_step := ok_ofstep (P := P) (w := w) (base := base) T
  have g_composed := ok_composed (P := P) (w := w) (base := base) T
  have g_multiplied := no_mul (P := P) (w := w) (base := base) T
  have g_job_profile := ok_jp0 (P := P) (w := w) (base := base) T
  refine T.F_job_profile.ok sc_job_profile (fun vs H Q E h => ?_) (fun cdv A outer s H vs Q E hr h => ?_)
  · obtain ⟨v, ss, rfl, _⟩ := h
    rfl
  obtain ⟨v, ss, rfl, hd, hl, q⟩ := h
  refine ⟨_, (pss_cons (ps_if (pt_val (pe_call g_is_integer (hr.mono (by omega)) rfl T.m_is_integer T.F_is_integer.kp T.b_is_integer .nil pass0 (pa_cons (pv 0) pa_nil))) (pss_one (ps_ret (pe_call g_of_step (hr.mono (by omega)) rfl T.m_of_step T.F_of_step.kp T.b_of_step .nil pass0 (pa_cons (pv 0) pa_nil)))) pss_nil)
      (pss_cons (ps_if (pt_cmpR (r := rIn K false) op_in_seq (pe_ix (r := rIxT K) ix_tup (pv 0) pe_int (fun _ _ => rfl)) (pe_tup (pa_cons pe_str (pa_cons pe_str pa_nil))) (by rfl)) (pss_one (ps_ret (pe_call g_composed (hr.mono (by omega)) rfl T.m_composed T.F_composed.kp T.b_composed .nil pass0 (pa_cons (pe_ix (r := rIxT K) ix_tup (pv 0) pe_int (fun _ _ => rfl)) (pa_cons (pe_lc (own := [("part", 1)]) (g := (gName 1)) (by rfl) sc_job_profile.nd (pi_tup (pe_ix (r := rIxT K) ix_tup (pv 0) pe_int (fun _ _ => rfl))) (blkOk_by (N := N_job_profile) (sc := (defScope s_job_profile)) (by decide +kernel)) (fun _ _ _ _ _ => (pg_name (i := 1) sc_job_profile.nd rfl (Or.inl rfl))) (fun _ _ _ _ _ => pts_nil) (fun _ _ _ _ _ => (pe_call g_job_profile (hr.mono (by omega)) rfl T.m_job_profile T.F_job_profile.kp T.b_job_profile .nil pass0 (pa_cons (pv 1) pa_nil)))) pa_nil))))) pss_nil)
      (pss_one (ps_ret (pe_call g_multiplied (hr.mono (by omega)) rfl T.m_multiplied T.F_multiplied.kp T.b_multiplied .nil pass0 (pa_cons (pe_ix (r := rIxT K) ix_tup (pv 0) pe_int (fun _ _ => rfl)) (pa_cons (pe_ix (r := rIxT K) ix_tup (pv 0) pe_int (fun _ _ => rfl)) (pa_cons (pe_call g_job_profile (hr.mono (by omega)) rfl T.m_job_profile T.F_job_profile.kp T.b_job_profile .nil pass0 (pa_cons (pe_ix (r := rIxT K) ix_tup (pv 0) pe_int (fun _ _ => rfl)) pa_nil)) pa_nil)))))))), ?_⟩
  refine ⟨_, rfl, _, _, rfl, hd, _, rfl, ?_⟩
  refine iteF ?_
  obtain ⟨t, xs, rfl, ks, hall⟩ := dp_tup_inv hd
  cases hall with
  | cons h1 hall =>
  cases hall with
  | cons h2 hall =>
  cases hall
  cases h1
  obtain ⟨b, vs, rfl, kb, hb⟩ := dp_tup_inv h2
  obtain rfl := st_vals25 hb
  refine ⟨_, rfl, _, _, _, _, rfl, rfl, ks, rfl, (by show 2 ≤ sizeLine; decide), fun t1 ht1 => ?_⟩
  have s1 : Same H (upd H t1 (.tup [.str "seq", .str "par"])) := same_new ht1
  refine ⟨t1, _, rfl, .inr (SqT.of upd_same), rfl, rfl, _, rfl, ?_⟩
  show if inV (.str "seq") [.str "seq", .str "par"] = true then _ else _
  rw [show inV (.str "seq") [.str "seq", .str "par"] = true by decide +kernel]
  refine iteT ?_
  generalize (upd H t1 (.tup [.str "seq", .str "par"])) = H1 at s1 ⊢
  have ks1 := same_sqT s1 ks
  have kb1 := same_sqT s1 kb
  refine ⟨_, rfl, _, _, _, _, rfl, rfl, ks1, rfl, _, rfl, _, _, _, _, rfl, rfl, ks1, rfl, b, rfl, ⟨_, kb1⟩, fun D hD => ?_⟩
  refine lc_tup (K := K) (a := b) (xs := ss.map V.int) (fun i G => Same H1 G ∧ ∃ ws, G D = some (.lst ws) ∧ Profs K G ws (ones25 (ss.take i))) ?_ ?_ ?_ ?_
  · exact ⟨same_new hD, [], upd_same, .nil⟩
  · rintro i G _ ⟨s2, _⟩
    exact same_sqT s2 kb1
  · rintro i x G hi ⟨s2, ws, eD, pw⟩
    rw [List.getElem?_map] at hi
    obtain ⟨z, ez, rfl⟩ := Option.map_eq_some_iff.mp hi
    have zl := (List.getElem?_eq_some_iff.mp ez).1
    refine ⟨rfl, ?_⟩
    unfold tYes
    refine iteT ?_
    refine ⟨_, rfl, z, rfl, fun G1 v N p S E' s3 dv pv => ?_⟩
    have wl : ws.length = i := by
      rw [pw.len, ones25, List.length_map, List.length_take]
      omega
    have eD1 := s3 _ _ eD
    refine ⟨ws, eD1, small1000 (by omega), ?_, ws ++ [v], upd_same, ?_⟩
    · intro c2 o hc
      rw [upd_ne (ne_of_none hc hD)]
      exact s3 _ _ (s2 _ _ hc)
    · have k2 : ∀ b xs, SqT K G1 b xs → SqT K (upd G1 D (.lst (ws ++ [v]))) b xs := fun b xs h => (sx_upd (p := D)).sqT eD1 h
      have e1 : ones25 (ss.take (i + 1)) = ones25 (ss.take i) ++ [[z]] := by
        rw [List.take_add_one, ez, ones25, List.map_append]
        rfl
      rw [e1]
      exact ((pw.same s3).keep k2).append (.cons (dp_keep k2 (prof_noL _ _ _ _) dv) pv .nil)
  · rintro G ⟨s2, ws, eD, pw⟩
    rw [List.length_map, List.take_length] at pw
    refine ⟨D, ws, ones25 ss, rfl, .inl (SqL.of eD), pw, ?_, fun H2 v N p S E' s3 dv pv => ?_⟩
    · unfold Few
      rw [ones25_flat, ones25, List.length_map]
      omega
    · rw [ones25_flat] at pv
      exact q _ v N p S E' (s1.trans (s2.trans s3)) dv pv
theorem ok_profile (T : Txt K mg) : FnOk P w K mg base CX0 44 T.f_profile T.d_profile ["job"] (spProfile K) := by
  have g_checked_sizes := ok_checked (P := P) (w := w) (base := base) T
  have g_job_profile := ok_jp1 (P := P) (w := w) (base := base) T
  refine T.F_profile.ok sc_profile (fun vs H Q E h => ?_) (fun cdv A outer s H vs Q E hr h => ?_)
  · obtain ⟨v, ss, rfl, _⟩ := h
    rfl
  obtain ⟨v, ss, rfl, hd, hl, hb, q⟩ := h
  refine ⟨_, (pss_cons (ps_expr (pe_call g_checked_sizes (hr.mono (by omega)) rfl T.m_checked_sizes T.F_checked_sizes.kp T.b_checked_sizes .nil pass0 (pa_cons (pv 0) pa_nil)))
      (pss_one (ps_ret (pe_call g_job_profile (hr.mono (by omega)) rfl T.m_job_profile T.F_job_profile.kp T.b_job_profile .nil pass0 (pa_cons (pv 0) pa_nil))))), ?_⟩
  obtain ⟨a, b, ez⟩ := sz25 ss hb (by omega)
  have dp : (sq25 ss).deep ≤ 20 := by
    have := (sts25 ss hb).2.2.2
    simp only [J.deep]
    omega
  refine ⟨_, rfl, v, sq25 ss, a, b, rfl, hd, dp, ez, fun H1 t s1 e1 => ?_⟩
  exact ⟨_, rfl, v, ss, rfl, dp_same s1 hd, hl, fun H2 v' N p S E' s2 d2 p2 => q _ v' N p S E' (s1.trans s2) d2 p2⟩
end
/-! block Due25: _law_due (behind bSeq25) -/
def frontOf (top : Int) : List Int → List P2
  | [] => []
  | h :: hs => (max top h, h) :: frontOf (max top h) hs
theorem front_of : ∀ (ss : List Int) (top h : Int), front top h ss = frontOf top (helds h ss)
  | [], _, _ => rfl
  | s :: ss, top, h => by simp only [front, helds, frontOf, front_of ss]
theorem frontOf_len : ∀ (hs : List Int) (top : Int), (frontOf top hs).length = hs.length
  | [], _ => rfl
  | h :: hs, top => by simp only [frontOf, List.length_cons, frontOf_len hs]
/-- the greatest so far -/
def topOf (top : Int) (hs : List Int) : Int := hs.foldl max top
theorem topOf_snoc (top : Int) (hs : List Int) (h : Int) : topOf top (hs ++ [h]) = max (topOf top hs) h := by
  unfold topOf
  rw [List.foldl_append]
  rfl
theorem frontOf_at : ∀ (hs : List Int) (top : Int) (i : Nat) (h : Int), hs[i]? = some h → (frontOf top hs)[i]? = some (max (topOf top (hs.take i)) h, h)
  | [], _, _, _, e => by simp at e
  | a :: hs, top, 0, h, e => by
    simp only [List.getElem?_cons_zero, Option.some.injEq] at e
    subst e
    simp [frontOf, topOf]
  | a :: hs, top, i + 1, h, e => by
    have := frontOf_at hs (max top a) i h (by simpa using e)
    simp only [frontOf, List.getElem?_cons_succ, this]
    rfl
theorem highs_top : ∀ (ss : List Int) (top h : Int), highs top h ss = topOf top (helds h ss)
  | [], _, _ => rfl
  | s :: ss, top, h => by
    simp only [highs, helds, highs_top ss]
    rfl
theorem helds_last : ∀ (ss : List Int) (h : Int), (helds h ss).getLast? = some (h + ss.sum)
  | [], h => by simp [helds]
  | s :: ss, h => by
    have ih := helds_last ss (h + s)
    cases ss with
    | nil => simp [helds]
    | cons t ss =>
      have e : h + (s + (t :: ss).sum) = h + s + (t :: ss).sum := by omega
      rw [List.sum_cons, e, ← ih]
      simp only [helds, List.getLast?_cons_cons]
theorem helds_len : ∀ (ss : List Int) (h : Int), (helds h ss).length = ss.length + 1
  | [], _ => rfl
  | s :: ss, h => by simp only [helds, List.length_cons, helds_len ss]
theorem atI_last25 {ns : List Int} {z : Int} (h : ns.getLast? = some z) : atI (ns.map V.int) (-1) = some (.int z) := by
  obtain ⟨l, rfl⟩ := List.getLast?_eq_some_iff.mp h
  rw [List.map_append]
  exact L2.atI_last _ _
def spDue (K : PySem.W.Frag) : Sp := fun vs H Q _ => ∃ (a : Addr) (ss : List Int), vs = [.ref a] ∧ SqL K H a (ss.map V.int) ∧ ss.length ≤ 300 ∧
  ∀ (H' : Hp) (v : V) (N p : Int) (S E : List P2), Same H H' → Dp K H' v (profD N p S E) → Prof ss N p S E → Q v H'
section
variable {P : Program} {w : World} {K : PySem.W.Frag} {mg : Str → Option Value} {base : Heap}
theorem ok_due (T : Txt K mg) : FnOk P w K mg base CX0 2 T.f__law_due T.d__law_due ["_law_steps"] (spDue K) := by
  have g__law_valleys := ok_lval (P := P) (w := w) (base := base) T
  refine T.F__law_due.ok sc__law_due (fun vs H Q E h => ?_) (fun cdv A outer s H vs Q E hr h => ?_)
  · obtain ⟨a, ss, rfl, _⟩ := h
    rfl
  obtain ⟨a, ss, rfl, hs, hl, q⟩ := h
  refine ⟨_, (pss_cons (ps_set (i := 1) sc__law_due.nd rfl (Or.inl rfl) (pe_lst (pa_cons pe_int pa_nil)))
      (pss_cons (ps_for PassesOwn.never rfl (pi_list (pv 0)) (pg_name (i := 2) sc__law_due.nd rfl (Or.inl rfl))
        (pss_one (ps_expr (pe_bm PySem.F.plainAttrs_list PySem.F.slot_list_append PySem.F.type_list_append mt_append (pv 1) (pa_cons (pe_op op_add (pe_ix (r := rIxL K) ix_list (pv 1) (pe_un un_neg pe_int) (fun _ _ => rfl)) (pv 2)) pa_nil)))))
      (pss_cons (ps_par3 (i := 3) (j := 4) (l := 5) (by rfl) sc__law_due.nd rfl rfl rfl (by decide) (by decide) (by decide) rfl rfl rfl (pa_cons (pe_lst pa_nil) (pa_cons (pe_lst pa_nil) (pa_cons pe_int pa_nil))) (by rfl))
      (pss_cons (ps_for PassesOwn.never rfl (pi_list (pv 1)) (pg_name (i := 6) sc__law_due.nd rfl (Or.inl rfl))
        (pss_cons (ps_set (i := 5) sc__law_due.nd rfl (Or.inl rfl) (pe_callB (call_max2 rfl) (by rfl) T.n_max (by decide +kernel) (pa_cons (pv 5) (pa_cons (pv 6) pa_nil))))
        (pss_one (ps_expr (pe_bm PySem.F.plainAttrs_list PySem.F.slot_list_append PySem.F.type_list_append mt_append (pv 3) (pa_cons (pe_tup (pa_cons (pv 5) (pa_cons (pv 6) pa_nil))) pa_nil))))))
      (pss_cons (ps_set (i := 7) sc__law_due.nd rfl (Or.inl rfl) (pe_ix (r := rIxL K) ix_list (pv 1) (pe_un un_neg pe_int) (fun _ _ => rfl)))
      (pss_cons (ps_for PassesOwn.never rfl (pi_list (pe_revL (pv 1))) (pg_name (i := 6) sc__law_due.nd rfl (Or.inl rfl))
        (pss_cons (ps_set (i := 7) sc__law_due.nd rfl (Or.inl rfl) (pe_callB (call_max2 rfl) (by rfl) T.n_max (by decide +kernel) (pa_cons (pv 7) (pa_cons (pv 6) pa_nil))))
        (pss_one (ps_expr (pe_bm PySem.F.plainAttrs_list PySem.F.slot_list_append PySem.F.type_list_append mt_append (pv 4) (pa_cons (pe_tup (pa_cons (pv 7) (pa_cons (pv 6) pa_nil))) pa_nil))))))
      (pss_one (ps_ret (pe_tup (pa_cons (pe_ix (r := rIxL K) ix_list (pv 1) (pe_un un_neg pe_int) (fun _ _ => rfl)) (pa_cons (pv 5) (pa_cons (pe_call g__law_valleys (hr.mono (by omega)) rfl T.m__law_valleys T.F__law_valleys.kp T.b__law_valleys .nil pass0 (pa_cons (pv 3) pa_nil)) (pa_cons (pe_call g__law_valleys (hr.mono (by omega)) rfl T.m__law_valleys T.F__law_valleys.kp T.b__law_valleys .nil pass0 (pa_cons (pv 4) pa_nil)) pa_nil))))))))))))), ?_⟩
  refine ⟨(by show 1 ≤ sizeLine; decide), fun r hr => ?_⟩
  have s0 : Same H (upd H r (.lst [.int 0])) := same_new hr
  have er0 : upd H r (.lst [.int 0]) r = some (.lst ((helds 0 []).map V.int)) := upd_same
  generalize (upd H r (.lst [.int 0])) = H1 at s0 er0 ⊢
  refine ⟨_, rfl, a, rfl, ⟨_, same_sqL s0 hs⟩, ?_⟩
  refine for_list (K := K) (a := a) (xs := ss.map V.int) (fun i σ G => ∃ y2 : Option V, σ = [some (.ref a), some (.ref r), y2, none, none, none, none, none] ∧ Sx r H1 G ∧ G r = some (.lst ((helds 0 (ss.take i)).map V.int)))
    ⟨none, rfl, Sx.refl, er0⟩ ?_ ?_ ?_
  · rintro i σ G _ ⟨_, _, sx, _⟩
    exact same_sqL (Same.sx_free s0 hr sx) hs
  · rintro i x σ G hi ⟨y2, rfl, sx, er⟩
    rw [List.getElem?_map] at hi
    obtain ⟨z, ez, rfl⟩ := Option.map_eq_some_iff.mp hi
    have zl := (List.getElem?_eq_some_iff.mp ez).1
    have el := helds_last (ss.take i) 0
    refine ⟨_, rfl, .inl ⟨rfl, _, SqL.of er⟩, _, rfl, _, rfl, _, _, _, _, rfl, rfl, SqL.of er, atI_last25 el, _, rfl, _, _, rfl, rfl, ?_⟩
    refine ⟨r, _, _, rfl, rfl, er, small1000 (by rw [List.length_map, helds_len, List.length_take]; omega), ?_⟩
    refine ⟨_, rfl, sx.trans sx_upd, ?_⟩
    rw [upd_same, List.take_add_one, ez]
    show some (HO.lst _) = some (HO.lst ((helds 0 (ss.take i ++ [z])).map V.int))
    rw [helds_snoc, List.map_append]
    rfl
  rintro σ G ⟨y2, rfl, sx, er⟩
  rw [List.length_map, List.take_length] at er
  have sG : Same H G := Same.sx_free s0 hr sx
  clear sx er0 s0
  generalize hh : helds 0 ss = hs0 at *
  have hsl : hs0.length = ss.length + 1 := by rw [← hh, helds_len]
  refine ⟨(by show 0 ≤ sizeLine; decide), fun f hf => ?_⟩
  have s1 : Same G (upd G f (.lst [])) := same_new hf
  have ef0 : upd G f (.lst []) f = some (.lst []) := upd_same
  have er1 := s1 _ _ er
  have fG := hf
  generalize (upd G f (.lst [])) = G1 at s1 ef0 er1 ⊢
  refine ⟨(by show 0 ≤ sizeLine; decide), fun b hb => ?_⟩
  have s2 : Same G1 (upd G1 b (.lst [])) := same_new hb
  have eb0 : upd G1 b (.lst []) b = some (.lst []) := upd_same
  have er2 := s2 _ _ er1
  have ef2 := s2 _ _ ef0
  have nbf : b ≠ f := fun z => by rw [z, ef0] at hb; cases hb
  have nrf : r ≠ f := fun z => by rw [z, fG] at er; cases er
  have nrb : r ≠ b := fun z => by rw [z] at er1; rw [er1] at hb; cases hb
  have bG : G b = none := s1.free hb
  have sG2 : Same H (upd G1 b (.lst [])) := sG.trans (s1.trans s2)
  have fH : H f = none := sG.free fG
  have bH : H b = none := sG.free bG
  generalize (upd G1 b (.lst [])) = G2 at s2 eb0 er2 ef2 sG2 ⊢
  refine ⟨_, _, _, rfl, ?_⟩
  refine ⟨_, rfl, r, rfl, ⟨_, SqL.of er2⟩, ?_⟩
  refine for_list (K := K) (a := r) (xs := hs0.map V.int) (fun i σ F => ∃ (y6 : Option V) (fs : List V), σ = [some (.ref a), some (.ref r), y2, some (.ref f), some (.ref b), some (.int (topOf 0 (hs0.take i))), y6, none] ∧ Sx f G2 F ∧ F f = some (.lst fs) ∧ DpAll K F fs (prDs ((frontOf 0 hs0).take i)))
    ⟨none, [], rfl, Sx.refl, ef2, .nil⟩ ?_ ?_ ?_
  · rintro i σ F _ ⟨_, _, _, sx, _⟩
    exact SqL.of (sx _ _ nrf er2)
  · rintro i x σ F hi ⟨y6, fs, rfl, sx, ef, df⟩
    rw [List.getElem?_map] at hi
    obtain ⟨z, ez, rfl⟩ := Option.map_eq_some_iff.mp hi
    have zl := (List.getElem?_eq_some_iff.mp ez).1
    have efr := frontOf_at hs0 0 i z ez
    have etop : topOf 0 (hs0.take (i + 1)) = max (topOf 0 (hs0.take i)) z := by
      rw [List.take_add_one, ez]
      exact topOf_snoc _ _ _
    have fl : fs.length = i := by
      rw [dpAll_length df, prDs, List.length_map, List.length_take, frontOf_len]
      omega
    refine ⟨_, rfl, _, rfl, _, _, rfl, ?_⟩
    rw [if_max]
    refine ⟨_, rfl, .inl ⟨rfl, fs, SqL.of ef⟩, _, rfl, _, rfl, (by show 2 ≤ sizeLine; decide), fun t2 ht2 => ?_⟩
    have s3 : Same F (upd F t2 (.tup [.int (max (topOf 0 (hs0.take i)) z), .int z])) := same_new ht2
    have k2 : SqT K (upd F t2 (.tup [.int (max (topOf 0 (hs0.take i)) z), .int z])) t2 [.int (max (topOf 0 (hs0.take i)) z), .int z] := SqT.of upd_same
    generalize (upd F t2 (.tup [.int (max (topOf 0 (hs0.take i)) z), .int z])) = F1 at s3 k2 ⊢
    have ef3 := s3 _ _ ef
    refine ⟨f, fs, _, rfl, rfl, ef3, small1000 (by omega), ?_⟩
    have kk : ∀ b xs, SqT K F1 b xs → SqT K (upd F1 f (.lst (fs ++ [.ref t2]))) b xs := fun b xs h => (sx_upd (p := f)).sqT ef3 h
    refine ⟨some (.int z), fs ++ [.ref t2], ?_, sx.trans ((Same.sx s3).trans sx_upd), upd_same, ?_⟩
    · rw [etop]
      rfl
    · have e : prDs ((frontOf 0 hs0).take (i + 1)) = prDs ((frontOf 0 hs0).take i) ++ [prD (max (topOf 0 (hs0.take i)) z, z)] := by
        rw [List.take_add_one, efr, prDs, List.map_append]
        rfl
      rw [e]
      exact dpAll_append (dpAll_keep kk (noLs_pr _) (dpAll_same s3 df)) (.cons (.tup (kk _ _ k2) (.cons (.int _) (.cons (.int _) .nil))) .nil)
  rintro σ F ⟨y6, fs, rfl, sx, ef, df⟩
  rw [List.length_map, List.take_length] at *
  rw [show hs0.length = (frontOf 0 hs0).length by rw [frontOf_len], List.take_length] at df
  have erF := sx _ _ nrf er2
  have ebF := sx _ _ nbf eb0
  have sF : Same H F := Same.sx_free sG2 fH sx
  clear sx er2 ef2 eb0 s2 sG2
  have el : hs0.getLast? = some ss.sum := by rw [← hh, helds_last, Int.zero_add]
  refine ⟨_, rfl, _, rfl, _, _, _, _, rfl, rfl, SqL.of erF, atI_last25 el, ?_⟩
  refine ⟨_, rfl, r, _, rfl, SqL.of erF, fun rl hrl => ?_⟩
  have s4 : Same F (upd F rl (.lst (hs0.map V.int).reverse)) := same_new hrl
  have erl : upd F rl (.lst (hs0.map V.int).reverse) rl = some (.lst (hs0.reverse.map V.int)) := by rw [upd_same, List.map_reverse]
  have nrl : rl ≠ b := fun z => by rw [z, ebF] at hrl; cases hrl
  generalize (upd F rl (.lst (hs0.map V.int).reverse)) = F0 at s4 erl ⊢
  have er4 := s4 _ _ erF
  have eb4 := s4 _ _ ebF
  have ef4 := s4 _ _ ef
  have df4 := dpAll_same s4 df
  have sF0 := sF.trans s4
  have nfb : f ≠ b := fun z => nbf z.symm
  refine ⟨rl, rfl, ⟨_, SqL.of erl⟩, ?_⟩
  refine for_list (K := K) (a := rl) (xs := hs0.reverse.map V.int) (fun i σ G => ∃ (y6 : Option V) (bs : List V), σ = [some (.ref a), some (.ref r), y2, some (.ref f), some (.ref b), some (.int (topOf 0 hs0)), y6, some (.int (topOf ss.sum (hs0.reverse.take i)))] ∧ Sx b F0 G ∧ G b = some (.lst bs) ∧ DpAll K G bs (prDs ((frontOf ss.sum hs0.reverse).take i)))
    ⟨_, [], rfl, Sx.refl, eb4, .nil⟩ ?_ ?_ ?_
  · rintro i σ G _ ⟨_, _, _, sx, _⟩
    exact SqL.of (sx _ _ nrl erl)
  · rintro i x σ F hi ⟨y6, fs, rfl, sx, ef, df⟩
    rw [List.getElem?_map] at hi
    obtain ⟨z, ez, rfl⟩ := Option.map_eq_some_iff.mp hi
    have zl := (List.getElem?_eq_some_iff.mp ez).1
    rw [List.length_reverse] at zl
    have efr := frontOf_at hs0.reverse ss.sum i z ez
    have etop : topOf ss.sum (hs0.reverse.take (i + 1)) = max (topOf ss.sum (hs0.reverse.take i)) z := by
      rw [List.take_add_one, ez]
      exact topOf_snoc _ _ _
    have fl : fs.length = i := by
      rw [dpAll_length df, prDs, List.length_map, List.length_take, frontOf_len, List.length_reverse]
      omega
    refine ⟨_, rfl, _, rfl, _, _, rfl, ?_⟩
    rw [if_max]
    refine ⟨_, rfl, .inl ⟨rfl, fs, SqL.of ef⟩, _, rfl, _, rfl, (by show 2 ≤ sizeLine; decide), fun t2 ht2 => ?_⟩
    have s3 : Same F (upd F t2 (.tup [.int (max (topOf ss.sum (hs0.reverse.take i)) z), .int z])) := same_new ht2
    have k2 : SqT K (upd F t2 (.tup [.int (max (topOf ss.sum (hs0.reverse.take i)) z), .int z])) t2 [.int (max (topOf ss.sum (hs0.reverse.take i)) z), .int z] := SqT.of upd_same
    generalize (upd F t2 (.tup [.int (max (topOf ss.sum (hs0.reverse.take i)) z), .int z])) = F1 at s3 k2 ⊢
    have ef3 := s3 _ _ ef
    refine ⟨b, fs, _, rfl, rfl, ef3, small1000 (by omega), ?_⟩
    have kk : ∀ c xs, SqT K F1 c xs → SqT K (upd F1 b (.lst (fs ++ [.ref t2]))) c xs := fun c xs h => (sx_upd (p := b)).sqT ef3 h
    refine ⟨some (.int z), fs ++ [.ref t2], ?_, sx.trans ((Same.sx s3).trans sx_upd), upd_same, ?_⟩
    · rw [etop]
      rfl
    · have e : prDs ((frontOf ss.sum hs0.reverse).take (i + 1)) = prDs ((frontOf ss.sum hs0.reverse).take i) ++ [prD (max (topOf ss.sum (hs0.reverse.take i)) z, z)] := by
        rw [List.take_add_one, efr, prDs, List.map_append]
        rfl
      rw [e]
      exact dpAll_append (dpAll_keep kk (noLs_pr _) (dpAll_same s3 df)) (.cons (.tup (kk _ _ k2) (.cons (.int _) (.cons (.int _) .nil))) .nil)
  rintro σ G ⟨y7, bs, rfl, sx, eb, db⟩
  rw [List.length_map] at db
  rw [show hs0.reverse.length = (frontOf ss.sum hs0.reverse).length by rw [frontOf_len], List.take_length] at db
  have erG := sx _ _ nrb er4
  have efG := sx _ _ nfb ef4
  have dfG := dpAll_keep (fun c xs h => sx.sqT eb4 h) (noLs_pr _) df4
  have sG5 : Same H G := Same.sx_free sF0 bH sx
  refine ⟨_, rfl, _, rfl, _, _, _, _, rfl, rfl, SqL.of erG, atI_last25 el, _, rfl, ?_⟩
  refine ⟨_, rfl, f, fs, _, rfl, SqL.of efG, dfG, by rw [frontOf_len]; omega, fun G6 t6 S s6 dS vS => ?_⟩
  refine ⟨_, rfl, b, bs, _, rfl, SqL.of (s6 _ _ eb), dpAll_same s6 db, by rw [frontOf_len, List.length_reverse]; omega, fun G7 t7 E' s7 dE vE => ?_⟩
  refine ⟨(by show 4 ≤ sizeLine; decide), fun t8 ht8 => ?_⟩
  obtain ⟨s8, d8⟩ := tup_fresh (K := K) (ds := [.int ss.sum, .int (topOf 0 hs0), .tuple (prDs S), .tuple (prDs E')]) ht8 (.cons (.int _) (.cons (.int _) (.cons (dp_same s7 dS) (.cons dE .nil))))
  have hb := helds_bw ss 0
  rw [Int.zero_add, hh] at hb
  refine q _ _ _ _ S E' (sG5.trans (s6.trans (s7.trans s8))) d8 ⟨rfl, ?_, ?_, ?_⟩
  · rw [highs_top, hh]
  · rw [front_of, hh]
    exact vS
  · rw [front_of, hb]
    exact vE
end
/-! block Rep25: the text of profiles (behind bDue25, bProf25) -/
def Bd (ss : List Int) : Prop := (∀ s ∈ ss, -E61 ≤ s ∧ s ≤ E61) ∧ ss.length ≤ 30
theorem Bd.len {ss : List Int} (h : Bd ss) : ss.length ≤ 30 := h.2
abbrev C61 : Int := 299999999999999999999999999999999999999999999999999999999999970
theorem sum_bd : ∀ ss : List Int, (∀ s ∈ ss, -E61 ≤ s ∧ s ≤ E61) → -(ss.length * E61) ≤ ss.sum ∧ ss.sum ≤ ss.length * E61 ∧ highs 0 0 ss ≤ ss.length * E61
  | [], _ => by simp [highs]
  | s :: ss, h => by
    obtain ⟨h1, h2, h3⟩ := sum_bd ss fun x hx => h x (List.mem_cons_of_mem _ hx)
    have h0 := h s (List.mem_cons_self ..)
    have hm := highs_max ss (max 0 0) (0 + s)
    simp only [highs, List.sum_cons, List.length_cons, hm]
    simp only [E61] at *
    omega
theorem small61 {i : Int} (h1 : -(2 * C61) ≤ i) (h2 : i ≤ 2 * C61) : i.natAbs < 10 ^ 180 := by
  have e : (600000000000000000000000000000000000000000000000000000000000000 : Nat) < 10 ^ 180 := by decide +kernel
  simp only [C61] at h1 h2
  exact Nat.lt_of_le_of_lt (show i.natAbs ≤ 600000000000000000000000000000000000000000000000000000000000000 by omega) e
theorem prs_fine : ∀ ps : List P2, (∀ p ∈ ps, (-(2 * C61) ≤ p.1 ∧ p.1 ≤ 2 * C61) ∧ (-(2 * C61) ≤ p.2 ∧ p.2 ≤ 2 * C61)) → fines (prDs ps)
  | [], _ => trivial
  | p :: ps, h => by
    have h0 := h p (List.mem_cons_self ..)
    show fines (prD p :: prDs ps)
    simp only [fines, prD, fine]
    exact ⟨⟨small61 h0.1.1 h0.1.2, small61 h0.2.1 h0.2.2, trivial⟩, prs_fine ps fun x hx => h x (List.mem_cons_of_mem _ hx)⟩
theorem prs_bulk : ∀ ps : List P2, PyData.bulkAll (prDs ps) ≤ ps.length * 10
  | [] => by simp [prDs, PyData.bulkAll]
  | p :: ps => by
    have h1 := prs_bulk ps
    show PyData.bulkAll (prD p :: prDs ps) ≤ _
    rw [List.length_cons, Nat.succ_mul]
    simp only [PyData.bulkAll, prD, PyData.bulk]
    omega
/-- what repr asks for -/
structure Rep (d : PyData) (e b : Nat) : Prop where
  fine : fine d
  depth : d.depth ≤ e
  bulk : d.bulk ≤ b
theorem Prof.rep {ss : List Int} {N p : Int} {S E : List P2} (h : Prof ss N p S E) (b : Bd ss) : Rep (profD N p S E) 4 700 := by
  obtain ⟨b1, b2⟩ := b
  obtain ⟨u1, u2, u3⟩ := sum_bd ss b1
  have hle : (ss.length : Int) * E61 ≤ C61 := by
    simp only [E61, C61]
    omega
  have hpos := (highs_ge ss 0 0).1
  have fb := front_bd (B := E61) ss 0 0 0 b1 (by decide) (by omega) (by omega) (by omega) (by omega)
  have fe := front_bd (B := E61) (bw ss) ss.sum ss.sum (ss.length * E61) (fun s hs => by
    obtain ⟨x, hx, rfl⟩ := List.mem_map.mp hs
    have := b1 x (List.mem_reverse.mp hx)
    omega) (by decide) (by omega) (by omega) (by omega) (by omega)
  have lb : (bw ss).length = ss.length := by simp [bw]
  rw [lb] at fe
  refine ⟨?_, ?_, ?_⟩
  · simp only [Rp.fine, fines]
    refine ⟨small61 (by rw [h.net]; omega) (by rw [h.net]; omega), small61 (by rw [h.peak]; simp only [C61] at *; omega) (by rw [h.peak]; omega), prs_fine S fun q hq => ?_, prs_fine E fun q hq => ?_, trivial⟩
    · have := fb q (h.start.sub q hq)
      simp only [C61] at *
      omega
    · have := fe q (h.fin.sub q hq)
      omega
  · have h1 := prs_depth S
    have h2 := prs_depth E
    simp only [PyData.depth, PyData.depthAll]
    omega
  · have h1 := prs_bulk S
    have h2 := prs_bulk E
    have l1 := h.start.len
    have l2 := h.fin.len
    rw [front_len] at l1 l2
    rw [lb] at l2
    simp only [PyData.bulk, PyData.bulkAll]
    omega
/-- two profiles of the same steps are the same data -/
theorem prof_two {K : PySem.W.Frag} {H' : Hp} {v' : V} {ss : List Int} {N p N' p' : Int} {S E S' E' : List P2} (h : Prof ss N p S E) (k : Prof ss N' p' S' E') (hd : Dp K H' v' (profD N' p' S' E')) : Dp K H' v' (profD N p S E) := by
  obtain ⟨rfl, rfl, rfl, rfl⟩ := h.uniq k
  exact hd
/-- data of profiles of these steps -/
inductive PfDs : List PyData → List (List Int) → Prop
  | nil : PfDs [] []
  | cons {ds : List PyData} {ss : List Int} {sss : List (List Int)} {N p : Int} {S E : List P2} (h : Prof ss N p S E) (r : PfDs ds sss) : PfDs (profD N p S E :: ds) (ss :: sss)
theorem PfDs.uniq {ds : List PyData} {sss : List (List Int)} (h : PfDs ds sss) : ∀ {es : List PyData}, PfDs es sss → ds = es := by
  induction h with
  | nil =>
    intro es k
    cases k
    rfl
  | cons h _ ih =>
    intro es k
    cases k with
    | cons k r =>
    obtain ⟨rfl, rfl, rfl, rfl⟩ := h.uniq k
    rw [ih r]
theorem Profs.data {K : PySem.W.Frag} {H : Hp} {vs : List V} {sss : List (List Int)} (h : Profs K H vs sss) : ∃ ds, DpAll K H vs ds ∧ PfDs ds sss := by
  induction h with
  | nil => exact ⟨[], .nil, .nil⟩
  | cons hd hp _ ih =>
    obtain ⟨ds, h1, h2⟩ := ih
    exact ⟨_ :: ds, .cons hd h1, .cons hp h2⟩
theorem PfDs.rep {ds : List PyData} {sss : List (List Int)} (h : PfDs ds sss) : (∀ ss ∈ sss, Bd ss) → fines ds ∧ PyData.depthAll ds ≤ 4 ∧ PyData.bulkAll ds ≤ sss.length * 705 := by
  induction h with
  | nil => intro _; exact ⟨trivial, by simp [PyData.depthAll], by simp [PyData.bulkAll]⟩
  | cons h _ ih =>
    intro hb
    obtain ⟨a, b, c⟩ := ih fun ss hss => hb ss (List.mem_cons_of_mem _ hss)
    have r := h.rep (hb _ (List.mem_cons_self ..))
    have r2 := r.depth
    have r3 := r.bulk
    refine ⟨⟨r.fine, a⟩, ?_, ?_⟩
    · simp only [PyData.depthAll]
      omega
    · rw [List.length_cons, Nat.succ_mul]
      simp only [PyData.bulkAll]
      omega
theorem PfDs.repL {ds : List PyData} {sss : List (List Int)} (h : PfDs ds sss) (hb : ∀ ss ∈ sss, Bd ss) (hl : sss.length ≤ 40) : Rep (.list ds) 64 80000 := by
  obtain ⟨a, b, c⟩ := h.rep hb
  refine ⟨a, ?_, ?_⟩
  · simp only [PyData.depth]
    omega
  · simp only [PyData.bulk]
    omega
theorem PfDs.repT {ds : List PyData} {sss : List (List Int)} (h : PfDs ds sss) (hb : ∀ ss ∈ sss, Bd ss) (hl : sss.length ≤ 40) : Rep (.tuple ds) 64 80000 := by
  obtain ⟨a, b, c⟩ := h.rep hb
  refine ⟨a, ?_, ?_⟩
  · simp only [PyData.depth]
    omega
  · simp only [PyData.bulk]
    omega
theorem Bd.one {ss : List Int} (h : Bd ss) : ∀ t ∈ ones25 ss, Bd t := fun t ht => by
  obtain ⟨s, hs, rfl⟩ := List.mem_map.mp ht
  exact ⟨fun x hx => by rw [List.mem_singleton] at hx; rw [hx]; exact h.1 s hs, by simp⟩
theorem few_ones {ss : List Int} (h : ss.length ≤ 100) : Few (ones25 ss) := by
  unfold Few
  rw [ones25_flat, ones25, List.length_map]
  omega
theorem prof_nil : Prof [] 0 0 [(0, 0)] [(0, 0)] := by
  refine ⟨rfl, rfl, ⟨by simp, ?_, ?_⟩, ⟨by simp, ?_, ?_⟩⟩ <;> simp [front, Covers, bw]
theorem Profs.take {K : PySem.W.Frag} {H : Hp} {vs : List V} {sss : List (List Int)} (h : Profs K H vs sss) : ∀ i : Nat, Profs K H (vs.take i) (sss.take i) := by
  induction h with
  | nil => intro i; simpa using Profs.nil
  | cons hd hp _ ih =>
    intro i
    cases i with
    | zero => exact .nil
    | succ i => exact .cons hd hp (ih i)
theorem Profs.drop {K : PySem.W.Frag} {H : Hp} {vs : List V} {sss : List (List Int)} (h : Profs K H vs sss) : ∀ i : Nat, Profs K H (vs.drop i) (sss.drop i) := by
  induction h with
  | nil => intro i; simpa using Profs.nil
  | cons hd hp r ih =>
    intro i
    cases i with
    | zero => exact .cons hd hp r
    | succ i => exact ih i
theorem cut_to {us : List V} {i : Int} (h0 : 0 ≤ i) (h1 : i ≤ (us.length : Int)) : cutV us none (some i) = us.take i.toNat := by
  unfold cutV HT.sIx
  simp only [show ¬(i < 0) by omega, if_false]
  have e : min i.toNat us.length = i.toNat := by omega
  rw [e]
  simp
theorem cut_from {us : List V} {i : Int} (h0 : 0 ≤ i) (h1 : i ≤ (us.length : Int)) : cutV us (some i) none = us.drop i.toNat := by
  unfold cutV HT.sIx
  simp only [show ¬(i < 0) by omega, if_false]
  have e : min i.toNat us.length = i.toNat := by omega
  rw [e, List.take_of_length_le (by rw [List.length_drop]; omega)]
theorem ones_take (ss : List Int) (i : Nat) : (ones25 ss).take i = ones25 (ss.take i) := by
  unfold ones25
  rw [List.map_take]
theorem ones_drop (ss : List Int) (i : Nat) : (ones25 ss).drop i = ones25 (ss.drop i) := by
  unfold ones25
  rw [List.map_drop]
theorem Bd.take {ss : List Int} (h : Bd ss) (i : Nat) : Bd (ss.take i) := ⟨fun s hs => h.1 s (List.mem_of_mem_take hs), by have := h.2; rw [List.length_take]; omega⟩
theorem Bd.drop {ss : List Int} (h : Bd ss) (i : Nat) : Bd (ss.drop i) := ⟨fun s hs => h.1 s (List.mem_of_mem_drop hs), by have := h.2; rw [List.length_drop]; omega⟩
/-! the text has plain signs alone -/
theorem tup_free {k : Nat} (hk : 57 < k) {xs : List PyData} (h : ∀ x ∈ xs, k ∉ x.shown.cps.toList) : k ∉ (PyData.tuple xs).shown.cps.toList := by
  intro hm
  have ha := PyProof.Rows.shownAll_free h
  rw [PyData.shown_tuple] at hm
  rw [PyProof.Rows.mem_cps_append, PyProof.Rows.mem_cps_append, PyProof.Rows.signs_lparen, PyProof.Rows.mem_join] at hm
  rcases hm with (hm | (⟨t, ht, hc⟩ | ⟨hl, hs⟩)) | hm
  · simp at hm
    omega
  · exact ha t ht hc
  · rw [PyProof.Rows.signs_sep] at hs
    simp at hs
    omega
  · split at hm
    · have e : ((",)" : String) : Str).cps.toList = [44, 41] := by decide
      rw [e] at hm
      simp at hm
      omega
    · have e : ((")" : String) : Str).cps.toList = [41] := by decide
      rw [e] at hm
      simp at hm
      omega
theorem int_free {k : Nat} (hk : 57 < k) (i : Int) : k ∉ (PyData.int i).shown.cps.toList := PyProof.Rows.shown_int_free' ⟨by omega, .inr hk⟩ i
theorem prs_free {k : Nat} (hk : 57 < k) (ps : List P2) : k ∉ (PyData.tuple (prDs ps)).shown.cps.toList := tup_free hk fun x hx => by
  obtain ⟨p, _, rfl⟩ := List.mem_map.mp hx
  refine tup_free hk fun y hy => ?_
  simp only [List.mem_cons, List.not_mem_nil, or_false] at hy
  rcases hy with rfl | rfl
  · exact int_free hk _
  · exact int_free hk _
theorem prof_free {k : Nat} (hk : 57 < k) (N p : Int) (S E : List P2) : k ∉ (profD N p S E).shown.cps.toList := tup_free hk fun x hx => by
  simp only [List.mem_cons, List.not_mem_nil, or_false] at hx
  rcases hx with rfl | rfl | rfl | rfl
  · exact int_free hk _
  · exact int_free hk _
  · exact prs_free hk _
  · exact prs_free hk _
theorem prof_strOk (N p : Int) (S E : List P2) : PyData.strOk (profD N p S E).shown = true := by
  unfold PyData.strOk
  rw [Array.all_eq_true']
  intro x hx
  rw [decide_eq_true_eq]
  refine Nat.lt_of_not_le fun h => ?_
  exact prof_free (k := x) (by omega) N p S E (by simpa using hx)
/-! block Long25: _law_long_right (behind bRep25, bStep25) -/
theorem acc25 {K : PySem.W.Frag} {G0 F F1 : Hp} {D : Addr} {ws : List V} {v : V} {ss : List Int} {i : Nat} {z N p : Int} {S E : List P2} (sF : Same G0 F) (hD : G0 D = none) (eD : F D = some (.lst ws))
    (pw : Profs K F ws (ones25 (ss.take i))) (s3 : Same F F1) (dv : Dp K F1 v (profD N p S E)) (pv : Prof [z] N p S E) (ez : ss[i]? = some z) (hl : ss.length ≤ 100) :
    ∃ acc, F1 D = some (.lst acc) ∧ acc.length < sizeLine ∧ (Same G0 (upd F1 D (.lst (acc ++ [v]))) ∧ ∃ ws, upd F1 D (.lst (acc ++ [v])) D = some (.lst ws) ∧ Profs K (upd F1 D (.lst (acc ++ [v]))) ws (ones25 (ss.take (i + 1)))) := by
  have zl := (List.getElem?_eq_some_iff.mp ez).1
  have wl : ws.length = i := by
    rw [pw.len, ones25, List.length_map, List.length_take]
    omega
  have eD1 := s3 _ _ eD
  refine ⟨ws, eD1, small1000 (by omega), ?_, ws ++ [v], upd_same, ?_⟩
  · intro c2 o hc
    rw [upd_ne (ne_of_none hc hD)]
    exact s3 _ _ (sF _ _ hc)
  · have k2 : ∀ b xs, SqT K F1 b xs → SqT K (upd F1 D (.lst (ws ++ [v]))) b xs := fun b xs h => (sx_upd (p := D)).sqT eD1 h
    have e1 : ones25 (ss.take (i + 1)) = ones25 (ss.take i) ++ [[z]] := by
      rw [List.take_add_one, ez, ones25, List.map_append]
      rfl
    rw [e1]
    exact ((pw.same s3).keep k2).append (.cons (dp_keep k2 (prof_noL _ _ _ _) dv) pv .nil)
def spLR (K : PySem.W.Frag) : Sp := fun vs H Q _ => ∃ (p : Addr) (n : Nat), vs = [.ref p] ∧ Pot H p n ∧ n + 11 ≤ 1099511627776 ∧ ∀ H', Sx p H H' → Pot H' p (n + 11) → Q (.bl true) H'
section
variable {P : Program} {w : World} {K : PySem.W.Frag} {mg : Str → Option Value} {base : Heap}
theorem ok_lr (T : Txt K mg) : FnG P w K mg base CX0 50 T.f__law_long_right T.d__law_long_right ["_law_source_here"] (spLR K) := by
  have g__law_draw : FnOk P w K mg base CX0 1 T.f__law_draw T.d__law_draw ["_law_source_here", "_law_many"] spTake := ok_take T
  have g__law_long_step := ok_long (P := P) (w := w) (base := base) T
  have g_step_profile := ok_stepprof (P := P) (w := w) (base := base) T
  have g_seq_profiles := ok_seqprofs (P := P) (w := w) (base := base) T
  have g__law_due := ok_due (P := P) (w := w) (base := base) T
  refine okG T.F__law_long_right sc__law_long_right (fun vs H Q E h => ?_) (fun cdv A outer s H vs Q E hr gd h => ?_)
  · obtain ⟨p, n, rfl, _⟩ := h
    rfl
  obtain ⟨p, n, rfl, hp, hn, q⟩ := h
  refine ⟨_, (pss_cons (ps_set (i := 1) sc__law_long_right.nd rfl (Or.inl rfl) (pe_lst (pa_cons (pe_call g__law_long_step (hr.mono (by omega)) rfl T.m__law_long_step T.F__law_long_step.kp T.b__law_long_step .nil pass0 (pa_cons (pv 0) pa_nil)) (pa_cons (pe_op op_sub (pe_call g__law_draw (hr.mono (by omega)) rfl T.m__law_draw T.F__law_draw.kp T.b__law_draw .nil pass0 (pa_cons (pv 0) (pa_cons pe_int pa_nil))) pe_int) (pa_cons (pe_call g__law_long_step (hr.mono (by omega)) rfl T.m__law_long_step T.F__law_long_step.kp T.b__law_long_step .nil pass0 (pa_cons (pv 0) pa_nil)) pa_nil)))))
      (pss_cons (ps_set (i := 2) sc__law_long_right.nd rfl (Or.inl rfl) (pe_callTy (r := rTupS K) call_tupS (by rfl) T.n_tuple (by decide +kernel) (pa_cons (pe_lc (own := [("_law_step_here", 3)]) (g := (gName 3)) (by rfl) sc__law_long_right.nd (pi_list (pv 1)) (blkOk_by (N := N__law_long_right) (sc := (defScope s__law_long_right)) (by decide +kernel)) (fun _ _ _ _ _ => (pg_name (i := 3) sc__law_long_right.nd rfl (Or.inl rfl))) (fun _ _ _ _ _ => pts_nil) (fun _ _ _ _ _ => (pe_call g_step_profile (hr.mono (by omega)) rfl T.m_step_profile T.F_step_profile.kp T.b_step_profile .nil pass0 (pa_cons (pv 3) pa_nil)))) pa_nil)))
      (pss_cons (ps_if (pt_cmpR op_ne (pe_callB (r := rRepr K) (call_reprD gd (room66 hr)) (by rfl) T.n_repr (by decide +kernel) (pa_cons (pv 2) pa_nil)) (pe_callB (r := rRepr K) (call_reprD gd (room66 hr)) (by rfl) T.n_repr (by decide +kernel) (pa_cons (pe_callTy (r := rTupS K) call_tupS (by rfl) T.n_tuple (by decide +kernel) (pa_cons (pe_lc (own := [("_law_step_here", 3)]) (g := (gName 3)) (by rfl) sc__law_long_right.nd (pi_list (pv 1)) (blkOk_by (N := N__law_long_right) (sc := (defScope s__law_long_right)) (by decide +kernel)) (fun _ _ _ _ _ => (pg_name (i := 3) sc__law_long_right.nd rfl (Or.inl rfl))) (fun _ _ _ _ _ => pts_nil) (fun _ _ _ _ _ => (pe_call g__law_due (hr.mono (by omega)) rfl T.m__law_due T.F__law_due.kp T.b__law_due .nil pass0 (pa_cons (pe_lst (pa_cons (pv 3) pa_nil)) pa_nil)))) pa_nil)) pa_nil)) (nomark _)) (pss_one (ps_ret pe_bl)) pss_nil)
      (pss_one (ps_ret (pe_cmpR op_eq (pe_callB (r := rRepr K) (call_reprD gd (room66 hr)) (by rfl) T.n_repr (by decide +kernel) (pa_cons (pe_call g_seq_profiles (hr.mono (by omega)) rfl T.m_seq_profiles T.F_seq_profiles.kp T.b_seq_profiles .nil pass0 (pa_cons (pv 2) pa_nil)) pa_nil)) (pe_callB (r := rRepr K) (call_reprD gd (room66 hr)) (by rfl) T.n_repr (by decide +kernel) (pa_cons (pe_call g__law_due (hr.mono (by omega)) rfl T.m__law_due T.F__law_due.kp T.b__law_due .nil pass0 (pa_cons (pv 1) pa_nil)) pa_nil)) (nomark _))))))), ?_⟩
  refine ⟨_, rfl, p, n, rfl, hp, by omega, fun H1 r1 s1 hp1 a1 a2 => ?_⟩
  refine ⟨_, rfl, p, _, 9, rfl, hp1, by omega, by decide, by decide, fun H2 r2 s2 hp2 b1 b2 => ?_⟩
  refine ⟨_, _, rfl, rfl, _, rfl, p, _, rfl, hp2, by omega, fun H3 r3 s3 hp3 c1 c2 => ?_⟩
  obtain ⟨ss, hss⟩ : ∃ ss : List Int, ss = [r1, r2 - 4, r3] := ⟨_, rfl⟩
  have bd : Bd ss := by
    rw [hss]
    refine ⟨fun x hx => ?_, by simp⟩
    simp only [List.mem_cons, List.not_mem_nil, or_false] at hx
    simp only [E61] at *
    omega
  refine ⟨(by show 3 ≤ sizeLine; decide), fun l hl => ?_⟩
  have s4 : Same H3 (upd H3 l (.lst [.int r1, .int (r2 - 4), .int r3])) := same_new hl
  have el : upd H3 l (.lst [.int r1, .int (r2 - 4), .int r3]) l = some (.lst (ss.map V.int)) := by
    rw [hss]
    exact upd_same
  have hp4 := hp3.same s4
  generalize (upd H3 l (.lst [.int r1, .int (r2 - 4), .int r3])) = H4 at s4 el hp4 ⊢
  have sl : ss.length = 3 := by rw [hss]; rfl
  refine ⟨_, rfl, l, rfl, ⟨_, SqL.of el⟩, fun D hD => ?_⟩
  refine lc_list (K := K) (a := l) (xs := ss.map V.int) (fun i F => Same H4 F ∧ ∃ ws, F D = some (.lst ws) ∧ Profs K F ws (ones25 (ss.take i))) ⟨same_new hD, [], upd_same, .nil⟩ (fun i F _ ⟨sF, _⟩ => SqL.of (sF _ _ el)) ?_ ?_
  · rintro i x F hi ⟨sF, ws, eD, pw⟩
    rw [List.getElem?_map] at hi
    obtain ⟨z, ez, rfl⟩ := Option.map_eq_some_iff.mp hi
    have zb := bd.1 z (List.mem_of_getElem? ez)
    refine ⟨rfl, ?_⟩
    unfold tYes
    refine iteT ?_
    exact ⟨_, rfl, z, rfl, zb.1, zb.2, fun F1 v N p S E s5 dv pv => acc25 sF hD eD pw s5 dv pv ez (by omega)⟩
  rintro F ⟨sF, ws, eD, pw⟩
  rw [List.length_map, List.take_length] at pw
  refine ⟨D, ws, rfl, .inl ⟨SqL.of eD, fun t1 ht1 => ?_⟩⟩
  have s5 : Same F (upd F t1 (.tup ws)) := same_new ht1
  have k1 : SqT K (upd F t1 (.tup ws)) t1 ws := SqT.of upd_same
  have el5 := s5 _ _ (sF _ _ el)
  have pw := pw.same s5
  have hp5 := hp4.same (sF.trans s5)
  have s45 := sF.trans s5
  generalize (upd F t1 (.tup ws)) = F0 at s5 k1 el5 pw hp5 s45 ⊢
  obtain ⟨ds, hds, pds⟩ := pw.data
  have rp := pds.repT bd.one (by rw [ones25, List.length_map]; omega)
  refine ⟨_, rfl, _, _, rfl, .tup k1 hds, rp.fine, rp.depth, rp.bulk, ?_⟩
  refine ⟨_, rfl, l, rfl, ⟨_, SqL.of el5⟩, fun D2 hD2 => ?_⟩
  refine lc_list (K := K) (a := l) (xs := ss.map V.int) (fun i F => Same F0 F ∧ ∃ ws, F D2 = some (.lst ws) ∧ Profs K F ws (ones25 (ss.take i))) ⟨same_new hD2, [], upd_same, .nil⟩ (fun i F _ ⟨sF, _⟩ => SqL.of (sF _ _ el5)) ?_ ?_
  · rintro i x F hi ⟨sF, ws, eD, pw⟩
    rw [List.getElem?_map] at hi
    obtain ⟨z, ez, rfl⟩ := Option.map_eq_some_iff.mp hi
    refine ⟨rfl, ?_⟩
    unfold tYes
    refine iteT ?_
    refine ⟨_, rfl, (by show 1 ≤ sizeLine; decide), fun q5 hq5 => ?_⟩
    have s6 : Same F (upd F q5 (.lst [.int z])) := same_new hq5
    refine ⟨q5, [z], rfl, SqL.of upd_same, (by show 1 ≤ 300; decide), fun F1 v N p S E s7 dv pv => acc25 sF hD2 eD pw (s6.trans s7) dv pv ez (by omega)⟩
  rintro F2 ⟨sF2, ws2, eD2, pw2⟩
  rw [List.length_map, List.take_length] at pw2
  refine ⟨D2, ws2, rfl, .inl ⟨SqL.of eD2, fun t2 ht2 => ?_⟩⟩
  have s6 : Same F2 (upd F2 t2 (.tup ws2)) := same_new ht2
  have k2 : SqT K (upd F2 t2 (.tup ws2)) t2 ws2 := SqT.of upd_same
  have pw2 := pw2.same s6
  have s56 := sF2.trans s6
  generalize (upd F2 t2 (.tup ws2)) = F3 at s6 k2 pw2 s56 ⊢
  obtain ⟨ds2, hds2, pds2⟩ := pw2.data
  obtain rfl := pds.uniq pds2
  refine ⟨_, _, rfl, .tup k2 hds2, rp.fine, rp.depth, rp.bulk, rfl, _, rfl, ?_⟩
  refine iteNS rfl ?_
  refine ⟨_, rfl, t1, ws, ones25 ss, rfl, same_sqT s56 k1, pw.same s56, few_ones (by omega), fun F4 v N p' S E s7 dv pv => ?_⟩
  rw [ones25_flat] at pv
  have rv := pv.rep bd
  have w1 := rv.depth
  have w2 := rv.bulk
  refine ⟨_, _, rfl, dv, rv.fine, by omega, by omega, ?_⟩
  refine ⟨_, rfl, l, ss, rfl, SqL.of (s7 _ _ (s56 _ _ el5)), by omega, fun F5 v' N' p'' S' E' s8 dv' pv' => ?_⟩
  refine ⟨_, _, rfl, prof_two pv pv' dv', rv.fine, by omega, by omega, rfl, ?_⟩
  have e : decide (V.str (profD N p' S E).shown = V.str (profD N p' S E).shown) = true := decide_eq_true rfl
  rw [e]
  have sA : Same F0 F5 := s56.trans (s7.trans s8)
  exact q _ (s1.trans (s2.trans (s3.trans (Same.sx (s4.trans (s45.trans sA)))))) (hp5.same sA)
end
/-! block Law25 (behind bLong25) -/
def spLaw (K : PySem.W.Frag) : Sp := fun vs H Q _ => ∃ (a : Addr) (ns : List Int), vs = [.ref a] ∧ Only H ∧ SqL K H a (ns.map V.int) ∧ ns.length ≤ 63 ∧ ∀ H', Q (.bl true) H'
theorem m30_61 {s : Int} (h : -M30 ≤ s ∧ s ≤ M30) : -E61 ≤ s ∧ s ≤ E61 := by
  simp only [M30, E61] at *
  omega
section
variable {P : Program} {w : World} {K : PySem.W.Frag} {mg : Str → Option Value} {base : Heap}
theorem ok_law {f : Addr} {fd : FuncData} (F : Fun K "law" "law" s_law f fd) (T : Txt K mg) : FnG P w K mg base CX0 60 f fd ["_law_script"] (spLaw K) := by
  have g__law_source := ok_source (P := P) (w := w) (base := base) T
  have g__law_draw : FnOk P w K mg base CX0 1 T.f__law_draw T.d__law_draw ["_law_source_here", "_law_many"] spTake := ok_take T
  have g__law_step := ok_step (P := P) (w := w) (base := base) T
  have g_step_profile := ok_stepprof (P := P) (w := w) (base := base) T
  have g_seq_profiles := ok_seqprofs (P := P) (w := w) (base := base) T
  have g_profile := ok_profile (P := P) (w := w) (base := base) T
  have g__law_due := ok_due (P := P) (w := w) (base := base) T
  have g__law_long_right := ok_lr (P := P) (w := w) (base := base) T
  refine okG F sc_law (fun vs H Q E h => ?_) (fun cdv A outer s H vs Q E hr gd h => ?_)
  · obtain ⟨a, ns, rfl, _⟩ := h
    rfl
  obtain ⟨a, ns, rfl, hO, hS, hlen, q⟩ := h
  have hsc := Scr.of hO hS
  refine ⟨_, (pss_cons (ps_set (i := 1) sc_law.nd rfl (Or.inl rfl) (pe_tup (pa_cons pe_int (pa_cons pe_int (pa_cons (pe_tup (pa_cons (pe_tup (pa_cons pe_int (pa_cons pe_int pa_nil))) pa_nil)) (pa_cons (pe_tup (pa_cons (pe_tup (pa_cons pe_int (pa_cons pe_int pa_nil))) pa_nil)) pa_nil))))))
      (pss_cons (ps_if (pt_cmpR op_ne (pe_callB (r := rRepr K) (call_reprD gd (room66 hr)) (by rfl) T.n_repr (by decide +kernel) (pa_cons (pe_lst (pa_cons (pe_call g_seq_profiles (hr.mono (by omega)) rfl T.m_seq_profiles T.F_seq_profiles.kp T.b_seq_profiles .nil pass0 (pa_cons (pe_tup pa_nil) pa_nil)) (pa_cons (pe_call g_profile (hr.mono (by omega)) rfl T.m_profile T.F_profile.kp T.b_profile .nil pass0 (pa_cons (pe_tup (pa_cons pe_str (pa_cons (pe_tup pa_nil) pa_nil))) pa_nil)) pa_nil))) pa_nil)) (pe_callB (r := rRepr K) (call_reprD gd (room66 hr)) (by rfl) T.n_repr (by decide +kernel) (pa_cons (pe_lst (pa_cons (pv 1) (pa_cons (pv 1) pa_nil))) pa_nil)) (nomark _)) (pss_one (ps_ret pe_bl)) pss_nil)
      (pss_cons (ps_for PassesOwn.never rfl (pi_range1 rfl T.n_range (pa_cons (pe_callB (call_max2 rfl) (by rfl) T.n_max (by decide +kernel) (pa_cons pe_int (pa_cons (pe_callB (call_min2 rfl) (by rfl) T.n_min (by decide +kernel) (pa_cons pe_int (pa_cons (pe_callB (r := rLenS K) call_lenS (by rfl) T.n_len (by decide +kernel) (pa_cons (pv 0) pa_nil)) pa_nil))) pa_nil))) pa_nil)) (pg_name (i := 2) sc_law.nd rfl (Or.inl rfl))
        (pss_cons (ps_set (i := 3) sc_law.nd rfl (Or.inr rfl) (pe_call g__law_source (hr.mono (by omega)) rfl T.m__law_source T.F__law_source.kp T.b__law_source .nil pass0 (pa_cons (pv 0) (pa_cons (pv 2) pa_nil))))
        (pss_cons (ps_setLc (i := 4) (own := [("_law_turn", 10)]) (g := (gName 10)) (by rfl) sc_law.nd rfl rfl (sw_true rfl rfl rfl (by decide +kernel)) (pi_range1 rfl T.n_range (pa_cons (pe_op op_add pe_int (pe_call g__law_draw (hr.mono (by omega)) rfl T.m__law_draw T.F__law_draw.kp T.b__law_draw .nil pass0 (pa_cons (pv 3) (pa_cons pe_int pa_nil)))) pa_nil)) (blkOk_by (N := N_law) (sc := (defScope s_law)) (by decide +kernel)) (fun _ _ _ _ _ => (pg_name (i := 10) sc_law.nd rfl (Or.inl rfl))) (fun _ _ _ _ _ => pts_nil) (fun _ _ _ _ _ => (pe_call g__law_step (hr.mono (by omega)) rfl T.m__law_step T.F__law_step.kp T.b__law_step .nil pass0 (pa_cons (pv 3) pa_nil))))
        (pss_cons (ps_set (i := 5) sc_law.nd rfl (Or.inl rfl) (pe_callB (r := rRepr K) (call_reprD gd (room66 hr)) (by rfl) T.n_repr (by decide +kernel) (pa_cons (pe_call g__law_due (hr.mono (by omega)) rfl T.m__law_due T.F__law_due.kp T.b__law_due .nil pass0 (pa_cons (pv 4) pa_nil)) pa_nil)))
        (pss_cons (ps_setLc (i := 6) (own := [("_law_step_here", 11)]) (g := (gName 11)) (by rfl) sc_law.nd rfl rfl (sw_true rfl rfl rfl (by decide +kernel)) (pi_list (pv 4)) (blkOk_by (N := N_law) (sc := (defScope s_law)) (by decide +kernel)) (fun _ _ _ _ _ => (pg_name (i := 11) sc_law.nd rfl (Or.inl rfl))) (fun _ _ _ _ _ => pts_nil) (fun _ _ _ _ _ => (pe_call g_step_profile (hr.mono (by omega)) rfl T.m_step_profile T.F_step_profile.kp T.b_step_profile .nil pass0 (pa_cons (pv 11) pa_nil))))
        (pss_cons (ps_if (pt_cmpR op_ne (pe_callB (r := rRepr K) (call_reprD gd (room66 hr)) (by rfl) T.n_repr (by decide +kernel) (pa_cons (pv 6) pa_nil)) (pe_callB (r := rRepr K) (call_reprD gd (room66 hr)) (by rfl) T.n_repr (by decide +kernel) (pa_cons (pe_lc (own := [("_law_step_here", 11)]) (g := (gName 11)) (by rfl) sc_law.nd (pi_list (pv 4)) (blkOk_by (N := N_law) (sc := (defScope s_law)) (by decide +kernel)) (fun _ _ _ _ _ => (pg_name (i := 11) sc_law.nd rfl (Or.inl rfl))) (fun _ _ _ _ _ => pts_nil) (fun _ _ _ _ _ => (pe_call g__law_due (hr.mono (by omega)) rfl T.m__law_due T.F__law_due.kp T.b__law_due .nil pass0 (pa_cons (pe_lst (pa_cons (pv 11) pa_nil)) pa_nil)))) pa_nil)) (nomark _)) (pss_one (ps_ret pe_bl)) pss_nil)
        (pss_cons (ps_set (i := 7) sc_law.nd rfl (Or.inl rfl) (pe_call g__law_draw (hr.mono (by omega)) rfl T.m__law_draw T.F__law_draw.kp T.b__law_draw .nil pass0 (pa_cons (pv 3) (pa_cons (pe_op op_add (pe_callB (r := rLenS K) call_lenS (by rfl) T.n_len (by decide +kernel) (pa_cons (pv 4) pa_nil)) pe_int) pa_nil))))
        (pss_cons (ps_set (i := 8) sc_law.nd rfl (Or.inl rfl) (pe_tup (pa_cons (pe_call g_seq_profiles (hr.mono (by omega)) rfl T.m_seq_profiles T.F_seq_profiles.kp T.b_seq_profiles .nil pass0 (pa_cons (pe_callTy (r := rTupS K) call_tupS (by rfl) T.n_tuple (by decide +kernel) (pa_cons (pe_slice (r := rSlL K) sl_list (pv 6) po_none (po_some (pv 7))) pa_nil)) pa_nil)) (pa_cons (pe_call g_seq_profiles (hr.mono (by omega)) rfl T.m_seq_profiles T.F_seq_profiles.kp T.b_seq_profiles .nil pass0 (pa_cons (pe_callTy (r := rTupS K) call_tupS (by rfl) T.n_tuple (by decide +kernel) (pa_cons (pe_slice (r := rSlL K) sl_list (pv 6) (po_some (pv 7)) po_none) pa_nil)) pa_nil)) pa_nil))))
        (pss_cons (ps_set (i := 9) sc_law.nd rfl (Or.inl rfl) (pe_lst (pa_cons (pe_call g_seq_profiles (hr.mono (by omega)) rfl T.m_seq_profiles T.F_seq_profiles.kp T.b_seq_profiles .nil pass0 (pa_cons (pe_callTy (r := rTupS K) call_tupS (by rfl) T.n_tuple (by decide +kernel) (pa_cons (pv 6) pa_nil)) pa_nil)) (pa_cons (pe_call g_profile (hr.mono (by omega)) rfl T.m_profile T.F_profile.kp T.b_profile .nil pass0 (pa_cons (pe_tup (pa_cons pe_str (pa_cons (pe_callTy (r := rTupS K) call_tupS (by rfl) T.n_tuple (by decide +kernel) (pa_cons (pv 4) pa_nil)) pa_nil))) pa_nil)) (pa_cons (pe_call g_seq_profiles (hr.mono (by omega)) rfl T.m_seq_profiles T.F_seq_profiles.kp T.b_seq_profiles .nil pass0 (pa_cons (pv 8) pa_nil)) pa_nil)))))
        (pss_cons (ps_if (PW.pt (pw_or (pt_cmpR (r := rNeD K) (op_neD hr.units) (pe_lc (own := [("_law_one", 12)]) (g := (gName 12)) (by rfl) sc_law.nd (pi_list (pv 9)) (blkOk_by (N := N_law) (sc := (defScope s_law)) (by decide +kernel)) (fun _ _ _ _ _ => (pg_name (i := 12) sc_law.nd rfl (Or.inl rfl))) (fun _ _ _ _ _ => pts_nil) (fun _ _ _ _ _ => (pe_callB (r := rRepr K) (call_reprD gd (room66 hr)) (by rfl) T.n_repr (by decide +kernel) (pa_cons (pv 12) pa_nil)))) (pe_op op_rep (pe_lst (pa_cons (pv 5) pa_nil)) pe_int) (nomark _)) (pw_or1 (pt_cmpR op_ne (pe_callB (r := rRepr K) (call_reprD gd (room66 hr)) (by rfl) T.n_repr (by decide +kernel) (pa_cons (pe_call g_seq_profiles (hr.mono (by omega)) rfl T.m_seq_profiles T.F_seq_profiles.kp T.b_seq_profiles .nil pass0 (pa_cons (pe_callTy (r := rTupS K) call_tupS (by rfl) T.n_tuple (by decide +kernel) (pa_cons (pv 6) pa_nil)) pa_nil)) pa_nil)) (pv 5) (nomark _))))) (pss_one (ps_ret pe_bl)) pss_nil)
        (pss_cons (ps_if (pt_cmpR op_ne (pe_callB (r := rRepr K) (call_reprD gd (room66 hr)) (by rfl) T.n_repr (by decide +kernel) (pa_cons (pv 8) pa_nil)) (pe_callB (r := rRepr K) (call_reprD gd (room66 hr)) (by rfl) T.n_repr (by decide +kernel) (pa_cons (pe_tup (pa_cons (pe_call g__law_due (hr.mono (by omega)) rfl T.m__law_due T.F__law_due.kp T.b__law_due .nil pass0 (pa_cons (pe_slice (r := rSlL K) sl_list (pv 4) po_none (po_some (pv 7))) pa_nil)) (pa_cons (pe_call g__law_due (hr.mono (by omega)) rfl T.m__law_due T.F__law_due.kp T.b__law_due .nil pass0 (pa_cons (pe_slice (r := rSlL K) sl_list (pv 4) (po_some (pv 7)) po_none) pa_nil)) pa_nil))) pa_nil)) (nomark _)) (pss_one (ps_ret pe_bl)) pss_nil)
        (pss_one (ps_if (pt_not (pt_val (pe_callG g__law_long_right (hr.mono (by omega)) gd rfl T.m__law_long_right T.F__law_long_right.kp T.b__law_long_right .nil (pa_cons (pv 3) pa_nil)))) (pss_one (ps_ret pe_bl)) pss_nil)))))))))))))
      (pss_one (ps_ret pe_bl))))), ?_⟩
  -- the empty profile
  refine ⟨(by show 2 ≤ sizeLine; decide), fun t1 h1 => ?_⟩
  obtain ⟨u1, d1⟩ := tup_fresh (K := K) (ds := [.int 0, .int 0]) h1 (.cons (.int _) (.cons (.int _) .nil))
  generalize (upd H t1 (.tup [.int 0, .int 0])) = F1 at u1 d1 ⊢
  refine ⟨(by show 1 ≤ sizeLine; decide), fun t2 h2 => ?_⟩
  obtain ⟨u2, d2⟩ := tup_fresh (K := K) (ds := [prD (0, 0)]) h2 (.cons d1 .nil)
  generalize (upd F1 t2 (.tup [.ref t1])) = F2 at u2 d2 ⊢
  refine ⟨(by show 2 ≤ sizeLine; decide), fun t3 h3 => ?_⟩
  obtain ⟨u3, d3⟩ := tup_fresh (K := K) (ds := [.int 0, .int 0]) h3 (.cons (.int _) (.cons (.int _) .nil))
  generalize (upd F2 t3 (.tup [.int 0, .int 0])) = F3 at u3 d3 ⊢
  refine ⟨(by show 1 ≤ sizeLine; decide), fun t4 h4 => ?_⟩
  obtain ⟨u4, d4⟩ := tup_fresh (K := K) (ds := [prD (0, 0)]) h4 (.cons d3 .nil)
  generalize (upd F3 t4 (.tup [.ref t3])) = F4 at u4 d4 ⊢
  refine ⟨(by show 4 ≤ sizeLine; decide), fun t5 h5 => ?_⟩
  obtain ⟨u5, d5⟩ := tup_fresh (K := K) (ds := [.int 0, .int 0, .tuple [prD (0, 0)], .tuple [prD (0, 0)]]) h5 (.cons (.int _) (.cons (.int _) (.cons (dp_same (u3.trans u4) d2) (.cons d4 .nil))))
  have de : Dp K (upd F4 t5 (.tup [.int 0, .int 0, .ref t2, .ref t4])) (.ref t5) (profD 0 0 [(0, 0)] [(0, 0)]) := d5
  have u15 := u1.trans (u2.trans (u3.trans (u4.trans u5)))
  generalize (upd F4 t5 (.tup [.int 0, .int 0, .ref t2, .ref t4])) = F5 at u5 de u15 ⊢
  clear d1 d2 d3 d4 d5 u1 u2 u3 u4 u5
  -- no steps
  refine ⟨(by show 0 ≤ sizeLine; decide), fun t6 h6 => ?_⟩
  have u6 : Same F5 (upd F5 t6 (.tup [])) := same_new h6
  refine ⟨t6, [], [], rfl, SqT.of upd_same, .nil, (by unfold Few; decide), fun G1 v1 N1 p1 S1 E1 s1 e1 k1 => ?_⟩
  have s01 := u15.trans (u6.trans s1)
  have de1 := dp_same (u6.trans s1) de
  clear u6
  refine ⟨(by show 0 ≤ sizeLine; decide), fun t7 h7 => ?_⟩
  obtain ⟨u7, d7⟩ := tup_fresh (K := K) (ds := []) h7 .nil
  generalize (upd G1 t7 (.tup [])) = G2 at u7 d7 ⊢
  refine ⟨(by show 2 ≤ sizeLine; decide), fun t8 h8 => ?_⟩
  obtain ⟨u8, d8⟩ := tup_fresh (K := K) (ds := [.str "seq", .tuple []]) h8 (.cons (.str _) (.cons d7 .nil))
  have d8 : Dp K (upd G2 t8 (.tup [.str "seq", .ref t7])) (.ref t8) (sq25 []).toD := d8
  generalize (upd G2 t8 (.tup [.str "seq", .ref t7])) = G3 at u8 d8 ⊢
  refine ⟨.ref t8, [], rfl, d8, by decide, by simp, fun G4 v2 N2 p2 S2 E2 s2 e2 k2 => ?_⟩
  have s12 := u7.trans (u8.trans s2)
  obtain ⟨l1, l2⟩ : PfDs [profD 0 0 [(0, 0)] [(0, 0)], profD 0 0 [(0, 0)] [(0, 0)]] [[], []] ∧ ∀ ss ∈ ([[], []] : List (List Int)), Bd ss := ⟨.cons prof_nil (.cons prof_nil .nil), fun ss hs => by simp at hs; subst hs; exact ⟨by simp, by simp⟩⟩
  have r0 := l1.repL l2 (by decide)
  refine ⟨(by show 2 ≤ sizeLine; decide), fun t9 h9 => ?_⟩
  obtain ⟨u9, d9⟩ := lst_fresh (K := K) h9 (.cons (prof_two prof_nil k1 (dp_same s12 e1)) (.cons (prof_two prof_nil k2 e2) .nil))
  generalize (upd G4 t9 (.lst [v1, v2])) = G5 at u9 d9 ⊢
  refine ⟨_, _, rfl, d9, r0.fine, r0.depth, r0.bulk, ?_⟩
  have de5 := dp_same (s12.trans u9) de1
  refine ⟨_, rfl, _, rfl, (by show 2 ≤ sizeLine; decide), fun ta ha => ?_⟩
  obtain ⟨ua, da⟩ := lst_fresh (K := K) ha (.cons de5 (.cons de5 .nil))
  have sA := s01.trans (s12.trans (u9.trans ua))
  generalize (upd G5 ta (.lst [.ref t5, .ref t5])) = G6 at ua da sA ⊢
  refine ⟨_, _, rfl, da, r0.fine, r0.depth, r0.bulk, rfl, _, rfl, ?_⟩
  refine iteNS rfl ?_
  clear da ua de5 d9 u9 e1 e2 s12 d8 u8 u7 d7 de1 s01 de u15
  have hscA := hsc.same sA
  refine ⟨_, rfl, a, _, rfl, .inl hscA.sq, _, _, rfl, _, _, rfl, _, rfl, ?_, ?_, ?_⟩
  · show -(2 ^ 62) ≤ (if (if (((ns.map V.int).length : Nat) : Int) < 8 then (((ns.map V.int).length : Nat) : Int) else 8) > 1 then (if (((ns.map V.int).length : Nat) : Int) < 8 then (((ns.map V.int).length : Nat) : Int) else 8) else 1)
    split <;> (try split) <;> omega
  · show (if (if (((ns.map V.int).length : Nat) : Int) < 8 then (((ns.map V.int).length : Nat) : Int) else 8) > 1 then (if (((ns.map V.int).length : Nat) : Int) < 8 then (((ns.map V.int).length : Nat) : Int) else 8) else 1) < 2 ^ 62
    split <;> (try split) <;> omega
  have hturns : (if (if (((ns.map V.int).length : Nat) : Int) < 8 then (((ns.map V.int).length : Nat) : Int) else 8) > 1 then (if (((ns.map V.int).length : Nat) : Int) < 8 then (((ns.map V.int).length : Nat) : Int) else 8) else 1).toNat ≤ 8 := by
    split <;> (try split) <;> omega
  generalize (if (if (((ns.map V.int).length : Nat) : Int) < 8 then (((ns.map V.int).length : Nat) : Int) else 8) > 1 then (if (((ns.map V.int).length : Nat) : Int) < 8 then (((ns.map V.int).length : Nat) : Int) else 8) else 1) = turns at hturns ⊢
  refine for_range (lo := 0) (n := turns.toNat) (fun i σ H' => ∃ y2 y3 y4 y5 y6 y7 y8 y9 : Option V, σ = [some (.ref a), some (.ref t5), y2, y3, y4, y5, y6, y7, y8, y9, none, none, none] ∧ Same H H') ⟨none, none, none, none, none, none, none, none, rfl, sA⟩ ?_ ?_
  · rintro i σ H' hi ⟨y2, y3, y4, y5, y6, y7, y8, y9, rfl, t⟩
    refine ⟨_, rfl, _, rfl, a, ns, 0 + (i : Int), rfl, (hsc.same t).sq, by omega, by omega, by omega, fun A1 p s3 hpn hp => ?_⟩
    have hpH : H p = none := t.free hpn
    -- the steps
    refine ⟨_, rfl, p, 0, 9, rfl, hp, by decide, by decide, by decide, fun A2 r s4 hp2 r0' r1 => ?_⟩
    refine ⟨_, _, rfl, rfl, 1 + r, rfl, by omega, by omega, fun D hD => ?_⟩
    have nDp : D ≠ p := fun y => by
      obtain ⟨_, y2⟩ := hp2.lst
      rw [y, y2] at hD
      cases hD
    refine lc_range (lo := 0) (n := (1 + r).toNat) (fun i G => ∃ (ss : List Int), ss.length = i ∧ (∀ k ∈ ss, -M30 ≤ k ∧ k ≤ M30) ∧ Sx p A2 G ∧ Pot G p (1 + 10 * i) ∧ G D = some (.lst (ss.map V.int))) ?_ ?_ ?_
    · exact ⟨[], rfl, by simp, fun b o nb hb => by rw [upd_ne (ne_of_none hb hD)]; exact hb, hp2.same (same_new hD), upd_same⟩
    · rintro i G hi ⟨ss, nl, nb, sx, hpG, eD⟩
      refine ⟨rfl, ?_⟩
      unfold tYes
      refine iteT ?_
      refine ⟨_, rfl, p, _, rfl, hpG, by omega, fun G1 z s5 hp3 z0 z1 => ?_⟩
      have eD2 := s5 _ _ nDp eD
      refine ⟨_, eD2, small1000 (by rw [List.length_map]; omega), ss ++ [z], by rw [List.length_append, List.length_singleton, nl], ?_, ?_, ?_, ?_⟩
      · intro k hk
        rcases List.mem_append.mp hk with hk | hk
        · exact nb k hk
        · rw [List.mem_singleton] at hk
          subst hk
          exact ⟨z0, z1⟩
      · intro b o hb ho
        have nbD : b ≠ D := fun e => by rw [e, hD] at ho; cases ho
        rw [upd_ne nbD]
        exact s5 _ _ hb (sx _ _ hb ho)
      · obtain ⟨x, y, z, e1, e2⟩ := hp3
        exact ⟨x, y, z, by rw [upd_ne nDp.symm]; exact e1, e2.1, e2.2.1, e2.2.2.1, by omega⟩
      · rw [upd_same, List.map_append]
        rfl
    rintro A3 ⟨ss, nl, nb, sx3, hp3, eD⟩
    have hsl : 1 ≤ ss.length ∧ ss.length ≤ 9 := by omega
    have bd : Bd ss := ⟨fun s hs => m30_61 (nb s hs), by omega⟩
    have hp3 : Pot A3 p 200 := hp3.mono (by omega)
    have t3 : Same H A3 := Same.sx_free (t.trans s3) hpH (s4.trans sx3)
    clear sx3 hp2 hp s4 s3 hpn
    -- what is due
    refine ⟨_, rfl, D, ss, rfl, SqL.of eD, by omega, fun B1 v N pk S E' q1 dv pv => ?_⟩
    have rv := pv.rep bd
    have w1 := rv.depth
    have w2 := rv.bulk
    refine ⟨_, _, rfl, dv, rv.fine, by omega, by omega, ?_⟩
    have eD1 := q1 _ _ eD
    have hpB := hp3.same q1
    have tB := t3.trans q1
    clear dv eD hp3
    -- the single ones
    refine ⟨_, rfl, D, rfl, ⟨_, SqL.of eD1⟩, fun M hM => ?_⟩
    refine lc_list (K := K) (a := D) (xs := ss.map V.int) (fun i F => Same B1 F ∧ ∃ ws, F M = some (.lst ws) ∧ Profs K F ws (ones25 (ss.take i))) ⟨same_new hM, [], upd_same, .nil⟩ (fun i F _ ⟨sF, _⟩ => SqL.of (sF _ _ eD1)) ?_ ?_
    · rintro i x F hi ⟨sF, ws, eM, pw⟩
      rw [List.getElem?_map] at hi
      obtain ⟨z, ez, rfl⟩ := Option.map_eq_some_iff.mp hi
      have zb := bd.1 z (List.mem_of_getElem? ez)
      refine ⟨rfl, ?_⟩
      unfold tYes
      refine iteT ?_
      exact ⟨_, rfl, z, rfl, zb.1, zb.2, fun F1 v N p S E s5 dv pv => acc25 sF hM eM pw s5 dv pv ez (by omega)⟩
    rintro B2 ⟨q2, ws, eM, pw⟩
    rw [List.length_map, List.take_length] at pw
    have wsl : ws.length = ss.length := by rw [pw.len, ones25, List.length_map]
    have eD2 := q2 _ _ eD1
    have hpB := hpB.same q2
    have tB := tB.trans q2
    obtain ⟨ds, hds, pds⟩ := pw.data
    have rp := pds.repL bd.one (by rw [ones25, List.length_map]; omega)
    refine ⟨_, rfl, _, _, rfl, .lst (SqL.of eM) hds, rp.fine, rp.depth, rp.bulk, ?_⟩
    refine ⟨_, rfl, D, rfl, ⟨_, SqL.of eD2⟩, fun M2 hM2 => ?_⟩
    refine lc_list (K := K) (a := D) (xs := ss.map V.int) (fun i F => Same B2 F ∧ ∃ ws, F M2 = some (.lst ws) ∧ Profs K F ws (ones25 (ss.take i))) ⟨same_new hM2, [], upd_same, .nil⟩ (fun i F _ ⟨sF, _⟩ => SqL.of (sF _ _ eD2)) ?_ ?_
    · rintro i x F hi ⟨sF, ws, eM, pw⟩
      rw [List.getElem?_map] at hi
      obtain ⟨z, ez, rfl⟩ := Option.map_eq_some_iff.mp hi
      refine ⟨rfl, ?_⟩
      unfold tYes
      refine iteT ?_
      refine ⟨_, rfl, (by show 1 ≤ sizeLine; decide), fun q5 hq5 => ?_⟩
      have s6 : Same F (upd F q5 (.lst [.int z])) := same_new hq5
      refine ⟨q5, [z], rfl, SqL.of upd_same, (by show 1 ≤ 300; decide), fun F1 v N p S E s7 dv pv => acc25 sF hM2 eM pw (s6.trans s7) dv pv ez (by omega)⟩
    rintro B3 ⟨q3, ws2, eM2, pw2⟩
    rw [List.length_map, List.take_length] at pw2
    obtain ⟨ds2, hds2, pds2⟩ := pw2.data
    obtain rfl := pds.uniq pds2
    refine ⟨_, _, rfl, .lst (SqL.of eM2) hds2, rp.fine, rp.depth, rp.bulk, rfl, _, rfl, ?_⟩
    refine iteNS rfl ?_
    have eD3 := q3 _ _ eD2
    have eM3 := q3 _ _ eM
    have pw3 := pw.same q3
    have hpB := hpB.same q3
    have tB := tB.trans q3
    have hds3 := dpAll_same q3 hds
    clear eM2 pw2 hds2 pds2 hds eD1 eD2 eM pw
    -- the cut
    refine ⟨_, rfl, _, rfl, D, _, rfl, .inl (SqL.of eD3), _, _, rfl, rfl, p, _, _, rfl, hpB, by decide, by omega, ?_, fun B4 c q4 hpC c0 c1 => ?_⟩
    · rw [List.length_map]
      exact Nat.lt_of_le_of_lt (show ((ss.length : Int) + 1).natAbs ≤ 400 by omega) (by decide)
    rw [List.length_map] at c1
    have nMp : M ≠ p := fun y => by
      obtain ⟨_, y2⟩ := hpB.lst
      rw [y, y2] at eM3
      cases eM3
      obtain ⟨_, y3⟩ := (hp3.same q1).lst
      rw [y, y3] at hM
      cases hM
    obtain ⟨lp, hlp⟩ := hpB.lst
    have kB : ∀ b xs, SqT K B3 b xs → SqT K B4 b xs := fun b xs h => q4.sqT hlp h
    have eD4 := q4 _ _ nDp eD3
    have eM4 := q4 _ _ nMp eM3
    have pw4 := pw3.keep kB
    have tC : Same H B4 := Same.sx_free tB hpH q4
    clear eD3 eM3 pw3 hds3 hpB
    have hcl : c ≤ (ws.length : Int) := by omega
    have pwT := pw4.take c.toNat
    have pwD := pw4.drop c.toNat
    rw [ones_take] at pwT
    rw [ones_drop] at pwD
    have fewT : Few (ones25 (ss.take c.toNat)) := few_ones (by rw [List.length_take]; omega)
    have fewD : Few (ones25 (ss.drop c.toNat)) := few_ones (by rw [List.length_drop]; omega)
    refine ⟨_, rfl, ?_⟩
    unfold tNoPart
    dsimp only
    refine ⟨_, rfl, _, rfl, M, ws, rfl, SqL.of eM4, fun x1 hx1 => ?_⟩
    rw [cut_to c0 hcl]
    have g1 : Same B4 (upd B4 x1 (.lst (ws.take c.toNat))) := same_new hx1
    have ex1 : upd B4 x1 (.lst (ws.take c.toNat)) x1 = some (.lst (ws.take c.toNat)) := upd_same
    generalize (upd B4 x1 (.lst (ws.take c.toNat))) = C1 at g1 ex1 ⊢
    refine ⟨x1, _, rfl, .inl ⟨SqL.of ex1, fun x2 hx2 => ?_⟩⟩
    have g2 : Same C1 (upd C1 x2 (.tup (ws.take c.toNat))) := same_new hx2
    have kx2 : SqT K (upd C1 x2 (.tup (ws.take c.toNat))) x2 (ws.take c.toNat) := SqT.of upd_same
    generalize (upd C1 x2 (.tup (ws.take c.toNat))) = C2 at g2 kx2 ⊢
    have g12 := g1.trans g2
    refine ⟨x2, _, ones25 (ss.take c.toNat), rfl, kx2, pwT.same g12, fewT, fun C3 va Na pa Sa Ea g3 da ka => ?_⟩
    rw [ones25_flat] at ka
    have g13 := g12.trans g3
    refine ⟨_, rfl, _, rfl, _, rfl, M, ws, rfl, SqL.of (g13 _ _ eM4), fun x3 hx3 => ?_⟩
    rw [cut_from c0 hcl]
    have g4 : Same C3 (upd C3 x3 (.lst (ws.drop c.toNat))) := same_new hx3
    have ex3 : upd C3 x3 (.lst (ws.drop c.toNat)) x3 = some (.lst (ws.drop c.toNat)) := upd_same
    generalize (upd C3 x3 (.lst (ws.drop c.toNat))) = C4 at g4 ex3 ⊢
    refine ⟨x3, _, rfl, .inl ⟨SqL.of ex3, fun x4 hx4 => ?_⟩⟩
    have g5 : Same C4 (upd C4 x4 (.tup (ws.drop c.toNat))) := same_new hx4
    have kx4 : SqT K (upd C4 x4 (.tup (ws.drop c.toNat))) x4 (ws.drop c.toNat) := SqT.of upd_same
    generalize (upd C4 x4 (.tup (ws.drop c.toNat))) = C5 at g5 kx4 ⊢
    have g45 := g4.trans g5
    refine ⟨x4, _, ones25 (ss.drop c.toNat), rfl, kx4, pwD.same (g13.trans g45), fewD, fun C6 vb Nb pb Sb Eb g6 db kb => ?_⟩
    rw [ones25_flat] at kb
    have da6 := dp_same (g45.trans g6) da
    have g16 := g13.trans (g45.trans g6)
    refine ⟨(by show 2 ≤ sizeLine; decide), fun x5 hx5 => ?_⟩
    have g7 : Same C6 (upd C6 x5 (.tup [va, vb])) := same_new hx5
    have kx5 : SqT K (upd C6 x5 (.tup [va, vb])) x5 [va, vb] := SqT.of upd_same
    generalize (upd C6 x5 (.tup [va, vb])) = C7 at g7 kx5 ⊢
    have pH : Profs K C7 [va, vb] [ss.take c.toNat, ss.drop c.toNat] := .cons (dp_same g7 da6) ka (.cons (dp_same g7 db) kb .nil)
    have g17 := g16.trans g7
    clear g1 g2 g3 g4 g5 g6 g7 da da6 db ex1 ex3 kx2 kx4 g12 g13 g45 g16 pwT pwD
    -- what is told
    have eM7 := g17 _ _ eM4
    have eD7 := g17 _ _ eD4
    have pw7 := pw4.same g17
    refine ⟨_, rfl, M, ws, rfl, .inl ⟨SqL.of eM7, fun x6 hx6 => ?_⟩⟩
    have h1' : Same C7 (upd C7 x6 (.tup ws)) := same_new hx6
    have kx6 : SqT K (upd C7 x6 (.tup ws)) x6 ws := SqT.of upd_same
    generalize (upd C7 x6 (.tup ws)) = E0 at h1' kx6 ⊢
    refine ⟨x6, ws, ones25 ss, rfl, kx6, pw7.same h1', few_ones (by omega), fun E1' vc Nc pc Sc Ec h2' dc kc => ?_⟩
    rw [ones25_flat] at kc
    have h12 := h1'.trans h2'
    refine ⟨_, rfl, D, _, rfl, .inl ⟨SqL.of (h12 _ _ eD7), fun x7 hx7 => ?_⟩⟩
    have h3' : Same E1' (upd E1' x7 (.tup (ss.map V.int))) := same_new hx7
    have dx7 : Dp K (upd E1' x7 (.tup (ss.map V.int))) (.ref x7) (.tuple (J.toDs (ss.map J.st))) := .tup (SqT.of upd_same) (st_dp25 ss)
    generalize (upd E1' x7 (.tup (ss.map V.int))) = E2' at h3' dx7 ⊢
    refine ⟨(by show 2 ≤ sizeLine; decide), fun x8 hx8 => ?_⟩
    obtain ⟨h4', d8'⟩ := tup_fresh (K := K) (ds := [.str "seq", .tuple (J.toDs (ss.map J.st))]) hx8 (.cons (.str _) (.cons dx7 .nil))
    have d8' : Dp K (upd E2' x8 (.tup [.str "seq", .ref x7])) (.ref x8) (sq25 ss).toD := d8'
    generalize (upd E2' x8 (.tup [.str "seq", .ref x7])) = E3 at h4' d8' ⊢
    refine ⟨.ref x8, ss, rfl, d8', by omega, nb, fun E4 vd Nd pd Sd Ed h5' dd kd => ?_⟩
    have h15 := h12.trans (h3'.trans (h4'.trans h5'))
    have dc4 := dp_same (h3'.trans (h4'.trans h5')) dc
    have fewH : Few [ss.take c.toNat, ss.drop c.toNat] := by
      unfold Few
      simp only [List.flatten_cons, List.flatten_nil, List.append_nil, List.take_append_drop, List.length_cons, List.length_nil]
      omega
    refine ⟨_, rfl, x5, _, _, rfl, same_sqT h15 kx5, pH.same h15, fewH, fun E5 ve Ne pe Se Ee h6' dv5 ke => ?_⟩
    have fl : ([ss.take c.toNat, ss.drop c.toNat] : List (List Int)).flatten = ss := by simp
    rw [fl] at ke
    have h16 := h15.trans h6'
    refine ⟨(by show 3 ≤ sizeLine; decide), fun x9 hx9 => ?_⟩
    have h7' : Same E5 (upd E5 x9 (.lst [vc, vd, ve])) := same_new hx9
    have ex9 : upd E5 x9 (.lst [vc, vd, ve]) x9 = some (.lst [vc, vd, ve]) := upd_same
    generalize (upd E5 x9 (.lst [vc, vd, ve])) = E6 at h7' ex9 ⊢
    have all3 : ∀ (i : Nat) (y : V), [vc, vd, ve][i]? = some y → Dp K E6 y (profD N pk S E') := by
      intro i y hy
      match i, hy with
      | 0, hy =>
        cases hy
        exact dp_same (h6'.trans h7') (prof_two pv kc dc4)
      | 1, hy =>
        cases hy
        exact dp_same (h6'.trans h7') (prof_two pv kd dd)
      | 2, hy =>
        cases hy
        exact dp_same h7' (prof_two pv ke dv5)
      | i + 3, hy => simp at hy
    have h17 := h16.trans h7'
    have pw9 := pw7.same h17
    have eM9 := h17 _ _ eM7
    have eD9 := h17 _ _ eD7
    have pH9 := pH.same h17
    have kx9 := same_sqT h17 kx5
    have t9' := tC.trans (g17.trans h17)
    have hp9 := hpC.same (g17.trans h17)
    clear dc dc4 dd dv5 d8' dx7 h1' h2' h3' h4' h5' h6' h7' h12 h15 h16 h17 kx6 kx5 pH pw7 eM7 eD7
    -- the texts
    obtain ⟨sh, esh⟩ : ∃ sh : Str, sh = (profD N pk S E').shown := ⟨_, rfl⟩
    rw [← esh]
    refine ⟨_, rfl, x9, rfl, ⟨_, SqL.of ex9⟩, fun D3 hD3 => ?_⟩
    refine lc_list (K := K) (a := x9) (xs := [vc, vd, ve]) (fun i F => Same E6 F ∧ F D3 = some (.lst (List.replicate i (.str sh)))) ⟨same_new hD3, upd_same⟩ (fun i F _ ⟨sF, _⟩ => SqL.of (sF _ _ ex9)) ?_ ?_
    · rintro i x F hi ⟨sF, eF⟩
      have il := (List.getElem?_eq_some_iff.mp hi).1
      have il3 : i < 3 := il
      refine ⟨rfl, ?_⟩
      unfold tYes
      refine iteT ?_
      refine ⟨_, rfl, _, _, rfl, dp_same sF (all3 i x hi), rv.fine, by omega, by omega, ?_⟩
      rw [← esh]
      refine ⟨_, eF, small1000 (by rw [List.length_replicate]; omega), ?_, ?_⟩
      · intro c2 o hc
        rw [upd_ne (ne_of_none hc hD3)]
        exact sF _ _ hc
      · rw [upd_same, List.replicate_succ']
    rintro E7 ⟨m1, e3⟩
    have d3' : Dp K E7 (.ref D3) (.list [.str sh, .str sh, .str sh]) := .lst (SqL.of e3) (.cons (.str _) (.cons (.str _) (.cons (.str _) .nil)))
    refine ⟨_, rfl, (by show 1 ≤ sizeLine; decide), fun xa hxa => ?_⟩
    have m2 : Same E7 (upd E7 xa (.lst [.str sh])) := same_new hxa
    have exa : upd E7 xa (.lst [.str sh]) xa = some (.lst [.str sh]) := upd_same
    generalize (upd E7 xa (.lst [.str sh])) = E8 at m2 exa ⊢
    refine ⟨xa, 3, [.str sh], rfl, rfl, exa, by decide, by decide, (by show 1 * 3 ≤ sizeLine; decide), fun xb hxb => ?_⟩
    have m3 : Same E8 (upd E8 xb (.lst (List.replicate (3 : Int).toNat [V.str sh]).flatten)) := same_new hxb
    have dxb : Dp K (upd E8 xb (.lst (List.replicate (3 : Int).toNat [V.str sh]).flatten)) (.ref xb) (.list [.str sh, .str sh, .str sh]) := .lst (SqL.of upd_same) (.cons (.str _) (.cons (.str _) (.cons (.str _) .nil)))
    generalize (upd E8 xb (.lst (List.replicate (3 : Int).toNat [V.str sh]).flatten)) = E9 at m3 dxb ⊢
    have m13 := m1.trans (m2.trans m3)
    have sok : PyData.strOk sh = true := by rw [esh]; exact prof_strOk _ _ _ _
    have shp : SeqAt.shaped (.list [.str sh, .str sh, .str sh]) = true := by simp [sok, SeqAt.shaped, PyData.canLay0, PyData.canLayAll0, PyData.depth, PyData.depthAll]
    have eqr : PyData.eqv (.list [.str sh, .str sh, .str sh]) (.list [.str sh, .str sh, .str sh]) = true := SeqAt.eqv_refl _ (by simp [sok, PyData.canLay0, PyData.canLayAll0])
    refine ⟨_, _, dp_same (m2.trans m3) d3', dxb, shp, shp, _, rfl, ?_⟩
    rw [eqr]
    refine iteF ?_
    have eM10 := m13 _ _ eM9
    refine ⟨_, rfl, M, ws, rfl, .inl ⟨SqL.of eM10, fun xc hxc => ?_⟩⟩
    have m4 : Same E9 (upd E9 xc (.tup ws)) := same_new hxc
    have kxc : SqT K (upd E9 xc (.tup ws)) xc ws := SqT.of upd_same
    generalize (upd E9 xc (.tup ws)) = L0 at m4 kxc ⊢
    have m14 := m13.trans m4
    refine ⟨xc, ws, ones25 ss, rfl, kxc, pw9.same m14, few_ones (by omega), fun L1 vf Nf pf Sf Ef m5 df kf => ?_⟩
    rw [ones25_flat] at kf
    refine ⟨_, _, rfl, prof_two pv kf df, rv.fine, by omega, by omega, ?_⟩
    rw [← esh]
    refine ⟨_, rfl, rfl, _, rfl, ?_⟩
    refine iteNS rfl ?_
    have m15 := m14.trans m5
    clear df kxc m4 m5 dxb d3' exa m1 m2 m3 m13 m14
    -- the halves
    have pHL := pH9.same m15
    obtain ⟨dh, hdh, pdh⟩ := pHL.data
    have rh := pdh.repT (fun s hs => by
      simp only [List.mem_cons, List.not_mem_nil, or_false] at hs
      rcases hs with rfl | rfl
      · exact bd.take _
      · exact bd.drop _) (by show 2 ≤ 40; decide)
    refine ⟨_, rfl, _, _, rfl, .tup (same_sqT m15 kx9) hdh, rh.fine, rh.depth, rh.bulk, ?_⟩
    have eDL := m15 _ _ eD9
    have hcs : c ≤ ((ss.map V.int).length : Int) := by rw [List.length_map]; omega
    refine ⟨_, rfl, ?_⟩
    try unfold tNoPart
    dsimp only
    refine ⟨_, rfl, _, rfl, D, _, rfl, SqL.of eDL, fun xd hxd => ?_⟩
    rw [cut_to c0 hcs, ← List.map_take]
    have m6 : Same L1 (upd L1 xd (.lst ((ss.take c.toNat).map V.int))) := same_new hxd
    have exd : upd L1 xd (.lst ((ss.take c.toNat).map V.int)) xd = some (.lst ((ss.take c.toNat).map V.int)) := upd_same
    generalize (upd L1 xd (.lst ((ss.take c.toNat).map V.int))) = L2 at m6 exd ⊢
    refine ⟨xd, ss.take c.toNat, rfl, SqL.of exd, by rw [List.length_take]; omega, fun L3 vg Ng pg Sg Eg m7 dg kg => ?_⟩
    refine ⟨_, rfl, _, rfl, _, rfl, D, _, rfl, SqL.of (m7 _ _ (m6 _ _ eDL)), fun xe hxe => ?_⟩
    rw [cut_from c0 hcs, ← List.map_drop]
    have m8 : Same L3 (upd L3 xe (.lst ((ss.drop c.toNat).map V.int))) := same_new hxe
    have exe : upd L3 xe (.lst ((ss.drop c.toNat).map V.int)) xe = some (.lst ((ss.drop c.toNat).map V.int)) := upd_same
    generalize (upd L3 xe (.lst ((ss.drop c.toNat).map V.int))) = L4 at m8 exe ⊢
    refine ⟨xe, ss.drop c.toNat, rfl, SqL.of exe, by rw [List.length_drop]; omega, fun L5 vh Nh ph Sh Eh m9 dh5 kh => ?_⟩
    refine ⟨(by show 2 ≤ sizeLine; decide), fun xf hxf => ?_⟩
    have ma : Same L5 (upd L5 xf (.tup [vg, vh])) := same_new hxf
    have kxf : SqT K (upd L5 xf (.tup [vg, vh])) xf [vg, vh] := SqT.of upd_same
    generalize (upd L5 xf (.tup [vg, vh])) = L6 at ma kxf ⊢
    have p2' : Profs K L6 [vg, vh] [ss.take c.toNat, ss.drop c.toNat] := .cons (dp_same (m8.trans (m9.trans ma)) dg) kg (.cons (dp_same ma dh5) kh .nil)
    obtain ⟨dk, hdk, pdk⟩ := p2'.data
    obtain rfl := pdh.uniq pdk
    refine ⟨_, _, rfl, .tup kxf hdk, rh.fine, rh.depth, rh.bulk, rfl, _, rfl, ?_⟩
    refine iteNS rfl ?_
    have mL := m15.trans (m6.trans (m7.trans (m8.trans (m9.trans ma))))
    have hpL := hp9.same mL
    have tL := t9'.trans mL
    refine ⟨_, rfl, p, _, rfl, hpL, by decide, fun L7 mb hp7 => ?_⟩
    refine ⟨_, rfl, ?_⟩
    refine iteF ?_
    exact ⟨_, _, _, _, _, _, _, _, rfl, Same.sx_free tL hpH mb⟩
  · rintro σ H' ⟨y2, y3, y4, y5, y6, y7, y8, y9, rfl, t⟩
    exact q _
end
theorem all_mk {l : PySem.W.OpenLaw} {w : World} {K : PySem.W.Frag} {h : Heap} {mg : Str → Option Value} {fa : Addr} (X : K.In h) (G : h.Ns mainGlobals mg) (hfa : mg "law" = some (.ref fa))
    {od0 an0 : Option Addr} {sl0 : Array (Option Value)} {oc0 kV0 dc0 pm0 cd0 ct0 : Value} {f0 : Addr}
    {od1 an1 : Option Addr} {sl1 : Array (Option Value)} {oc1 kV1 dc1 pm1 cd1 ct1 : Value} {f1 : Addr}
    {od2 an2 : Option Addr} {sl2 : Array (Option Value)} {oc2 kV2 dc2 pm2 cd2 ct2 : Value} {f2 : Addr}
    {od3 an3 : Option Addr} {sl3 : Array (Option Value)} {oc3 kV3 dc3 pm3 cd3 ct3 : Value} {f3 : Addr}
    {od4 an4 : Option Addr} {sl4 : Array (Option Value)} {oc4 kV4 dc4 pm4 cd4 ct4 : Value} {f4 : Addr}
    {od5 an5 : Option Addr} {sl5 : Array (Option Value)} {oc5 kV5 dc5 pm5 cd5 ct5 : Value} {f5 : Addr}
    {od6 an6 : Option Addr} {sl6 : Array (Option Value)} {oc6 kV6 dc6 pm6 cd6 ct6 : Value} {f6 : Addr}
    {od7 an7 : Option Addr} {sl7 : Array (Option Value)} {oc7 kV7 dc7 pm7 cd7 ct7 : Value} {f7 : Addr}
    {od8 an8 : Option Addr} {sl8 : Array (Option Value)} {oc8 kV8 dc8 pm8 cd8 ct8 : Value} {f8 : Addr}
    {od9 an9 : Option Addr} {sl9 : Array (Option Value)} {oc9 kV9 dc9 pm9 cd9 ct9 : Value} {f9 : Addr}
    {od10 an10 : Option Addr} {sl10 : Array (Option Value)} {oc10 kV10 dc10 pm10 cd10 ct10 : Value} {f10 : Addr}
    {od11 an11 : Option Addr} {sl11 : Array (Option Value)} {oc11 kV11 dc11 pm11 cd11 ct11 : Value} {f11 : Addr}
    {od12 an12 : Option Addr} {sl12 : Array (Option Value)} {oc12 kV12 dc12 pm12 cd12 ct12 : Value} {f12 : Addr}
    {od13 an13 : Option Addr} {sl13 : Array (Option Value)} {oc13 kV13 dc13 pm13 cd13 ct13 : Value} {f13 : Addr}
    {od14 an14 : Option Addr} {sl14 : Array (Option Value)} {oc14 kV14 dc14 pm14 cd14 ct14 : Value} {f14 : Addr}
    {od15 an15 : Option Addr} {sl15 : Array (Option Value)} {oc15 kV15 dc15 pm15 cd15 ct15 : Value} {f15 : Addr}
    {od16 an16 : Option Addr} {sl16 : Array (Option Value)} {oc16 kV16 dc16 pm16 cd16 ct16 : Value} {f16 : Addr}
    {od17 an17 : Option Addr} {sl17 : Array (Option Value)} {oc17 kV17 dc17 pm17 cd17 ct17 : Value} {f17 : Addr}
    {od18 an18 : Option Addr} {sl18 : Array (Option Value)} {oc18 kV18 dc18 pm18 cd18 ct18 : Value} {f18 : Addr}
    {od19 an19 : Option Addr} {sl19 : Array (Option Value)} {oc19 kV19 dc19 pm19 cd19 ct19 : Value} {f19 : Addr}
    {od20 an20 : Option Addr} {sl20 : Array (Option Value)} {oc20 kV20 dc20 pm20 cd20 ct20 : Value} {f20 : Addr}
    {od21 an21 : Option Addr} {sl21 : Array (Option Value)} {oc21 kV21 dc21 pm21 cd21 ct21 : Value} {f21 : Addr}
    {od22 an22 : Option Addr} {sl22 : Array (Option Value)} {oc22 kV22 dc22 pm22 cd22 ct22 : Value} {f22 : Addr}
    {od23 an23 : Option Addr} {sl23 : Array (Option Value)} {oc23 kV23 dc23 pm23 cd23 ct23 : Value} {f23 : Addr}
    {od24 an24 : Option Addr} {sl24 : Array (Option Value)} {oc24 kV24 dc24 pm24 cd24 ct24 : Value} {f24 : Addr}
    {od25 an25 : Option Addr} {sl25 : Array (Option Value)} {oc25 kV25 dc25 pm25 cd25 ct25 : Value} {f25 : Addr}
    {od26 an26 : Option Addr} {sl26 : Array (Option Value)} {oc26 kV26 dc26 pm26 cd26 ct26 : Value} {f26 : Addr}
    {od27 an27 : Option Addr} {sl27 : Array (Option Value)} {oc27 kV27 dc27 pm27 cd27 ct27 : Value} {f27 : Addr}
    {od28 an28 : Option Addr} {sl28 : Array (Option Value)} {oc28 kV28 dc28 pm28 cd28 ct28 : Value} {f28 : Addr}
    {od29 an29 : Option Addr} {sl29 : Array (Option Value)} {oc29 kV29 dc29 pm29 cd29 ct29 : Value} {f29 : Addr}
    {od30 an30 : Option Addr} {sl30 : Array (Option Value)} {oc30 kV30 dc30 pm30 cd30 ct30 : Value} {f30 : Addr}
    {od31 an31 : Option Addr} {sl31 : Array (Option Value)} {oc31 kV31 dc31 pm31 cd31 ct31 : Value} {f31 : Addr}
    {od32 an32 : Option Addr} {sl32 : Array (Option Value)} {oc32 kV32 dc32 pm32 cd32 ct32 : Value} {f32 : Addr}
    {od33 an33 : Option Addr} {sl33 : Array (Option Value)} {oc33 kV33 dc33 pm33 cd33 ct33 : Value} {f33 : Addr}
    {od34 an34 : Option Addr} {sl34 : Array (Option Value)} {oc34 kV34 dc34 pm34 cd34 ct34 : Value} {f34 : Addr}
    {od35 an35 : Option Addr} {sl35 : Array (Option Value)} {oc35 kV35 dc35 pm35 cd35 ct35 : Value} {f35 : Addr}
    {od36 an36 : Option Addr} {sl36 : Array (Option Value)} {oc36 kV36 dc36 pm36 cd36 ct36 : Value} {f36 : Addr}
    {od37 an37 : Option Addr} {sl37 : Array (Option Value)} {oc37 kV37 dc37 pm37 cd37 ct37 : Value} {f37 : Addr}
    {od38 an38 : Option Addr} {sl38 : Array (Option Value)} {oc38 kV38 dc38 pm38 cd38 ct38 : Value} {f38 : Addr}
    {od39 an39 : Option Addr} {sl39 : Array (Option Value)} {oc39 kV39 dc39 pm39 cd39 ct39 : Value} {f39 : Addr}
    {od40 an40 : Option Addr} {sl40 : Array (Option Value)} {oc40 kV40 dc40 pm40 cd40 ct40 : Value} {f40 : Addr}
    {od41 an41 : Option Addr} {sl41 : Array (Option Value)} {oc41 kV41 dc41 pm41 cd41 ct41 : Value} {f41 : Addr}
    {od42 an42 : Option Addr} {sl42 : Array (Option Value)} {oc42 kV42 dc42 pm42 cd42 ct42 : Value} {f42 : Addr}
    {od43 an43 : Option Addr} {sl43 : Array (Option Value)} {oc43 kV43 dc43 pm43 cd43 ct43 : Value} {f43 : Addr}
    {od44 an44 : Option Addr} {sl44 : Array (Option Value)} {oc44 kV44 dc44 pm44 cd44 ct44 : Value} {f44 : Addr}
    {od45 an45 : Option Addr} {sl45 : Array (Option Value)} {oc45 kV45 dc45 pm45 cd45 ct45 : Value} {f45 : Addr}
    {tk0 : Tok}
    {tk1 : Tok}
    {tk2 : Tok}
    {tk3 : Tok}
    {tk4 : Tok}
    {tk5 : Tok}
    {tk6 : Tok}
    {tk7 : Tok}
    (a0 : PySem.W.nsIn K mainGlobals "is_integer" = some (some (.ref f0)))
    (l0 : K.lookup f0 = some ⟨oc0, od0, .func (PySem.W.fnOf "is_integer" "is_integer" (defArgs s_is_integer) (defBody s_is_integer) (defScope s_is_integer) .none kV0 dc0 pm0 an0 cd0 ct0), sl0⟩)
    (c0 : PySem.W.codeIn K cd0 "is_integer" = true) (k0 : PySem.W.keepIn K (.ref f0) = true)
    (a1 : PySem.W.nsIn K mainGlobals "is_within" = some (some (.ref f1)))
    (l1 : K.lookup f1 = some ⟨oc1, od1, .func (PySem.W.fnOf "is_within" "is_within" (defArgs s_is_within) (defBody s_is_within) (defScope s_is_within) .none kV1 dc1 pm1 an1 cd1 ct1), sl1⟩)
    (c1 : PySem.W.codeIn K cd1 "is_within" = true) (k1 : PySem.W.keepIn K (.ref f1) = true)
    (a2 : PySem.W.nsIn K mainGlobals "is_short_integer" = some (some (.ref f2)))
    (l2 : K.lookup f2 = some ⟨oc2, od2, .func (PySem.W.fnOf "is_short_integer" "is_short_integer" (defArgs s_is_short_integer) (defBody s_is_short_integer) (defScope s_is_short_integer) .none kV2 dc2 pm2 an2 cd2 ct2), sl2⟩)
    (c2 : PySem.W.codeIn K cd2 "is_short_integer" = true) (k2 : PySem.W.keepIn K (.ref f2) = true)
    (a3 : PySem.W.nsIn K mainGlobals "check_number" = some (some (.ref f3)))
    (l3 : K.lookup f3 = some ⟨oc3, od3, .func (PySem.W.fnOf "check_number" "check_number" (defArgs s_check_number) (defBody s_check_number) (defScope s_check_number) .none kV3 dc3 pm3 an3 cd3 ct3), sl3⟩)
    (c3 : PySem.W.codeIn K cd3 "check_number" = true) (k3 : PySem.W.keepIn K (.ref f3) = true)
    (a4 : PySem.W.nsIn K mainGlobals "joint_pairs" = some (some (.ref f4)))
    (l4 : K.lookup f4 = some ⟨oc4, od4, .func (PySem.W.fnOf "joint_pairs" "joint_pairs" (defArgs s_joint_pairs) (defBody s_joint_pairs) (defScope s_joint_pairs) .none kV4 dc4 pm4 an4 cd4 ct4), sl4⟩)
    (c4 : PySem.W.codeIn K cd4 "joint_pairs" = true) (k4 : PySem.W.keepIn K (.ref f4) = true)
    (a5 : PySem.W.nsIn K mainGlobals "is_valleys" = some (some (.ref f5)))
    (l5 : K.lookup f5 = some ⟨oc5, od5, .func (PySem.W.fnOf "is_valleys" "is_valleys" (defArgs s_is_valleys) (defBody s_is_valleys) (defScope s_is_valleys) .none kV5 dc5 pm5 an5 cd5 ct5), sl5⟩)
    (c5 : PySem.W.codeIn K cd5 "is_valleys" = true) (k5 : PySem.W.keepIn K (.ref f5) = true)
    (a6 : PySem.W.nsIn K mainGlobals "is_start_valleys" = some (some (.ref f6)))
    (l6 : K.lookup f6 = some ⟨oc6, od6, .func (PySem.W.fnOf "is_start_valleys" "is_start_valleys" (defArgs s_is_start_valleys) (defBody s_is_start_valleys) (defScope s_is_start_valleys) .none kV6 dc6 pm6 an6 cd6 ct6), sl6⟩)
    (c6 : PySem.W.codeIn K cd6 "is_start_valleys" = true) (k6 : PySem.W.keepIn K (.ref f6) = true)
    (a7 : PySem.W.nsIn K mainGlobals "least_usages" = some (some (.ref f7)))
    (l7 : K.lookup f7 = some ⟨oc7, od7, .func (PySem.W.fnOf "least_usages" "least_usages" (defArgs s_least_usages) (defBody s_least_usages) (defScope s_least_usages) .none kV7 dc7 pm7 an7 cd7 ct7), sl7⟩)
    (c7 : PySem.W.codeIn K cd7 "least_usages" = true) (k7 : PySem.W.keepIn K (.ref f7) = true)
    (a8 : PySem.W.nsIn K mainGlobals "moved" = some (some (.ref f8)))
    (l8 : K.lookup f8 = some ⟨oc8, od8, .func (PySem.W.fnOf "moved" "moved" (defArgs s_moved) (defBody s_moved) (defScope s_moved) .none kV8 dc8 pm8 an8 cd8 ct8), sl8⟩)
    (c8 : PySem.W.codeIn K cd8 "moved" = true) (k8 : PySem.W.keepIn K (.ref f8) = true)
    (a9 : PySem.W.nsIn K mainGlobals "checked_length" = some (some (.ref f9)))
    (l9 : K.lookup f9 = some ⟨oc9, od9, .func (PySem.W.fnOf "checked_length" "checked_length" (defArgs s_checked_length) (defBody s_checked_length) (defScope s_checked_length) .none kV9 dc9 pm9 an9 cd9 ct9), sl9⟩)
    (c9 : PySem.W.codeIn K cd9 "checked_length" = true) (k9 : PySem.W.keepIn K (.ref f9) = true)
    (a10 : PySem.W.nsIn K mainGlobals "_is_pair" = some (some (.ref f10)))
    (l10 : K.lookup f10 = some ⟨oc10, od10, .func (PySem.W.fnOf "_is_pair" "_is_pair" (defArgs s__is_pair) (defBody s__is_pair) (defScope s__is_pair) .none kV10 dc10 pm10 an10 cd10 ct10), sl10⟩)
    (c10 : PySem.W.codeIn K cd10 "_is_pair" = true) (k10 : PySem.W.keepIn K (.ref f10) = true)
    (a11 : PySem.W.nsIn K mainGlobals "has_profile_form" = some (some (.ref f11)))
    (l11 : K.lookup f11 = some ⟨oc11, od11, .func (PySem.W.fnOf "has_profile_form" "has_profile_form" (defArgs s_has_profile_form) (defBody s_has_profile_form) (defScope s_has_profile_form) .none kV11 dc11 pm11 an11 cd11 ct11), sl11⟩)
    (c11 : PySem.W.codeIn K cd11 "has_profile_form" = true) (k11 : PySem.W.keepIn K (.ref f11) = true)
    (a12 : PySem.W.nsIn K mainGlobals "check_profile" = some (some (.ref f12)))
    (l12 : K.lookup f12 = some ⟨oc12, od12, .func (PySem.W.fnOf "check_profile" "check_profile" (defArgs s_check_profile) (defBody s_check_profile) (defScope s_check_profile) .none kV12 dc12 pm12 an12 cd12 ct12), sl12⟩)
    (c12 : PySem.W.codeIn K cd12 "check_profile" = true) (k12 : PySem.W.keepIn K (.ref f12) = true)
    (a13 : PySem.W.nsIn K mainGlobals "check_profiles" = some (some (.ref f13)))
    (l13 : K.lookup f13 = some ⟨oc13, od13, .func (PySem.W.fnOf "check_profiles" "check_profiles" (defArgs s_check_profiles) (defBody s_check_profiles) (defScope s_check_profiles) .none kV13 dc13 pm13 an13 cd13 ct13), sl13⟩)
    (c13 : PySem.W.codeIn K cd13 "check_profiles" = true) (k13 : PySem.W.keepIn K (.ref f13) = true)
    (a14 : PySem.W.nsIn K mainGlobals "checked_profile" = some (some (.ref f14)))
    (l14 : K.lookup f14 = some ⟨oc14, od14, .func (PySem.W.fnOf "checked_profile" "checked_profile" (defArgs s_checked_profile) (defBody s_checked_profile) (defScope s_checked_profile) .none kV14 dc14 pm14 an14 cd14 ct14), sl14⟩)
    (c14 : PySem.W.codeIn K cd14 "checked_profile" = true) (k14 : PySem.W.keepIn K (.ref f14) = true)
    (a15 : PySem.W.nsIn K mainGlobals "step_profile" = some (some (.ref f15)))
    (l15 : K.lookup f15 = some ⟨oc15, od15, .func (PySem.W.fnOf "step_profile" "step_profile" (defArgs s_step_profile) (defBody s_step_profile) (defScope s_step_profile) .none kV15 dc15 pm15 an15 cd15 ct15), sl15⟩)
    (c15 : PySem.W.codeIn K cd15 "step_profile" = true) (k15 : PySem.W.keepIn K (.ref f15) = true)
    (a16 : PySem.W.nsIn K mainGlobals "seq_profiles" = some (some (.ref f16)))
    (l16 : K.lookup f16 = some ⟨oc16, od16, .func (PySem.W.fnOf "seq_profiles" "seq_profiles" (defArgs s_seq_profiles) (defBody s_seq_profiles) (defScope s_seq_profiles) .none kV16 dc16 pm16 an16 cd16 ct16), sl16⟩)
    (c16 : PySem.W.codeIn K cd16 "seq_profiles" = true) (k16 : PySem.W.keepIn K (.ref f16) = true)
    (a17 : PySem.W.nsIn K mainGlobals "of_step" = some (some (.ref f17)))
    (l17 : K.lookup f17 = some ⟨oc17, od17, .func (PySem.W.fnOf "of_step" "of_step" (defArgs s_of_step) (defBody s_of_step) (defScope s_of_step) .none kV17 dc17 pm17 an17 cd17 ct17), sl17⟩)
    (c17 : PySem.W.codeIn K cd17 "of_step" = true) (k17 : PySem.W.keepIn K (.ref f17) = true)
    (a18 : PySem.W.nsIn K mainGlobals "in_sequence" = some (some (.ref f18)))
    (l18 : K.lookup f18 = some ⟨oc18, od18, .func (PySem.W.fnOf "in_sequence" "in_sequence" (defArgs s_in_sequence) (defBody s_in_sequence) (defScope s_in_sequence) .none kV18 dc18 pm18 an18 cd18 ct18), sl18⟩)
    (c18 : PySem.W.codeIn K cd18 "in_sequence" = true) (k18 : PySem.W.keepIn K (.ref f18) = true)
    (a19 : PySem.W.nsIn K mainGlobals "_from_begin" = some (some (.ref f19)))
    (l19 : K.lookup f19 = some ⟨oc19, od19, .func (PySem.W.fnOf "_from_begin" "_from_begin" (defArgs s__from_begin) (defBody s__from_begin) (defScope s__from_begin) .none kV19 dc19 pm19 an19 cd19 ct19), sl19⟩)
    (c19 : PySem.W.codeIn K cd19 "_from_begin" = true) (k19 : PySem.W.keepIn K (.ref f19) = true)
    (a20 : PySem.W.nsIn K mainGlobals "_from_end" = some (some (.ref f20)))
    (l20 : K.lookup f20 = some ⟨oc20, od20, .func (PySem.W.fnOf "_from_end" "_from_end" (defArgs s__from_end) (defBody s__from_end) (defScope s__from_end) .none kV20 dc20 pm20 an20 cd20 ct20), sl20⟩)
    (c20 : PySem.W.codeIn K cd20 "_from_end" = true) (k20 : PySem.W.keepIn K (.ref f20) = true)
    (a21 : PySem.W.nsIn K mainGlobals "checked_sizes" = some (some (.ref f21)))
    (l21 : K.lookup f21 = some ⟨oc21, od21, .func (PySem.W.fnOf "checked_sizes" "checked_sizes" (defArgs s_checked_sizes) (defBody s_checked_sizes) (defScope s_checked_sizes) .none kV21 dc21 pm21 an21 cd21 ct21), sl21⟩)
    (c21 : PySem.W.codeIn K cd21 "checked_sizes" = true) (k21 : PySem.W.keepIn K (.ref f21) = true)
    (a22 : PySem.W.nsIn K mainGlobals "steps_of_leaf" = some (some (.ref f22)))
    (l22 : K.lookup f22 = some ⟨oc22, od22, .func (PySem.W.fnOf "steps_of_leaf" "steps_of_leaf" (defArgs s_steps_of_leaf) (defBody s_steps_of_leaf) (defScope s_steps_of_leaf) .none kV22 dc22 pm22 an22 cd22 ct22), sl22⟩)
    (c22 : PySem.W.codeIn K cd22 "steps_of_leaf" = true) (k22 : PySem.W.keepIn K (.ref f22) = true)
    (a23 : PySem.W.nsIn K mainGlobals "sizes_of" = some (some (.ref f23)))
    (l23 : K.lookup f23 = some ⟨oc23, od23, .func (PySem.W.fnOf "sizes_of" "sizes_of" (defArgs s_sizes_of) (defBody s_sizes_of) (defScope s_sizes_of) .none kV23 dc23 pm23 an23 cd23 ct23), sl23⟩)
    (c23 : PySem.W.codeIn K cd23 "sizes_of" = true) (k23 : PySem.W.keepIn K (.ref f23) = true)
    (a24 : PySem.W.nsIn K mainGlobals "_sizes" = some (some (.ref f24)))
    (l24 : K.lookup f24 = some ⟨oc24, od24, .func (PySem.W.fnOf "_sizes" "_sizes" (defArgs s__sizes) (defBody s__sizes) (defScope s__sizes) .none kV24 dc24 pm24 an24 cd24 ct24), sl24⟩)
    (c24 : PySem.W.codeIn K cd24 "_sizes" = true) (k24 : PySem.W.keepIn K (.ref f24) = true)
    (a25 : PySem.W.nsIn K mainGlobals "_sizes_of_parts" = some (some (.ref f25)))
    (l25 : K.lookup f25 = some ⟨oc25, od25, .func (PySem.W.fnOf "_sizes_of_parts" "_sizes_of_parts" (defArgs s__sizes_of_parts) (defBody s__sizes_of_parts) (defScope s__sizes_of_parts) .none kV25 dc25 pm25 an25 cd25 ct25), sl25⟩)
    (c25 : PySem.W.codeIn K cd25 "_sizes_of_parts" = true) (k25 : PySem.W.keepIn K (.ref f25) = true)
    (a26 : PySem.W.nsIn K mainGlobals "_sizes_of_rounds" = some (some (.ref f26)))
    (l26 : K.lookup f26 = some ⟨oc26, od26, .func (PySem.W.fnOf "_sizes_of_rounds" "_sizes_of_rounds" (defArgs s__sizes_of_rounds) (defBody s__sizes_of_rounds) (defScope s__sizes_of_rounds) .none kV26 dc26 pm26 an26 cd26 ct26), sl26⟩)
    (c26 : PySem.W.codeIn K cd26 "_sizes_of_rounds" = true) (k26 : PySem.W.keepIn K (.ref f26) = true)
    (a27 : PySem.W.nsIn K mainGlobals "_within_count" = some (some (.ref f27)))
    (l27 : K.lookup f27 = some ⟨oc27, od27, .func (PySem.W.fnOf "_within_count" "_within_count" (defArgs s__within_count) (defBody s__within_count) (defScope s__within_count) .none kV27 dc27 pm27 an27 cd27 ct27), sl27⟩)
    (c27 : PySem.W.codeIn K cd27 "_within_count" = true) (k27 : PySem.W.keepIn K (.ref f27) = true)
    (a28 : PySem.W.nsIn K mainGlobals "in_parallel" = some (some (.ref f28)))
    (l28 : K.lookup f28 = some ⟨oc28, od28, .func (PySem.W.fnOf "in_parallel" "in_parallel" (defArgs s_in_parallel) (defBody s_in_parallel) (defScope s_in_parallel) .none kV28 dc28 pm28 an28 cd28 ct28), sl28⟩)
    (c28 : PySem.W.codeIn K cd28 "in_parallel" = true) (k28 : PySem.W.keepIn K (.ref f28) = true)
    (a29 : PySem.W.nsIn K mainGlobals "_least_peak" = some (some (.ref f29)))
    (l29 : K.lookup f29 = some ⟨oc29, od29, .func (PySem.W.fnOf "_least_peak" "_least_peak" (defArgs s__least_peak) (defBody s__least_peak) (defScope s__least_peak) .none kV29 dc29 pm29 an29 cd29 ct29), sl29⟩)
    (c29 : PySem.W.codeIn K cd29 "_least_peak" = true) (k29 : PySem.W.keepIn K (.ref f29) = true)
    (a30 : PySem.W.nsIn K mainGlobals "in_rounds" = some (some (.ref f30)))
    (l30 : K.lookup f30 = some ⟨oc30, od30, .func (PySem.W.fnOf "in_rounds" "in_rounds" (defArgs s_in_rounds) (defBody s_in_rounds) (defScope s_in_rounds) .none kV30 dc30 pm30 an30 cd30 ct30), sl30⟩)
    (c30 : PySem.W.codeIn K cd30 "in_rounds" = true) (k30 : PySem.W.keepIn K (.ref f30) = true)
    (a31 : PySem.W.nsIn K mainGlobals "in_copies" = some (some (.ref f31)))
    (l31 : K.lookup f31 = some ⟨oc31, od31, .func (PySem.W.fnOf "in_copies" "in_copies" (defArgs s_in_copies) (defBody s_in_copies) (defScope s_in_copies) .none kV31 dc31 pm31 an31 cd31 ct31), sl31⟩)
    (c31 : PySem.W.codeIn K cd31 "in_copies" = true) (k31 : PySem.W.keepIn K (.ref f31) = true)
    (a32 : PySem.W.nsIn K mainGlobals "_joint_copies" = some (some (.ref f32)))
    (l32 : K.lookup f32 = some ⟨oc32, od32, .func (PySem.W.fnOf "_joint_copies" "_joint_copies" (defArgs s__joint_copies) (defBody s__joint_copies) (defScope s__joint_copies) .none kV32 dc32 pm32 an32 cd32 ct32), sl32⟩)
    (c32 : PySem.W.codeIn K cd32 "_joint_copies" = true) (k32 : PySem.W.keepIn K (.ref f32) = true)
    (a33 : PySem.W.nsIn K mainGlobals "composed" = some (some (.ref f33)))
    (l33 : K.lookup f33 = some ⟨oc33, od33, .func (PySem.W.fnOf "composed" "composed" (defArgs s_composed) (defBody s_composed) (defScope s_composed) .none kV33 dc33 pm33 an33 cd33 ct33), sl33⟩)
    (c33 : PySem.W.codeIn K cd33 "composed" = true) (k33 : PySem.W.keepIn K (.ref f33) = true)
    (a34 : PySem.W.nsIn K mainGlobals "multiplied" = some (some (.ref f34)))
    (l34 : K.lookup f34 = some ⟨oc34, od34, .func (PySem.W.fnOf "multiplied" "multiplied" (defArgs s_multiplied) (defBody s_multiplied) (defScope s_multiplied) .none kV34 dc34 pm34 an34 cd34 ct34), sl34⟩)
    (c34 : PySem.W.codeIn K cd34 "multiplied" = true) (k34 : PySem.W.keepIn K (.ref f34) = true)
    (a35 : PySem.W.nsIn K mainGlobals "job_profile" = some (some (.ref f35)))
    (l35 : K.lookup f35 = some ⟨oc35, od35, .func (PySem.W.fnOf "job_profile" "job_profile" (defArgs s_job_profile) (defBody s_job_profile) (defScope s_job_profile) .none kV35 dc35 pm35 an35 cd35 ct35), sl35⟩)
    (c35 : PySem.W.codeIn K cd35 "job_profile" = true) (k35 : PySem.W.keepIn K (.ref f35) = true)
    (a36 : PySem.W.nsIn K mainGlobals "profile" = some (some (.ref f36)))
    (l36 : K.lookup f36 = some ⟨oc36, od36, .func (PySem.W.fnOf "profile" "profile" (defArgs s_profile) (defBody s_profile) (defScope s_profile) .none kV36 dc36 pm36 an36 cd36 ct36), sl36⟩)
    (c36 : PySem.W.codeIn K cd36 "profile" = true) (k36 : PySem.W.keepIn K (.ref f36) = true)
    (a37 : PySem.W.nsIn K mainGlobals "_law_source" = some (some (.ref f37)))
    (l37 : K.lookup f37 = some ⟨oc37, od37, .func (PySem.W.fnOf "_law_source" "_law_source" (defArgs s__law_source) (defBody s__law_source) (defScope s__law_source) .none kV37 dc37 pm37 an37 cd37 ct37), sl37⟩)
    (c37 : PySem.W.codeIn K cd37 "_law_source" = true) (k37 : PySem.W.keepIn K (.ref f37) = true)
    (a38 : PySem.W.nsIn K mainGlobals "_law_draw" = some (some (.ref f38)))
    (l38 : K.lookup f38 = some ⟨oc38, od38, .func (PySem.W.fnOf "_law_draw" "_law_draw" (defArgs s__law_draw) (defBody s__law_draw) (defScope s__law_draw) .none kV38 dc38 pm38 an38 cd38 ct38), sl38⟩)
    (c38 : PySem.W.codeIn K cd38 "_law_draw" = true) (k38 : PySem.W.keepIn K (.ref f38) = true)
    (a39 : PySem.W.nsIn K mainGlobals "_law_great" = some (some (.ref f39)))
    (l39 : K.lookup f39 = some ⟨oc39, od39, .func (PySem.W.fnOf "_law_great" "_law_great" (defArgs s__law_great) (defBody s__law_great) (defScope s__law_great) .none kV39 dc39 pm39 an39 cd39 ct39), sl39⟩)
    (c39 : PySem.W.codeIn K cd39 "_law_great" = true) (k39 : PySem.W.keepIn K (.ref f39) = true)
    (a40 : PySem.W.nsIn K mainGlobals "_law_step" = some (some (.ref f40)))
    (l40 : K.lookup f40 = some ⟨oc40, od40, .func (PySem.W.fnOf "_law_step" "_law_step" (defArgs s__law_step) (defBody s__law_step) (defScope s__law_step) .none kV40 dc40 pm40 an40 cd40 ct40), sl40⟩)
    (c40 : PySem.W.codeIn K cd40 "_law_step" = true) (k40 : PySem.W.keepIn K (.ref f40) = true)
    (a41 : PySem.W.nsIn K mainGlobals "_law_valleys" = some (some (.ref f41)))
    (l41 : K.lookup f41 = some ⟨oc41, od41, .func (PySem.W.fnOf "_law_valleys" "_law_valleys" (defArgs s__law_valleys) (defBody s__law_valleys) (defScope s__law_valleys) .none kV41 dc41 pm41 an41 cd41 ct41), sl41⟩)
    (c41 : PySem.W.codeIn K cd41 "_law_valleys" = true) (k41 : PySem.W.keepIn K (.ref f41) = true)
    (a42 : PySem.W.nsIn K mainGlobals "_law_due" = some (some (.ref f42)))
    (l42 : K.lookup f42 = some ⟨oc42, od42, .func (PySem.W.fnOf "_law_due" "_law_due" (defArgs s__law_due) (defBody s__law_due) (defScope s__law_due) .none kV42 dc42 pm42 an42 cd42 ct42), sl42⟩)
    (c42 : PySem.W.codeIn K cd42 "_law_due" = true) (k42 : PySem.W.keepIn K (.ref f42) = true)
    (a43 : PySem.W.nsIn K mainGlobals "_law_long_step" = some (some (.ref f43)))
    (l43 : K.lookup f43 = some ⟨oc43, od43, .func (PySem.W.fnOf "_law_long_step" "_law_long_step" (defArgs s__law_long_step) (defBody s__law_long_step) (defScope s__law_long_step) .none kV43 dc43 pm43 an43 cd43 ct43), sl43⟩)
    (c43 : PySem.W.codeIn K cd43 "_law_long_step" = true) (k43 : PySem.W.keepIn K (.ref f43) = true)
    (a44 : PySem.W.nsIn K mainGlobals "_law_long_right" = some (some (.ref f44)))
    (l44 : K.lookup f44 = some ⟨oc44, od44, .func (PySem.W.fnOf "_law_long_right" "_law_long_right" (defArgs s__law_long_right) (defBody s__law_long_right) (defScope s__law_long_right) .none kV44 dc44 pm44 an44 cd44 ct44), sl44⟩)
    (c44 : PySem.W.codeIn K cd44 "_law_long_right" = true) (k44 : PySem.W.keepIn K (.ref f44) = true)
    (a45 : PySem.W.nsIn K mainGlobals "law" = some (some (.ref f45)))
    (l45 : K.lookup f45 = some ⟨oc45, od45, .func (PySem.W.fnOf "law" "law" (defArgs s_law) (defBody s_law) (defScope s_law) .none kV45 dc45 pm45 an45 cd45 ct45), sl45⟩)
    (c45 : PySem.W.codeIn K cd45 "law" = true) (k45 : PySem.W.keepIn K (.ref f45) = true)
    (gc0 : PySem.W.nsIn K mainGlobals "NUMBER_END" = some (some (.int 10000000000000000000000000000000000000000000000000000000000000 tk0)))
    (gc1 : PySem.W.nsIn K mainGlobals "MAX_VALLEYS" = some (some (.int 400 tk1)))
    (gc2 : PySem.W.nsIn K mainGlobals "MAX_PROFILES" = some (some (.int 400 tk2)))
    (gc3 : PySem.W.nsIn K mainGlobals "MAX_STEP" = some (some (.int 1000000000000000000000000000000 tk3)))
    (gc4 : PySem.W.nsIn K mainGlobals "MAX_COUNT" = some (some (.int 1000000000000000000000000000000 tk4)))
    (gc5 : PySem.W.nsIn K mainGlobals "MAX_PARTS" = some (some (.int 400 tk5)))
    (gc6 : PySem.W.nsIn K mainGlobals "MAX_NODES" = some (some (.int 400 tk6)))
    (gc7 : PySem.W.nsIn K mainGlobals "MAX_DEPTH" = some (some (.int 13 tk7)))
    (z0 : PySem.W.nsIn K mainGlobals "abs" = some none)
    (z1 : PySem.W.nsIn K mainGlobals "all" = some none)
    (z2 : PySem.W.nsIn K mainGlobals "bool" = some none)
    (z3 : PySem.W.nsIn K mainGlobals "int" = some none)
    (z4 : PySem.W.nsIn K mainGlobals "isinstance" = some none)
    (z5 : PySem.W.nsIn K mainGlobals "len" = some none)
    (z6 : PySem.W.nsIn K mainGlobals "max" = some none)
    (z7 : PySem.W.nsIn K mainGlobals "min" = some none)
    (z8 : PySem.W.nsIn K mainGlobals "range" = some none)
    (z9 : PySem.W.nsIn K mainGlobals "repr" = some none)
    (z10 : PySem.W.nsIn K mainGlobals "reversed" = some none)
    (z11 : PySem.W.nsIn K mainGlobals "sorted" = some none)
    (z12 : PySem.W.nsIn K mainGlobals "sum" = some none)
    (z13 : PySem.W.nsIn K mainGlobals "tuple" = some none)
    (z14 : PySem.W.nsIn K mainGlobals "zip" = some none) :
    ∃ fd : FuncData, (∀ (s : Shared) (v : Value), BindsTo s fd ⟨[v], []⟩ [("_law_script", v)]) ∧ ∀ base : Heap, K.In base → base.Ns mainGlobals mg → FnG l.prog w K mg base CX0 60 fa fd ["_law_script"] (spLaw K) := by
  have e := hfa.symm.trans (PySem.W.mg_of X G a45)
  cases e
  have T : Txt K mg := by
    have F0 := fun_mk (st := s_is_integer) l0 c0 k0
    have F1 := fun_mk (st := s_is_within) l1 c1 k1
    have F2 := fun_mk (st := s_is_short_integer) l2 c2 k2
    have F3 := fun_mk (st := s_check_number) l3 c3 k3
    have F4 := fun_mk (st := s_joint_pairs) l4 c4 k4
    have F5 := fun_mk (st := s_is_valleys) l5 c5 k5
    have F6 := fun_mk (st := s_is_start_valleys) l6 c6 k6
    have F7 := fun_mk (st := s_least_usages) l7 c7 k7
    have F8 := fun_mk (st := s_moved) l8 c8 k8
    have F9 := fun_mk (st := s_checked_length) l9 c9 k9
    have F10 := fun_mk (st := s__is_pair) l10 c10 k10
    have F11 := fun_mk (st := s_has_profile_form) l11 c11 k11
    have F12 := fun_mk (st := s_check_profile) l12 c12 k12
    have F13 := fun_mk (st := s_check_profiles) l13 c13 k13
    have F14 := fun_mk (st := s_checked_profile) l14 c14 k14
    have F15 := fun_mk (st := s_step_profile) l15 c15 k15
    have F16 := fun_mk (st := s_seq_profiles) l16 c16 k16
    have F17 := fun_mk (st := s_of_step) l17 c17 k17
    have F18 := fun_mk (st := s_in_sequence) l18 c18 k18
    have F19 := fun_mk (st := s__from_begin) l19 c19 k19
    have F20 := fun_mk (st := s__from_end) l20 c20 k20
    have F21 := fun_mk (st := s_checked_sizes) l21 c21 k21
    have F22 := fun_mk (st := s_steps_of_leaf) l22 c22 k22
    have F23 := fun_mk (st := s_sizes_of) l23 c23 k23
    have F24 := fun_mk (st := s__sizes) l24 c24 k24
    have F25 := fun_mk (st := s__sizes_of_parts) l25 c25 k25
    have F26 := fun_mk (st := s__sizes_of_rounds) l26 c26 k26
    have F27 := fun_mk (st := s__within_count) l27 c27 k27
    have F28 := fun_mk (st := s_in_parallel) l28 c28 k28
    have F29 := fun_mk (st := s__least_peak) l29 c29 k29
    have F30 := fun_mk (st := s_in_rounds) l30 c30 k30
    have F31 := fun_mk (st := s_in_copies) l31 c31 k31
    have F32 := fun_mk (st := s__joint_copies) l32 c32 k32
    have F33 := fun_mk (st := s_composed) l33 c33 k33
    have F34 := fun_mk (st := s_multiplied) l34 c34 k34
    have F35 := fun_mk (st := s_job_profile) l35 c35 k35
    have F36 := fun_mk (st := s_profile) l36 c36 k36
    have F37 := fun_mk (st := s__law_source) l37 c37 k37
    have F38 := fun_mk (st := s__law_draw) l38 c38 k38
    have F39 := fun_mk (st := s__law_great) l39 c39 k39
    have F40 := fun_mk (st := s__law_step) l40 c40 k40
    have F41 := fun_mk (st := s__law_valleys) l41 c41 k41
    have F42 := fun_mk (st := s__law_due) l42 c42 k42
    have F43 := fun_mk (st := s__law_long_step) l43 c43 k43
    have F44 := fun_mk (st := s__law_long_right) l44 c44 k44
    have B0 := F0.binds (ps := ["value"]) fun _ _ _ _ _ _ us hl => match us, hl with | [_], _ => rfl
    have B1 := F1.binds (ps := ["value", "least", "greatest"]) fun _ _ _ _ _ _ us hl => match us, hl with | [_, _, _], _ => rfl
    have B2 := F2.binds (ps := ["value"]) fun _ _ _ _ _ _ us hl => match us, hl with | [_], _ => rfl
    have B3 := F3.binds (ps := ["value"]) fun _ _ _ _ _ _ us hl => match us, hl with | [_], _ => rfl
    have B4 := F4.binds (ps := ["parts"]) fun _ _ _ _ _ _ us hl => match us, hl with | [_], _ => rfl
    have B5 := F5.binds (ps := ["value"]) fun _ _ _ _ _ _ us hl => match us, hl with | [_], _ => rfl
    have B6 := F6.binds (ps := ["value"]) fun _ _ _ _ _ _ us hl => match us, hl with | [_], _ => rfl
    have B7 := F7.binds (ps := ["pairs"]) fun _ _ _ _ _ _ us hl => match us, hl with | [_], _ => rfl
    have B8 := F8.binds (ps := ["pairs", "capacity", "low"]) fun _ _ _ _ _ _ us hl => match us, hl with | [_, _, _], _ => rfl
    have B9 := F9.binds (ps := ["pairs"]) fun _ _ _ _ _ _ us hl => match us, hl with | [_], _ => rfl
    have B10 := F10.binds (ps := ["value"]) fun _ _ _ _ _ _ us hl => match us, hl with | [_], _ => rfl
    have B11 := F11.binds (ps := ["value"]) fun _ _ _ _ _ _ us hl => match us, hl with | [_], _ => rfl
    have B12 := F12.binds (ps := ["value"]) fun _ _ _ _ _ _ us hl => match us, hl with | [_], _ => rfl
    have B13 := F13.binds (ps := ["profiles"]) fun _ _ _ _ _ _ us hl => match us, hl with | [_], _ => rfl
    have B14 := F14.binds (ps := ["profile"]) fun _ _ _ _ _ _ us hl => match us, hl with | [_], _ => rfl
    have B15 := F15.binds (ps := ["value"]) fun _ _ _ _ _ _ us hl => match us, hl with | [_], _ => rfl
    have B16 := F16.binds (ps := ["profiles"]) fun _ _ _ _ _ _ us hl => match us, hl with | [_], _ => rfl
    have B17 := F17.binds (ps := ["step"]) fun _ _ _ _ _ _ us hl => match us, hl with | [_], _ => rfl
    have B18 := F18.binds (ps := ["profiles"]) fun _ _ _ _ _ _ us hl => match us, hl with | [_], _ => rfl
    have B19 := F19.binds (ps := ["profiles"]) fun _ _ _ _ _ _ us hl => match us, hl with | [_], _ => rfl
    have B20 := F20.binds (ps := ["profiles", "total"]) fun _ _ _ _ _ _ us hl => match us, hl with | [_, _], _ => rfl
    have B21 := F21.binds (ps := ["job"]) fun _ _ _ _ _ _ us hl => match us, hl with | [_], _ => rfl
    have B22 := F22.binds (ps := ["value"]) fun _ _ _ _ _ _ us hl => match us, hl with | [_], _ => rfl
    have B23 := F23.binds (ps := ["value", "leaf_steps"]) fun _ _ _ _ _ _ us hl => match us, hl with | [_, _], _ => rfl
    have B24 := F24.binds (ps := ["value", "leaf_steps", "room", "levels"]) fun _ _ _ _ _ _ us hl => match us, hl with | [_, _, _, _], _ => rfl
    have B25 := F25.binds (ps := ["parts", "leaf_steps", "room", "levels"]) fun _ _ _ _ _ _ us hl => match us, hl with | [_, _, _, _], _ => rfl
    have B26 := F26.binds (ps := ["n", "inner", "leaf_steps", "room", "levels"]) fun _ _ _ _ _ _ us hl => match us, hl with | [_, _, _, _, _], _ => rfl
    have B27 := F27.binds (ps := ["nodes", "steps"]) fun _ _ _ _ _ _ us hl => match us, hl with | [_, _], _ => rfl
    have B28 := F28.binds (ps := ["profiles"]) fun _ _ _ _ _ _ us hl => match us, hl with | [_], _ => rfl
    have B29 := F29.binds (ps := ["profiles", "starts", "ends"]) fun _ _ _ _ _ _ us hl => match us, hl with | [_, _, _], _ => rfl
    have B30 := F30.binds (ps := ["count", "profile"]) fun _ _ _ _ _ _ us hl => match us, hl with | [_, _], _ => rfl
    have B31 := F31.binds (ps := ["count", "profile"]) fun _ _ _ _ _ _ us hl => match us, hl with | [_, _], _ => rfl
    have B32 := F32.binds (ps := ["count", "start"]) fun _ _ _ _ _ _ us hl => match us, hl with | [_, _], _ => rfl
    have B33 := F33.binds (ps := ["kind", "profiles"]) fun _ _ _ _ _ _ us hl => match us, hl with | [_, _], _ => rfl
    have B34 := F34.binds (ps := ["kind", "count", "profile"]) fun _ _ _ _ _ _ us hl => match us, hl with | [_, _, _], _ => rfl
    have B35 := F35.binds (ps := ["job"]) fun _ _ _ _ _ _ us hl => match us, hl with | [_], _ => rfl
    have B36 := F36.binds (ps := ["job"]) fun _ _ _ _ _ _ us hl => match us, hl with | [_], _ => rfl
    have B37 := F37.binds (ps := ["_law_script", "_law_at"]) fun _ _ _ _ _ _ us hl => match us, hl with | [_, _], _ => rfl
    have B38 := F38.binds (ps := ["_law_source_here", "_law_many"]) fun _ _ _ _ _ _ us hl => match us, hl with | [_, _], _ => rfl
    have B39 := F39.binds (ps := ["_law_source_here", "_law_many"]) fun _ _ _ _ _ _ us hl => match us, hl with | [_, _], _ => rfl
    have B40 := F40.binds (ps := ["_law_source_here"]) fun _ _ _ _ _ _ us hl => match us, hl with | [_], _ => rfl
    have B41 := F41.binds (ps := ["_law_pairs"]) fun _ _ _ _ _ _ us hl => match us, hl with | [_], _ => rfl
    have B42 := F42.binds (ps := ["_law_steps"]) fun _ _ _ _ _ _ us hl => match us, hl with | [_], _ => rfl
    have B43 := F43.binds (ps := ["_law_source_here"]) fun _ _ _ _ _ _ us hl => match us, hl with | [_], _ => rfl
    have B44 := F44.binds (ps := ["_law_source_here"]) fun _ _ _ _ _ _ us hl => match us, hl with | [_], _ => rfl
    exact {
      f_is_integer := f0, d_is_integer := _, F_is_integer := F0, b_is_integer := B0, m_is_integer := PySem.W.mg_of X G a0,
      f_is_within := f1, d_is_within := _, F_is_within := F1, b_is_within := B1, m_is_within := PySem.W.mg_of X G a1,
      f_is_short_integer := f2, d_is_short_integer := _, F_is_short_integer := F2, b_is_short_integer := B2, m_is_short_integer := PySem.W.mg_of X G a2,
      f_check_number := f3, d_check_number := _, F_check_number := F3, b_check_number := B3, m_check_number := PySem.W.mg_of X G a3,
      f_joint_pairs := f4, d_joint_pairs := _, F_joint_pairs := F4, b_joint_pairs := B4, m_joint_pairs := PySem.W.mg_of X G a4,
      f_is_valleys := f5, d_is_valleys := _, F_is_valleys := F5, b_is_valleys := B5, m_is_valleys := PySem.W.mg_of X G a5,
      f_is_start_valleys := f6, d_is_start_valleys := _, F_is_start_valleys := F6, b_is_start_valleys := B6, m_is_start_valleys := PySem.W.mg_of X G a6,
      f_least_usages := f7, d_least_usages := _, F_least_usages := F7, b_least_usages := B7, m_least_usages := PySem.W.mg_of X G a7,
      f_moved := f8, d_moved := _, F_moved := F8, b_moved := B8, m_moved := PySem.W.mg_of X G a8,
      f_checked_length := f9, d_checked_length := _, F_checked_length := F9, b_checked_length := B9, m_checked_length := PySem.W.mg_of X G a9,
      f__is_pair := f10, d__is_pair := _, F__is_pair := F10, b__is_pair := B10, m__is_pair := PySem.W.mg_of X G a10,
      f_has_profile_form := f11, d_has_profile_form := _, F_has_profile_form := F11, b_has_profile_form := B11, m_has_profile_form := PySem.W.mg_of X G a11,
      f_check_profile := f12, d_check_profile := _, F_check_profile := F12, b_check_profile := B12, m_check_profile := PySem.W.mg_of X G a12,
      f_check_profiles := f13, d_check_profiles := _, F_check_profiles := F13, b_check_profiles := B13, m_check_profiles := PySem.W.mg_of X G a13,
      f_checked_profile := f14, d_checked_profile := _, F_checked_profile := F14, b_checked_profile := B14, m_checked_profile := PySem.W.mg_of X G a14,
      f_step_profile := f15, d_step_profile := _, F_step_profile := F15, b_step_profile := B15, m_step_profile := PySem.W.mg_of X G a15,
      f_seq_profiles := f16, d_seq_profiles := _, F_seq_profiles := F16, b_seq_profiles := B16, m_seq_profiles := PySem.W.mg_of X G a16,
      f_of_step := f17, d_of_step := _, F_of_step := F17, b_of_step := B17, m_of_step := PySem.W.mg_of X G a17,
      f_in_sequence := f18, d_in_sequence := _, F_in_sequence := F18, b_in_sequence := B18, m_in_sequence := PySem.W.mg_of X G a18,
      f__from_begin := f19, d__from_begin := _, F__from_begin := F19, b__from_begin := B19, m__from_begin := PySem.W.mg_of X G a19,
      f__from_end := f20, d__from_end := _, F__from_end := F20, b__from_end := B20, m__from_end := PySem.W.mg_of X G a20,
      f_checked_sizes := f21, d_checked_sizes := _, F_checked_sizes := F21, b_checked_sizes := B21, m_checked_sizes := PySem.W.mg_of X G a21,
      f_steps_of_leaf := f22, d_steps_of_leaf := _, F_steps_of_leaf := F22, b_steps_of_leaf := B22, m_steps_of_leaf := PySem.W.mg_of X G a22,
      f_sizes_of := f23, d_sizes_of := _, F_sizes_of := F23, b_sizes_of := B23, m_sizes_of := PySem.W.mg_of X G a23,
      f__sizes := f24, d__sizes := _, F__sizes := F24, b__sizes := B24, m__sizes := PySem.W.mg_of X G a24,
      f__sizes_of_parts := f25, d__sizes_of_parts := _, F__sizes_of_parts := F25, b__sizes_of_parts := B25, m__sizes_of_parts := PySem.W.mg_of X G a25,
      f__sizes_of_rounds := f26, d__sizes_of_rounds := _, F__sizes_of_rounds := F26, b__sizes_of_rounds := B26, m__sizes_of_rounds := PySem.W.mg_of X G a26,
      f__within_count := f27, d__within_count := _, F__within_count := F27, b__within_count := B27, m__within_count := PySem.W.mg_of X G a27,
      f_in_parallel := f28, d_in_parallel := _, F_in_parallel := F28, b_in_parallel := B28, m_in_parallel := PySem.W.mg_of X G a28,
      f__least_peak := f29, d__least_peak := _, F__least_peak := F29, b__least_peak := B29, m__least_peak := PySem.W.mg_of X G a29,
      f_in_rounds := f30, d_in_rounds := _, F_in_rounds := F30, b_in_rounds := B30, m_in_rounds := PySem.W.mg_of X G a30,
      f_in_copies := f31, d_in_copies := _, F_in_copies := F31, b_in_copies := B31, m_in_copies := PySem.W.mg_of X G a31,
      f__joint_copies := f32, d__joint_copies := _, F__joint_copies := F32, b__joint_copies := B32, m__joint_copies := PySem.W.mg_of X G a32,
      f_composed := f33, d_composed := _, F_composed := F33, b_composed := B33, m_composed := PySem.W.mg_of X G a33,
      f_multiplied := f34, d_multiplied := _, F_multiplied := F34, b_multiplied := B34, m_multiplied := PySem.W.mg_of X G a34,
      f_job_profile := f35, d_job_profile := _, F_job_profile := F35, b_job_profile := B35, m_job_profile := PySem.W.mg_of X G a35,
      f_profile := f36, d_profile := _, F_profile := F36, b_profile := B36, m_profile := PySem.W.mg_of X G a36,
      f__law_source := f37, d__law_source := _, F__law_source := F37, b__law_source := B37, m__law_source := PySem.W.mg_of X G a37,
      f__law_draw := f38, d__law_draw := _, F__law_draw := F38, b__law_draw := B38, m__law_draw := PySem.W.mg_of X G a38,
      f__law_great := f39, d__law_great := _, F__law_great := F39, b__law_great := B39, m__law_great := PySem.W.mg_of X G a39,
      f__law_step := f40, d__law_step := _, F__law_step := F40, b__law_step := B40, m__law_step := PySem.W.mg_of X G a40,
      f__law_valleys := f41, d__law_valleys := _, F__law_valleys := F41, b__law_valleys := B41, m__law_valleys := PySem.W.mg_of X G a41,
      f__law_due := f42, d__law_due := _, F__law_due := F42, b__law_due := B42, m__law_due := PySem.W.mg_of X G a42,
      f__law_long_step := f43, d__law_long_step := _, F__law_long_step := F43, b__law_long_step := B43, m__law_long_step := PySem.W.mg_of X G a43,
      f__law_long_right := f44, d__law_long_right := _, F__law_long_right := F44, b__law_long_right := B44, m__law_long_right := PySem.W.mg_of X G a44,
      t_NUMBER_END := tk0, g_NUMBER_END := PySem.W.mg_of X G gc0,
      t_MAX_VALLEYS := tk1, g_MAX_VALLEYS := PySem.W.mg_of X G gc1,
      t_MAX_PROFILES := tk2, g_MAX_PROFILES := PySem.W.mg_of X G gc2,
      t_MAX_STEP := tk3, g_MAX_STEP := PySem.W.mg_of X G gc3,
      t_MAX_COUNT := tk4, g_MAX_COUNT := PySem.W.mg_of X G gc4,
      t_MAX_PARTS := tk5, g_MAX_PARTS := PySem.W.mg_of X G gc5,
      t_MAX_NODES := tk6, g_MAX_NODES := PySem.W.mg_of X G gc6,
      t_MAX_DEPTH := tk7, g_MAX_DEPTH := PySem.W.mg_of X G gc7,
      n_abs := PySem.W.mg_none_of X G z0,
      n_all := PySem.W.mg_none_of X G z1,
      n_bool := PySem.W.mg_none_of X G z2,
      n_int := PySem.W.mg_none_of X G z3,
      n_isinstance := PySem.W.mg_none_of X G z4,
      n_len := PySem.W.mg_none_of X G z5,
      n_max := PySem.W.mg_none_of X G z6,
      n_min := PySem.W.mg_none_of X G z7,
      n_range := PySem.W.mg_none_of X G z8,
      n_repr := PySem.W.mg_none_of X G z9,
      n_reversed := PySem.W.mg_none_of X G z10,
      n_sorted := PySem.W.mg_none_of X G z11,
      n_sum := PySem.W.mg_none_of X G z12,
      n_tuple := PySem.W.mg_none_of X G z13,
      n_zip := PySem.W.mg_none_of X G z14 }
  exact ⟨PySem.W.fnOf "law" "law" (defArgs s_law) (defBody s_law) (defScope s_law) .none kV45 dc45 pm45 an45 cd45 ct45, fun s v => .of_eq rfl, fun base _ _ => ok_law (fun_mk (st := s_law) l45 c45 k45) T⟩
end Lw

open PySem PySem.W PyProof.Rows
set_option maxRecDepth 100000 in
set_option maxHeartbeats 0 in
theorem PySem.Challenge.cw_roomprofile_k25_steps_in_sequence_holds : PySem.Challenge.rw_roomprofile_k25_steps_in_sequence.Holds := by
  w_on; o_law; k_head; (case hw => w_witness2)
  k_fill
  refine Rp.law_end (l := PySem.Challenge.rw_roomprofile_k25_steps_in_sequence) (n := 63) (k := 60) (x := "_law_script") (sp := Lw.spLaw) rfl (by decide) rfl ⟨rfl, by decide, by decide⟩ (fun w h Y => PySem.W.kIn_of Y) ?F (fun K H a ns hl hO hS => ⟨a, ns, rfl, hO, hS, hl, fun _ => rfl⟩)
  case F =>
    intro w mg fa h KX G hmg
    refine' Lw.all_mk KX G hmg ?a0 ?l0 ?c0 ?k0 ?a1 ?l1 ?c1 ?k1 ?a2 ?l2 ?c2 ?k2 ?a3 ?l3 ?c3 ?k3 ?a4 ?l4 ?c4 ?k4 ?a5 ?l5 ?c5 ?k5 ?a6 ?l6 ?c6 ?k6 ?a7 ?l7 ?c7 ?k7 ?a8 ?l8 ?c8 ?k8 ?a9 ?l9 ?c9 ?k9 ?a10 ?l10 ?c10 ?k10 ?a11 ?l11 ?c11 ?k11 ?a12 ?l12 ?c12 ?k12 ?a13 ?l13 ?c13 ?k13 ?a14 ?l14 ?c14 ?k14 ?a15 ?l15 ?c15 ?k15 ?a16 ?l16 ?c16 ?k16 ?a17 ?l17 ?c17 ?k17 ?a18 ?l18 ?c18 ?k18 ?a19 ?l19 ?c19 ?k19 ?a20 ?l20 ?c20 ?k20 ?a21 ?l21 ?c21 ?k21 ?a22 ?l22 ?c22 ?k22 ?a23 ?l23 ?c23 ?k23 ?a24 ?l24 ?c24 ?k24 ?a25 ?l25 ?c25 ?k25 ?a26 ?l26 ?c26 ?k26 ?a27 ?l27 ?c27 ?k27 ?a28 ?l28 ?c28 ?k28 ?a29 ?l29 ?c29 ?k29 ?a30 ?l30 ?c30 ?k30 ?a31 ?l31 ?c31 ?k31 ?a32 ?l32 ?c32 ?k32 ?a33 ?l33 ?c33 ?k33 ?a34 ?l34 ?c34 ?k34 ?a35 ?l35 ?c35 ?k35 ?a36 ?l36 ?c36 ?k36 ?a37 ?l37 ?c37 ?k37 ?a38 ?l38 ?c38 ?k38 ?a39 ?l39 ?c39 ?k39 ?a40 ?l40 ?c40 ?k40 ?a41 ?l41 ?c41 ?k41 ?a42 ?l42 ?c42 ?k42 ?a43 ?l43 ?c43 ?k43 ?a44 ?l44 ?c44 ?k44 ?a45 ?l45 ?c45 ?k45 ?gc0 ?gc1 ?gc2 ?gc3 ?gc4 ?gc5 ?gc6 ?gc7 ?z0 ?z1 ?z2 ?z3 ?z4 ?z5 ?z6 ?z7 ?z8 ?z9 ?z10 ?z11 ?z12 ?z13 ?z14
    (case a0 => k_is)
    (case l0 => k_is)
    (case c0 => k_is)
    (case k0 => k_is)
    (case a1 => k_is)
    (case l1 => k_is)
    (case c1 => k_is)
    (case k1 => k_is)
    (case a2 => k_is)
    (case l2 => k_is)
    (case c2 => k_is)
    (case k2 => k_is)
    (case a3 => k_is)
    (case l3 => k_is)
    (case c3 => k_is)
    (case k3 => k_is)
    (case a4 => k_is)
    (case l4 => k_is)
    (case c4 => k_is)
    (case k4 => k_is)
    (case a5 => k_is)
    (case l5 => k_is)
    (case c5 => k_is)
    (case k5 => k_is)
    (case a6 => k_is)
    (case l6 => k_is)
    (case c6 => k_is)
    (case k6 => k_is)
    (case a7 => k_is)
    (case l7 => k_is)
    (case c7 => k_is)
    (case k7 => k_is)
    (case a8 => k_is)
    (case l8 => k_is)
    (case c8 => k_is)
    (case k8 => k_is)
    (case a9 => k_is)
    (case l9 => k_is)
    (case c9 => k_is)
    (case k9 => k_is)
    (case a10 => k_is)
    (case l10 => k_is)
    (case c10 => k_is)
    (case k10 => k_is)
    (case a11 => k_is)
    (case l11 => k_is)
    (case c11 => k_is)
    (case k11 => k_is)
    (case a12 => k_is)
    (case l12 => k_is)
    (case c12 => k_is)
    (case k12 => k_is)
    (case a13 => k_is)
    (case l13 => k_is)
    (case c13 => k_is)
    (case k13 => k_is)
    (case a14 => k_is)
    (case l14 => k_is)
    (case c14 => k_is)
    (case k14 => k_is)
    (case a15 => k_is)
    (case l15 => k_is)
    (case c15 => k_is)
    (case k15 => k_is)
    (case a16 => k_is)
    (case l16 => k_is)
    (case c16 => k_is)
    (case k16 => k_is)
    (case a17 => k_is)
    (case l17 => k_is)
    (case c17 => k_is)
    (case k17 => k_is)
    (case a18 => k_is)
    (case l18 => k_is)
    (case c18 => k_is)
    (case k18 => k_is)
    (case a19 => k_is)
    (case l19 => k_is)
    (case c19 => k_is)
    (case k19 => k_is)
    (case a20 => k_is)
    (case l20 => k_is)
    (case c20 => k_is)
    (case k20 => k_is)
    (case a21 => k_is)
    (case l21 => k_is)
    (case c21 => k_is)
    (case k21 => k_is)
    (case a22 => k_is)
    (case l22 => k_is)
    (case c22 => k_is)
    (case k22 => k_is)
    (case a23 => k_is)
    (case l23 => k_is)
    (case c23 => k_is)
    (case k23 => k_is)
    (case a24 => k_is)
    (case l24 => k_is)
    (case c24 => k_is)
    (case k24 => k_is)
    (case a25 => k_is)
    (case l25 => k_is)
    (case c25 => k_is)
    (case k25 => k_is)
    (case a26 => k_is)
    (case l26 => k_is)
    (case c26 => k_is)
    (case k26 => k_is)
    (case a27 => k_is)
    (case l27 => k_is)
    (case c27 => k_is)
    (case k27 => k_is)
    (case a28 => k_is)
    (case l28 => k_is)
    (case c28 => k_is)
    (case k28 => k_is)
    (case a29 => k_is)
    (case l29 => k_is)
    (case c29 => k_is)
    (case k29 => k_is)
    (case a30 => k_is)
    (case l30 => k_is)
    (case c30 => k_is)
    (case k30 => k_is)
    (case a31 => k_is)
    (case l31 => k_is)
    (case c31 => k_is)
    (case k31 => k_is)
    (case a32 => k_is)
    (case l32 => k_is)
    (case c32 => k_is)
    (case k32 => k_is)
    (case a33 => k_is)
    (case l33 => k_is)
    (case c33 => k_is)
    (case k33 => k_is)
    (case a34 => k_is)
    (case l34 => k_is)
    (case c34 => k_is)
    (case k34 => k_is)
    (case a35 => k_is)
    (case l35 => k_is)
    (case c35 => k_is)
    (case k35 => k_is)
    (case a36 => k_is)
    (case l36 => k_is)
    (case c36 => k_is)
    (case k36 => k_is)
    (case a37 => k_is)
    (case l37 => k_is)
    (case c37 => k_is)
    (case k37 => k_is)
    (case a38 => k_is)
    (case l38 => k_is)
    (case c38 => k_is)
    (case k38 => k_is)
    (case a39 => k_is)
    (case l39 => k_is)
    (case c39 => k_is)
    (case k39 => k_is)
    (case a40 => k_is)
    (case l40 => k_is)
    (case c40 => k_is)
    (case k40 => k_is)
    (case a41 => k_is)
    (case l41 => k_is)
    (case c41 => k_is)
    (case k41 => k_is)
    (case a42 => k_is)
    (case l42 => k_is)
    (case c42 => k_is)
    (case k42 => k_is)
    (case a43 => k_is)
    (case l43 => k_is)
    (case c43 => k_is)
    (case k43 => k_is)
    (case a44 => k_is)
    (case l44 => k_is)
    (case c44 => k_is)
    (case k44 => k_is)
    (case a45 => k_is)
    (case l45 => k_is)
    (case c45 => k_is)
    (case k45 => k_is)
    (case gc0 => k_is)
    (case gc1 => k_is)
    (case gc2 => k_is)
    (case gc3 => k_is)
    (case gc4 => k_is)
    (case gc5 => k_is)
    (case gc6 => k_is)
    (case gc7 => k_is)
    (case z0 => k_is)
    (case z1 => k_is)
    (case z2 => k_is)
    (case z3 => k_is)
    (case z4 => k_is)
    (case z5 => k_is)
    (case z6 => k_is)
    (case z7 => k_is)
    (case z8 => k_is)
    (case z9 => k_is)
    (case z10 => k_is)
    (case z11 => k_is)
    (case z12 => k_is)
    (case z13 => k_is)
    (case z14 => k_is)
