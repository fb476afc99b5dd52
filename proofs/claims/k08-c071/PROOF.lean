import PyProof.Rows.All
import Wide.All
import OpenK.AllK
import Wide.FinOn
import HandS.ForMost
import HandS.IsInst
import HandS.TupAny
import HandS.Wide
import HandS.Codes
import HandS.Style
import PyProof.ReprRoads
import PyProof.ReprLen
import PyProof.ReprBulk
import PyProof.FitsInt
import HandS.TryOnly
import HandS.ForExc
import HandS.TryMany
import HandS.Zip
import HandS.Walk
import HandS.TupSets
import HandS.NamedTupSort
import HandS.SortOrd
import HandS.SortRule
import HandS.Deep
import HandS.CallLocal
import PySem.Challenge.RW_roomprofile_k08_order_of_addresses
set_option Elab.async false
set_option linter.all false
set_option maxRecDepth 100000
set_option maxHeartbeats 4000000
/-! Rp: what the proofs of the laws over roomprofile share: powers, data, repr, isinstance, heaps. -/
namespace Rp
open PySem L2

/-! ### powers of great ints -/
def CPowW (i j : Int) : Prop := 0 ≤ j ∧ (Builtin.Int.intBits i : Int) * j ≤ 2 ^ 27
theorem bits_le {i : Int} {b : Nat} (hi : i.natAbs < 2 ^ b) : Builtin.Int.intBits i ≤ b := by
  unfold Builtin.Int.intBits
  split
  · exact Nat.zero_le _
  · rename_i hne
    have h0 : i.natAbs ≠ 0 := by
      intro z
      apply hne
      have : i = 0 := by omega
      subst this
      rfl
    have := (Nat.log2_lt h0).mpr hi
    omega
theorem powW_of {i j : Int} (b : Nat) (h0 : 0 ≤ j) (hi : i.natAbs < 2 ^ b) (hb : (b : Int) * j ≤ 2 ^ 27) : CPowW i j := by
  refine ⟨h0, Int.le_trans ?_ hb⟩
  have := bits_le hi
  exact Int.mul_le_mul_of_nonneg_right (by omega) h0
section
variable {X : Cx}
theorem op_powW : OpR X (binaryOp .Pow) (rI CPowW fun i j => .int (i ^ j.toNat)) := opI fun _ _ _ _ _ _ _ hc q => PyProof.Rows.pow_int hc.1 hc.2 q
end

/-! ### data -/
def tyN : PyData → String
  | .none => "NoneType"
  | .bool _ => "bool"
  | .int _ => "int"
  | .str _ => "str"
  | .list _ => "list"
  | .tuple _ => "tuple"
  | .dict _ => "dict"
theorem dp_ty {K : PySem.W.Frag} {H : Hp} {v : V} {d : PyData} (h : Dp K H v d) : TyX K H v (.type (tyN d)) := by
  cases h with
  | non => exact .base .non
  | bl b => exact .base (.bl b)
  | int i => exact .base (.int i)
  | str x => exact .base (.str x)
  | lst hs ha =>
    rcases hs with (e | ⟨o, e⟩) | ⟨o, its, n, hk, hc, _⟩
    · exact .base (.lst e)
    · exact .base (.frz e)
    · exact .kList hk hc
  | tup hs ha =>
    rcases hs with (e | ⟨o, e⟩) | ⟨o, its, n, hk, hc, _⟩
    · exact .base (.tup e)
    · exact .fTuple e
    · exact .kTuple hk hc
def isInt : PyData → Bool
  | .int _ => true
  | .bool _ => true
  | _ => false
def isBoo : PyData → Bool
  | .bool _ => true
  | _ => false
def isTup : PyData → Bool
  | .tuple _ => true
  | _ => false
def isStr : PyData → Bool
  | .str _ => true
  | _ => false
def isLst : PyData → Bool
  | .list _ => true
  | _ => false
theorem kit_int (d : PyData) : kitB (tyN d) "int" = some (isInt d) := by cases d <;> (simp only [tyN, isInt]; decide +kernel)
theorem kit_bool (d : PyData) : kitB (tyN d) "bool" = some (isBoo d) := by cases d <;> (simp only [tyN, isBoo]; decide +kernel)
theorem kit_tuple (d : PyData) : kitB (tyN d) "tuple" = some (isTup d) := by cases d <;> (simp only [tyN, isTup]; decide +kernel)
theorem kit_str (d : PyData) : kitB (tyN d) "str" = some (isStr d) := by cases d <;> (simp only [tyN, isStr]; decide +kernel)
theorem kit_list (d : PyData) : kitB (tyN d) "list" = some (isLst d) := by cases d <;> (simp only [tyN, isLst]; decide +kernel)
section
variable {X : Cx}
def rIsD (K : PySem.W.Frag) : List V → Hp → VK → Prop := fun xs H Q => ∃ (v : V) (n : String) (d : PyData) (b : Bool), xs = [v, .ty n] ∧ Dp K H v d ∧ kitB (tyN d) n = some b ∧ Q (.bl b) H
theorem call_isD : CallR X (.builtin "isinstance") (rIsD X.K) := by
  intro pins s σ H xs us Q I r h
  obtain ⟨v, n, d, b, e, hd, hk, q⟩ := h
  exact call_isi pins s σ H xs us Q I r ⟨v, .ty n, _, _, _, e, .ty n, dp_ty hd, kit_ty hk, q⟩
end

/-! ### len, list(..), tuple(..) by names -/
section
variable {X : Cx}
def rLenS (K : PySem.W.Frag) : List V → Hp → VK → Prop := fun xs H Q => ∃ (p : Addr) (ys : List V), xs = [.ref p] ∧ (SqL K H p ys ∨ SqT K H p ys) ∧ Q (.int ys.length) H
theorem call_lenS : CallR X (.builtin "len") (rLenS X.K) := call_len_seq
def rListS (K : PySem.W.Frag) : List V → Hp → VK → Prop := fun xs H Q => ∃ (p : Addr) (ys : List V), xs = [.ref p] ∧ (SqL K H p ys ∨ SqT K H p ys) ∧ ∀ l, H l = none → Q (.ref l) (upd H l (.lst ys))
theorem call_listS : CallR X (.type "list") (rListS X.K) := call_list_of
def rTupS (K : PySem.W.Frag) : List V → Hp → VK → Prop := fun xs H Q => ∃ (p : Addr) (ys : List V), xs = [.ref p] ∧ ((SqL K H p ys ∧ ∀ l, H l = none → Q (.ref l) (upd H l (.tup ys))) ∨ (SqT K H p ys ∧ Q (.ref p) H))
theorem call_tupS : CallR X (.type "tuple") (rTupS X.K) := call_tuple_of
end

/-! ### repr of data -/
mutual
/-- data whose text is made without trouble: no dicts, ints of at most 180 digits, signs below 16 ^ 8 -/
def fine : PyData → Prop
  | .int i => i.natAbs < 10 ^ 180
  | .str x => (x.cps.toList.all fun c => decide (c < 16 ^ 8)) = true
  | .list xs => fines xs
  | .tuple xs => fines xs
  | .dict _ => False
  | _ => True
def fines : List PyData → Prop
  | [] => True
  | x :: xs => fine x ∧ fines xs
end
theorem int_log {i : Int} (h : i.natAbs < 10 ^ 180) : i.natAbs.log2 < 1920 := by
  by_cases z : i.natAbs = 0
  · rw [z]
    decide
  · exact (Nat.log2_lt z).mpr (Nat.lt_trans h (by decide +kernel))
theorem shown_int {i : Int} (h : i.natAbs < 10 ^ 180) : (PyData.shown (.int i)).length ≤ 200 := by
  have e := int_text_length_le10 (k := 180) (by decide) h
  show (Str.ofString (toString i)).length ≤ 200
  rw [ofString_length]
  omega
mutual
theorem fine_ok : ∀ d : PyData, fine d → d.showable = true ∧ d.leavesShort 200 = true ∧ d.hasDict = false
  | .none, _ => by simp [PyData.showable, PyData.leavesShort, PyData.hasDict]
  | .bool _, _ => by simp [PyData.showable, PyData.leavesShort, PyData.hasDict]
  | .int i, h => by
    simp only [fine] at h
    simp only [PyData.showable, PyData.leavesShort, PyData.hasDict, decide_eq_true_eq, and_true]
    exact ⟨int_log h, shown_int h⟩
  | .str x, h => by
    simp only [fine] at h
    simp only [PyData.showable, PyData.leavesShort, PyData.hasDict, and_true, true_and]
    exact h
  | .list xs, h => by
    simp only [fine] at h
    simp only [PyData.showable, PyData.leavesShort, PyData.hasDict]
    exact fines_ok xs h
  | .tuple xs, h => by
    simp only [fine] at h
    simp only [PyData.showable, PyData.leavesShort, PyData.hasDict]
    exact fines_ok xs h
  | .dict _, h => by simp only [fine] at h
theorem fines_ok : ∀ xs : List PyData, fines xs → PyData.showableAll xs = true ∧ PyData.leavesShortAll 200 xs = true ∧ PyData.hasDictAll xs = false
  | [], _ => by simp [PyData.showableAll, PyData.leavesShortAll, PyData.hasDictAll]
  | x :: xs, h => by
    simp only [fines] at h
    obtain ⟨a1, a2, a3⟩ := fine_ok x h.1
    obtain ⟨b1, b2, b3⟩ := fines_ok xs h.2
    simp only [PyData.showableAll, PyData.leavesShortAll, PyData.hasDictAll, a1, a2, a3, b1, b2, b3, Bool.and_self, Bool.or_self, and_self]
end
section
variable {X : Cx}
def rRepr (K : PySem.W.Frag) : List V → Hp → VK → Prop := fun xs H Q => ∃ (v : V) (d : PyData), xs = [v] ∧ Dp K H v d ∧ fine d ∧ d.depth ≤ 64 ∧ d.bulk ≤ 80000 ∧ Q (.str d.shown) H
theorem call_reprD (hg : X.A.guards = some []) (hu : X.A.units + 66 < cLine) : CallR X (.builtin "repr") (rRepr X.K) := by
  intro pins s σ H xs us Q I r h
  obtain ⟨v, d, rfl, hd, hf, hdep, hw, q⟩ := h
  obtain ⟨hs, hl, hnd⟩ := fine_ok d hf
  have hz : d.shown.length ≤ sizeLine := by
    have := PyData.shown_le_bulk 200 (by decide) d hl
    rw [sizeLine_eq]
    omega
  obtain ⟨u, rfl, ru⟩ := vals1 r
  have hsm : ∀ as : List Addr, d.hasDict = true → sysModules ∉ as := fun as => PyData.noDict_hsm hnd
  obtain ⟨as, hr⟩ := Dp.reads I d v u hd ru
  cases hr with
  | none => exact P.repr_of_none ⟨.str _, H, I.tok _, ⟨_, rfl⟩, q⟩
  | bool b => exact P.repr_of_bool ⟨.str _, H, I.tok _, ⟨_, rfl⟩, q⟩
  | int i t => exact P.repr_of_int (by simpa [PyData.showable] using hs) ⟨.str _, H, I.tok _, ⟨_, rfl⟩, q⟩
  | str x t => exact P.repr_of_str ⟨.str _, H, I.tok _, ⟨_, rfl⟩, q⟩ (by simpa only [PyData.shown] using hz)
  | list h1 h2 h3 h4 =>
    refine repr_of_reads' (h₀ := s.heap) (.list h1 h2 h3 h4) hs (hsm _) hg (by omega) (fun _ _ e => e) (fun h' u' tk hk => ?_) hz
    exact ⟨.str _, H, I.kept hk, ⟨_, rfl⟩, q⟩
  | tuple h1 h2 h3 h4 =>
    refine repr_of_reads' (h₀ := s.heap) (.tuple h1 h2 h3 h4) hs (hsm _) hg (by omega) (fun _ _ e => e) (fun h' u' tk hk => ?_) hz
    exact ⟨.str _, H, I.kept hk, ⟨_, rfl⟩, q⟩
  | dict _ _ _ _ _ => exact absurd hnd (by simp [PyData.hasDict])
end

/-! ### what stays of the heap -/
theorem same_sqT {K : PySem.W.Frag} {H H' : Hp} {a : Addr} {xs : List V} (s : Same H H') (h : SqT K H a xs) : SqT K H' a xs := by
  rcases h with (h | ⟨o, h⟩) | h
  · exact .inl (.inl (s _ _ h))
  · exact .inl (.inr ⟨o, s _ _ h⟩)
  · exact .inr h
theorem same_new {H : Hp} {p : Addr} {o : HO} (h : H p = none) : Same H (upd H p o) := fun b u q => by rw [upd_ne (ne_of_none q h)]; exact q
mutual
theorem dp_same {K : PySem.W.Frag} {H H' : Hp} (s : Same H H') : ∀ {d : PyData} {v : V}, Dp K H v d → Dp K H' v d
  | .none, _, h => by cases h; exact .non
  | .bool _, _, h => by cases h; exact .bl _
  | .int _, _, h => by cases h; exact .int _
  | .str _, _, h => by cases h; exact .str _
  | .list ds, _, h => by
    cases h with
    | lst hs ha => exact .lst (s.seq hs) (dpAll_same s ha)
  | .tuple ds, _, h => by
    cases h with
    | tup hs ha => exact .tup (same_sqT s hs) (dpAll_same s ha)
  | .dict _, _, h => by cases h
theorem dpAll_same {K : PySem.W.Frag} {H H' : Hp} (s : Same H H') : ∀ {ds : List PyData} {vs : List V}, DpAll K H vs ds → DpAll K H' vs ds
  | [], _, h => by cases h; exact .nil
  | d :: ds, _, h => by
    cases h with
    | cons h1 h2 => exact .cons (dp_same s h1) (dpAll_same s h2)
end
/-- all but p stays -/
def Sx (p : Addr) (H H' : Hp) : Prop := ∀ b o, b ≠ p → H b = some o → H' b = some o
theorem Sx.refl {p : Addr} {H : Hp} : Sx p H H := fun _ _ _ h => h
theorem Sx.trans {p : Addr} {H H1 H2 : Hp} (a : Sx p H H1) (b : Sx p H1 H2) : Sx p H H2 := fun c o n h => b c o n (a c o n h)
theorem Same.sx {p : Addr} {H H' : Hp} (s : Same H H') : Sx p H H' := fun b o _ h => s b o h
theorem sx_upd {p : Addr} {H : Hp} {o : HO} : Sx p H (upd H p o) := fun b u n h => by rw [upd_ne n]; exact h
theorem sx_new {p q : Addr} {H : Hp} {o : HO} (h : H q = none) : Sx p H (upd H q o) := fun b u _ q => same_new h b u q
/-! data without lists and dicts -/
mutual
def noL : PyData → Bool
  | .list _ => false
  | .dict _ => false
  | .tuple ds => noLs ds
  | _ => true
def noLs : List PyData → Bool
  | [] => true
  | d :: ds => noL d && noLs ds
end
theorem Sx.sqT {K : PySem.W.Frag} {p a : Addr} {H H' : Hp} {l xs : List V} (s : Sx p H H') (hp : H p = some (.lst l)) (h : SqT K H a xs) : SqT K H' a xs := by
  rcases h with (h | ⟨o, h⟩) | h
  · exact .inl (.inl (s _ _ (ne_of h hp (by intro z; cases z)) h))
  · exact .inl (.inr ⟨o, s _ _ (ne_of h hp (by intro z; cases z)) h⟩)
  · exact .inr h
mutual
theorem dp_keep {K : PySem.W.Frag} {H H' : Hp} (s : ∀ a xs, SqT K H a xs → SqT K H' a xs) : ∀ {d : PyData} {v : V}, noL d = true → Dp K H v d → Dp K H' v d
  | .none, _, _, h => by cases h; exact .non
  | .bool _, _, _, h => by cases h; exact .bl _
  | .int _, _, _, h => by cases h; exact .int _
  | .str _, _, _, h => by cases h; exact .str _
  | .list ds, _, n, h => by simp [noL] at n
  | .tuple ds, _, n, h => by
    cases h with
    | tup hs ha => exact .tup (s _ _ hs) (dpAll_keep s (by simpa [noL] using n) ha)
  | .dict _, _, _, h => by cases h
theorem dpAll_keep {K : PySem.W.Frag} {H H' : Hp} (s : ∀ a xs, SqT K H a xs → SqT K H' a xs) : ∀ {ds : List PyData} {vs : List V}, noLs ds = true → DpAll K H vs ds → DpAll K H' vs ds
  | [], _, _, h => by cases h; exact .nil
  | d :: ds, _, n, h => by
    cases h with
    | cons h1 h2 =>
      have n' : noL d = true ∧ noLs ds = true := by simpa [noLs] using n
      exact .cons (dp_keep s n'.1 h1) (dpAll_keep s n'.2 h2)
end
theorem Sx.dp {K : PySem.W.Frag} {p : Addr} {H H' : Hp} {l : List V} {d : PyData} {v : V} (s : Sx p H H') (hp : H p = some (.lst l)) (n : noL d = true) (h : Dp K H v d) : Dp K H' v d :=
  dp_keep (fun _ _ z => s.sqT hp z) n h
theorem dpAll_length {K : PySem.W.Frag} {H : Hp} : ∀ {vs : List V} {ds : List PyData}, DpAll K H vs ds → vs.length = ds.length
  | _, _, .nil => rfl
  | _, _, .cons _ h => congrArg (· + 1) (dpAll_length h)
theorem dpAll_get {K : PySem.W.Frag} {H : Hp} : ∀ {vs : List V} {ds : List PyData} {i : Nat} {v : V}, DpAll K H vs ds → vs[i]? = some v → ∃ d, ds[i]? = some d ∧ Dp K H v d
  | _, _, _, _, .nil, e => by simp at e
  | _, _, 0, _, .cons h _, e => by
    simp at e
    subst e
    exact ⟨_, rfl, h⟩
  | _, _, i + 1, _, .cons _ t, e => by
    obtain ⟨d, e1, e2⟩ := dpAll_get (i := i) t (by simpa using e)
    exact ⟨d, by simpa using e1, e2⟩
theorem dpAll_append {K : PySem.W.Frag} {H : Hp} : ∀ {vs ws : List V} {ds es : List PyData}, DpAll K H vs ds → DpAll K H ws es → DpAll K H (vs ++ ws) (ds ++ es)
  | _, _, _, _, .nil, h => h
  | _, _, _, _, .cons h t, h' => .cons h (dpAll_append t h')
theorem dpAll_one {K : PySem.W.Frag} {H : Hp} {v : V} {d : PyData} (h : Dp K H v d) : DpAll K H [v] [d] := .cons h .nil
theorem dpAll_rev {K : PySem.W.Frag} {H : Hp} : ∀ {vs : List V} {ds : List PyData}, DpAll K H vs ds → DpAll K H vs.reverse ds.reverse
  | _, _, .nil => .nil
  | _, _, .cons h t => by
    rw [List.reverse_cons, List.reverse_cons]
    exact dpAll_append (dpAll_rev t) (.cons h .nil)
theorem dp_int_inv {K : PySem.W.Frag} {H : Hp} {v : V} {i : Int} (h : Dp K H v (.int i)) : v = .int i := by cases h; rfl
theorem dp_str_inv {K : PySem.W.Frag} {H : Hp} {v : V} {x : Str} (h : Dp K H v (.str x)) : v = .str x := by cases h; rfl
theorem dp_none_inv {K : PySem.W.Frag} {H : Hp} {v : V} (h : Dp K H v .none) : v = .non := by cases h; rfl
theorem dp_bool_inv {K : PySem.W.Frag} {H : Hp} {v : V} {b : Bool} (h : Dp K H v (.bool b)) : v = .bl b := by cases h; rfl
theorem dp_tup_inv {K : PySem.W.Frag} {H : Hp} {v : V} {ds : List PyData} (h : Dp K H v (.tuple ds)) : ∃ a xs, v = .ref a ∧ SqT K H a xs ∧ DpAll K H xs ds := by
  cases h with
  | tup h1 h2 => exact ⟨_, _, rfl, h1, h2⟩
theorem dp_lst_inv {K : PySem.W.Frag} {H : Hp} {v : V} {ds : List PyData} (h : Dp K H v (.list ds)) : ∃ a xs, v = .ref a ∧ SqL K H a xs ∧ DpAll K H xs ds := by
  cases h with
  | lst h1 h2 => exact ⟨_, _, rfl, h1, h2⟩
theorem tup_fresh {K : PySem.W.Frag} {H : Hp} {p : Addr} {xs : List V} {ds : List PyData} (hp : H p = none) (h : DpAll K H xs ds) : Same H (upd H p (.tup xs)) ∧ Dp K (upd H p (.tup xs)) (.ref p) (.tuple ds) :=
  ⟨same_new hp, .tup (.inl (.inl upd_same)) (dpAll_same (same_new hp) h)⟩
theorem lst_fresh {K : PySem.W.Frag} {H : Hp} {p : Addr} {xs : List V} {ds : List PyData} (hp : H p = none) (h : DpAll K H xs ds) : Same H (upd H p (.lst xs)) ∧ Dp K (upd H p (.lst xs)) (.ref p) (.list ds) :=
  ⟨same_new hp, .lst (.inl (.inl upd_same)) (dpAll_same (same_new hp) h)⟩
theorem Same.sx_free {H H1 H2 : Hp} {p : Addr} (s : Same H H1) (h : H p = none) (t : Sx p H1 H2) : Same H H2 := fun b o e =>
  t b o (ne_of_none e h) (s b o e)
theorem small {n : Nat} (h : n ≤ 1000) : n ≤ sizeLine := Nat.le_of_lt (small1000 h)
theorem small' {n : Nat} (h : n ≤ 1000000) : n ≤ sizeLine := by rw [sizeLine_eq]; omega

theorem atI_at {α : Type} {xs : List α} {k : Int} {j : Nat} {v : α} (e : k = (j : Int)) (h : xs[j]? = some v) : atI xs k = some v := by
  subst e
  exact atI_nat h
theorem atI_int {ns : List Int} {k : Int} (h0 : 0 ≤ k) (h : k < (ns.length : Int)) : ∃ z, z ∈ ns ∧ atI (ns.map V.int) k = some (.int z) := by
  have hk : k.toNat < ns.length := by omega
  refine ⟨ns[k.toNat], List.getElem_mem hk, atI_at (j := k.toNat) (by omega) ?_⟩
  rw [List.getElem?_map, List.getElem?_eq_getElem hk]
  rfl

/-! ### the script as the law gets it: it never changes -/
def Scr (K : PySem.W.Frag) (H : Hp) (a : Addr) (ns : List Int) : Prop := (∃ o, H a = some (.frz o (.lst (ns.map V.int)))) ∨
  ∃ (o : Obj) (its : Array Value) (n : Nat), K.lookup a = some o ∧ o.cls = .type "list" ∧ o.dict = none ∧ o.data = .seq its n ∧ its.size ≤ sizeLine ∧ Vals (ns.map V.int) its.toList
theorem Scr.sq {K : PySem.W.Frag} {H : Hp} {a : Addr} {ns : List Int} (h : Scr K H a ns) : SqL K H a (ns.map V.int) := by
  rcases h with ⟨o, h⟩ | h
  · exact .inl (.inr ⟨o, h⟩)
  · exact .inr h
theorem Scr.of {K : PySem.W.Frag} {H : Hp} {a : Addr} {ns : List Int} (hO : Only H) (h : SqL K H a (ns.map V.int)) : Scr K H a ns := by
  rcases h with (h | h) | h
  · rcases hO a with z | ⟨o, xs, z⟩
    · rw [h] at z; cases z
    · rw [h] at z; cases z
  · exact .inl h
  · exact .inr h
theorem Scr.same {K : PySem.W.Frag} {H H' : Hp} {a : Addr} {ns : List Int} (s : Same H H') (h : Scr K H a ns) : Scr K H' a ns := by
  rcases h with ⟨o, h⟩ | h
  · exact .inl ⟨o, s _ _ h⟩
  · exact .inr h
theorem Scr.sx {K : PySem.W.Frag} {H H' : Hp} {a p : Addr} {ns : List Int} {l : List V} (s : Sx p H H') (hp : H p = some (.lst l)) (h : Scr K H a ns) : Scr K H' a ns := by
  rcases h with ⟨o, h⟩ | h
  · exact .inl ⟨o, s _ _ (ne_of h hp (by intro z; cases z)) h⟩
  · exact .inr h
end Rp
/-! RpG: defs that say repr of made data: the layer's judgements where no repr is under way (guards known), and the law's end over them. -/
namespace Rp
open PySem L2 PyProof.Rows

structure FnG (P : Program) (w : World) (K : PySem.W.Frag) (mg : Str → Option Value) (base : Heap) (CX : CXT) (k : Nat) (f : Addr) (fd : FuncData) (ps : List Str) (sp : Sp) : Prop where
  len : ∀ vs H Q E, sp vs H Q E → vs.length = ps.length
  run : ∀ (A : Around) (outer : List Env) (s : Shared) (H : Hp) (args : Args) (us : List Value) (vs : List V) (Q : VK) (E : XK), Room k A → A.guards = some [] →
    Env0 P w K mg base A outer s H → BindsTo s fd args (ps.zip us) → Vals vs us → sp vs H Q E → codeAny (model P w) A (.call (.ref f) args) (CR CX outer P w H s Q E) s

theorem room66 {k : Nat} {A : Around} (hr : Room k A) : A.units + 66 < cLine := by
  have := hr.un
  omega
section
variable {P : Program} {w : World} {K : PySem.W.Frag} {mg : Str → Option Value} {base : Heap}
theorem okG {name qual : Str} {st : Stmt} {f : Addr} {fd : FuncData} {N ps : List Str} {k : Nat} {sp : Sp} (F : Fun K name qual st f fd) (S : FnScope N ps (defScope st))
    (hlen : ∀ vs H Q E, sp vs H Q E → vs.length = ps.length)
    (hb : ∀ (cdv : Value) (A : Around) (outer : List Env) (s : Shared) (H : Hp) (vs : List V) (Q : VK) (E : XK),
      Room k (A.deeper (envOfC qual (defScope st) s.heap.objs.size f cdv)) → A.guards = some [] → sp vs H Q E →
      ∃ t, PSs (cxOf CX0 P w K mg base N qual (defScope st) f cdv A outer s H E).nox (defBody st) t ∧
        t { nx := fun _ H' => Q .non H', rt := Q } (start N vs) H) : FnG P w K mg base CX0 (k + 1) f fd ps sp := by
  obtain ⟨oc, od, kV, doc, pm, an, cdv, ct, osl, rfl, lk, hcd⟩ := F.ex
  refine ⟨hlen, fun A outer s H args us vs Q E room gd en bd rv want => ?_⟩
  have kin : K.In s.heap := en.mod.kin.keeps fun b o z => (en.bs b o z).1
  have nolim : s.heap.NoLimit := en.mod.nolimit.keeps fun b o z => (en.bs b o z).1
  have hl := hlen _ _ _ _ want
  refine Att.call_fn kin nolim lk hcd room.depth bd ?_ (fun s1 ic => ?_) S.co S.gen S.kind
  · refine List.all_eq_true.mpr fun y hy => ?_
    obtain ⟨a, b⟩ := y
    rcases S.par a (List.of_mem_zip hy).1 with z | z
    · simp [z]
    · simp [z]
  · obtain ⟨t, ht, hq⟩ := hb cdv A outer s H vs Q E (room.deeper _) gd want
    have I := inv_start (CX := CX0) (P := P) (w := w) (K := K) (mg := mg) (base := base) (E := E) S room.hd en hl rv ic
    refine wpAny_mono (ht.nox.run [] s1 (start N vs) H _ I hq) (fun fl s' hs => ?_) (fun e s' hs => hs)
    cases fl with
    | ret u =>
      obtain ⟨v, σ', H', J, rr, q⟩ := hs
      exact ⟨v, H', J.os, J.bare, J.base, J.hok, rr, q⟩
    | next =>
      obtain ⟨σ', H', J, q⟩ := hs
      exact ⟨V.non, H', J.os, J.bare, J.base, J.hok, rfl, q⟩
    | brk =>
      obtain ⟨_, _, _, q⟩ := hs
      exact False.elim q
    | cont =>
      obtain ⟨_, _, _, q⟩ := hs
      exact False.elim q
end
section
variable {X : Cx} {k : Nat} {f : Addr} {fd : FuncData} {ps : List Str} {sp : Sp} {dvs : List V} {ds : List Value} {x : Str} {p pos : Pos} {e : Expr} {es : List Expr} {t : TA}
theorem runG {pins : List (Addr × Obj)} {σ : L2.St} {H : Hp} {s : Shared} {Q : VK} {us : List Value} {vs : List V} (F : FnG X.prog X.w X.K X.mg X.base CX0 k f fd ps sp) (room : Room k X.A) (gd : X.A.guards = some [])
    (bd : Binds X.K fd ps ds) (dv : Vals dvs ds) (I : Inv X pins σ H s) (rv : Vals vs us) (want : sp (vs ++ dvs) H Q E0) : wpAny (model X.prog X.w) X.A (call (.ref f) us) (EP X pins σ Q) X.xe s := by
  have rv2 : Vals (vs ++ dvs) (us ++ ds) := rv.append dv
  have hl : (us ++ ds).length = ps.length := by
    rw [← rv2.length]
    exact F.len _ _ _ _ want
  refine wpAny_call (codeAny_mono (F.run X.A X.stack s H ⟨us, []⟩ (us ++ ds) (vs ++ dvs) Q E0 room gd I.env0 (bd s us I.kIn hl) rv2 want) fun r s' hq => ?_)
  cases r with
  | error e => exact False.elim hq
  | ok fl =>
    cases fl with
    | ret u => exact I.after hq
    | next => exact False.elim hq
    | brk => exact False.elim hq
    | cont => exact False.elim hq
theorem pe_callG (F : FnG X.prog X.w X.K X.mg X.base CX0 k f fd ps sp) (room : Room k X.A) (gd : X.A.guards = some []) (gl : Gl X x) (hm : X.mg x = some (.ref f)) (kp : PySem.W.keepIn X.K (.ref f) = true)
    (bd : Binds X.K fd ps ds) (dv : Vals dvs ds) (ha : PA X (e :: es) t) (nodbg : (x == ("__debug__" : Str)) = false := by decide)
    (he : starEach (e :: es) X.env = (false, eval e X.env) :: starEach es X.env := by rfl) (hpl : (backTo pos (starEach es X.env)).any (·.1) = false := by rfl) :
    PE X (.Call (.Name x p) (e :: es) [] pos) (tCall sp dvs E0 t) := by
  constructor
  intro pins s σ H Q I want
  refine wpAny_Call_Name_kw (ld_glob I gl hm (PySem.W.callWith_K (h₀ := X.base) I.ok.mod.kin kp (thn (ha.run pos pins s σ H _ I want) ?_) he hpl) nodbg)
  rintro us s1 ⟨vs, H1, I1, rv, q⟩
  exact ⟨I1.kIn, runG F room gd bd dv I1 rv q⟩
theorem pe_callG0 (F : FnG X.prog X.w X.K X.mg X.base CX0 k f fd ps sp) (room : Room k X.A) (gd : X.A.guards = some []) (gl : Gl X x) (hm : X.mg x = some (.ref f)) (kp : PySem.W.keepIn X.K (.ref f) = true)
    (bd : Binds X.K fd ps ds) (dv : Vals dvs ds) (nodbg : (x == ("__debug__" : Str)) = false := by decide) : PE X (.Call (.Name x p) [] [] pos) (tCall sp dvs E0 tNil) := by
  constructor
  intro pins s σ H Q I want
  exact wpAny_Call_Name_kw (ld_glob I gl hm (PySem.W.callWith_K0 I.kIn kp (runG (us := []) F room gd bd dv I .nil want)) nodbg)
end

/-! ### the law's end -/
/-- a heap that tells of the script alone -/
theorem script_heap {P : Program} {w : World} {K : PySem.W.Frag} {h : Heap} {a : Addr} {vs : List Value} {ns : List Int} (kin : K.In h) (ha : h.get? a = some { cls := .type "list", data := .seq vs.toArray })
    (hi : IntsAre vs ns) (hl : ns.length ≤ sizeLine) :
    ∃ H : Hp, Only H ∧ SqL K H a (ns.map V.int) ∧ HOk P w H h ∧ (∀ b, H b ≠ none → b = a) ∧ (∀ b o, K.lookup b = some o → H b = none) := by
  have rv := vals_ints hi
  have len := hi.length
  cases hk : K.lookup a with
  | some o =>
    have eo := kin a o hk
    rw [ha] at eo
    cases eo
    refine ⟨fun _ => none, fun _ => .inl rfl, .inr ⟨_, vs.toArray, _, hk, rfl, rfl, rfl, ?_, by simpa using rv⟩, (fun b u z => nomatch z), (fun b z => absurd rfl z), fun _ _ _ => rfl⟩
    rw [List.size_toArray, len]
    exact hl
  | none =>
    let H : Hp := fun b => if b = a then some (.frz { cls := .type "list", data := .seq vs.toArray } (.lst (ns.map V.int))) else none
    have at_a : H a = some (.frz { cls := .type "list", data := .seq vs.toArray } (.lst (ns.map V.int))) := if_pos rfl
    have off : ∀ b, b ≠ a → H b = none := fun b z => if_neg z
    refine ⟨H, fun b => ?_, .inl (.inr ⟨_, at_a⟩), fun b u z => ?_, fun b z => ?_, fun b o z => off b ?_⟩
    · by_cases c : b = a
      · exact .inr ⟨_, _, c ▸ at_a⟩
      · exact .inl (off b c)
    · by_cases c : b = a
      · subst c
        rw [at_a] at z
        cases z
        refine ⟨ha, ?_, vs, _, rv, ha⟩
        rw [List.length_map]
        exact hl
      · rw [off b c] at z
        cases z
    · by_cases c : b = a
      · exact c
      · exact absurd (off b c) z
    · intro c
      rw [c, hk] at z
      cases z

theorem law_end {l : PySem.W.OpenLaw} {n k : Nat} {q : Program} {loose : List Str} {XP : (Str → Option Value) → Heap → Prop} {YP : World → Heap → Prop} {d : DefRec} {K : Params → PySem.W.Frag} {sp : PySem.W.Frag → Sp} {x : Str}
    (hn : l.most = some n) (hn2 : n ≤ sizeLine) (hdf : d.params.defaults = []) (hr : Room k callerA)
    (hY : ∀ (w : World) (h : Heap), YP w h → (K w.params).In h)
    (F : ∀ (w : World) (mg : Str → Option Value) (fa : Addr) (h : Heap), (K w.params).In h → h.Ns mainGlobals mg → mg d.name = some (.ref fa) →
      ∃ fd : FuncData, (∀ (s : Shared) (u : Value), BindsTo s fd ⟨[u], []⟩ [(x, u)]) ∧
        ∀ base : Heap, (K w.params).In base → base.Ns mainGlobals mg → FnG l.prog w (K w.params) mg base CX0 k fa fd [x] (sp (K w.params)))
    (hsp : ∀ (K : PySem.W.Frag) (H : Hp) (a : Addr) (ns : List Int), ns.length ≤ n → Only H → SqL K H a (ns.map V.int) → sp K [.ref a] H (fun v _ => v = .bl true) fun _ _ _ => False) :
    PySem.W.WalkO q loose XP YP l.row.toRowW d [] (fun f vs => PySem.call f vs) := by
  refine Att.attach_call hn hdf fun w s₀ s₁ mg mb fa o pm cd doc a vs ns G Y ho hd hcd hmg hobj hints hlen hgens => ?_
  have kin := hY w _ Y
  obtain ⟨fd, bd, FF⟩ := F w mg fa _ kin G.T.g hmg
  obtain ⟨H, hO, hS, hok, only, notK⟩ := script_heap (P := l.prog) (w := w) kin hobj hints (Nat.le_trans hlen hn2)
  have free : ∀ {b : Addr} {ob : Obj} {es : Array DictEntry} {ep : Nat}, s₁.heap.get? b = some ob → ob.data = .dict es ep → H b = none := by
    intro b ob es ep h1 h2
    cases c : H b with
    | none => rfl
    | some u =>
      have e : b = a := only b (by rw [c]; exact fun z => nomatch z)
      rw [e, hobj] at h1
      have h3 := congrArg Obj.data (Option.some.inj h1)
      rw [h2] at h3
      exact nomatch h3
  have ns' : ∀ {b : Addr} {m : Str → Option Value}, s₁.heap.Ns b m → (hidT s₁.heap H).Ns b m := by
    rintro b m ⟨ob, es, ep, h1, h2, h3⟩
    exact ⟨ob, es, ep, hidT_get h1 (free h1 h2), h2, h3⟩
  have kinB : (K w.params).In (hidT s₁.heap H) := fun b ob e => hidT_get (kin b ob e) (notK b ob e)
  have lim : (hidT s₁.heap H).NoLimit := by
    obtain ⟨mc, h1, h2⟩ := G.T.nolimit
    exact ⟨mc, ns' h1, h2⟩
  have en : Env0 l.prog w (K w.params) mg (hidT s₁.heap H) callerA [] s₁ H :=
    ⟨rfl, ⟨kinB, ns' G.T.g, ⟨mb, ns' G.T.b, G.T.builtins⟩, lim⟩, fun b ob e => of_hidT e, Nat.le_of_eq (hidT_size _ _), trivial, (fun b z => nomatch z), hok, .of_eq hgens⟩
  refine codeAny_mono ((FF _ kinB (ns' G.T.g)).run callerA [] s₁ H ⟨[.ref a], []⟩ [.ref a] [.ref a] _ _ hr rfl en (bd s₁ (.ref a)) (.cons rfl .nil) (hsp _ H a ns hlen hO hS)) fun r s' z => ?_
  cases r with
  | error e => exact False.elim z
  | ok fl =>
    cases fl with
    | next => exact False.elim z
    | brk => exact False.elim z
    | cont => exact False.elim z
    | ret u =>
      obtain ⟨v, H', os, bare, un, hok', rr, e⟩ := z
      have e' : v = .bl true := e
      subst e'
      obtain rfl : u = Value.bool true := rr
      refine ⟨rfl, OldK.of_keep fun b ob hb => ?_, os, bare⟩
      cases c : H b with
      | none => exact un.keep b ob hb c (fun z => nomatch z) (fun z => nomatch z)
      | some u =>
        rcases hO b with z | ⟨ox, xs, z⟩
        · rw [c] at z
          cases z
        · obtain ⟨e1, _⟩ := hok b _ z
          obtain ⟨e2, _⟩ := hok' b _ (un.frzs b ox _ z)
          rw [hb] at e1
          cases e1
          exact e2
end Rp
/-! Jm: jobs as a type of trees, their data, sizes; what the pot holds. No Python here. -/
namespace Lw
open PySem L2 Rp

abbrev M30 : Int := 1000000000000000000000000000000
inductive J where
  | st (i : Int)
  | ps (par : Bool) (xs : List J)
  | rn (cop : Bool) (n : Int) (x : J)
def kwP (b : Bool) : Str := if b then "par" else "seq"
def kwR (b : Bool) : Str := if b then "copies" else "repeat"
mutual
def J.toD : J → PyData
  | .st i => .int i
  | .ps k xs => .tuple [.str (kwP k), .tuple (J.toDs xs)]
  | .rn k n x => .tuple [.str (kwR k), .int n, x.toD]
def J.toDs : List J → List PyData
  | [] => []
  | x :: xs => x.toD :: J.toDs xs
end
mutual
theorem J.noL : ∀ j : J, noL j.toD = true
  | .st _ => rfl
  | .ps _ xs => by
    have h := J.noLs xs
    simp [J.toD, Rp.noL, Rp.noLs, h]
  | .rn _ _ x => by
    have h := J.noL x
    simp [J.toD, Rp.noL, Rp.noLs, h]
theorem J.noLs : ∀ js : List J, noLs (J.toDs js) = true
  | [] => rfl
  | x :: xs => by
    have h1 := J.noL x
    have h2 := J.noLs xs
    simp [J.toDs, Rp.noLs, h1, h2]
end
theorem J.toDs_eq : ∀ xs : List J, J.toDs xs = xs.map J.toD
  | [] => rfl
  | x :: xs => by rw [J.toDs, J.toDs_eq xs]; rfl

/-! sizes as the program finds them -/
def within (nodes steps : Int) : Option (Int × Int) := if steps ≤ M30 then some (nodes, steps) else none
mutual
def szJ : J → Int → Int → Option (Int × Int)
  | .st i, room, lv => if room < 1 ∨ lv < 1 then none else if -M30 ≤ i ∧ i ≤ M30 then some (1, 1) else none
  | .ps _ xs, room, lv => if room < 1 ∨ lv < 1 then none else if (xs.length : Int) > 400 then none else szJs xs 1 0 room lv
  | .rn _ n x, room, lv => if room < 1 ∨ lv < 1 then none else if ¬ (0 ≤ n ∧ n ≤ M30) then none else
      match szJ x (room - 1) (lv - 1) with
      | none => none
      | some (a, b) => within (a + 1) (b * n)
def szJs : List J → Int → Int → Int → Int → Option (Int × Int)
  | [], nodes, steps, _, _ => within nodes steps
  | x :: xs, nodes, steps, room, lv =>
      match szJ x (room - nodes) (lv - 1) with
      | none => none
      | some (a, b) => szJs xs (nodes + a) (steps + b) room lv
end
mutual
def J.nodes : J → Int
  | .st _ => 1
  | .ps _ xs => 1 + J.nodesL xs
  | .rn _ _ x => x.nodes + 1
def J.nodesL : List J → Int
  | [] => 0
  | x :: xs => x.nodes + J.nodesL xs
end
mutual
def J.steps : J → Int
  | .st _ => 1
  | .ps _ xs => J.stepsL xs
  | .rn _ n x => x.steps * n
def J.stepsL : List J → Int
  | [] => 0
  | x :: xs => x.steps + J.stepsL xs
end
mutual
def J.deep : J → Nat
  | .st _ => 1
  | .ps _ xs => J.deepL xs + 1
  | .rn _ _ x => x.deep + 1
def J.deepL : List J → Nat
  | [] => 0
  | x :: xs => max x.deep (J.deepL xs)
end
mutual
/-- a job but for nodes and nesting -/
def J.ok : J → Prop
  | .st i => -M30 ≤ i ∧ i ≤ M30
  | .ps _ xs => (xs.length : Int) ≤ 400 ∧ J.okL xs ∧ J.stepsL xs ≤ M30
  | .rn _ n x => (0 ≤ n ∧ n ≤ M30) ∧ x.ok ∧ x.steps * n ≤ M30
def J.okL : List J → Prop
  | [] => True
  | x :: xs => x.ok ∧ J.okL xs
end
mutual
theorem J.nodes_pos : ∀ j : J, 1 ≤ j.nodes
  | .st _ => by simp [J.nodes]
  | .ps _ xs => by have := J.nodesL_pos xs; simp only [J.nodes]; omega
  | .rn _ _ x => by have := J.nodes_pos x; simp only [J.nodes]; omega
theorem J.nodesL_pos : ∀ xs : List J, 0 ≤ J.nodesL xs
  | [] => by simp [J.nodesL]
  | x :: xs => by have := J.nodes_pos x; have := J.nodesL_pos xs; simp only [J.nodesL]; omega
end
theorem J.deep_pos : ∀ j : J, 1 ≤ j.deep
  | .st _ => by simp [J.deep]
  | .ps _ xs => by simp only [J.deep]; omega
  | .rn _ _ x => by simp only [J.deep]; omega
mutual
theorem J.steps_nn : ∀ j : J, j.ok → 0 ≤ j.steps
  | .st _, _ => by simp [J.steps]
  | .ps _ xs, h => by
    simp only [J.ok] at h
    simp only [J.steps]
    exact J.stepsL_nn xs h.2.1
  | .rn _ n x, h => by
    simp only [J.ok] at h
    simp only [J.steps]
    exact Int.mul_nonneg (J.steps_nn x h.2.1) h.1.1
theorem J.stepsL_nn : ∀ xs : List J, J.okL xs → 0 ≤ J.stepsL xs
  | [], _ => by simp [J.stepsL]
  | x :: xs, h => by
    simp only [J.okL] at h
    have := J.steps_nn x h.1
    have := J.stepsL_nn xs h.2
    simp only [J.stepsL]
    omega
end
theorem J.steps_le (j : J) (h : j.ok) : j.steps ≤ M30 := by
  cases j with
  | st i => simp only [J.steps]; decide
  | ps k xs => simp only [J.ok] at h; simp only [J.steps]; exact h.2.2
  | rn k n x => simp only [J.ok] at h; simp only [J.steps]; exact h.2.2
/-! the closed form: is a job within room and levels, and then its sizes -/
mutual
theorem szJ_some : ∀ (j : J) (room lv : Int), j.ok → j.nodes ≤ room → (j.deep : Int) ≤ lv → szJ j room lv = some (j.nodes, j.steps)
  | .st i, room, lv, h, h1, h2 => by
    simp only [J.ok] at h
    simp only [J.nodes, J.deep] at h1 h2
    simp only [szJ, J.nodes, J.steps]
    rw [if_neg (by omega), if_pos h]
  | .ps k xs, room, lv, h, h1, h2 => by
    simp only [J.ok] at h
    simp only [J.nodes, J.deep] at h1 h2
    have hn := J.nodesL_pos xs
    simp only [szJ, J.nodes, J.steps]
    rw [if_neg (by omega), if_neg (by omega)]
    have := szJs_some xs 1 0 room lv h.2.1 (by omega) (by omega) (by omega) (by omega)
    rw [this, Int.zero_add]
  | .rn k n x, room, lv, h, h1, h2 => by
    simp only [J.ok] at h
    simp only [J.nodes, J.deep] at h1 h2
    have hn := J.nodes_pos x
    simp only [szJ, J.nodes, J.steps]
    rw [if_neg (by omega), if_neg (by omega), szJ_some x (room - 1) (lv - 1) h.2.1 (by omega) (by omega)]
    simp only [within]
    rw [if_pos h.2.2]
theorem szJs_some : ∀ (xs : List J) (nodes steps room lv : Int), J.okL xs → 1 ≤ nodes → nodes + J.nodesL xs ≤ room → (J.deepL xs : Int) ≤ lv - 1 → steps + J.stepsL xs ≤ M30 → szJs xs nodes steps room lv = some (nodes + J.nodesL xs, steps + J.stepsL xs)
  | [], nodes, steps, room, lv, _, _, _, _, h => by
    simp only [J.nodesL, J.stepsL, szJs, within, Int.add_zero] at *
    rw [if_pos h]
  | x :: xs, nodes, steps, room, lv, h, h0, h1, h2, h3 => by
    simp only [J.okL] at h
    simp only [J.nodesL, J.stepsL, J.deepL] at *
    have p1 := J.nodes_pos x
    have p2 := J.nodesL_pos xs
    have p3 := J.stepsL_nn xs h.2
    simp only [szJs]
    rw [szJ_some x (room - nodes) (lv - 1) h.1 (by omega) (by omega)]
    simp only
    rw [szJs_some xs (nodes + x.nodes) (steps + x.steps) room lv h.2 (by omega) (by omega) (by omega) (by omega)]
    rw [Int.add_assoc, Int.add_assoc]
end
mutual
theorem szJ_inv : ∀ (j : J) (room lv a b : Int), szJ j room lv = some (a, b) → j.ok ∧ j.nodes ≤ room ∧ (j.deep : Int) ≤ lv ∧ a = j.nodes ∧ b = j.steps
  | .st i, room, lv, a, b, h => by
    simp only [szJ] at h
    split at h
    · cases h
    · split at h
      · rename_i h1 h2
        cases h
        simp only [J.ok, J.nodes, J.deep, J.steps]
        refine ⟨h2, by omega, by omega, ?_, ?_⟩ <;> trivial
      · cases h
  | .ps k xs, room, lv, a, b, h => by
    simp only [szJ] at h
    split at h
    · cases h
    · split at h
      · cases h
      · rename_i h1 h2
        obtain ⟨q1, q2, q3, q4, q5, q6⟩ := szJs_inv xs 1 0 room lv a b h (by omega)
        simp only [J.ok, J.nodes, J.deep, J.steps]
        have q3' : (J.deepL xs : Int) ≤ lv - 1 := by
          rcases q3 with q3 | q3
          · exact q3
          · subst q3
            simp only [J.deepL]
            omega
        refine ⟨⟨by omega, q1, by omega⟩, by omega, by omega, by omega, by omega⟩
  | .rn k n x, room, lv, a, b, h => by
    simp only [szJ] at h
    split at h
    · cases h
    · split at h
      · cases h
      · rename_i h1 h2
        split at h
        · cases h
        · rename_i a1 b1 h3
          obtain ⟨q1, q2, q3, q4, q5⟩ := szJ_inv x (room - 1) (lv - 1) a1 b1 h3
          simp only [within] at h
          split at h
          · rename_i h4
            cases h
            subst q4 q5
            simp only [J.ok, J.nodes, J.deep, J.steps]
            refine ⟨⟨Decidable.not_not.mp h2, q1, h4⟩, by omega, by omega, ?_, ?_⟩ <;> trivial
          · cases h
theorem szJs_inv : ∀ (xs : List J) (nodes steps room lv a b : Int), szJs xs nodes steps room lv = some (a, b) → nodes ≤ room → J.okL xs ∧ nodes + J.nodesL xs ≤ room ∧ ((J.deepL xs : Int) ≤ lv - 1 ∨ xs = []) ∧ steps + J.stepsL xs ≤ M30 ∧ a = nodes + J.nodesL xs ∧ b = steps + J.stepsL xs
  | [], nodes, steps, room, lv, a, b, h, h0 => by
    simp only [szJs, within] at h
    split at h
    · rename_i h1
      cases h
      simp only [J.okL, J.nodesL, J.stepsL, Int.add_zero]
      refine ⟨trivial, h0, .inr ?_, h1, ?_, ?_⟩ <;> trivial
    · cases h
  | x :: xs, nodes, steps, room, lv, a, b, h, h0 => by
    simp only [szJs] at h
    split at h
    · cases h
    · rename_i a1 b1 h3
      obtain ⟨q1, q2, q3, q4, q5⟩ := szJ_inv x (room - nodes) (lv - 1) a1 b1 h3
      subst q4 q5
      obtain ⟨r1, r2, r3, r4, r5, r6⟩ := szJs_inv xs (nodes + x.nodes) (steps + x.steps) room lv a b h (by omega)
      have dp := J.deep_pos x
      simp only [J.okL, J.nodesL, J.stepsL, J.deepL]
      refine ⟨⟨q1, r1⟩, by omega, .inl ?_, by omega, by omega, by omega⟩
      rcases r3 with r3 | r3
      · omega
      · subst r3
        simp only [J.deepL]
        omega
end
end Lw
/-! Jn: nets, lowest usages and mirrors of jobs. No Python here. -/
namespace Lw
open PySem L2 Rp
mutual
def J.net : J → Int
  | .st i => i
  | .ps _ xs => J.netL xs
  | .rn _ n x => n * x.net
def J.netL : List J → Int
  | [] => 0
  | x :: xs => x.net + J.netL xs
end
mutual
def J.low : J → Int
  | .st i => min 0 i
  | .ps false xs => J.lowS xs
  | .ps true xs => J.lowL xs
  | .rn true n x => n * x.low
  | .rn false n x => if n = 0 then 0 else x.low + (n - 1) * min 0 x.net
/-- in sequence -/
def J.lowS : List J → Int
  | [] => 0
  | x :: xs => min x.low (x.net + J.lowS xs)
/-- side by side -/
def J.lowL : List J → Int
  | [] => 0
  | x :: xs => x.low + J.lowL xs
end
theorem mul_min_nonneg {a b : Int} (h : 0 ≤ a) : a * min 0 b ≤ 0 ∧ a * min 0 b ≤ a * b := by
  constructor
  · have : 0 ≤ a * (- min 0 b) := Int.mul_nonneg h (by omega)
    rw [Int.mul_neg] at this
    omega
  · exact Int.mul_le_mul_of_nonneg_left (by omega) h
mutual
/-- the lowest usage is at most 0 and at most the net -/
theorem J.low_le : ∀ j : J, j.ok → j.low ≤ 0 ∧ j.low ≤ j.net
  | .st i, _ => by simp only [J.low, J.net]; omega
  | .ps false xs, h => by
    simp only [J.ok] at h
    simp only [J.low, J.net]
    exact J.lowS_le xs h.2.1
  | .ps true xs, h => by
    simp only [J.ok] at h
    simp only [J.low, J.net]
    exact J.lowL_le xs h.2.1
  | .rn true n x, h => by
    simp only [J.ok] at h
    have ih := J.low_le x h.2.1
    simp only [J.low, J.net]
    constructor
    · have : 0 ≤ n * (- x.low) := Int.mul_nonneg h.1.1 (by omega)
      rw [Int.mul_neg] at this
      omega
    · exact Int.mul_le_mul_of_nonneg_left ih.2 h.1.1
  | .rn false n x, h => by
    simp only [J.ok] at h
    have ih := J.low_le x h.2.1
    simp only [J.low, J.net]
    split
    · rename_i e
      subst e
      omega
    · have p := mul_min_nonneg (a := n - 1) (b := x.net) (by omega)
      have e : n * x.net = (n - 1) * x.net + x.net := by rw [Int.sub_mul, Int.one_mul]; omega
      omega
theorem J.lowS_le : ∀ xs : List J, J.okL xs → J.lowS xs ≤ 0 ∧ J.lowS xs ≤ J.netL xs
  | [], _ => by simp only [J.lowS, J.netL]; omega
  | x :: xs, h => by
    simp only [J.okL] at h
    have h1 := J.low_le x h.1
    have h2 := J.lowS_le xs h.2
    simp only [J.lowS, J.netL]
    omega
theorem J.lowL_le : ∀ xs : List J, J.okL xs → J.lowL xs ≤ 0 ∧ J.lowL xs ≤ J.netL xs
  | [], _ => by simp only [J.lowL, J.netL]; omega
  | x :: xs, h => by
    simp only [J.okL] at h
    have h1 := J.low_le x h.1
    have h2 := J.lowL_le xs h.2
    simp only [J.lowL, J.netL]
    omega
end
/-! sizes: at most the steps times a step's greatest -/
theorem mul_natAbs_le {n b c : Int} (h0 : 0 ≤ n) (h : b.natAbs ≤ c.natAbs) : (n * b).natAbs ≤ (n * c).natAbs := by
  rw [Int.natAbs_mul, Int.natAbs_mul]
  exact Nat.mul_le_mul_left _ h
mutual
theorem J.net_big : ∀ j : J, j.ok → -(j.steps * M30) ≤ j.net ∧ j.net ≤ j.steps * M30
  | .st i, h => by
    simp only [J.ok, M30] at h
    simp only [J.net, J.steps, M30]
    omega
  | .ps _ xs, h => by
    simp only [J.ok] at h
    simp only [J.net, J.steps]
    exact J.netL_big xs h.2.1
  | .rn _ n x, h => by
    simp only [J.ok] at h
    have ih := J.net_big x h.2.1
    simp only [J.net, J.steps]
    have e : x.steps * n * M30 = n * (x.steps * M30) := by rw [Int.mul_comm x.steps n, Int.mul_assoc]
    rw [e]
    constructor
    · rw [← Int.mul_neg]
      exact Int.mul_le_mul_of_nonneg_left ih.1 h.1.1
    · exact Int.mul_le_mul_of_nonneg_left ih.2 h.1.1
theorem J.netL_big : ∀ xs : List J, J.okL xs → -(J.stepsL xs * M30) ≤ J.netL xs ∧ J.netL xs ≤ J.stepsL xs * M30
  | [], _ => by simp only [J.netL, J.stepsL]; omega
  | x :: xs, h => by
    simp only [J.okL] at h
    have h1 := J.net_big x h.1
    have h2 := J.netL_big xs h.2
    simp only [J.netL, J.stepsL, M30] at *
    omega
end
mutual
theorem J.low_big : ∀ j : J, j.ok → -(j.steps * M30) ≤ j.low
  | .st i, h => by
    simp only [J.ok, M30] at h
    simp only [J.low, J.steps, M30]
    omega
  | .ps false xs, h => by
    simp only [J.ok] at h
    simp only [J.low, J.steps]
    exact J.lowS_big xs h.2.1
  | .ps true xs, h => by
    simp only [J.ok] at h
    simp only [J.low, J.steps]
    exact J.lowL_big xs h.2.1
  | .rn true n x, h => by
    simp only [J.ok] at h
    have ih := J.low_big x h.2.1
    simp only [J.low, J.steps]
    have e : x.steps * n * M30 = n * (x.steps * M30) := by rw [Int.mul_comm x.steps n, Int.mul_assoc]
    rw [e, ← Int.mul_neg]
    exact Int.mul_le_mul_of_nonneg_left ih h.1.1
  | .rn false n x, h => by
    simp only [J.ok] at h
    have ih := J.low_big x h.2.1
    have ih2 := J.net_big x h.2.1
    have nn := J.steps_nn x h.2.1
    simp only [J.low, J.steps]
    have e : x.steps * n * M30 = n * (x.steps * M30) := by rw [Int.mul_comm x.steps n, Int.mul_assoc]
    rw [e]
    split
    · rename_i z
      subst z
      omega
    · have hm : -(x.steps * M30) ≤ min 0 x.net := by
        have : 0 ≤ x.steps * M30 := Int.mul_nonneg nn (by decide)
        omega
      have p : (n - 1) * (-(x.steps * M30)) ≤ (n - 1) * min 0 x.net := Int.mul_le_mul_of_nonneg_left hm (by omega)
      have e2 : (n - 1) * (-(x.steps * M30)) = -(n * (x.steps * M30)) + x.steps * M30 := by rw [Int.mul_neg, Int.sub_mul, Int.one_mul]; omega
      omega
theorem J.lowS_big : ∀ xs : List J, J.okL xs → -(J.stepsL xs * M30) ≤ J.lowS xs
  | [], _ => by simp only [J.lowS, J.stepsL]; omega
  | x :: xs, h => by
    simp only [J.okL] at h
    have h1 := J.low_big x h.1
    have h2 := J.lowS_big xs h.2
    have h3 := J.net_big x h.1
    have n1 := J.steps_nn x h.1
    have n2 := J.stepsL_nn xs h.2
    simp only [J.lowS, J.stepsL, M30] at *
    omega
theorem J.lowL_big : ∀ xs : List J, J.okL xs → -(J.stepsL xs * M30) ≤ J.lowL xs
  | [], _ => by simp only [J.lowL, J.stepsL]; omega
  | x :: xs, h => by
    simp only [J.okL] at h
    have h1 := J.low_big x h.1
    have h2 := J.lowL_big xs h.2
    simp only [J.lowL, J.stepsL, M30] at *
    omega
end
abbrev M60 : Int := 1000000000000000000000000000000000000000000000000000000000000
theorem J.net_60 (j : J) (h : j.ok) : -M60 ≤ j.net ∧ j.net ≤ M60 := by
  have h1 := J.net_big j h
  have h2 := J.steps_le j h
  simp only [M30, M60] at *
  omega
theorem J.low_60 (j : J) (h : j.ok) : -M60 ≤ j.low ∧ j.low ≤ 0 := by
  have h1 := J.low_big j h
  have h2 := J.steps_le j h
  have h3 := (J.low_le j h).1
  simp only [M30, M60] at *
  omega
/-! the mirror -/
mutual
def J.mir : J → J
  | .st i => .st (-i)
  | .ps false xs => .ps false (J.mirL xs).reverse
  | .ps true xs => .ps true (J.mirL xs)
  | .rn k n x => .rn k n x.mir
def J.mirL : List J → List J
  | [] => []
  | x :: xs => x.mir :: J.mirL xs
end
theorem J.mirL_eq : ∀ xs : List J, J.mirL xs = xs.map J.mir
  | [] => rfl
  | x :: xs => by rw [J.mirL, J.mirL_eq xs]; rfl
theorem J.mirL_rev (xs : List J) : J.mirL xs.reverse = (J.mirL xs).reverse := by rw [J.mirL_eq, J.mirL_eq, List.map_reverse]
mutual
theorem J.mir_mir : ∀ j : J, j.mir.mir = j
  | .st i => by simp [J.mir]
  | .ps false xs => by simp only [J.mir, J.mirL_rev, List.reverse_reverse, J.mirL_mirL xs]
  | .ps true xs => by simp only [J.mir, J.mirL_mirL xs]
  | .rn k n x => by simp only [J.mir, J.mir_mir x]
theorem J.mirL_mirL : ∀ xs : List J, J.mirL (J.mirL xs) = xs
  | [] => rfl
  | x :: xs => by simp only [J.mirL, J.mir_mir x, J.mirL_mirL xs]
end
theorem J.nodesL_rev (xs : List J) : J.nodesL xs.reverse = J.nodesL xs := by
  induction xs with
  | nil => rfl
  | cons x xs ih =>
    have app : ∀ xs ys : List J, J.nodesL (xs ++ ys) = J.nodesL xs + J.nodesL ys := by
      intro xs ys
      induction xs with
      | nil => simp [J.nodesL]
      | cons a l ih => simp only [List.cons_append, J.nodesL, ih]; omega
    rw [List.reverse_cons, app, ih]
    simp only [J.nodesL]
    omega
theorem J.stepsL_app (xs ys : List J) : J.stepsL (xs ++ ys) = J.stepsL xs + J.stepsL ys := by
  induction xs with
  | nil => simp [J.stepsL]
  | cons a l ih => simp only [List.cons_append, J.stepsL, ih]; omega
theorem J.stepsL_rev (xs : List J) : J.stepsL xs.reverse = J.stepsL xs := by
  induction xs with
  | nil => rfl
  | cons x xs ih =>
    rw [List.reverse_cons, J.stepsL_app, ih]
    simp only [J.stepsL]
    omega
theorem J.netL_app (xs ys : List J) : J.netL (xs ++ ys) = J.netL xs + J.netL ys := by
  induction xs with
  | nil => simp [J.netL]
  | cons a l ih => simp only [List.cons_append, J.netL, ih]; omega
theorem J.netL_rev (xs : List J) : J.netL xs.reverse = J.netL xs := by
  induction xs with
  | nil => rfl
  | cons x xs ih =>
    rw [List.reverse_cons, J.netL_app, ih]
    simp only [J.netL]
    omega
theorem J.deepL_rev (xs : List J) : J.deepL xs.reverse = J.deepL xs := by
  induction xs with
  | nil => rfl
  | cons x xs ih =>
    have app : ∀ xs ys : List J, J.deepL (xs ++ ys) = max (J.deepL xs) (J.deepL ys) := by
      intro xs ys
      induction xs with
      | nil => simp [J.deepL]
      | cons a l ih => simp only [List.cons_append, J.deepL, ih]; omega
    rw [List.reverse_cons, app, ih]
    simp only [J.deepL]
    omega
theorem J.okL_iff : ∀ xs : List J, J.okL xs ↔ ∀ x ∈ xs, x.ok
  | [] => by simp [J.okL]
  | x :: xs => by simp only [J.okL, J.okL_iff xs, List.forall_mem_cons]
theorem J.okL_rev (xs : List J) : J.okL xs.reverse ↔ J.okL xs := by
  rw [J.okL_iff, J.okL_iff]
  simp
theorem J.mirL_len (xs : List J) : (J.mirL xs).length = xs.length := by rw [J.mirL_eq, List.length_map]
mutual
theorem J.mir_same : ∀ j : J, j.mir.nodes = j.nodes ∧ j.mir.steps = j.steps ∧ j.mir.deep = j.deep ∧ j.mir.net = -j.net ∧ (j.ok → j.mir.ok)
  | .st i => by
    simp only [J.mir, J.nodes, J.steps, J.deep, J.net, J.ok, true_and]
    omega
  | .ps false xs => by
    obtain ⟨h1, h2, h3, h4, h5⟩ := J.mirL_same xs
    simp only [J.mir, J.nodes, J.steps, J.deep, J.net, J.ok, J.nodesL_rev, J.stepsL_rev, J.deepL_rev, J.netL_rev, J.okL_rev, List.length_reverse, J.mirL_len, h1, h2, h3, h4, true_and]
    exact fun z => ⟨z.1, h5 z.2.1, z.2.2⟩
  | .ps true xs => by
    obtain ⟨h1, h2, h3, h4, h5⟩ := J.mirL_same xs
    simp only [J.mir, J.nodes, J.steps, J.deep, J.net, J.ok, J.mirL_len, h1, h2, h3, h4, true_and]
    exact fun z => ⟨z.1, h5 z.2.1, z.2.2⟩
  | .rn k n x => by
    obtain ⟨h1, h2, h3, h4, h5⟩ := J.mir_same x
    simp only [J.mir, J.nodes, J.steps, J.deep, J.net, J.ok, h1, h2, h3, h4, true_and, Int.mul_neg]
    exact fun z => ⟨z.1, h5 z.2.1, z.2.2⟩
theorem J.mirL_same : ∀ xs : List J, J.nodesL (J.mirL xs) = J.nodesL xs ∧ J.stepsL (J.mirL xs) = J.stepsL xs ∧ J.deepL (J.mirL xs) = J.deepL xs ∧ J.netL (J.mirL xs) = -J.netL xs ∧ (J.okL xs → J.okL (J.mirL xs))
  | [] => by simp [J.mirL, J.nodesL, J.stepsL, J.deepL, J.netL, J.okL]
  | x :: xs => by
    obtain ⟨h1, h2, h3, h4, h5⟩ := J.mir_same x
    obtain ⟨k1, k2, k3, k4, k5⟩ := J.mirL_same xs
    simp only [J.mirL, J.nodesL, J.stepsL, J.deepL, J.netL, J.okL, h1, h2, h3, h4, k1, k2, k3, k4, true_and]
    refine ⟨by omega, fun z => ⟨h5 z.1, k5 z.2⟩⟩
end
theorem J.lowS_app (xs : List J) (y : J) (hy : y.ok) (hx : J.okL xs) : J.lowS (xs ++ [y]) = min (J.lowS xs) (J.netL xs + y.low) := by
  induction xs with
  | nil =>
    have := J.low_le y hy
    simp only [List.nil_append, J.lowS, J.netL]
    omega
  | cons x xs ih =>
    simp only [J.okL] at hx
    simp only [List.cons_append, J.lowS, J.netL, ih hx.2]
    omega
mutual
theorem J.mir_low : ∀ j : J, j.ok → j.mir.low = j.low - j.net
  | .st i, _ => by simp only [J.mir, J.low, J.net]; omega
  | .ps false xs, h => by
    simp only [J.ok] at h
    simp only [J.mir, J.low, J.net]
    exact J.mirL_lowS xs h.2.1
  | .ps true xs, h => by
    simp only [J.ok] at h
    simp only [J.mir, J.low, J.net]
    exact J.mirL_lowL xs h.2.1
  | .rn true n x, h => by
    simp only [J.ok] at h
    simp only [J.mir, J.low, J.net, J.mir_low x h.2.1, Int.mul_sub]
  | .rn false n x, h => by
    simp only [J.ok] at h
    obtain ⟨_, _, _, hn, _⟩ := J.mir_same x
    simp only [J.mir, J.low, J.net, J.mir_low x h.2.1, hn]
    split
    · rename_i e
      subst e
      omega
    · have e : min 0 (-x.net) = min 0 x.net - x.net := by omega
      have e1 : (n - 1) * (min 0 x.net - x.net) = (n - 1) * min 0 x.net - (n - 1) * x.net := Int.mul_sub _ _ _
      have e2 : (n - 1) * x.net = n * x.net - x.net := by rw [Int.sub_mul, Int.one_mul]
      rw [e, e1]
      omega
theorem J.mirL_lowS : ∀ xs : List J, J.okL xs → J.lowS (J.mirL xs).reverse = J.lowS xs - J.netL xs
  | [], _ => by simp only [J.mirL, List.reverse_nil, J.lowS, J.netL]; omega
  | x :: xs, h => by
    simp only [J.okL] at h
    obtain ⟨_, _, _, _, ho⟩ := J.mir_same x
    obtain ⟨_, _, _, hn, hos⟩ := J.mirL_same xs
    simp only [J.mirL, List.reverse_cons]
    rw [J.lowS_app _ _ (ho h.1) ((J.okL_rev _).mpr (hos h.2)), J.mirL_lowS xs h.2, J.mir_low x h.1, J.netL_rev, hn]
    simp only [J.lowS, J.netL]
    omega
theorem J.mirL_lowL : ∀ xs : List J, J.okL xs → J.lowL (J.mirL xs) = J.lowL xs - J.netL xs
  | [], _ => by simp only [J.mirL, J.lowL, J.netL]; omega
  | x :: xs, h => by
    simp only [J.okL] at h
    simp only [J.mirL, J.lowL, J.netL, J.mirL_lowL xs h.2, J.mir_low x h.1]
    omega
end
/-! a job's data at hand -/
theorem ps_inv {K : PySem.W.Frag} {H : Hp} {v : V} {k : Bool} {xs : List J} (h : Dp K H v (J.ps k xs).toD) : ∃ a b vs, v = .ref a ∧ SqT K H a [.str (kwP k), .ref b] ∧ SqT K H b vs ∧ DpAll K H vs (J.toDs xs) := by
  rw [J.toD] at h
  obtain ⟨a, ys, rfl, hys, hall⟩ := dp_tup_inv h
  cases hall with
  | cons e1 hall =>
    obtain rfl := dp_str_inv e1
    cases hall with
    | cons e2 hall =>
      cases hall
      obtain ⟨b, vs, rfl, hvs, hall2⟩ := dp_tup_inv e2
      exact ⟨a, b, vs, rfl, hys, hvs, hall2⟩
theorem rn_inv {K : PySem.W.Frag} {H : Hp} {v : V} {k : Bool} {n : Int} {x : J} (h : Dp K H v (J.rn k n x).toD) : ∃ a w, v = .ref a ∧ SqT K H a [.str (kwR k), .int n, w] ∧ Dp K H w x.toD := by
  rw [J.toD] at h
  obtain ⟨a, ys, rfl, hys, hall⟩ := dp_tup_inv h
  cases hall with
  | cons e1 hall =>
    obtain rfl := dp_str_inv e1
    cases hall with
    | cons e2 hall =>
      obtain rfl := dp_int_inv e2
      cases hall with
      | cons e3 hall =>
        cases hall
        exact ⟨a, _, rfl, hys, e3⟩
theorem parts_at {K : PySem.W.Frag} {H : Hp} {xs : List J} {vs : List V} {i : Nat} {x : V} (hall : DpAll K H vs (J.toDs xs)) (hi : vs[i]? = some x) : ∃ j, xs[i]? = some j ∧ j ∈ xs ∧ Dp K H x j.toD := by
  obtain ⟨d, ed, hd⟩ := dpAll_get hall hi
  rw [J.toDs_eq, List.getElem?_map] at ed
  cases e : xs[i]? with
  | none =>
    rw [e] at ed
    cases ed
  | some j =>
    rw [e] at ed
    obtain rfl := (Option.some.inj ed).symm
    exact ⟨j, rfl, List.mem_of_getElem? e, hd⟩
theorem parts_len {K : PySem.W.Frag} {H : Hp} {xs : List J} {vs : List V} (hall : DpAll K H vs (J.toDs xs)) : vs.length = xs.length := by
  rw [dpAll_length hall, J.toDs_eq, List.length_map]
theorem deep_mem : ∀ {l : List J} {y : J}, y ∈ l → y.deep ≤ J.deepL l
  | z :: r, y, h => by
    simp only [J.deepL]
    rcases List.mem_cons.mp h with rfl | h
    · omega
    · have := deep_mem h
      omega
theorem ok_mem {l : List J} {y : J} (o : J.okL l) (h : y ∈ l) : y.ok := (J.okL_iff l).mp o y h
theorem take_step {α β : Type} {xs : List α} {i : Nat} {j : α} (f : α → β) (e : xs[i]? = some j) : (xs.take (i + 1)).map f = (xs.take i).map f ++ [f j] := by
  rw [List.take_add_one, e, List.map_append]
  rfl
/-! words -/
theorem w_in_parts (k : Bool) : inV (.str (kwP k)) [.str "seq", .str "par"] = true := by cases k <;> decide +kernel
theorem w_in_parts_no (k : Bool) : inV (.str (kwR k)) [.str "seq", .str "par"] = false := by cases k <;> decide +kernel
theorem w_in_rounds (k : Bool) : inV (.str (kwR k)) [.str "repeat", .str "copies"] = true := by cases k <;> decide +kernel
theorem w_in_rounds_no (k : Bool) : inV (.str (kwP k)) [.str "repeat", .str "copies"] = false := by cases k <;> decide +kernel
theorem w_seq (k : Bool) : decide (V.str (kwP k) = V.str "seq") = !k := by cases k <;> decide +kernel
theorem w_par (k : Bool) : decide (V.str (kwP k) = V.str "par") = k := by cases k <;> decide +kernel
theorem w_seq_no (k : Bool) : decide (V.str (kwR k) = V.str "seq") = false := by cases k <;> decide +kernel
theorem w_par_no (k : Bool) : decide (V.str (kwR k) = V.str "par") = false := by cases k <;> decide +kernel
theorem w_copies (k : Bool) : decide (V.str (kwR k) = V.str "copies") = k := by cases k <;> decide +kernel
theorem w_dec_int {a b : Int} : decide (V.int a = V.int b) = decide (a = b) := by
  by_cases h : a = b
  · subst h
    simp
  · rw [decide_eq_false h, decide_eq_false (fun z => h (V.int.inj z))]
/-! the data of a job: fine to be shown, comparable -/
theorem kwP_fine (k : Bool) : fine (.str (kwP k)) := by cases k <;> (simp only [fine]; decide +kernel)
theorem kwR_fine (k : Bool) : fine (.str (kwR k)) := by cases k <;> (simp only [fine]; decide +kernel)
theorem kwP_bulk (k : Bool) : (PyData.str (kwP k)).bulk ≤ 10 := by cases k <;> (simp only [PyData.bulk]; decide +kernel)
theorem kwR_bulk (k : Bool) : (PyData.str (kwR k)).bulk ≤ 10 := by cases k <;> (simp only [PyData.bulk]; decide +kernel)
theorem lt180 {i : Int} (h0 : -M60 ≤ i) (h : i ≤ M60) : i.natAbs < 10 ^ 180 := by
  simp only [M60] at h0 h
  exact Nat.lt_of_le_of_lt (show i.natAbs ≤ 1000000000000000000000000000000000000000000000000000000000000 by omega) (by decide +kernel)
mutual
theorem J.fine : ∀ j : J, j.ok → fine j.toD
  | .st i, h => by
    simp only [J.ok, M30] at h
    simp only [J.toD, Rp.fine]
    exact lt180 (by simp only [M60]; omega) (by simp only [M60]; omega)
  | .ps k xs, h => by
    simp only [J.ok] at h
    have h1 := J.fines xs h.2.1
    have h2 := kwP_fine k
    simp only [J.toD, Rp.fine, fines] at *
    exact ⟨h2, h1, trivial⟩
  | .rn k n x, h => by
    simp only [J.ok, M30] at h
    have h1 := J.fine x h.2.1
    have h2 := kwR_fine k
    simp only [J.toD, Rp.fine, fines] at *
    exact ⟨h2, lt180 (by simp only [M60]; omega) (by simp only [M60]; omega), h1, trivial⟩
theorem J.fines : ∀ xs : List J, J.okL xs → fines (J.toDs xs)
  | [], _ => by simp [J.toDs, Rp.fines]
  | x :: xs, h => by
    simp only [J.okL] at h
    simp only [J.toDs, Rp.fines]
    exact ⟨J.fine x h.1, J.fines xs h.2⟩
end
mutual
theorem J.bulk : ∀ j : J, (j.toD.bulk : Int) ≤ 20 * j.nodes - 5
  | .st i => by simp only [J.toD, PyData.bulk, J.nodes]; omega
  | .ps k xs => by
    have h1 := J.bulks xs
    have h2 := kwP_bulk k
    simp only [J.toD, PyData.bulk, PyData.bulkAll, J.nodes] at *
    omega
  | .rn k n x => by
    have h1 := J.bulk x
    have h2 := kwR_bulk k
    simp only [J.toD, PyData.bulk, PyData.bulkAll, J.nodes] at *
    omega
theorem J.bulks : ∀ xs : List J, (PyData.bulkAll (J.toDs xs) : Int) ≤ 20 * J.nodesL xs
  | [] => by simp [J.toDs, PyData.bulkAll, J.nodesL]
  | x :: xs => by
    have h1 := J.bulk x
    have h2 := J.bulks xs
    simp only [J.toDs, PyData.bulkAll, J.nodesL, List.length_cons] at *
    omega
end
mutual
theorem J.depth : ∀ j : J, j.toD.depth ≤ 2 * j.deep
  | .st i => by simp [J.toD, PyData.depth]
  | .ps k xs => by
    have h1 := J.depths xs
    simp only [J.toD, PyData.depth, PyData.depthAll, J.deep]
    omega
  | .rn k n x => by
    have h1 := J.depth x
    simp only [J.toD, PyData.depth, PyData.depthAll, J.deep]
    omega
theorem J.depths : ∀ xs : List J, PyData.depthAll (J.toDs xs) ≤ 2 * J.deepL xs
  | [] => by simp [J.toDs, PyData.depthAll, J.deepL]
  | x :: xs => by
    have h1 := J.depth x
    have h2 := J.depths xs
    simp only [J.toDs, PyData.depthAll, J.deepL]
    omega
end
theorem kwP_strOk (k : Bool) : PyData.canLay0 (.str (kwP k)) = true := by cases k <;> (simp only [PyData.canLay0]; decide +kernel)
theorem kwR_strOk (k : Bool) : PyData.canLay0 (.str (kwR k)) = true := by cases k <;> (simp only [PyData.canLay0]; decide +kernel)
mutual
theorem J.canLay : ∀ j : J, j.toD.canLay0 = true
  | .st i => by simp [J.toD, PyData.canLay0]
  | .ps k xs => by
    have h1 := J.canLays xs
    have h2 := kwP_strOk k
    simp only [J.toD, PyData.canLay0, PyData.canLayAll0, h1, Bool.and_true, Bool.true_and] at *
    exact h2
  | .rn k n x => by
    have h1 := J.canLay x
    have h2 := kwR_strOk k
    simp only [J.toD, PyData.canLay0, PyData.canLayAll0, h1, Bool.and_true, Bool.true_and] at *
    exact h2
theorem J.canLays : ∀ xs : List J, PyData.canLayAll0 (J.toDs xs) = true
  | [] => rfl
  | x :: xs => by
    have h1 := J.canLay x
    have h2 := J.canLays xs
    simp only [J.toDs, PyData.canLayAll0, h1, h2, Bool.and_self]
end
theorem J.shaped (j : J) (h : j.deep ≤ 30) : SeqAt.shaped j.toD = true := by
  have h1 := J.canLay j
  have h2 := J.depth j
  unfold SeqAt.shaped
  rw [h1, decide_eq_true (by omega)]
  rfl
theorem J.eqv (j : J) : PyData.eqv j.toD j.toD = true := SeqAt.eqv_refl _ (J.canLay j)
end Lw
/-! Rq: data of any kind (lists that nobody changes, dicts), beside a pot at p: isinstance, in, repr. -/
namespace Rp
open PySem L2 PyProof.Rows

theorem str_eq_dict (b : Str) (u : Tok) (a : Addr) : Meets (Builtin.«str.__eq__» { pos := [Value.str b u, Value.ref a] }) fun _ R s => (∃ o es n, s.heap.get? a = some o ∧ o.data = Data.dict es n) ∧ R (.ok (.ret Value.notImplemented)) s := by
  rintro prog w A R s ⟨⟨o, es, n, h, hd⟩, q⟩
  have e : Builtin.«str.__eq__» { pos := [Value.str b u, Value.ref a] } = (do
      let o ← asStr? (Value.ref a)
      match o with
      | some o => ret (Value.bool (b.cps.toList == o.cps.toList))
      | none => do
          rule (toString "str." ++ toString "__eq__" ++ toString ".not-a-str")
          ret Value.notImplemented) := rfl
  rw [e]
  refine wpAny_bind ?_
  unfold asStr?
  refine wpAny_bind (wpAny_load h ?_)
  rw [hd]
  refine wpAny_pure ?_
  refine wpAny_bind (wpAny_rule ?_)
  exact wpAny_pure q
theorem dict_eq_str (b : Str) (u : Tok) (a : Addr) : Meets (Builtin.«dict.__eq__» { pos := [Value.ref a, Value.str b u] }) fun _ R s => R (.ok (.ret Value.notImplemented)) s := by
  rintro prog w A R s q
  have e : Builtin.«dict.__eq__» { pos := [Value.ref a, Value.str b u] } = (do
      let x ← isInstance (Value.str b u) (Value.type "dict")
      if (!x) = true then do
          rule (toString "dict." ++ toString "__eq__" ++ toString ".not-a-dict")
          ret Value.notImplemented
        else do
          let p ← Builtin.Dict.addrOf (Value.ref a)
          let q ← Builtin.Dict.addrOf (Value.str b u)
          let z ← Builtin.Dict.samePairs (toString "dict." ++ toString "__eq__") p q
          ret (Value.bool (z == true))) := rfl
  rw [e]
  refine wpAny_bind (wpAny_isInstance_val (b := false) (T := "str") rfl (by rfl) ?_)
  refine wpAny_bind (wpAny_rule ?_)
  exact wpAny_pure q
theorem rc_str_dict {A : Around} {s : Shared} {a : Addr} {o : Obj} {es : Array DictEntry} {n : Nat} (b : Str) (u : Tok) (h : s.heap.get? a = some o) (hc : o.cls = .type "dict") (hd : o.data = .dict es n) (room : A.units < cLine) : SeqAt.RcAt A s (.str b u) (.ref a) false := by
  intro prog w E Q q
  have ta : s.TypeIs (.str b u) "str" := by rfl
  have tb : s.TypeIs (.ref a) "dict" := ⟨o, h, hc⟩
  have e1 : ∀ Q' : Value → Shared → Prop, Q' Value.notImplemented s → wpAny (model prog w) A (call (Value.builtin "str.__eq__") [.str b u, .ref a]) Q' E s := fun Q' z =>
    call_meets PyProof.Rows.slot_str_eq ta F.entry_str_eq (F.args_str_eq_2 _ _) (str_eq_dict b u a) ⟨⟨o, es, n, h, hd⟩, z⟩
  have e2 : ∀ Q' : Value → Shared → Prop, Q' Value.notImplemented s → wpAny (model prog w) A (call (Value.builtin "dict.__eq__") [.ref a, .str b u]) Q' E s := fun Q' z =>
    call_meets F.slot_dict_eq tb F.entry_dict_eq (F.args_dict_eq_2 _ _) (dict_eq_str b u a) z
  exact SeqAt.rc_eq_decline_or (Ta := "str") (Tb := "dict") (k := false) ta tb (by decide) (by rfl) PyProof.Rows.slot_str_eq F.slot_dict_eq_refl e1 e2 (fun Q' z => wpAny_pure z) (.inr room) q
theorem eq_str_dict {A : Around} {s : Shared} {a : Addr} {o : Obj} {es : Array DictEntry} {n : Nat} (b : Str) (u : Tok) (h : s.heap.get? a = some o) (hc : o.cls = .type "dict") (hd : o.data = .dict es n) (room : A.units < cLine) : SeqAt.EqAt A s (.str b u) (.ref a) false := by
  intro prog w E Q q
  unfold eqBool
  refine wpAny_holding ?_
  have e : (Value.str b u == Value.ref a) = false := rfl
  simp only [e, Bool.false_eq_true, if_false]
  refine wpAny_bind (rc_str_dict b u h hc hd room prog w E _ ?_)
  exact wpAny_truthy_bool q

mutual
inductive Dq (K : PySem.W.Frag) (p : Addr) (H : Hp) : V → PyData → Prop
  | non : Dq K p H .non .none
  | bl (b : Bool) : Dq K p H (.bl b) (.bool b)
  | int (i : Int) : Dq K p H (.int i) (.int i)
  | str (x : Str) : Dq K p H (.str x) (.str x)
  | lst {a : Addr} {xs : List V} {ds : List PyData} : a ≠ p → H a = some (.lst xs) → DqAll K p H xs ds → Dq K p H (.ref a) (.list ds)
  | tup {a : Addr} {xs : List V} {ds : List PyData} : SqT K H a xs → DqAll K p H xs ds → Dq K p H (.ref a) (.tuple ds)
  | dct {a : Addr} {kvs : List (Key × V)} {ds : List (PyData × PyData)} : a ≠ p → H a = some (.dK kvs) → (ds = [] → kvs = []) → Dq K p H (.ref a) (.dict ds)
inductive DqAll (K : PySem.W.Frag) (p : Addr) (H : Hp) : List V → List PyData → Prop
  | nil : DqAll K p H [] []
  | cons {v : V} {d : PyData} {vs : List V} {ds : List PyData} : Dq K p H v d → DqAll K p H vs ds → DqAll K p H (v :: vs) (d :: ds)
end
mutual
theorem dq_of {K : PySem.W.Frag} {p : Addr} {H : Hp} : ∀ {d : PyData} {v : V}, noL d = true → Dp K H v d → Dq K p H v d
  | .none, _, _, h => by cases h; exact .non
  | .bool _, _, _, h => by cases h; exact .bl _
  | .int _, _, _, h => by cases h; exact .int _
  | .str _, _, _, h => by cases h; exact .str _
  | .list _, _, n, _ => by simp [noL] at n
  | .tuple ds, _, n, h => by
    cases h with
    | tup hs ha => exact .tup hs (dqAll_of (by simpa [noL] using n) ha)
  | .dict _, _, _, h => by cases h
theorem dqAll_of {K : PySem.W.Frag} {p : Addr} {H : Hp} : ∀ {ds : List PyData} {vs : List V}, noLs ds = true → DpAll K H vs ds → DqAll K p H vs ds
  | [], _, _, h => by cases h; exact .nil
  | d :: ds, _, n, h => by
    cases h with
    | cons h1 h2 =>
      have n' : noL d = true ∧ noLs ds = true := by simpa [noLs] using n
      exact .cons (dq_of n'.1 h1) (dqAll_of n'.2 h2)
end
/-- what keeps such data: tuples, and all but p -/
structure Kp (K : PySem.W.Frag) (p : Addr) (H H' : Hp) : Prop where
  sx : Sx p H H'
  tp : ∀ a xs, SqT K H a xs → SqT K H' a xs
theorem Kp.refl {K : PySem.W.Frag} {p : Addr} {H : Hp} : Kp K p H H := ⟨Sx.refl, fun _ _ h => h⟩
theorem Kp.trans {K : PySem.W.Frag} {p : Addr} {H H1 H2 : Hp} (a : Kp K p H H1) (b : Kp K p H1 H2) : Kp K p H H2 := ⟨a.sx.trans b.sx, fun x xs h => b.tp x xs (a.tp x xs h)⟩
theorem Same.kp {K : PySem.W.Frag} {p : Addr} {H H' : Hp} (s : Same H H') : Kp K p H H' := ⟨Same.sx s, fun _ _ h => same_sqT s h⟩
theorem Sx.kp {K : PySem.W.Frag} {p : Addr} {H H' : Hp} {l : List V} (s : Sx p H H') (hp : H p = some (.lst l)) : Kp K p H H' := ⟨s, fun _ _ h => s.sqT hp h⟩
mutual
theorem Dq.keep {K : PySem.W.Frag} {p : Addr} {H H' : Hp} (s : Kp K p H H') : ∀ {d : PyData} {v : V}, Dq K p H v d → Dq K p H' v d
  | .none, _, h => by cases h; exact .non
  | .bool _, _, h => by cases h; exact .bl _
  | .int _, _, h => by cases h; exact .int _
  | .str _, _, h => by cases h; exact .str _
  | .list ds, _, h => by
    cases h with
    | lst n e ha => exact .lst n (s.sx _ _ n e) (DqAll.keep s ha)
  | .tuple ds, _, h => by
    cases h with
    | tup hs ha => exact .tup (s.tp _ _ hs) (DqAll.keep s ha)
  | .dict _, _, h => by
    cases h with
    | dct n e z => exact .dct n (s.sx _ _ n e) z
theorem DqAll.keep {K : PySem.W.Frag} {p : Addr} {H H' : Hp} (s : Kp K p H H') : ∀ {ds : List PyData} {vs : List V}, DqAll K p H vs ds → DqAll K p H' vs ds
  | [], _, h => by cases h; exact .nil
  | d :: ds, _, h => by
    cases h with
    | cons h1 h2 => exact .cons (Dq.keep s h1) (DqAll.keep s h2)
end
theorem dqAll_length {K : PySem.W.Frag} {p : Addr} {H : Hp} : ∀ {vs : List V} {ds : List PyData}, DqAll K p H vs ds → vs.length = ds.length
  | _, _, .nil => rfl
  | _, _, .cons _ h => congrArg (· + 1) (dqAll_length h)
theorem dqAll_get {K : PySem.W.Frag} {p : Addr} {H : Hp} : ∀ {vs : List V} {ds : List PyData} {i : Nat} {v : V}, DqAll K p H vs ds → vs[i]? = some v → ∃ d, ds[i]? = some d ∧ Dq K p H v d
  | _, _, _, _, .nil, e => by simp at e
  | _, _, 0, _, .cons h _, e => by
    simp at e
    subst e
    exact ⟨_, rfl, h⟩
  | _, _, i + 1, _, .cons _ t, e => by
    obtain ⟨d, e1, e2⟩ := dqAll_get (i := i) t (by simpa using e)
    exact ⟨d, by simpa using e1, e2⟩
theorem dqAll_append {K : PySem.W.Frag} {p : Addr} {H : Hp} : ∀ {vs ws : List V} {ds es : List PyData}, DqAll K p H vs ds → DqAll K p H ws es → DqAll K p H (vs ++ ws) (ds ++ es)
  | _, _, _, _, .nil, h => h
  | _, _, _, _, .cons h t, h' => .cons h (dqAll_append t h')
theorem dqAll_take {K : PySem.W.Frag} {p : Addr} {H : Hp} : ∀ (n : Nat) {vs : List V} {ds : List PyData}, DqAll K p H vs ds → DqAll K p H (vs.take n) (ds.take n)
  | 0, _, _, _ => by simpa using .nil
  | n + 1, _, _, .nil => by simpa using .nil
  | n + 1, _, _, .cons h t => by simpa using .cons h (dqAll_take n t)
theorem dqAll_drop {K : PySem.W.Frag} {p : Addr} {H : Hp} : ∀ (n : Nat) {vs : List V} {ds : List PyData}, DqAll K p H vs ds → DqAll K p H (vs.drop n) (ds.drop n)
  | 0, _, _, h => by simpa using h
  | n + 1, _, _, .nil => by simpa using .nil
  | n + 1, _, _, .cons h t => by simpa using dqAll_drop n t
theorem dq_int_inv {K : PySem.W.Frag} {p : Addr} {H : Hp} {v : V} {i : Int} (h : Dq K p H v (.int i)) : v = .int i := by cases h; rfl
theorem dq_str_inv {K : PySem.W.Frag} {p : Addr} {H : Hp} {v : V} {x : Str} (h : Dq K p H v (.str x)) : v = .str x := by cases h; rfl
theorem dq_bool_inv {K : PySem.W.Frag} {p : Addr} {H : Hp} {v : V} {b : Bool} (h : Dq K p H v (.bool b)) : v = .bl b := by cases h; rfl
theorem dq_tup_inv {K : PySem.W.Frag} {p : Addr} {H : Hp} {v : V} {ds : List PyData} (h : Dq K p H v (.tuple ds)) : ∃ a xs, v = .ref a ∧ SqT K H a xs ∧ DqAll K p H xs ds := by
  cases h with
  | tup h1 h2 => exact ⟨_, _, rfl, h1, h2⟩
theorem tupq {K : PySem.W.Frag} {p q : Addr} {H : Hp} {xs : List V} {ds : List PyData} (hq : H q = none) (h : DqAll K p H xs ds) : Same H (upd H q (.tup xs)) ∧ Dq K p (upd H q (.tup xs)) (.ref q) (.tuple ds) :=
  ⟨same_new hq, .tup (.inl (.inl upd_same)) (h.keep (Same.kp (same_new hq)))⟩
theorem lstq {K : PySem.W.Frag} {p q : Addr} {H : Hp} {xs : List V} {ds : List PyData} (n : q ≠ p) (hq : H q = none) (h : DqAll K p H xs ds) : Same H (upd H q (.lst xs)) ∧ Dq K p (upd H q (.lst xs)) (.ref q) (.list ds) :=
  ⟨same_new hq, .lst n upd_same (h.keep (Same.kp (same_new hq)))⟩

mutual
def noD : PyData → Bool
  | .list ds => noDs ds
  | .tuple ds => noDs ds
  | .dict _ => false
  | _ => true
def noDs : List PyData → Bool
  | [] => true
  | d :: ds => noD d && noDs ds
end
mutual
theorem Dq.dp {K : PySem.W.Frag} {p : Addr} {H : Hp} : ∀ {d : PyData} {v : V}, noD d = true → Dq K p H v d → Dp K H v d
  | .none, _, _, h => by cases h; exact .non
  | .bool _, _, _, h => by cases h; exact .bl _
  | .int _, _, _, h => by cases h; exact .int _
  | .str _, _, _, h => by cases h; exact .str _
  | .list ds, _, n, h => by
    cases h with
    | lst _ e ha => exact .lst (SqL.of e) (DqAll.dp (by simpa [noD] using n) ha)
  | .tuple ds, _, n, h => by
    cases h with
    | tup hs ha => exact .tup hs (DqAll.dp (by simpa [noD] using n) ha)
  | .dict _, _, n, _ => by simp [noD] at n
theorem DqAll.dp {K : PySem.W.Frag} {p : Addr} {H : Hp} : ∀ {ds : List PyData} {vs : List V}, noDs ds = true → DqAll K p H vs ds → DpAll K H vs ds
  | [], _, _, h => by cases h; exact .nil
  | d :: ds, _, n, h => by
    cases h with
    | cons h1 h2 =>
      have n' : noD d = true ∧ noDs ds = true := by simpa [noDs] using n
      exact .cons (Dq.dp n'.1 h1) (DqAll.dp n'.2 h2)
end
theorem dq_ty {K : PySem.W.Frag} {p : Addr} {H : Hp} {v : V} {d : PyData} (h : Dq K p H v d) : TyX K H v (.type (tyN d)) := by
  cases h with
  | non => exact .base .non
  | bl b => exact .base (.bl b)
  | int i => exact .base (.int i)
  | str x => exact .base (.str x)
  | lst n hs ha => exact .base (.lst hs)
  | tup hs ha =>
    rcases hs with (e | ⟨o, e⟩) | ⟨o, its, n, hk, hc, _⟩
    · exact .base (.tup e)
    · exact .fTuple e
    · exact .kTuple hk hc
  | dct n e z => exact .base (.dK e)
section
variable {X : Cx}
def rIsQ (K : PySem.W.Frag) : List V → Hp → VK → Prop := fun xs H Q => ∃ (v : V) (n : String) (p : Addr) (d : PyData) (b : Bool), xs = [v, .ty n] ∧ Dq K p H v d ∧ kitB (tyN d) n = some b ∧ Q (.bl b) H
theorem call_isQ : CallR X (.builtin "isinstance") (rIsQ X.K) := by
  intro pins s σ H xs us Q I r h
  obtain ⟨v, n, p, d, b, e, hd, hk, q⟩ := h
  exact call_isi pins s σ H xs us Q I r ⟨v, .ty n, _, _, _, e, .ty n, dq_ty hd, kit_ty hk, q⟩
/-- is the data one of these texts -/
def inS (d : PyData) (ss : List Str) : Bool := match d with
  | .str x => ss.any (· == x)
  | _ => false
theorem isTuple_of {pins : List (Addr × Obj)} {σ : L2.St} {H : Hp} {s : Shared} {a : Addr} {xs : List V} (I : Inv X pins σ H s) (h : SqT X.K H a xs) : ∃ its : Array Value, Vals xs its.toList ∧ s.heap.IsTuple a its := by
  rcases h with h | ⟨o, its, n, hk, hc, hd, hz, hv⟩
  · obtain ⟨_, its, hv, ht⟩ := h.ok I.hok
    exact ⟨its.toArray, by simpa using hv, ht⟩
  · exact ⟨its, hv, o, I.kIn _ _ hk, hc, n, hd⟩
theorem vals_strs : ∀ {ss : List Str} {us : List Value}, Vals (ss.map V.str) us → ∃ ts : List (Str × Tok), us = ts.map (fun z => .str z.1 z.2) ∧ ts.map (·.1) = ss
  | [], us, h => by
    generalize e : ([] : List Str).map V.str = vs at h
    cases h with
    | nil => exact ⟨[], rfl, rfl⟩
    | cons r h => cases e
  | x :: ss, us, h => by
    generalize e : (x :: ss).map V.str = vs at h
    cases h with
    | nil => cases e
    | cons r h =>
      obtain ⟨rfl, rfl⟩ := List.cons.inj e
      obtain ⟨ts, rfl, rfl⟩ := vals_strs h
      obtain ⟨t, rfl⟩ := r
      exact ⟨(x, t) :: ts, rfl, rfl⟩
def rInQ (K : PySem.W.Frag) : R2 := fun x y H Q => ∃ (p a : Addr) (ss : List Str) (d : PyData), y = .ref a ∧ SqT K H a (ss.map V.str) ∧ Dq K p H x d ∧ Q (.bl (inS d ss)) H
theorem op_inQ (hu : X.A.units + 66 < cLine) : OpR X (compareOp .In) (rInQ X.K) := by
  rintro pins s σ H x y v u Q I rv ru ⟨p, a, ss, d, rfl, ht, hd, q⟩
  obtain rfl : u = .ref a := ru
  obtain ⟨its, hv, hit⟩ := isTuple_of I ht
  obtain ⟨ts, e1, e2⟩ := vals_strs hv
  have room : X.A.in1.units < cLine := by
    show X.A.units + 1 < cLine
    omega
  refine SeqAt.in_tupleAt (fun y => match y with | .str w _ => inS d [w] | _ => false) hit (fun y hy => ?_) ?_
  · have hy' : y ∈ its.toList := by simpa using hy
    rw [e1] at hy'
    obtain ⟨⟨w, t⟩, _, rfl⟩ := List.mem_map.mp hy'
    show SeqAt.EqAt X.A.in1 s (.str w t) v (inS d [w])
    cases hd with
    | non =>
      obtain rfl : v = .none := rv
      exact SeqAt.EqAt.str_none _ _
    | bl b =>
      obtain rfl : v = .bool b := rv
      exact SeqAt.EqAt.str_bool _ _ _
    | int i =>
      obtain ⟨t', rfl⟩ := rv
      exact SeqAt.EqAt.str_int _ _ _ _
    | str x =>
      obtain ⟨t', rfl⟩ := rv
      have e : inS (.str x) [w] = (w == x) := by simp [inS]
      rw [e]
      exact SeqAt.EqAt.str_str _ _ _ _
    | lst n e ha =>
      rename_i l xs ds
      obtain rfl : v = .ref l := rv
      obtain ⟨_, its', n', hv', ho⟩ := I.hok _ _ e
      exact SeqAt.EqAt.str_list (items := its'.toArray) _ _ ⟨_, ho, rfl, n', rfl⟩ room
    | tup hs ha =>
      rename_i l xs ds
      obtain rfl : v = .ref l := rv
      obtain ⟨its', hv', ho⟩ := isTuple_of I hs
      exact SeqAt.EqAt.str_tuple (items := its') _ _ ho room
    | dct n e z =>
      rename_i l kvs ds
      obtain rfl : v = .ref l := rv
      obtain ⟨_, _, vs, _, o, es, ep, h1, h2, h3, _⟩ := I.hok _ _ e
      exact eq_str_dict _ _ h1 h2.1 h3 room
  · refine ⟨.bl (inS d ss), H, I, ?_, q⟩
    show Value.bool _ = Value.bool _
    congr 1
    rw [← Array.any_toList, e1, ← e2, List.any_map]
    cases d <;> simp [inS, Function.comp_def]

mutual
/-- data whose text is made without trouble: only empty dicts -/
def fineQ : PyData → Prop
  | .int i => i.natAbs < 10 ^ 180
  | .str x => (x.cps.toList.all fun c => decide (c < 16 ^ 8)) = true
  | .list xs => finesQ xs
  | .tuple xs => finesQ xs
  | .dict ds => ds = []
  | _ => True
def finesQ : List PyData → Prop
  | [] => True
  | x :: xs => fineQ x ∧ finesQ xs
end
mutual
theorem fineQ_ok : ∀ d : PyData, fineQ d → d.showable = true ∧ d.leavesShort 200 = true
  | .none, _ => by simp [PyData.showable, PyData.leavesShort]
  | .bool _, _ => by simp [PyData.showable, PyData.leavesShort]
  | .int i, h => by
    simp only [fineQ] at h
    simp only [PyData.showable, PyData.leavesShort, decide_eq_true_eq]
    exact ⟨int_log h, shown_int h⟩
  | .str x, h => by
    simp only [fineQ] at h
    simp only [PyData.showable, PyData.leavesShort, true_and]
    exact h
  | .list xs, h => by
    simp only [fineQ] at h
    simp only [PyData.showable, PyData.leavesShort]
    exact finesQ_ok xs h
  | .tuple xs, h => by
    simp only [fineQ] at h
    simp only [PyData.showable, PyData.leavesShort]
    exact finesQ_ok xs h
  | .dict ds, h => by
    simp only [fineQ] at h
    subst h
    simp [PyData.showable, PyData.showableKv, PyData.leavesShort, PyData.leavesShortKv]
theorem finesQ_ok : ∀ xs : List PyData, finesQ xs → PyData.showableAll xs = true ∧ PyData.leavesShortAll 200 xs = true
  | [], _ => by simp [PyData.showableAll, PyData.leavesShortAll]
  | x :: xs, h => by
    simp only [finesQ] at h
    obtain ⟨a1, a2⟩ := fineQ_ok x h.1
    obtain ⟨b1, b2⟩ := finesQ_ok xs h.2
    simp only [PyData.showableAll, PyData.leavesShortAll, a1, a2, b1, b2, Bool.and_self, and_self]
end
mutual
theorem Dq.reads {p : Addr} {pins : List (Addr × Obj)} {σ : L2.St} {H : Hp} {s : Shared} (I : Inv X pins σ H s) (hs : H sysModules = none) : ∀ (d : PyData) (v : V) (u : Value), fineQ d → Dq X.K p H v d → RelV v u → ∃ as, Reads s.heap u d as ∧ sysModules ∉ as
  | .none, _, u, _, h, r => by
    cases h
    obtain rfl : u = .none := r
    exact ⟨_, .none, by simp⟩
  | .bool b, _, u, _, h, r => by
    cases h
    obtain rfl : u = .bool b := r
    exact ⟨_, .bool b, by simp⟩
  | .int i, _, u, _, h, r => by
    cases h
    obtain ⟨t, rfl⟩ := r
    exact ⟨_, .int i t, by simp⟩
  | .str x, _, u, _, h, r => by
    cases h
    obtain ⟨t, rfl⟩ := r
    exact ⟨_, .str x t, by simp⟩
  | .list ds, _, u, f, h, r => by
    cases h with
    | lst n e ha =>
      rename_i l xs
      obtain rfl : u = .ref l := r
      obtain ⟨_, its', n', hv', ho⟩ := I.hok _ _ e
      obtain ⟨as, ra, na⟩ := DqAll.reads I hs ds xs its' (by simpa only [fineQ] using f) ha hv'
      refine ⟨_, .list ho rfl rfl (by simpa using ra), ?_⟩
      intro z
      rcases List.mem_cons.mp z with z | z
      · rw [z, e] at hs
        cases hs
      · exact na z
  | .tuple ds, _, u, f, h, r => by
    cases h with
    | tup ht ha =>
      rename_i l xs
      obtain rfl : u = .ref l := r
      obtain ⟨its', hv', o, h1, h2, n, h3⟩ := isTuple_of I ht
      obtain ⟨as, ra, na⟩ := DqAll.reads I hs ds xs its'.toList (by simpa only [fineQ] using f) ha hv'
      exact ⟨_, .tuple h1 h2 h3 ra, na⟩
  | .dict ds, _, u, f, h, r => by
    cases h with
    | dct n e z =>
      rename_i l kvs
      obtain rfl : u = .ref l := r
      simp only [fineQ] at f
      subst f
      obtain rfl := z rfl
      obtain ⟨_, _, vs, kv, o, es, ep, h1, h2, h3, _, h4, _⟩ := I.hok _ _ e
      generalize ek : ([] : List (Key × V)) = kk at kv
      cases kv with
      | cons _ _ => cases ek
      | nil =>
        generalize ee : es.toList = el at h4
        cases h4
        have e0 : es = #[] := by
          apply Array.ext'
          simpa using ee
        subst e0
        refine ⟨_, .dict (as := []) (bs := []) h1 h2.1 h3 (by simpa using .nil) (by simpa using .nil), ?_⟩
        intro y
        have y' : sysModules = l := by simpa using y
        rw [y', e] at hs
        cases hs
theorem DqAll.reads {p : Addr} {pins : List (Addr × Obj)} {σ : L2.St} {H : Hp} {s : Shared} (I : Inv X pins σ H s) (hs : H sysModules = none) : ∀ (ds : List PyData) (vs : List V) (us : List Value), finesQ ds → DqAll X.K p H vs ds → Vals vs us → ∃ as, ReadsAll s.heap us ds as ∧ sysModules ∉ as
  | [], _, us, _, h, r => by
    cases h
    generalize e : ([] : List V) = l at r
    cases r with
    | nil => exact ⟨_, .nil, by simp⟩
    | cons _ _ => cases e
  | d :: ds, _, us, f, h, r => by
    cases h with
    | cons h1 h2 =>
      rename_i v vs
      generalize e : v :: vs = l at r
      cases r with
      | nil => cases e
      | cons r1 r2 =>
        obtain ⟨rfl, rfl⟩ := List.cons.inj e
        simp only [finesQ] at f
        obtain ⟨as, ra, na⟩ := Dq.reads I hs d _ _ f.1 h1 r1
        obtain ⟨bs, rb, nb⟩ := DqAll.reads I hs ds _ _ f.2 h2 r2
        exact ⟨_, .cons ra rb, by simp [na, nb]⟩
end
/-- the written part holds the table of modules -/
def Sys (base : Heap) : Prop := ∃ o, base.get? sysModules = some o
theorem Inv.nosys {pins : List (Addr × Obj)} {σ : L2.St} {H : Hp} {s : Shared} (I : Inv X pins σ H s) (hb : Sys X.base) : H sysModules = none := by
  obtain ⟨o, hb⟩ := hb
  obtain ⟨h1, h2⟩ := I.ok.bs _ _ hb
  exact I.base.free _ _ h1 h2 (I.ok.noex _ _ hb)
def rReprQ (K : PySem.W.Frag) : List V → Hp → VK → Prop := fun xs H Q => ∃ (p : Addr) (v : V) (d : PyData), xs = [v] ∧ Dq K p H v d ∧ fineQ d ∧ d.depth ≤ 64 ∧ d.bulk ≤ 80000 ∧ Q (.str d.shown) H
theorem call_reprQ (hb : Sys X.base) (hg : X.A.guards = some []) (hu : X.A.units + 66 < cLine) : CallR X (.builtin "repr") (rReprQ X.K) := by
  intro pins s σ H xs us Q I r h
  obtain ⟨p, v, d, rfl, hd, hf, hdep, hw, q⟩ := h
  obtain ⟨hs, hl⟩ := fineQ_ok d hf
  have hz : d.shown.length ≤ sizeLine := by
    have := PyData.shown_le_bulk 200 (by decide) d hl
    rw [sizeLine_eq]
    omega
  obtain ⟨u, rfl, ru⟩ := vals1 r
  obtain ⟨as, hr, hsm⟩ := Dq.reads I (Inv.nosys I hb) d v u hf hd ru
  cases hr with
  | none => exact P.repr_of_none ⟨.str _, H, I.tok _, ⟨_, rfl⟩, q⟩
  | bool b => exact P.repr_of_bool ⟨.str _, H, I.tok _, ⟨_, rfl⟩, q⟩
  | int i t => exact P.repr_of_int (by simpa [PyData.showable] using hs) ⟨.str _, H, I.tok _, ⟨_, rfl⟩, q⟩
  | str x t => exact P.repr_of_str ⟨.str _, H, I.tok _, ⟨_, rfl⟩, q⟩ (by simpa only [PyData.shown] using hz)
  | list h1 h2 h3 h4 =>
    refine repr_of_reads' (h₀ := s.heap) (.list h1 h2 h3 h4) hs (fun _ => hsm) hg (by omega) (fun _ _ e => e) (fun h' u' tk hk => ?_) hz
    exact ⟨.str _, H, I.kept hk, ⟨_, rfl⟩, q⟩
  | tuple h1 h2 h3 h4 =>
    refine repr_of_reads' (h₀ := s.heap) (.tuple h1 h2 h3 h4) hs (fun _ => hsm) hg (by omega) (fun _ _ e => e) (fun h' u' tk hk => ?_) hz
    exact ⟨.str _, H, I.kept hk, ⟨_, rfl⟩, q⟩
  | dict h1 h2 h3 h4 h5 =>
    refine repr_of_reads' (h₀ := s.heap) (.dict h1 h2 h3 h4 h5) hs (fun _ => hsm) hg (by omega) (fun _ _ e => e) (fun h' u' tk hk => ?_) hz
    exact ⟨.str _, H, I.kept hk, ⟨_, rfl⟩, q⟩

def rInLD (K : PySem.W.Frag) : R2 := fun x y H Q => ∃ (ds : List PyData) (d : PyData), Dp K H y (.list ds) ∧ Dp K H x d ∧ PyData.canLayAll0 ds = true ∧ d.canLay0 = true ∧ d.depth ≤ 60 ∧ Q (.bl (ds.any fun e => e.eqv d)) H
theorem op_inLD (hu : X.A.units + 66 < cLine) : OpR X (compareOp .In) (rInLD X.K) := by
  rintro pins s σ H x y v u Q I rv ru ⟨ds, d, hy, hx, c1, c2, c3, q⟩
  obtain ⟨as, r1⟩ := Dp.reads I _ _ _ hy ru
  obtain ⟨bs, r2⟩ := Dp.reads I _ _ _ hx rv
  refine SeqAt.in_list_reads r1 r2 c1 c2 ?_ ⟨.bl _, H, I, rfl, q⟩
  have : min (PyData.depthAll ds) d.depth ≤ 60 := Nat.le_trans (Nat.min_le_right _ _) c3
  omega

end
end Rp

namespace Rp
open PySem L2 PyProof.Rows
theorem law_endS {l : PySem.W.OpenLaw} {n k : Nat} {q : Program} {loose : List Str} {XP : (Str → Option Value) → Heap → Prop} {YP : World → Heap → Prop} {d : DefRec} {K : Params → PySem.W.Frag} {sp : PySem.W.Frag → Sp} {x : Str}
    (hn : l.most = some n) (hn2 : n ≤ sizeLine) (hdf : d.params.defaults = []) (hr : Room k callerA) (himp : importsNone q = true)
    (hY : ∀ (w : World) (h : Heap), YP w h → (K w.params).In h)
    (F : ∀ (w : World) (mg : Str → Option Value) (fa : Addr) (h : Heap), (K w.params).In h → h.Ns mainGlobals mg → mg d.name = some (.ref fa) →
      ∃ fd : FuncData, (∀ (s : Shared) (u : Value), BindsTo s fd ⟨[u], []⟩ [(x, u)]) ∧
        ∀ base : Heap, (K w.params).In base → base.Ns mainGlobals mg → Sys base → FnG l.prog w (K w.params) mg base CX0 k fa fd [x] (sp (K w.params)))
    (hsp : ∀ (K : PySem.W.Frag) (H : Hp) (a : Addr) (ns : List Int), ns.length ≤ n → Only H → SqL K H a (ns.map V.int) → sp K [.ref a] H (fun v _ => v = .bl true) fun _ _ _ => False) :
    PySem.W.WalkO q loose XP YP l.row.toRowW d [] (fun f vs => PySem.call f vs) := by
  refine Att.attach_call hn hdf fun w s₀ s₁ mg mb fa o pm cd doc a vs ns G Y ho hd hcd hmg hobj hints hlen hgens => ?_
  have kin := hY w _ Y
  obtain ⟨fd, bd, FF⟩ := F w mg fa _ kin G.T.g hmg
  obtain ⟨H, hO, hS, hok, only, notK⟩ := script_heap (P := l.prog) (w := w) kin hobj hints (Nat.le_trans hlen hn2)
  have free : ∀ {b : Addr} {ob : Obj} {es : Array DictEntry} {ep : Nat}, s₁.heap.get? b = some ob → ob.data = .dict es ep → H b = none := by
    intro b ob es ep h1 h2
    cases c : H b with
    | none => rfl
    | some u =>
      have e : b = a := only b (by rw [c]; exact fun z => nomatch z)
      rw [e, hobj] at h1
      have h3 := congrArg Obj.data (Option.some.inj h1)
      rw [h2] at h3
      exact nomatch h3
  have ns' : ∀ {b : Addr} {m : Str → Option Value}, s₁.heap.Ns b m → (hidT s₁.heap H).Ns b m := by
    rintro b m ⟨ob, es, ep, h1, h2, h3⟩
    exact ⟨ob, es, ep, hidT_get h1 (free h1 h2), h2, h3⟩
  have kinB : (K w.params).In (hidT s₁.heap H) := fun b ob e => hidT_get (kin b ob e) (notK b ob e)
  have lim : (hidT s₁.heap H).NoLimit := by
    obtain ⟨mc, h1, h2⟩ := G.T.nolimit
    exact ⟨mc, ns' h1, h2⟩
  have sys : Sys (hidT s₁.heap H) := by
    obtain ⟨mm, hm, _⟩ := (G.T.seer himp).mods
    obtain ⟨ob, es, ep, h1, _⟩ := ns' hm
    exact ⟨ob, h1⟩
  have en : Env0 l.prog w (K w.params) mg (hidT s₁.heap H) callerA [] s₁ H :=
    ⟨rfl, ⟨kinB, ns' G.T.g, ⟨mb, ns' G.T.b, G.T.builtins⟩, lim⟩, fun b ob e => of_hidT e, Nat.le_of_eq (hidT_size _ _), trivial, (fun b z => nomatch z), hok, .of_eq hgens⟩
  refine codeAny_mono ((FF _ kinB (ns' G.T.g) sys).run callerA [] s₁ H ⟨[.ref a], []⟩ [.ref a] [.ref a] _ _ hr rfl en (bd s₁ (.ref a)) (.cons rfl .nil) (hsp _ H a ns hlen hO hS)) fun r s' z => ?_
  cases r with
  | error e => exact False.elim z
  | ok fl =>
    cases fl with
    | next => exact False.elim z
    | brk => exact False.elim z
    | cont => exact False.elim z
    | ret u =>
      obtain ⟨v, H', os, bare, un, hok', rr, e⟩ := z
      have e' : v = .bl true := e
      subst e'
      obtain rfl : u = Value.bool true := rr
      refine ⟨rfl, OldK.of_keep fun b ob hb => ?_, os, bare⟩
      cases c : H b with
      | none => exact un.keep b ob hb c (fun z => nomatch z) (fun z => nomatch z)
      | some u =>
        rcases hO b with z | ⟨ox, xs, z⟩
        · rw [c] at z
          cases z
        · obtain ⟨e1, _⟩ := hok b _ z
          obtain ⟨e2, _⟩ := hok' b _ (un.frzs b ox _ z)
          rw [hb] at e1
          cases e1
          exact e2
end Rp
/-! Ex: errors: what a clause names, calls that raise nothing after all. -/
namespace Rp
open PySem L2 PyProof.Rows
/-- an error of the class S is what «except T» names, when S stands below T -/
theorem exm_sub {K : PySem.W.Frag} {S T : Addr} {b : Bool} (h1 : PySem.W.subIn K (.ref T) (.type "BaseException") = some true) (h2 : PySem.W.isClsIn K T = true) (h3 : PySem.W.typeIn K (.ref T) = some (.type "type")) (h4 : PySem.W.subIn K (.ref S) (.ref T) = some b) :
    PySem.W.exmOne K (.ref S) (.ref T) = some b := by
  have e1 : (PySem.W.subIn K (.ref T) (.type "BaseException") == some true) = true := by rw [h1] <;> rfl
  have e2 : ((PySem.W.clsIn K T).isSome && PySem.W.typeIn K (.ref T) == some (.type "type")) = true := by
    have h2' : (PySem.W.clsIn K T).isSome = true := h2
    rw [h2', h3] <;> rfl
  show (if (PySem.W.subIn K (.ref T) (.type "BaseException") == some true) = true then (if ((PySem.W.clsIn K T).isSome && PySem.W.typeIn K (.ref T) == some (.type "type")) = true then PySem.W.subIn K (.ref S) (.ref T) else none) else none) = some b
  rw [if_pos e1, if_pos e2]
  exact h4
/-- a def that may raise, called where it does not -/
theorem passN {X : Cx} : Passes (L2.CX X.prog X.w) X E0 := by
  rintro pins σ H s e s' _ ⟨_, _, _, _, _, _, _, _, _, _, _, _, h⟩
  exact h.elim
/-- the heap without what stands at L -/
def mask (H : Hp) (L : Addr) : Hp := fun b => if b = L then none else H b
theorem same_mask (H : Hp) (L : Addr) : Same (mask H L) H := fun b o h => by
  unfold mask at h
  split at h
  · cases h
  · exact h
theorem mask_new {H : Hp} {L : Addr} {o : HO} (h : H L = none) : Same H (mask (upd H L o) L) := fun b u e => by
  have n : b ≠ L := fun z => by rw [z, h] at e; cases e
  show (if b = L then none else upd H L o b) = some u
  rw [if_neg n, upd_ne n]
  exact e
theorem mask_upd {H : Hp} {L : Addr} {o : HO} : mask (upd H L o) L = mask H L := by
  funext b
  unfold mask
  split
  · rfl
  · rename_i n
    exact upd_ne n
theorem mask_mono {H H' : Hp} {L : Addr} (s : Same H H') : Same (mask H L) (mask H' L) := fun b o h => by
  unfold mask at h ⊢
  split at h
  · cases h
  · rename_i n
    rw [if_neg n]
    exact s b o h
theorem mask_at {H : Hp} {L b : Addr} {o : HO} (n : b ≠ L) (h : H b = some o) : mask H L b = some o := by
  unfold mask
  rw [if_neg n]
  exact h
theorem mask_none {H : Hp} {L : Addr} : mask H L L = none := by
  unfold mask
  rw [if_pos rfl]
theorem sx_mask {H : Hp} {L : Addr} : Sx L H (mask H L) := fun b o n h => mask_at n h
end Rp
/-! En: enumerate over a tuple. -/
namespace Rp
open PySem L2 PyProof.Rows
theorem both {M : Model} {A : Around} {α : Type} {Q : α → Shared → Prop} {E : Value → Shared → Prop} {s : Shared} {f : Bool → Sem α} {b : Bool} (h : ∀ b, wpAny M A (f b) Q E s) : wpAny M A (f b) Q E s := h b
theorem meets_enumerate_newT (l : Addr) (items : Array Value) : Meets (Builtin.«enumerate.__new__» { pos := [Value.type "enumerate", Value.ref l] }) fun _ R s => s.heap.IsTuple l items ∧
    R (.ok (.ret (.ref (s.heap.push { cls := .type "tuple_iterator", data := .fields #[.ref l, .int 0 0] }).objs.size)))
      { s with heap := (s.heap.push { cls := .type "tuple_iterator", data := .fields #[.ref l, .int 0 0] }).push { cls := .type "enumerate", data := .fields #[.none, .bool false, .ref s.heap.objs.size, rawInt 0, .none, .none] } } := by
  refine Meets.of_wp fun prog w A R s hh => ?_
  obtain ⟨hl, h⟩ := hh
  have hsub := sub_enumerate
  obtain ⟨hp, g, d, tk, os⟩ := s
  refine wpAny_bind ?_
  refine wpAny_bind (wpAny_pure ?_)
  refine wpAny_ite_false rfl ?_
  refine wpAny_bind (wpAny_of_eq hsub ?_)
  refine wpAny_ite_false rfl ?_
  refine wpAny_pure ?_
  refine wpAny_ite_true rfl ?_
  refine wpAny_bind ?_
  refine wpAny_bind (wpAny_stack_any fun st => ?_)
  refine wpAny_pure ?_
  have fin : wpAny (model prog w) A.in1 (do
              let __do_lift ← pyIter (Value.ref l)
              let __do_lift ←
                Builtin.SmallTypes.newRecord (Value.type "enumerate")
                    (Builtin.SmallTypes.ownedTupleFields ++ [__do_lift, rawInt 0, Value.none, Value.none])
              ret __do_lift) (fun fin s' => ∃ v, fin = Fin.done (Flow.ret v) ∧ R (Except.ok (Flow.ret v)) s') (fun e s' => R (Except.error e) s')
    { heap := hp, gens := g, drawn := d, toks := tk, os := os } := by
    refine wpAny_bind (wpAny_pyIter_tuple hl ?_)
    refine wpAny_bind ?_
    unfold Builtin.SmallTypes.newRecord
    refine wpAny_newObj_type ?_ (by show (6 : Nat) ≤ sizeLine + 2; decide)
    exact wpAny_pure ⟨_, rfl, h⟩
  split
  · generalize (_ == Value.type "enumerate") = short
    cases short with
    | true =>
      refine wpAny_ite_true rfl ?_
      refine wpAny_bind (wpAny_pure ?_)
      exact fin
    | false =>
      refine wpAny_ite_false rfl ?_
      refine wpAny_bind (wpAny_pure ?_)
      exact fin
  · refine wpAny_ite_false rfl ?_
    refine wpAny_bind (wpAny_pure ?_)
    exact fin
theorem call_enumerate_tup {prog : Program} {w : World} {A : Around} {E : Value → Shared → Prop} {s : Shared} {l : Addr} {items : Array Value} {Q : Value → Shared → Prop} (hl : s.heap.IsTuple l items)
    (h : ∀ h' : Heap, IsEnum h' (s.heap.objs.size + 1) s.heap.objs.size 0 .none → h'.IsTupleIter s.heap.objs.size l 0 → h'.objs.size = s.heap.objs.size + 2 → (∀ (b : Addr) (o : Obj), s.heap.get? b = some o → h'.get? b = some o) →
      Q (.ref (s.heap.objs.size + 1)) { s with heap := h' }) : wpAny (model prog w) A (call (.type "enumerate") [.ref l]) Q E s := by
  refine callType_new F.called_enumerate (by decide) (F.typeCall_enumerate_1 _) (F.newCall_enumerate_1 _) (fun _ => F.args_object_init_2 _ _) F.entry_enumerate_new (meets_enumerate_newT l items) ?_
  refine ⟨hl, ?_⟩
  have e1 : (s.heap.push { cls := .type "tuple_iterator", data := .fields #[.ref l, .int 0 0] }).objs.size = s.heap.objs.size + 1 := Heap.size_push ..
  have g1 := Heap.get?_push_size s.heap (o := { cls := .type "tuple_iterator", data := .fields #[.ref l, .int 0 0] }) rfl
  have g2 := Heap.get?_push_size (s.heap.push { cls := .type "tuple_iterator", data := .fields #[.ref l, .int 0 0] }) (o := { cls := .type "enumerate", data := .fields #[.none, .bool false, .ref s.heap.objs.size, rawInt 0, .none, .none] }) rfl
  rw [e1] at g2
  rw [e1]
  refine ⟨⟨_, g2, rfl⟩, h _ g2 ⟨_, Heap.get?_push_of_some _ g1, rfl, rfl⟩ ?_ fun b o e => Heap.get?_push_of_some _ (Heap.get?_push_of_some _ e)⟩
  rw [Heap.size_push, Heap.size_push]
theorem draws_tup {prog : Program} {w : World} {A : Around} (hh : A.handled = none) (it t : Addr) (hne : t ≠ it) (items : Array Value) :
    Draws prog w A it [it, t] items.size (fun i v => items[i]? = some v) (fun i h => h.IsTupleIter it t i ∧ h.IsTuple t items) where
  live := fun i h ⟨⟨o, ho, _⟩, _⟩ => ⟨o, ho⟩
  frame := fun i h h' ⟨⟨o, ho, h1⟩, ⟨o2, ho2, h2⟩⟩ k => ⟨⟨o, k it (by simp) o ho, h1⟩, ⟨o2, k t (by simp) o2 ho2, h2⟩⟩
  item := fun i s Q E hi ⟨h1, h2⟩ q => by
    obtain ⟨o2, ho2, h3⟩ := id h2
    refine RZ.nextOf_tuple_item h1 h2 (Array.getElem?_eq_getElem hi) fun h' h4 sb => ?_
    exact q _ h' s.toks (Array.getElem?_eq_getElem hi) ⟨h4, o2, (sb.2 t hne).trans ho2, h3⟩ sb
  done := fun s Q E ⟨h1, h2⟩ q => RZ.nextOf_tuple_end hh h1 h2 (Array.getElem?_eq_none (Nat.le_refl _)) fun h' e x k => q h' e x k
theorem draws_end {prog : Program} {w : World} {A : Around} (hh : A.handled = none) (it t : Addr) (items : Array Value) {i : Nat} (hi : items.size ≤ i) :
    Draws prog w A it [it, t] i (fun _ _ => False) (fun j h => j = i ∧ h.IsTupleIter it t i ∧ h.IsTuple t items) where
  live := fun _ h ⟨_, ⟨o, ho, _⟩, _⟩ => ⟨o, ho⟩
  frame := fun _ h h' ⟨e, ⟨o, ho, h1⟩, ⟨o2, ho2, h2⟩⟩ k => ⟨e, ⟨o, k it (by simp) o ho, h1⟩, ⟨o2, k t (by simp) o2 ho2, h2⟩⟩
  item := fun j s Q E hj ⟨e, _⟩ _ => absurd hj (by omega)
  done := fun s Q E ⟨_, h1, h2⟩ q => RZ.nextOf_tuple_end hh h1 h2 (Array.getElem?_eq_none hi) fun h' e x k => q h' e x k
def IteT (K : PySem.W.Frag) (a : Addr) : It where
  go := fun i H => ∃ xs x, SqT K H a xs ∧ xs[i]? = some x
  yld := fun i H v H' => ∃ T x, v = V.ref T ∧ H T = none ∧ H' = upd H T (.tup [.int (i : Nat), x]) ∧ ∀ xs : List V, SqT K H a xs → xs[i]? = some x
  stop := fun i H => ∃ xs, SqT K H a xs ∧ xs.length ≤ i
theorem turn_enumT {P : Program} {w : World} {K : PySem.W.Frag} {elts : List Expr} {kk : Nat} {tpos : Pos} (a e it : Addr) :
    Turn P w K (.Tuple elts kk tpos) (IteT K a) [e, it] e fun i h => (∃ old, IsEnum h e it (i : Nat) old) ∧ h.IsTupleIter it a i ∧ e ≠ it ∧ a ≠ it ∧ a ≠ e := by
  refine ⟨by simp, ?_, ?_, ?_, ?_, ?_⟩
  · rintro i h ⟨⟨old, he⟩, ⟨o, ho, h1, h2⟩, hne⟩ b hb
    simp only [List.mem_cons, List.not_mem_nil, or_false] at hb
    rcases hb with rfl | rfl
    · exact ⟨_, he, fun v z => by cases z⟩
    · exact ⟨o, ho, fun v z => by rw [h2] at z; cases z⟩
  · rintro i h h' ⟨⟨old, he⟩, ⟨o, ho, h1, h2⟩, hne⟩ k
    exact ⟨⟨old, k e (by simp) _ he⟩, ⟨o, k it (by simp) _ ho, h1, h2⟩, hne⟩
  · rintro X rfl rfl rfl hcalm i pins s σ H E I fp ⟨⟨old, he⟩, hit, hne, ha1, ha2⟩ ⟨xs, x, hx, hxi⟩
    obtain ⟨its, hvals, ht, hz⟩ := I.tuple hx
    have hh : X.A.handled = none := I.ok.hd hcalm
    have W := WalksT.enumerateD (prog := X.prog) (w := X.w) (A := X.A) (draws_tup (A := X.A.in1) hh it a ha1 its.toArray) e hne (by simp [hne, Ne.symm ha2]) (by simp)
    obtain ⟨u, hu, hru⟩ := hvals.get hxi
    have hlt : i < its.length := (List.getElem?_eq_some_iff.mp hu).1
    refine W.item i s _ E (by simpa using hlt) ⟨⟨old, he⟩, hit, ht⟩ (fun T vals h' tk hv hT hTup hMid fr => ⟨_, rfl, ?_⟩)
    refine W.go elts kk tpos i T _ _ E hMid (fun h'' hSt fr2 => ?_)
    obtain ⟨tt, y, hy, rfl⟩ := hv
    have hy' : its[i]? = some y := by simpa using hy
    rw [hu] at hy'
    obtain rfl := Option.some.inj hy'
    have hTn : ¬ T ∈ [e, it] := W.apart i T h' hMid
    obtain ⟨oT, g1, g2, n, g3⟩ := hTup
    have fT : H T = none := I.hok.fresh hT
    refine ⟨.ref T, upd H T (.tup [.int (i : Nat), x]), I.turnedNew (ch := [e, it]) (h' := h'') (fun b o hb ho => fr2 b o hb (fr b o hb ho)) fp hT ?_, rfl, ⟨T, x, rfl, fT, rfl, fun ys hys => by rw [I.tuple_inj hys hx]; exact hxi⟩, ⟨hSt.1, hSt.2.1, hne, ha1, ha2⟩, fun b hb => ?_⟩
    · exact ⟨(by show 2 ≤ sizeLine; decide), [_, _], .cons ⟨_, rfl⟩ (.cons hru .nil), oT, fr2 T oT hTn g1, g2, n, g3⟩
    · have nb : b ≠ T := fun z => hTn (z ▸ hb)
      rw [upd_ne nb]
      exact (fp b hb).1
  · rintro X rfl rfl rfl hcalm i pins s σ H E I fp ⟨⟨old, he⟩, hit, hne, ha1, ha2⟩ ⟨xs, hx, hxi⟩
    obtain ⟨its, hvals, ht, hz⟩ := I.tuple hx
    have hh : X.A.handled = none := I.ok.hd hcalm
    have hl : its.toArray.size ≤ i := by
      rw [List.size_toArray, ← hvals.length]
      exact hxi
    have W := WalksT.enumerateD (prog := X.prog) (w := X.w) (A := X.A) (draws_end (A := X.A.in1) hh it a its.toArray hl) e hne (by simp [hne, Ne.symm ha2]) (by simp)
    exact W.done s _ E ⟨⟨old, he⟩, rfl, hit, ht⟩ (fun h' tk fr => ⟨rfl, I.turnedL (ch := [e, it]) fr fp⟩)
  · rintro A i s Q E ⟨⟨old, he⟩, hit, hne⟩ q
    exact wpAny_pyIter_enum he q
section
variable {X : Cx}
def iEnumT (K : PySem.W.Frag) (ta : TA) : TI := fun σ H R => ta σ H fun vs H1 => ∃ a xs, vs = [V.ref a] ∧ SqT K H1 a xs ∧ R (IteT K a) H1
theorem pi_enumT {e : Expr} {ta : TA} {p pos tpos : Pos} {elts : List Expr} {kk : Nat} (hg : Gl X "enumerate") (hm : X.mg "enumerate" = none) (he : PA X [e] ta)
    (hs : starEach [e] X.env = [(false, eval e X.env)] := by rfl) : PI X (.Tuple elts kk tpos) (.Call (.Name "enumerate" p) [e] [] pos) (iEnumT X.K ta) := by
  refine ⟨fun pins s σ H R I h => ?_⟩
  refine Call_ (ld_blt I hg hm boot_enumerate (callWith_type1 (he := hs) (thn (he.run pos pins s σ H _ I h) fun us s1 x => ?_)))
  obtain ⟨vs, H1, I1, r1, a, xs, rfl, hq, q⟩ := x
  cases r1 with
  | cons r rr =>
  cases rr
  cases r
  obtain ⟨its, rv, p', hz⟩ := I1.tuple hq
  have hlt : a < s1.heap.objs.size := by
    obtain ⟨o, ho, _⟩ := p'
    exact Heap.lt_size ho
  refine call_enumerate_tup p' fun h' he hit hsz hk => wpAny_pyIter_enum he ?_
  have I2 := I1.kept (t' := s1.toks) hk
  refine ⟨s1.heap.objs.size + 1, [s1.heap.objs.size + 1, s1.heap.objs.size], _, IteT X.K a, H1, rfl, I2, turn_enumT a _ _, ⟨⟨_, he⟩, hit, Nat.succ_ne_self _, Nat.ne_of_lt hlt, Nat.ne_of_lt (Nat.lt_succ_of_lt hlt)⟩, fun b hb => ?_, q⟩
  have hb2 : s1.heap.objs.size ≤ b := by
    simp only [List.mem_cons, List.not_mem_nil, or_false] at hb
    rcases hb with rfl | rfl
    · exact Nat.le_succ _
    · exact Nat.le_refl _
  exact I1.fpOk hb2 (I1.hok.fresh hb2)
end
/-- a comprehension, a loop over it -/
theorem walk_enumT {K : PySem.W.Frag} {a : Addr} {xs : List V} : Walk (IteT K a) xs.length (fun H => SqT K H a xs) (YPair (fun i => some (.int (i : Nat))) (fun i => xs[i]?)) := by
  refine ⟨fun i H hi h => ⟨xs, _, h, List.getElem?_eq_getElem hi⟩, fun H h => ⟨xs, h, Nat.le_refl _⟩, fun i H x H' hi h y => ?_⟩
  obtain ⟨T, z, rfl, hT, rfl, f⟩ := y
  exact ⟨T, _, z, rfl, hT, rfl, rfl, f xs h⟩
end Rp
/-! St: sorted of lists of tuples of ints, of any lengths above 0. -/
namespace Rp
open PySem L2 PyProof.Rows
/-- a tuple of these ints -/
def IsTI (h : Heap) (v : Value) (ns : List Int) : Prop := ∃ (a : Addr) (o : Obj) (its : List Value) (n : Nat), v = .ref a ∧ h.get? a = some o ∧ o.cls = .type "tuple" ∧ o.data = .seq its.toArray n ∧ Vals (ns.map V.int) its
theorem lex_go {prog : Program} {w : World} {A : Around} {s : Shared} {fin : Bool} {Q : Bool → Shared → Prop} : ∀ (xs ys : List Int) (us vs : List Value) (i : Nat), Vals (xs.map V.int) us → Vals (ys.map V.int) vs → fin = decide (xs.length < ys.length) → Q (HT.lexLt xs ys) s →
    W.KatLex prog w A true fin Q (us.zip vs) i s
  | [], [], us, vs, i, hu, hv, hf, q => by
    cases hu
    refine W.kat_nil ?_
    rw [hf]
    exact q
  | [], y :: ys, us, vs, i, hu, hv, hf, q => by
    cases hu
    refine W.kat_nil ?_
    rw [hf]
    exact q
  | x :: xs, [], us, vs, i, hu, hv, hf, q => by
    cases hv
    have e : us.zip ([] : List Value) = [] := by simp
    rw [e]
    refine W.kat_nil ?_
    rw [hf]
    exact q
  | x :: xs, y :: ys, us, vs, i, hu, hv, hf, q => by
    cases hu with
    | cons ru hu =>
    cases hv with
    | cons rv hv =>
    obtain ⟨t, rfl⟩ := ru
    obtain ⟨t', rfl⟩ := rv
    rw [List.zip_cons_cons]
    refine W.kat_cons ?_
    refine SeqAt.EqAt.int_int x t y t' prog w _ _ ?_
    refine W.kat_go (fun e => ?_) (fun e => ?_)
    · have exy : x = y := by simpa using e
      refine W.kat_yes (lex_go xs ys _ _ (i + 1) hu hv ?_ ?_)
      · rw [hf]
        simp
      · rw [HT.lexLt_cons, if_pos exy] at q
        exact q
    · have exy : ¬ x = y := by simpa using e
      rw [HT.lexLt_cons, if_neg exy] at q
      refine W.kat_no ?_
      cases i with
      | zero => exact oneLt_int q
      | succ i => exact W.kat_one _ _ (lt_int q)
theorem ti_cmp {prog : Program} {w : World} {A : Around} {s : Shared} {vs : List Value} {k : Value → List Int} (h : ∀ v ∈ vs, IsTI s.heap v (k v)) :
    SrtO.Cmp prog w A s (tuples' true) (fun p => p.fst ∈ vs) (SrtO.lt2 fun v u => HT.lexLt (k v) (k u)) := by
  intro p q hp hq
  obtain ⟨a, o, its, n, e, ho, hc, hd, hv⟩ := h p.fst hp
  obtain ⟨a', o', its', n', e', ho', hc', hd', hv'⟩ := h q.fst hq
  rw [e, e']
  refine W.kat_lt ho hd ho' hd' ?_
  refine lex_go (k p.fst) (k q.fst) _ _ 0 hv hv' ?_ ?_
  · have l1 := hv.length
    have l2 := hv'.length
    rw [List.length_map] at l1 l2
    rw [List.size_toArray, List.size_toArray, ← l1, ← l2]
  · refine ⟨rfl, ?_⟩
    show HT.lexLt (k p.fst) (k q.fst) = HT.lexLt (k p.fst) (k q.fst)
    rfl
theorem ti_tups {h : Heap} : ∀ {vs : List Value} {k : Value → List Int}, (∀ v ∈ vs, IsTI h v (k v) ∧ k v ≠ []) → ∃ fs, W.KatTups h vs fs ∧ fs.length = vs.length ∧ ∀ f ∈ fs, ∃ x t, f = Value.int x t
  | [], _, _ => ⟨[], trivial, rfl, fun f hf => by cases hf⟩
  | v :: vs, k, hh => by
    obtain ⟨fs, h1, h2, h3⟩ := ti_tups (vs := vs) (k := k) fun u hu => hh u (List.mem_cons_of_mem _ hu)
    obtain ⟨⟨a, o, its, n, rfl, ho, hc, hd, hv⟩, hne⟩ := hh v (List.mem_cons_self ..)
    cases ek : k (.ref a) with
    | nil => exact absurd ek hne
    | cons x xs =>
      rw [ek] at hv
      cases hv with
      | cons rx hv =>
      obtain ⟨t, rfl⟩ := rx
      refine ⟨.int x t :: fs, ?_, by rw [List.length_cons, h2, List.length_cons], fun f hf => ?_⟩
      · unfold W.KatTups
        exact ⟨⟨a, o, _, n, rfl, ho, hc, hd, rfl⟩, h1⟩
      · rcases List.mem_cons.mp hf with rfl | hf
        · exact ⟨x, t, rfl⟩
        · exact h3 f hf
theorem ti_keeps {h h' : Heap} {v : Value} {ns : List Int} (x : IsTI h v ns) (k : ∀ (b : Addr) (o : Obj), h.get? b = some o → o.cls = .type "tuple" → h'.get? b = some o) : IsTI h' v ns := by
  obtain ⟨a, o, its, n, rfl, ho, hc, hd, hv⟩ := x
  exact ⟨a, o, its, n, rfl, k a o ho hc, hc, hd, hv⟩
theorem ti_sortable {prog : Program} {w : World} {A : Around} {s : Shared} {a : Addr} {vs : List Value} {k : Value → List Int} (h0 : 0 < vs.length) (hp : ∀ v ∈ vs, IsTI s.heap v (k v) ∧ k v ≠ []) (ha : ∀ o, s.heap.get? a = some o → o.cls ≠ .type "tuple") :
    SrtO.SortableO prog w A s a vs fun v u => HT.lexLt (k v) (k u) := by
  intro h' keep
  have hp' : ∀ v ∈ vs, IsTI h' v (k v) ∧ k v ≠ [] := fun v hv => ⟨ti_keeps (hp v hv).1 fun b o e c => keep b o (fun z => ha o (z ▸ e) c) e, (hp v hv).2⟩
  obtain ⟨fs, h1, h2, h3⟩ := ti_tups hp'
  refine ⟨tuples' true, fun Q E hq => ?_, ti_cmp fun v hv => (hp' v hv).1⟩
  refine W.kat_kind (T := .type "int") h1 (by omega) (fun f hf => ?_) (by decide) ?_
  · obtain ⟨x, t, rfl⟩ := h3 f hf
    exact W.Looks.now
  · have e : (Value.type "int" != Value.type "tuple") = true := by decide
    rw [e]
    exact hq
section
variable {X : Cx}
def rSortTI (K : PySem.W.Frag) : List V → Hp → VK → Prop := fun vs H Q => ∃ (a : Addr) (xs : List V) (k : V → List Int), vs = [V.ref a] ∧ SqL K H a xs ∧ (∀ x ∈ xs, ∃ t, x = V.ref t ∧ SqT K H t ((k x).map V.int) ∧ k x ≠ []) ∧
  ∀ (ys : List V) (p : Addr), SrtO.Srtd (fun x y => HT.lexLt (k x) (k y)) ys → SrtO.Stb (fun x y => HT.lexLt (k x) (k y)) ys xs → H p = none → Q (.ref p) (upd H p (.lst ys))
theorem cr_sortTI : CallR X (.builtin "sorted") (rSortTI X.K) := by
  intro pins s σ H vs us Q I r h
  obtain ⟨a, xs, k, rfl, hs, hx, q⟩ := h
  obtain ⟨its, rv, hl, hz⟩ := I.list hs
  obtain ⟨u, rfl, ru⟩ := vals1 r
  cases ru
  obtain ⟨e1, e2⟩ := refs_back rv fun x m => let ⟨t, e, _⟩ := hx x m; ⟨t, e⟩
  have hlen : xs.length = its.length := rv.length
  have hti : ∀ v ∈ its, IsTI s.heap v (k (backV v)) ∧ k (backV v) ≠ [] := by
    intro v hv
    obtain ⟨t, rfl⟩ := e2 v hv
    have hm : V.ref t ∈ xs := by rw [e1]; exact List.mem_map.mpr ⟨_, hv, rfl⟩
    obtain ⟨t', e, ht, hne⟩ := hx _ hm
    cases e
    obtain ⟨is, rvs, ⟨o, ho, hc, n, hd⟩, _⟩ := I.tuple ht
    exact ⟨⟨t, o, is, n, rfl, ho, hc, hd, rvs⟩, hne⟩
  refine SrtO.sorted_ord (ltv := fun v u => HT.lexLt (k (backV v)) (k (backV u))) (NtL.swo_lexL _) hl.isList (by rw [← hlen]; exact hz) (fun h2 h₁ b hb hk => ?_) (fun out h1 h2 => ?_)
  · refine ti_sortable (by omega) (fun v hv => ⟨ti_keeps (hti v hv).1 fun c o e _ => (hk c o e).2, (hti v hv).2⟩) (fun o ho => ?_)
    rw [hb] at ho
    cases ho
    show (Value.type "list") ≠ Value.type "tuple"
    decide
  · have h3 : ∀ u ∈ out, ∃ t, u = Value.ref t := fun u hu => e2 u (h2.perm.mem_iff.mp hu)
    have hb : SrtO.Stb (fun x y => HT.lexLt (k x) (k y)) (out.map backV) xs := by
      rw [e1]
      exact SrtO.Stb.map (NtL.swo_lexL k) backV h2
    have hd : s.heap.objs.size ≤ s.heap.objs.size + 1 := Nat.le_succ _
    obtain ⟨e, he⟩ := sortedAll_at s.heap its out.toArray
    refine ⟨.ref _, upd H _ (.lst (out.map backV)), I.laid (fun b o hbo => sortedAll_old hbo) hd ?_, rfl, q _ _ (SrtO.srtd_map h1) hb (I.hok.fresh hd)⟩
    exact ⟨by rw [hb.len]; exact hz, out, e, vals_back h3, he⟩
end
end Rp
/-! Su: sorted of a list of non-empty tuples of ints that stand in order already. -/
namespace Rp
open PySem L2 PyProof.Rows
theorem ti_one : ∀ {ns ms : List Int} {its : List Value}, Vals (ns.map V.int) its → Vals (ms.map V.int) its → ns = ms
  | [], [], _, _, _ => rfl
  | [], m :: ms, _, h1, h2 => by
    cases h1
    cases h2
  | n :: ns, [], _, h1, h2 => by
    cases h2
    cases h1
  | n :: ns, m :: ms, _, h1, h2 => by
    cases h1 with
    | cons r1 h1 =>
    cases h2 with
    | cons r2 h2 =>
    obtain ⟨t, rfl⟩ := r1
    obtain ⟨t', e⟩ := r2
    cases e
    rw [ti_one h1 h2]
theorem isTI_one {h : Heap} {v : Value} {ns ms : List Int} (h1 : IsTI h v ns) (h2 : IsTI h v ms) : ns = ms := by
  obtain ⟨a, o, its, n, rfl, ho, _, hd, hv⟩ := h1
  obtain ⟨a', o', its', n', e, ho', _, hd', hv'⟩ := h2
  cases e
  rw [ho] at ho'
  cases ho'
  rw [hd] at hd'
  cases hd'
  exact ti_one hv hv'
open Classical in
/-- the ints of a tuple -/
noncomputable def keyTI (h : Heap) (v : Value) : List Int := if e : ∃ ns, IsTI h v ns then e.choose else []
theorem keyTI_of {h : Heap} {v : Value} {ns : List Int} (e : IsTI h v ns) : keyTI h v = ns := by
  have e' : ∃ ns, IsTI h v ns := ⟨ns, e⟩
  unfold keyTI
  rw [dif_pos e']
  exact isTI_one e'.choose_spec e
inductive KeysT (K : PySem.W.Frag) (H : Hp) : List V → List (List Int) → Prop
  | nil : KeysT K H [] []
  | cons {t : Addr} {ns : List Int} {xs : List V} {ks : List (List Int)} (h : SqT K H t (ns.map V.int)) (ne : ns ≠ []) (r : KeysT K H xs ks) : KeysT K H (.ref t :: xs) (ns :: ks)
section
variable {X : Cx}
def rSortTS (K : PySem.W.Frag) : List V → Hp → VK → Prop := fun vs H Q => ∃ (a : Addr) (xs : List V) (ks : List (List Int)), vs = [V.ref a] ∧ SqL K H a xs ∧ KeysT K H xs ks ∧ ks.Pairwise (fun x y => HT.lexLt y x = false) ∧
  ∀ (p : Addr), H p = none → Q (.ref p) (upd H p (.lst xs))
theorem keysT_vals {pins : List (Addr × Obj)} {σ : L2.St} {H : Hp} {s : Shared} (I : L2.Inv X pins σ H s) : ∀ {xs : List V} {ks : List (List Int)} {its : List Value}, KeysT X.K H xs ks → Vals xs its →
    its.map (keyTI s.heap) = ks ∧ (∀ v ∈ its, IsTI s.heap v (keyTI s.heap v) ∧ keyTI s.heap v ≠ []) ∧ its.map backV = xs ∧ ∀ v ∈ its, ∃ t, v = Value.ref t
  | [], _, _, .nil, .nil => by simp
  | _ :: xs, _ :: ks, _, .cons h ne r, .cons rv rs => by
    cases rv
    obtain ⟨e1, e2, e3, e4⟩ := keysT_vals I r rs
    obtain ⟨is, rvs, ⟨o, ho, hc, n, hd⟩, _⟩ := I.tuple h
    have ti : IsTI s.heap (.ref _) _ := ⟨_, o, is, n, rfl, ho, hc, hd, rvs⟩
    have ek := keyTI_of ti
    refine ⟨by rw [List.map_cons, e1, ek], fun v hv => ?_, by rw [List.map_cons, e3]; rfl, fun v hv => ?_⟩
    · rcases List.mem_cons.mp hv with rfl | hv
      · rw [ek]
        exact ⟨ti, ne⟩
      · exact e2 v hv
    · rcases List.mem_cons.mp hv with rfl | hv
      · exact ⟨_, rfl⟩
      · exact e4 v hv
theorem cr_sortTS : CallR X (.builtin "sorted") (rSortTS X.K) := by
  intro pins s σ H vs us Q I r h
  obtain ⟨a, xs, ks, rfl, hs, hx, hord, q⟩ := h
  obtain ⟨its, rv, hl, hz⟩ := I.list hs
  obtain ⟨u, rfl, ru⟩ := vals1 r
  cases ru
  obtain ⟨ek, hti, e1, e2⟩ := keysT_vals I hx rv
  have hlen : xs.length = its.length := rv.length
  refine SrtO.sorted_ord (ltv := fun v u => HT.lexLt (keyTI s.heap v) (keyTI s.heap u)) (NtL.swo_lexL _) hl.isList (by rw [← hlen]; exact hz) (fun h2 h₁ b hb hk => ?_) (fun out h1 h2 => ?_)
  · refine ti_sortable (by omega) (fun v hv => ⟨ti_keeps (hti v hv).1 fun c o e _ => (hk c o e).2, (hti v hv).2⟩) (fun o ho => ?_)
    rw [hb] at ho
    cases ho
    show (Value.type "list") ≠ Value.type "tuple"
    decide
  · have hso : SrtO.Srtd (fun v u => HT.lexLt (keyTI s.heap v) (keyTI s.heap u)) its := by
      rw [← ek] at hord
      exact List.pairwise_map.mp hord
    have eo : out = its := SrtO.stb_uniq (NtL.swo_lexL (keyTI s.heap)) h1 hso h2
    subst eo
    have hd : s.heap.objs.size ≤ s.heap.objs.size + 1 := Nat.le_succ _
    obtain ⟨e, he⟩ := sortedAll_at s.heap out out.toArray
    refine ⟨.ref _, upd H _ (.lst xs), I.laid (fun b o hbo => sortedAll_old hbo) hd ?_, rfl, q _ (I.hok.fresh hd)⟩
    exact ⟨hz, out, e, rv, he⟩
/-- sorted of a list of non-empty tuples of ints, known by position -/
def rSortTP (K : PySem.W.Frag) : List V → Hp → VK → Prop := fun vs H Q => ∃ (a : Addr) (xs : List V) (ks : List (List Int)), vs = [V.ref a] ∧ SqL K H a xs ∧ KeysT K H xs ks ∧
  ∀ (ys : List V) (ls : List (List Int)) (p : Addr), KeysT K H ys ls → ls.Pairwise (fun x y => HT.lexLt y x = false) → ls.Perm ks → H p = none → Q (.ref p) (upd H p (.lst ys))
theorem cr_sortTP : CallR X (.builtin "sorted") (rSortTP X.K) := by
  intro pins s σ H vs us Q I r h
  obtain ⟨a, xs, ks, rfl, hs, hx, q⟩ := h
  obtain ⟨its, rv, hl, hz⟩ := I.list hs
  obtain ⟨u, rfl, ru⟩ := vals1 r
  cases ru
  obtain ⟨ek, hti, e1, e2⟩ := keysT_vals I hx rv
  have hlen : xs.length = its.length := rv.length
  refine SrtO.sorted_ord (ltv := fun v u => HT.lexLt (keyTI s.heap v) (keyTI s.heap u)) (NtL.swo_lexL _) hl.isList (by rw [← hlen]; exact hz) (fun h2 h₁ b hb hk => ?_) (fun out h1 h2 => ?_)
  · refine ti_sortable (by omega) (fun v hv => ⟨ti_keeps (hti v hv).1 fun c o e _ => (hk c o e).2, (hti v hv).2⟩) (fun o ho => ?_)
    rw [hb] at ho
    cases ho
    show (Value.type "list") ≠ Value.type "tuple"
    decide
  · have h3 : ∀ u ∈ out, ∃ t, u = Value.ref t := fun u hu => e2 u (h2.perm.mem_iff.mp hu)
    have hd : s.heap.objs.size ≤ s.heap.objs.size + 1 := Nat.le_succ _
    obtain ⟨e, he⟩ := sortedAll_at s.heap its out.toArray
    have kk : KeysT X.K H (out.map backV) (out.map (keyTI s.heap)) := by
      have g : ∀ (l m : List Value), (∀ v ∈ l, v ∈ m) → (∀ v ∈ m, ∃ t, v = Value.ref t) → KeysT X.K H (m.map backV) (m.map (keyTI s.heap)) → KeysT X.K H (l.map backV) (l.map (keyTI s.heap)) := by
        intro l m hl hr hk
        have one : ∀ (m : List Value), (∀ v ∈ m, ∃ t, v = Value.ref t) → KeysT X.K H (m.map backV) (m.map (keyTI s.heap)) → ∀ v ∈ m, ∃ t, v = Value.ref t ∧ SqT X.K H t ((keyTI s.heap v).map V.int) ∧ keyTI s.heap v ≠ [] := by
          intro m
          induction m with
          | nil => intro _ _ v hv; cases hv
          | cons u m ih =>
            intro hr hk v hv
            obtain ⟨t, rfl⟩ := hr u (List.mem_cons_self ..)
            rw [List.map_cons, List.map_cons] at hk
            have hk' : KeysT X.K H (V.ref t :: m.map backV) (keyTI s.heap (.ref t) :: m.map (keyTI s.heap)) := hk
            cases hk' with
            | cons hh ne rr =>
              rcases List.mem_cons.mp hv with rfl | hv
              · exact ⟨t, rfl, hh, ne⟩
              · exact ih (fun v hv => hr v (List.mem_cons_of_mem _ hv)) rr v hv
        induction l with
        | nil => exact .nil
        | cons u l ih =>
          obtain ⟨t, rfl, hh, ne⟩ := one m hr hk u (hl u (List.mem_cons_self ..))
          exact .cons hh ne (ih fun v hv => hl v (List.mem_cons_of_mem _ hv))
      refine g out its (fun v hv => h2.perm.mem_iff.mp hv) e2 ?_
      rw [e1, ek]
      exact hx
    refine ⟨.ref _, upd H _ (.lst (out.map backV)), I.laid (fun b o hbo => sortedAll_old hbo) hd ?_, rfl, q _ _ _ kk (List.pairwise_map.mpr h1) ?_ (I.hok.fresh hd)⟩
    · exact ⟨by rw [List.length_map, h2.perm.length_eq, ← hlen]; exact hz, out, e, vals_back h3, he⟩
    · rw [← ek]
      exact h2.perm.map _
end
end Rp
/-! Jst: sets of steps that hold, with a step, all that come ahead of it; the least sum over them. No Python here. -/
namespace Lw
abbrev Row1 := List Int × Int
/-- rows of steps and what comes ahead of what -/
structure Sys where
  rows : List Row1
  ahead : List Int → List Int → Bool
def sumD (rows : List Row1) (D : List Int → Bool) : Int := (rows.map fun r => if D r.1 then r.2 else 0).sum
def Sys.net (S : Sys) : Int := (S.rows.map (·.2)).sum
def Sys.Closed (S : Sys) (D : List Int → Bool) : Prop := ∀ a ∈ S.rows, ∀ b ∈ S.rows, S.ahead a.1 b.1 = true → D b.1 = true → D a.1 = true
structure Sys.Low (S : Sys) (l : Int) : Prop where
  le : ∀ D, S.Closed D → l ≤ sumD S.rows D
  at_ : ∃ D, S.Closed D ∧ sumD S.rows D = l
theorem sumD_app (r s : List Row1) (D : List Int → Bool) : sumD (r ++ s) D = sumD r D + sumD s D := by
  unfold sumD
  rw [List.map_append, List.sum_append]
theorem sumD_all {r : List Row1} {D : List Int → Bool} (h : ∀ a ∈ r, D a.1 = true) : sumD r D = (r.map (·.2)).sum := by
  induction r with
  | nil => rfl
  | cons x r ih =>
    have h1 := h x List.mem_cons_self
    have h2 := ih fun a ha => h a (List.mem_cons_of_mem _ ha)
    unfold sumD at h2 ⊢
    simp only [List.map_cons, List.sum_cons, h1, if_true, h2]
theorem sumD_none {r : List Row1} {D : List Int → Bool} (h : ∀ a ∈ r, D a.1 = false) : sumD r D = 0 := by
  induction r with
  | nil => rfl
  | cons x r ih =>
    have h1 := h x List.mem_cons_self
    have h2 := ih fun a ha => h a (List.mem_cons_of_mem _ ha)
    unfold sumD at h2 ⊢
    simp only [List.map_cons, List.sum_cons, h1, Bool.false_eq_true, if_false, h2]
    rfl
theorem sumD_congr {r : List Row1} {D E : List Int → Bool} (h : ∀ a ∈ r, D a.1 = E a.1) : sumD r D = sumD r E := by
  induction r with
  | nil => rfl
  | cons x r ih =>
    have h1 := h x List.mem_cons_self
    have h2 := ih fun a ha => h a (List.mem_cons_of_mem _ ha)
    unfold sumD at h2 ⊢
    simp only [List.map_cons, List.sum_cons, h1, h2]
def pre (i : Int) (r : List Row1) : List Row1 := r.map fun a => (i :: a.1, a.2)
theorem sumD_pre (i : Int) (r : List Row1) (D : List Int → Bool) : sumD (pre i r) D = sumD r (fun a => D (i :: a)) := by
  unfold sumD pre
  rw [List.map_map]
  rfl
theorem net_pre (i : Int) (r : List Row1) : ((pre i r).map (·.2)).sum = (r.map (·.2)).sum := by
  unfold pre
  rw [List.map_map]
  rfl
/-- systems behind their indices -/
def cRows : List Sys → Int → List Row1
  | [], _ => []
  | S :: r, i => pre i S.rows ++ cRows r (i + 1)
def aheadAt : List Sys → Int → Int → List Int → List Int → Bool
  | [], _, _, _, _ => false
  | S :: r, i, k, a, b => if k = i then S.ahead a b else aheadAt r (i + 1) k a b
/-- in a row (sq), or side by side -/
def cAhead (sq : Bool) (Ss : List Sys) (i : Int) : List Int → List Int → Bool
  | k :: a, m :: b => if k ≠ m then sq && decide (k < m) else aheadAt Ss i k a b
  | _, _ => false
def comp (sq : Bool) (Ss : List Sys) (i : Int) : Sys := ⟨cRows Ss i, cAhead sq Ss i⟩
theorem cRows_head : ∀ {Ss : List Sys} {i : Int} {a : Row1}, a ∈ cRows Ss i → ∃ k b, a.1 = k :: b ∧ i ≤ k
  | S :: r, i, a, h => by
    simp only [cRows, List.mem_append, pre, List.mem_map] at h
    rcases h with ⟨b, _, rfl⟩ | h
    · exact ⟨i, b.1, rfl, Int.le_refl _⟩
    · obtain ⟨k, b, h1, h2⟩ := cRows_head h
      exact ⟨k, b, h1, by omega⟩
theorem net_comp (sq : Bool) : ∀ (Ss : List Sys) (i : Int), (comp sq Ss i).net = (Ss.map Sys.net).sum
  | [], i => rfl
  | S :: r, i => by
    have ih := net_comp sq r (i + 1)
    unfold Sys.net comp at ih ⊢
    simp only [cRows, List.map_append, List.sum_append, net_pre, List.map_cons, List.sum_cons, ih]
/-- the first of them alone -/
theorem closed_first {sq : Bool} {S : Sys} {r : List Sys} {i : Int} {D : List Int → Bool} (h : (comp sq (S :: r) i).Closed D) : S.Closed fun a => D (i :: a) := by
  intro a ha b hb hab hD
  refine h (i :: a.1, a.2) ?_ (i :: b.1, b.2) ?_ ?_ hD
  · simp only [comp, cRows, List.mem_append, pre, List.mem_map]
    exact .inl ⟨a, ha, rfl⟩
  · simp only [comp, cRows, List.mem_append, pre, List.mem_map]
    exact .inl ⟨b, hb, rfl⟩
  · simp only [comp, cAhead, aheadAt, ne_eq, not_true_eq_false, if_false, if_true]
    exact hab
theorem closed_rest {sq : Bool} {S : Sys} {r : List Sys} {i : Int} {D : List Int → Bool} (h : (comp sq (S :: r) i).Closed D) : (comp sq r (i + 1)).Closed D := by
  intro a ha b hb hab hD
  obtain ⟨k, a', ea, hk⟩ := cRows_head ha
  obtain ⟨m, b', eb, hm⟩ := cRows_head hb
  refine h a ?_ b ?_ ?_ hD
  · simp only [comp, cRows, List.mem_append]
    exact .inr ha
  · simp only [comp, cRows, List.mem_append]
    exact .inr hb
  · rw [ea, eb] at hab ⊢
    simp only [comp, cAhead] at hab ⊢
    by_cases e : k = m
    · subst e
      simp only [ne_eq, not_true_eq_false, if_false, aheadAt] at hab ⊢
      rw [if_neg (by omega)]
      exact hab
    · simp only [ne_eq, e, not_false_eq_true, if_true] at hab ⊢
      exact hab
/-- all of the first come ahead of what stands behind -/
theorem seq_full {S : Sys} {r : List Sys} {i : Int} {D : List Int → Bool} (h : (comp true (S :: r) i).Closed D) {b : Row1} (hb : b ∈ cRows r (i + 1)) (hD : D b.1 = true) : ∀ a ∈ S.rows, D (i :: a.1) = true := by
  intro a ha
  obtain ⟨m, b', eb, hm⟩ := cRows_head hb
  refine h (i :: a.1, a.2) ?_ b ?_ ?_ hD
  · simp only [comp, cRows, List.mem_append, pre, List.mem_map]
    exact .inl ⟨a, ha, rfl⟩
  · simp only [comp, cRows, List.mem_append]
    exact .inr hb
  · rw [eb]
    simp only [comp, cAhead, ne_eq]
    rw [if_pos (by omega)]
    simp only [Bool.true_and, decide_eq_true_eq]
    omega
abbrev Part := Sys × Int
def sysOf (Ps : List Part) : List Sys := Ps.map (·.1)
def lowSeq : List Part → Int
  | [] => 0
  | p :: r => min p.2 (p.1.net + lowSeq r)
def lowPar : List Part → Int
  | [] => 0
  | p :: r => p.2 + lowPar r
theorem seq_le : ∀ (Ps : List Part) (i : Int), (∀ p ∈ Ps, p.1.Low p.2) → ∀ D, (comp true (sysOf Ps) i).Closed D → lowSeq Ps ≤ sumD (cRows (sysOf Ps) i) D
  | [], i, h, D, hc => Int.le_refl _
  | p :: r, i, h, D, hc => by
    have c1 := (h p List.mem_cons_self).le _ (closed_first hc)
    have c2 := seq_le r (i + 1) (fun q hq => h q (List.mem_cons_of_mem _ hq)) D (closed_rest hc)
    simp only [sysOf, List.map_cons, cRows, sumD_app, sumD_pre, lowSeq] at c2 ⊢
    by_cases e : ∃ b ∈ cRows (sysOf r) (i + 1), D b.1 = true
    · obtain ⟨b, hb, hD⟩ := e
      have full := sumD_all (r := p.1.rows) (D := fun a => D (i :: a)) (seq_full hc hb hD)
      rw [full]
      have : p.1.net = (p.1.rows.map (·.2)).sum := rfl
      omega
    · have none : sumD (cRows (sysOf r) (i + 1)) D = 0 := sumD_none fun a ha => by
        cases ed : D a.1 with
        | false => rfl
        | true => exact absurd ⟨a, ha, ed⟩ e
      simp only [sysOf] at none
      rw [none]
      omega
theorem par_le : ∀ (Ps : List Part) (i : Int), (∀ p ∈ Ps, p.1.Low p.2) → ∀ D, (comp false (sysOf Ps) i).Closed D → lowPar Ps ≤ sumD (cRows (sysOf Ps) i) D
  | [], i, h, D, hc => Int.le_refl _
  | p :: r, i, h, D, hc => by
    have c1 := (h p List.mem_cons_self).le _ (closed_first hc)
    have c2 := par_le r (i + 1) (fun q hq => h q (List.mem_cons_of_mem _ hq)) D (closed_rest hc)
    simp only [sysOf, List.map_cons, cRows, sumD_app, sumD_pre, lowPar] at c2 ⊢
    omega
/-- a set of the first one and one of what stands behind -/
def join (i : Int) (D E : List Int → Bool) : List Int → Bool
  | k :: a => if k = i then D a else E (k :: a)
  | [] => false
theorem join_first {i : Int} {D E : List Int → Bool} {r : List Row1} : sumD (pre i r) (join i D E) = sumD r D := by
  rw [sumD_pre]
  exact sumD_congr fun a _ => by simp only [join, if_true]
theorem join_rest {i : Int} {D E : List Int → Bool} {Ss : List Sys} : sumD (cRows Ss (i + 1)) (join i D E) = sumD (cRows Ss (i + 1)) E := by
  refine sumD_congr fun a ha => ?_
  obtain ⟨k, b, e, hk⟩ := cRows_head ha
  rw [e]
  simp only [join]
  rw [if_neg (by omega)]
theorem join_closed {sq : Bool} {S : Sys} {r : List Sys} {i : Int} {D E : List Int → Bool} (h1 : S.Closed D) (h2 : (comp sq r (i + 1)).Closed E)
    (h3 : sq = true → (∀ b ∈ cRows r (i + 1), E b.1 = true → ∀ a ∈ S.rows, D a.1 = true)) : (comp sq (S :: r) i).Closed (join i D E) := by
  intro a ha b hb hab hD
  simp only [comp, cRows, List.mem_append, pre, List.mem_map] at ha hb
  rcases hb with ⟨b', hb', rfl⟩ | hb
  · simp only [join, if_true] at hD
    rcases ha with ⟨a', ha', rfl⟩ | ha
    · simp only [join, if_true]
      simp only [comp, cAhead, aheadAt, ne_eq, not_true_eq_false, if_false, if_true] at hab
      exact h1 a' ha' b' hb' hab hD
    · exfalso
      obtain ⟨k, a', ea, hk⟩ := cRows_head ha
      rw [ea] at hab
      simp only [comp, cAhead, ne_eq] at hab
      rw [if_pos (by omega)] at hab
      simp only [Bool.and_eq_true, decide_eq_true_eq] at hab
      omega
  · obtain ⟨m, b', eb, hm⟩ := cRows_head hb
    have hE : E b.1 = true := by
      rw [eb] at hD ⊢
      simp only [join] at hD
      rwa [if_neg (by omega)] at hD
    rcases ha with ⟨a', ha', rfl⟩ | ha
    · simp only [join, if_true]
      rw [eb] at hab
      simp only [comp, cAhead, ne_eq] at hab
      rw [if_pos (by omega)] at hab
      simp only [Bool.and_eq_true] at hab
      exact h3 hab.1 b hb hE a' ha'
    · obtain ⟨k, a', ea, hk⟩ := cRows_head ha
      have hE' : E a.1 = true := by
        refine h2 a ha b hb ?_ hE
        rw [ea, eb] at hab ⊢
        simp only [comp, cAhead] at hab ⊢
        by_cases e : k = m
        · subst e
          simp only [ne_eq, not_true_eq_false, if_false, aheadAt] at hab ⊢
          rw [if_neg (by omega)] at hab
          exact hab
        · simp only [ne_eq, e, not_false_eq_true, if_true] at hab ⊢
          exact hab
      rw [ea] at hE' ⊢
      simp only [join]
      rw [if_neg (by omega)]
      exact hE'
theorem seq_at : ∀ (Ps : List Part) (i : Int), (∀ p ∈ Ps, p.1.Low p.2) → ∃ D, (comp true (sysOf Ps) i).Closed D ∧ sumD (cRows (sysOf Ps) i) D = lowSeq Ps
  | [], i, h => ⟨fun _ => false, fun a ha => by simp [comp, sysOf, cRows] at ha, rfl⟩
  | p :: r, i, h => by
    obtain ⟨E, e1, e2⟩ := seq_at r (i + 1) (fun q hq => h q (List.mem_cons_of_mem _ hq))
    obtain ⟨D, d1, d2⟩ := (h p List.mem_cons_self).at_
    by_cases c : p.2 ≤ p.1.net + lowSeq r
    · refine ⟨join i D fun _ => false, join_closed d1 (fun a _ b _ _ hb => by cases hb) (fun _ b _ hb => by cases hb), ?_⟩
      simp only [sysOf, List.map_cons, cRows, sumD_app, lowSeq]
      rw [join_first, join_rest, d2, sumD_none fun _ _ => rfl]
      omega
    · refine ⟨join i (fun _ => true) E, join_closed (fun _ _ _ _ _ _ => rfl) e1 (fun _ _ _ _ _ _ => rfl), ?_⟩
      simp only [sysOf, List.map_cons, cRows, sumD_app, lowSeq] at e2 ⊢
      rw [join_first, join_rest, e2, sumD_all fun _ _ => rfl]
      have : p.1.net = (p.1.rows.map (·.2)).sum := rfl
      omega
theorem par_at : ∀ (Ps : List Part) (i : Int), (∀ p ∈ Ps, p.1.Low p.2) → ∃ D, (comp false (sysOf Ps) i).Closed D ∧ sumD (cRows (sysOf Ps) i) D = lowPar Ps
  | [], i, h => ⟨fun _ => false, fun a ha => by simp [comp, sysOf, cRows] at ha, rfl⟩
  | p :: r, i, h => by
    obtain ⟨E, e1, e2⟩ := par_at r (i + 1) (fun q hq => h q (List.mem_cons_of_mem _ hq))
    obtain ⟨D, d1, d2⟩ := (h p List.mem_cons_self).at_
    refine ⟨join i D E, join_closed d1 e1 (fun z => by cases z), ?_⟩
    simp only [sysOf, List.map_cons, cRows, sumD_app, lowPar] at e2 ⊢
    rw [join_first, join_rest, d2, e2]
theorem low_seq (Ps : List Part) (i : Int) (h : ∀ p ∈ Ps, p.1.Low p.2) : (comp true (sysOf Ps) i).Low (lowSeq Ps) := ⟨seq_le Ps i h, seq_at Ps i h⟩
theorem low_par (Ps : List Part) (i : Int) (h : ∀ p ∈ Ps, p.1.Low p.2) : (comp false (sysOf Ps) i).Low (lowPar Ps) := ⟨par_le Ps i h, par_at Ps i h⟩
end Lw
namespace Lw
open PySem L2 Rp
local macro_rules | `(tactic| walk_at "rd") => `(tactic| repeat (first | refine ⟨_, rfl, ?_⟩ | refine ⟨_, _, rfl, rfl, ?_⟩))
def top (i : Nat) : Stmt := PySem.Challenge.pw_roomprofile_k08_order_of_addresses.main.body.getD i (.Pass ⟨0, 0, 0, 0⟩)
abbrev s_is_integer : Stmt := top 6
abbrev N_is_integer : List Str := ["value"]
theorem sc_is_integer : FnScope N_is_integer ["value"] (defScope s_is_integer) := ⟨rfl, rfl, rfl, by decide +kernel, rfl, by decide +kernel, by decide +kernel⟩
abbrev s_is_within : Stmt := top 7
abbrev N_is_within : List Str := ["value", "least", "greatest"]
theorem sc_is_within : FnScope N_is_within ["value", "least", "greatest"] (defScope s_is_within) := ⟨rfl, rfl, rfl, by decide +kernel, rfl, by decide +kernel, by decide +kernel⟩
abbrev s_is_job : Stmt := top 14
abbrev N_is_job : List Str := ["value"]
theorem sc_is_job : FnScope N_is_job ["value"] (defScope s_is_job) := ⟨rfl, rfl, rfl, by decide +kernel, rfl, by decide +kernel, by decide +kernel⟩
abbrev s_checked_sizes : Stmt := top 15
abbrev N_checked_sizes : List Str := ["job", "sizes"]
theorem sc_checked_sizes : FnScope N_checked_sizes ["job"] (defScope s_checked_sizes) := ⟨rfl, rfl, rfl, by decide +kernel, rfl, by decide +kernel, by decide +kernel⟩
abbrev s_steps_of_leaf : Stmt := top 16
abbrev N_steps_of_leaf : List Str := ["value"]
theorem sc_steps_of_leaf : FnScope N_steps_of_leaf ["value"] (defScope s_steps_of_leaf) := ⟨rfl, rfl, rfl, by decide +kernel, rfl, by decide +kernel, by decide +kernel⟩
abbrev s_sizes_of : Stmt := top 17
abbrev N_sizes_of : List Str := ["value", "leaf_steps"]
theorem sc_sizes_of : FnScope N_sizes_of ["value", "leaf_steps"] (defScope s_sizes_of) := ⟨rfl, rfl, rfl, by decide +kernel, rfl, by decide +kernel, by decide +kernel⟩
abbrev s__sizes : Stmt := top 18
abbrev N__sizes : List Str := ["value", "leaf_steps", "room", "levels", "steps"]
theorem sc__sizes : FnScope N__sizes ["value", "leaf_steps", "room", "levels"] (defScope s__sizes) := ⟨rfl, rfl, rfl, by decide +kernel, rfl, by decide +kernel, by decide +kernel⟩
abbrev s__sizes_of_parts : Stmt := top 19
abbrev N__sizes_of_parts : List Str := ["parts", "leaf_steps", "room", "levels", "nodes", "steps", "part", "sizes"]
theorem sc__sizes_of_parts : FnScope N__sizes_of_parts ["parts", "leaf_steps", "room", "levels"] (defScope s__sizes_of_parts) := ⟨rfl, rfl, rfl, by decide +kernel, rfl, by decide +kernel, by decide +kernel⟩
abbrev s__sizes_of_rounds : Stmt := top 20
abbrev N__sizes_of_rounds : List Str := ["n", "inner", "leaf_steps", "room", "levels", "sizes"]
theorem sc__sizes_of_rounds : FnScope N__sizes_of_rounds ["n", "inner", "leaf_steps", "room", "levels"] (defScope s__sizes_of_rounds) := ⟨rfl, rfl, rfl, by decide +kernel, rfl, by decide +kernel, by decide +kernel⟩
abbrev s__within_count : Stmt := top 21
abbrev N__within_count : List Str := ["nodes", "steps"]
theorem sc__within_count : FnScope N__within_count ["nodes", "steps"] (defScope s__within_count) := ⟨rfl, rfl, rfl, by decide +kernel, rfl, by decide +kernel, by decide +kernel⟩
abbrev s_precedes : Stmt := top 24
abbrev N_precedes : List Str := ["job", "first", "second", "inner", "before", "after"]
theorem sc_precedes : FnScope N_precedes ["job", "first", "second"] (defScope s_precedes) := ⟨rfl, rfl, rfl, by decide +kernel, rfl, by decide +kernel, by decide +kernel⟩
abbrev s_all_addresses : Stmt := top 25
abbrev N_all_addresses : List Str := ["job", "row"]
theorem sc_all_addresses : FnScope N_all_addresses ["job"] (defScope s_all_addresses) := ⟨rfl, rfl, rfl, by decide +kernel, rfl, by decide +kernel, by decide +kernel⟩
abbrev s_check_small : Stmt := top 26
abbrev N_check_small : List Str := ["job"]
theorem sc_check_small : FnScope N_check_small ["job"] (defScope s_check_small) := ⟨rfl, rfl, rfl, by decide +kernel, rfl, by decide +kernel, by decide +kernel⟩
abbrev s_is_index_tuple : Stmt := top 27
abbrev N_is_index_tuple : List Str := ["value", "index"]
theorem sc_is_index_tuple : FnScope N_is_index_tuple ["value"] (defScope s_is_index_tuple) := ⟨rfl, rfl, rfl, by decide +kernel, rfl, by decide +kernel, by decide +kernel⟩
abbrev s_find_step : Stmt := top 28
abbrev N_find_step : List Str := ["job", "value", "inner", "index"]
theorem sc_find_step : FnScope N_find_step ["job", "value"] (defScope s_find_step) := ⟨rfl, rfl, rfl, by decide +kernel, rfl, by decide +kernel, by decide +kernel⟩
abbrev s__checked_step : Stmt := top 29
abbrev N__checked_step : List Str := ["job", "address", "step"]
theorem sc__checked_step : FnScope N__checked_step ["job", "address"] (defScope s__checked_step) := ⟨rfl, rfl, rfl, by decide +kernel, rfl, by decide +kernel, by decide +kernel⟩
abbrev s__part_at : Stmt := top 30
abbrev N__part_at : List Str := ["job", "index"]
theorem sc__part_at : FnScope N__part_at ["job", "index"] (defScope s__part_at) := ⟨rfl, rfl, rfl, by decide +kernel, rfl, by decide +kernel, by decide +kernel⟩
abbrev s_step_rows : Stmt := top 31
abbrev N_step_rows : List Str := ["job", "rows", "index", "inner_rows", "gates", "row"]
theorem sc_step_rows : FnScope N_step_rows ["job"] (defScope s_step_rows) := ⟨rfl, rfl, rfl, by decide +kernel, rfl, by decide +kernel, by decide +kernel⟩
abbrev s__rows_by_index : Stmt := top 32
abbrev N__rows_by_index : List Str := ["job", "inner_rows", "index", "part"]
theorem sc__rows_by_index : FnScope N__rows_by_index ["job"] (defScope s__rows_by_index) := ⟨rfl, rfl, rfl, by decide +kernel, rfl, by decide +kernel, by decide +kernel⟩
abbrev s__row_within : Stmt := top 33
abbrev N__row_within : List Str := ["index", "outer_gates", "row", "address", "step", "gates", "inner_gates", "level", "least"]
theorem sc__row_within : FnScope N__row_within ["index", "outer_gates", "row"] (defScope s__row_within) := ⟨rfl, rfl, rfl, by decide +kernel, rfl, by decide +kernel, by decide +kernel⟩
abbrev s__law_pot : Stmt := top 35
abbrev N__law_pot : List Str := ["_law_script", "_law_k", "_law_cell", "_law_mixed"]
theorem sc__law_pot : FnScope N__law_pot ["_law_script", "_law_k"] (defScope s__law_pot) := ⟨rfl, rfl, rfl, by decide +kernel, rfl, by decide +kernel, by decide +kernel⟩
abbrev s__law_take : Stmt := top 36
abbrev N__law_take : List Str := ["_law_pot_here", "_law_many", "_law_found", "_law_one", "_law_other"]
theorem sc__law_take : FnScope N__law_take ["_law_pot_here", "_law_many"] (defScope s__law_take) := ⟨rfl, rfl, rfl, by decide +kernel, rfl, by decide +kernel, by decide +kernel⟩
abbrev s__law_step : Stmt := top 37
abbrev N__law_step : List Str := ["_law_pot_here", "_law_way", "_law_great"]
theorem sc__law_step : FnScope N__law_step ["_law_pot_here"] (defScope s__law_step) := ⟨rfl, rfl, rfl, by decide +kernel, rfl, by decide +kernel, by decide +kernel⟩
abbrev s__law_job : Stmt := top 38
abbrev N__law_job : List Str := ["_law_pot_here", "_law_deep", "_law_counts", "_law_way", "_law_many", "_law_turn"]
theorem sc__law_job : FnScope N__law_job ["_law_pot_here", "_law_deep", "_law_counts"] (defScope s__law_job) := ⟨rfl, rfl, rfl, by decide +kernel, rfl, by decide +kernel, by decide +kernel⟩
abbrev s__law_steps : Stmt := top 39
abbrev N__law_steps : List Str := ["_law_job_here", "_law_part"]
theorem sc__law_steps : FnScope N__law_steps ["_law_job_here"] (defScope s__law_steps) := ⟨rfl, rfl, rfl, by decide +kernel, rfl, by decide +kernel, by decide +kernel⟩
abbrev s__law_small : Stmt := top 40
abbrev N__law_small : List Str := ["_law_pot_here", "_law_deep", "_law_size", "_law_turn", "_law_job_here"]
theorem sc__law_small : FnScope N__law_small ["_law_pot_here", "_law_deep", "_law_size"] (defScope s__law_small) := ⟨rfl, rfl, rfl, by decide +kernel, rfl, by decide +kernel, by decide +kernel⟩
abbrev s__law_addresses : Stmt := top 41
abbrev N__law_addresses : List Str := ["_law_job_here", "_law_inner", "_law_found", "_law_index", "_law_part", "_law_rest"]
theorem sc__law_addresses : FnScope N__law_addresses ["_law_job_here"] (defScope s__law_addresses) := ⟨rfl, rfl, rfl, by decide +kernel, rfl, by decide +kernel, by decide +kernel⟩
abbrev s__law_ahead : Stmt := top 42
abbrev N__law_ahead : List Str := ["_law_job_here", "_law_one", "_law_other", "_law_index", "_law_place"]
theorem sc__law_ahead : FnScope N__law_ahead ["_law_job_here", "_law_one", "_law_other"] (defScope s__law_ahead) := ⟨rfl, rfl, rfl, by decide +kernel, rfl, by decide +kernel, by decide +kernel⟩
abbrev s__law_wide : Stmt := top 43
abbrev N__law_wide : List Str := ["_law_pot_here", "_law_steps_here", "_law_some", "_law_turn"]
theorem sc__law_wide : FnScope N__law_wide ["_law_pot_here"] (defScope s__law_wide) := ⟨rfl, rfl, rfl, by decide +kernel, rfl, by decide +kernel, by decide +kernel⟩
abbrev s__law_drawn : Stmt := top 44
abbrev N__law_drawn : List Str := ["_law_pot_here", "_law_job_here", "_law_found", "_law_sizes", "_law_some", "_law_index", "_law_part"]
theorem sc__law_drawn : FnScope N__law_drawn ["_law_pot_here", "_law_job_here"] (defScope s__law_drawn) := ⟨rfl, rfl, rfl, by decide +kernel, rfl, by decide +kernel, by decide +kernel⟩
abbrev s_law : Stmt := top 45
abbrev N_law : List Str := ["_law_script", "_law_k", "_law_pot_here", "_law_job_here", "_law_every", "_law_one", "_law_other", "_law_wide_here", "_law_many", "_law_turn", "_law_great", "_law_first", "_law_second", "_law_at"]
theorem sc_law : FnScope N_law ["_law_script"] (defScope s_law) := ⟨rfl, rfl, rfl, by decide +kernel, rfl, by decide +kernel, by decide +kernel⟩
structure Txt (K : PySem.W.Frag) (mg : Str → Option Value) where
  f_is_integer : Addr
  d_is_integer : FuncData
  F_is_integer : Fun K "is_integer" "is_integer" s_is_integer f_is_integer d_is_integer
  b_is_integer : Binds K d_is_integer ["value"] []
  m_is_integer : mg "is_integer" = some (.ref f_is_integer)
  f_is_within : Addr
  d_is_within : FuncData
  F_is_within : Fun K "is_within" "is_within" s_is_within f_is_within d_is_within
  b_is_within : Binds K d_is_within ["value", "least", "greatest"] []
  m_is_within : mg "is_within" = some (.ref f_is_within)
  f_is_job : Addr
  d_is_job : FuncData
  F_is_job : Fun K "is_job" "is_job" s_is_job f_is_job d_is_job
  b_is_job : Binds K d_is_job ["value"] []
  m_is_job : mg "is_job" = some (.ref f_is_job)
  f_checked_sizes : Addr
  d_checked_sizes : FuncData
  F_checked_sizes : Fun K "checked_sizes" "checked_sizes" s_checked_sizes f_checked_sizes d_checked_sizes
  b_checked_sizes : Binds K d_checked_sizes ["job"] []
  m_checked_sizes : mg "checked_sizes" = some (.ref f_checked_sizes)
  f_steps_of_leaf : Addr
  d_steps_of_leaf : FuncData
  F_steps_of_leaf : Fun K "steps_of_leaf" "steps_of_leaf" s_steps_of_leaf f_steps_of_leaf d_steps_of_leaf
  b_steps_of_leaf : Binds K d_steps_of_leaf ["value"] []
  m_steps_of_leaf : mg "steps_of_leaf" = some (.ref f_steps_of_leaf)
  f_sizes_of : Addr
  d_sizes_of : FuncData
  F_sizes_of : Fun K "sizes_of" "sizes_of" s_sizes_of f_sizes_of d_sizes_of
  b_sizes_of : Binds K d_sizes_of ["value", "leaf_steps"] []
  m_sizes_of : mg "sizes_of" = some (.ref f_sizes_of)
  f__sizes : Addr
  d__sizes : FuncData
  F__sizes : Fun K "_sizes" "_sizes" s__sizes f__sizes d__sizes
  b__sizes : Binds K d__sizes ["value", "leaf_steps", "room", "levels"] []
  m__sizes : mg "_sizes" = some (.ref f__sizes)
  f__sizes_of_parts : Addr
  d__sizes_of_parts : FuncData
  F__sizes_of_parts : Fun K "_sizes_of_parts" "_sizes_of_parts" s__sizes_of_parts f__sizes_of_parts d__sizes_of_parts
  b__sizes_of_parts : Binds K d__sizes_of_parts ["parts", "leaf_steps", "room", "levels"] []
  m__sizes_of_parts : mg "_sizes_of_parts" = some (.ref f__sizes_of_parts)
  f__sizes_of_rounds : Addr
  d__sizes_of_rounds : FuncData
  F__sizes_of_rounds : Fun K "_sizes_of_rounds" "_sizes_of_rounds" s__sizes_of_rounds f__sizes_of_rounds d__sizes_of_rounds
  b__sizes_of_rounds : Binds K d__sizes_of_rounds ["n", "inner", "leaf_steps", "room", "levels"] []
  m__sizes_of_rounds : mg "_sizes_of_rounds" = some (.ref f__sizes_of_rounds)
  f__within_count : Addr
  d__within_count : FuncData
  F__within_count : Fun K "_within_count" "_within_count" s__within_count f__within_count d__within_count
  b__within_count : Binds K d__within_count ["nodes", "steps"] []
  m__within_count : mg "_within_count" = some (.ref f__within_count)
  f_precedes : Addr
  d_precedes : FuncData
  F_precedes : Fun K "precedes" "precedes" s_precedes f_precedes d_precedes
  b_precedes : Binds K d_precedes ["job", "first", "second"] []
  m_precedes : mg "precedes" = some (.ref f_precedes)
  f_all_addresses : Addr
  d_all_addresses : FuncData
  F_all_addresses : Fun K "all_addresses" "all_addresses" s_all_addresses f_all_addresses d_all_addresses
  b_all_addresses : Binds K d_all_addresses ["job"] []
  m_all_addresses : mg "all_addresses" = some (.ref f_all_addresses)
  f_check_small : Addr
  d_check_small : FuncData
  F_check_small : Fun K "check_small" "check_small" s_check_small f_check_small d_check_small
  b_check_small : Binds K d_check_small ["job"] []
  m_check_small : mg "check_small" = some (.ref f_check_small)
  f_is_index_tuple : Addr
  d_is_index_tuple : FuncData
  F_is_index_tuple : Fun K "is_index_tuple" "is_index_tuple" s_is_index_tuple f_is_index_tuple d_is_index_tuple
  b_is_index_tuple : Binds K d_is_index_tuple ["value"] []
  m_is_index_tuple : mg "is_index_tuple" = some (.ref f_is_index_tuple)
  f_find_step : Addr
  d_find_step : FuncData
  F_find_step : Fun K "find_step" "find_step" s_find_step f_find_step d_find_step
  b_find_step : Binds K d_find_step ["job", "value"] []
  m_find_step : mg "find_step" = some (.ref f_find_step)
  f__checked_step : Addr
  d__checked_step : FuncData
  F__checked_step : Fun K "_checked_step" "_checked_step" s__checked_step f__checked_step d__checked_step
  b__checked_step : Binds K d__checked_step ["job", "address"] []
  m__checked_step : mg "_checked_step" = some (.ref f__checked_step)
  f__part_at : Addr
  d__part_at : FuncData
  F__part_at : Fun K "_part_at" "_part_at" s__part_at f__part_at d__part_at
  b__part_at : Binds K d__part_at ["job", "index"] []
  m__part_at : mg "_part_at" = some (.ref f__part_at)
  f_step_rows : Addr
  d_step_rows : FuncData
  F_step_rows : Fun K "step_rows" "step_rows" s_step_rows f_step_rows d_step_rows
  b_step_rows : Binds K d_step_rows ["job"] []
  m_step_rows : mg "step_rows" = some (.ref f_step_rows)
  f__rows_by_index : Addr
  d__rows_by_index : FuncData
  F__rows_by_index : Fun K "_rows_by_index" "_rows_by_index" s__rows_by_index f__rows_by_index d__rows_by_index
  b__rows_by_index : Binds K d__rows_by_index ["job"] []
  m__rows_by_index : mg "_rows_by_index" = some (.ref f__rows_by_index)
  f__row_within : Addr
  d__row_within : FuncData
  F__row_within : Fun K "_row_within" "_row_within" s__row_within f__row_within d__row_within
  b__row_within : Binds K d__row_within ["index", "outer_gates", "row"] []
  m__row_within : mg "_row_within" = some (.ref f__row_within)
  f__law_pot : Addr
  d__law_pot : FuncData
  F__law_pot : Fun K "_law_pot" "_law_pot" s__law_pot f__law_pot d__law_pot
  b__law_pot : Binds K d__law_pot ["_law_script", "_law_k"] []
  m__law_pot : mg "_law_pot" = some (.ref f__law_pot)
  f__law_take : Addr
  d__law_take : FuncData
  F__law_take : Fun K "_law_take" "_law_take" s__law_take f__law_take d__law_take
  b__law_take : Binds K d__law_take ["_law_pot_here", "_law_many"] []
  m__law_take : mg "_law_take" = some (.ref f__law_take)
  f__law_step : Addr
  d__law_step : FuncData
  F__law_step : Fun K "_law_step" "_law_step" s__law_step f__law_step d__law_step
  b__law_step : Binds K d__law_step ["_law_pot_here"] []
  m__law_step : mg "_law_step" = some (.ref f__law_step)
  f__law_job : Addr
  d__law_job : FuncData
  F__law_job : Fun K "_law_job" "_law_job" s__law_job f__law_job d__law_job
  b__law_job : Binds K d__law_job ["_law_pot_here", "_law_deep", "_law_counts"] []
  m__law_job : mg "_law_job" = some (.ref f__law_job)
  f__law_steps : Addr
  d__law_steps : FuncData
  F__law_steps : Fun K "_law_steps" "_law_steps" s__law_steps f__law_steps d__law_steps
  b__law_steps : Binds K d__law_steps ["_law_job_here"] []
  m__law_steps : mg "_law_steps" = some (.ref f__law_steps)
  f__law_small : Addr
  d__law_small : FuncData
  F__law_small : Fun K "_law_small" "_law_small" s__law_small f__law_small d__law_small
  b__law_small : Binds K d__law_small ["_law_pot_here", "_law_deep", "_law_size"] []
  m__law_small : mg "_law_small" = some (.ref f__law_small)
  f__law_addresses : Addr
  d__law_addresses : FuncData
  F__law_addresses : Fun K "_law_addresses" "_law_addresses" s__law_addresses f__law_addresses d__law_addresses
  b__law_addresses : Binds K d__law_addresses ["_law_job_here"] []
  m__law_addresses : mg "_law_addresses" = some (.ref f__law_addresses)
  f__law_ahead : Addr
  d__law_ahead : FuncData
  F__law_ahead : Fun K "_law_ahead" "_law_ahead" s__law_ahead f__law_ahead d__law_ahead
  b__law_ahead : Binds K d__law_ahead ["_law_job_here", "_law_one", "_law_other"] []
  m__law_ahead : mg "_law_ahead" = some (.ref f__law_ahead)
  f__law_wide : Addr
  d__law_wide : FuncData
  F__law_wide : Fun K "_law_wide" "_law_wide" s__law_wide f__law_wide d__law_wide
  b__law_wide : Binds K d__law_wide ["_law_pot_here"] []
  m__law_wide : mg "_law_wide" = some (.ref f__law_wide)
  f__law_drawn : Addr
  d__law_drawn : FuncData
  F__law_drawn : Fun K "_law_drawn" "_law_drawn" s__law_drawn f__law_drawn d__law_drawn
  b__law_drawn : Binds K d__law_drawn ["_law_pot_here", "_law_job_here"] []
  m__law_drawn : mg "_law_drawn" = some (.ref f__law_drawn)
  t_MAX_STEP : Tok
  g_MAX_STEP : mg "MAX_STEP" = some (.int 1000000000000000000000000000000 t_MAX_STEP)
  t_MAX_COUNT : Tok
  g_MAX_COUNT : mg "MAX_COUNT" = some (.int 1000000000000000000000000000000 t_MAX_COUNT)
  t_MAX_PARTS : Tok
  g_MAX_PARTS : mg "MAX_PARTS" = some (.int 400 t_MAX_PARTS)
  t_MAX_NODES : Tok
  g_MAX_NODES : mg "MAX_NODES" = some (.int 400 t_MAX_NODES)
  t_MAX_DEPTH : Tok
  g_MAX_DEPTH : mg "MAX_DEPTH" = some (.int 13 t_MAX_DEPTH)
  t_MAX_SMALL : Tok
  g_MAX_SMALL : mg "MAX_SMALL" = some (.int 400 t_MAX_SMALL)
  n_abs : mg "abs" = none
  n_all : mg "all" = none
  n_bool : mg "bool" = none
  n_enumerate : mg "enumerate" = none
  n_int : mg "int" = none
  n_isinstance : mg "isinstance" = none
  n_len : mg "len" = none
  n_list : mg "list" = none
  n_max : mg "max" = none
  n_min : mg "min" = none
  n_range : mg "range" = none
  n_repr : mg "repr" = none
  n_sorted : mg "sorted" = none
  n_sum : mg "sum" = none
  n_tuple : mg "tuple" = none
  n_zip : mg "zip" = none
/-! block SizesN (of the later code): is_integer, is_within, steps_of_leaf, sizes_of, _within_count, _sizes and its two helpers, is_job, checked_sizes -/
def spIsInt (K : PySem.W.Frag) : Sp := fun vs H Q _ => ∃ (v : V) (d : PyData), vs = [v] ∧ Dp K H v d ∧ Q (.bl (isInt d && !isBoo d)) H
/-- a pair of ints, or None -/
def RepSz (H : Hp) (r : V) : Option (Int × Int) → Prop
  | none => r = .non
  | some (a, b) => ∃ t, r = .ref t ∧ H t = some (.tup [.int a, .int b])
def spWithin : Sp := fun vs H Q _ => ∃ a b : Int, vs = [.int a, .int b] ∧ ∀ (H' : Hp) (r : V), Same H H' → RepSz H' r (within a b) → Q r H'
def inW : PyData → Int → Int → Bool
  | .int i, a, b => decide (a ≤ i) && decide (i ≤ b)
  | _, _, _ => false
theorem inW_int {i a b : Int} : inW (.int i) a b = (decide (a ≤ i) && decide (i ≤ b)) := rfl
def spWi (K : PySem.W.Frag) : Sp := fun vs H Q _ => ∃ (v : V) (d : PyData) (a b : Int), vs = [v, .int a, .int b] ∧ Dp K H v d ∧ Q (.bl (inW d a b)) H
def spLeaf (K : PySem.W.Frag) : Sp := fun vs H Q _ => ∃ (v : V) (d : PyData), vs = [v] ∧ Dp K H v d ∧ Q (if inW d (-M30) M30 = true then .int 1 else .non) H
def spSz (K : PySem.W.Frag) (L : Addr) (n : Nat) : Sp := fun vs H Q _ => ∃ (v : V) (j : J) (room lv : Int), vs = [v, .ref L, .int room, .int lv] ∧ Dp K H v j.toD ∧ 0 ≤ lv ∧ lv < (n : Int) ∧
  ∀ (H' : Hp) (r : V), Same H H' → RepSz H' r (szJ j room lv) → Q r H'
def spSzs (K : PySem.W.Frag) (L : Addr) (n : Nat) : Sp := fun vs H Q _ => ∃ (v : V) (js : List J) (room lv : Int), vs = [v, .ref L, .int room, .int lv] ∧ Dp K H v (.tuple (J.toDs js)) ∧ 1 ≤ lv ∧ lv ≤ (n : Int) ∧
  ∀ (H' : Hp) (r : V), Same H H' → RepSz H' r (if (js.length : Int) > 400 then none else szJs js 1 0 room lv) → Q r H'
def spSzr (K : PySem.W.Frag) (L : Addr) (n : Nat) : Sp := fun vs H Q _ => ∃ (v : V) (c : Int) (j : J) (room lv : Int), vs = [.int c, v, .ref L, .int room, .int lv] ∧ Dp K H v j.toD ∧ 1 ≤ lv ∧ lv ≤ (n : Int) ∧
  ∀ (H' : Hp) (r : V), Same H H' → RepSz H' r (if ¬ (0 ≤ c ∧ c ≤ M30) then none else match szJ j (room - 1) (lv - 1) with | none => none | some (a, b) => within (a + 1) (b * c)) → Q r H'
section
variable {P : Program} {w : World} {K : PySem.W.Frag} {mg : Str → Option Value} {base : Heap}
theorem ok_isint (T : Txt K mg) : FnOk P w K mg base CX0 1 T.f_is_integer T.d_is_integer ["value"] (spIsInt K) := by
  refine T.F_is_integer.ok sc_is_integer (fun vs H Q E h => ?_) (fun cdv A outer s H vs Q E hr h => ?_)
  · obtain ⟨v, d, rfl, _⟩ := h
    rfl
  obtain ⟨v, d, rfl, hd, q⟩ := h
  refine ⟨_, (pss_one (ps_ret (pe_and (pe_callB (r := rIsD K) call_isD (by rfl) T.n_isinstance (by decide +kernel) (pa_cons (pv 0) (pa_cons (pe_bltn (v := .ty "int") (by rfl) T.n_int (by decide +kernel) rfl) pa_nil))) (pe_one (pe_not (pe_callB (r := rIsD K) call_isD (by rfl) T.n_isinstance (by decide +kernel) (pa_cons (pv 0) (pa_cons (pe_bltn (v := .ty "bool") (by rfl) T.n_bool (by decide +kernel) rfl) pa_nil)))))))), ?_⟩
  refine ⟨_, rfl, v, _, d, _, rfl, hd, kit_int d, _, rfl, ?_⟩
  cases e : isInt d with
  | false =>
    refine iteF ?_
    rw [e] at q
    exact q
  | true =>
    refine iteT ⟨_, rfl, v, _, d, _, rfl, hd, kit_bool d, _, rfl, ?_⟩
    rw [e] at q
    exact q
theorem ok_wi (T : Txt K mg) : FnOk P w K mg base CX0 2 T.f_is_within T.d_is_within ["value", "least", "greatest"] (spWi K) := by
  have g_is_integer : FnOk P w K mg base CX0 1 T.f_is_integer T.d_is_integer ["value"] (spIsInt K) := ok_isint T
  refine T.F_is_within.ok sc_is_within (fun vs H Q E h => ?_) (fun cdv A outer s H vs Q E hr h => ?_)
  · obtain ⟨v, d, a, b, rfl, _⟩ := h
    rfl
  obtain ⟨v, d, a, b, rfl, hd, q⟩ := h
  refine ⟨_, (pss_one (ps_ret (pe_and (pe_call g_is_integer (hr.mono (by omega)) rfl T.m_is_integer T.F_is_integer.kp T.b_is_integer .nil pass0 (pa_cons (pv 0) pa_nil)) (pe_one (pe_chain op_le op_le (pv 1) (pv 0) (pv 2)))))), ?_⟩
  refine ⟨_, rfl, v, d, rfl, hd, _, rfl, ?_⟩
  by_cases e : ∃ i, d = .int i
  · obtain ⟨i, rfl⟩ := e
    obtain rfl := dp_int_inv hd
    refine iteT ?_
    refine ⟨_, rfl, _, rfl, _, _, rfl, rfl, _, rfl, ?_⟩
    rw [inW_int] at q
    cases e1 : decide (a ≤ i) with
    | true =>
      refine iteT ?_
      rw [e1, Bool.true_and] at q
      exact ⟨_, rfl, _, _, rfl, rfl, q⟩
    | false =>
      refine iteF ?_
      rw [e1, Bool.false_and] at q
      exact q
  · have e1 : (isInt d && !isBoo d) = false ∧ inW d a b = false := by
      cases d <;> first | exact absurd ⟨_, rfl⟩ e | exact ⟨rfl, rfl⟩
    rw [e1.1]
    rw [e1.2] at q
    refine iteF ?_
    exact q
theorem ok_leaf (T : Txt K mg) : FnOk P w K mg base CX0 3 T.f_steps_of_leaf T.d_steps_of_leaf ["value"] (spLeaf K) := by
  have g_is_within := ok_wi (P := P) (w := w) (base := base) T
  refine T.F_steps_of_leaf.ok sc_steps_of_leaf (fun vs H Q E h => ?_) (fun cdv A outer s H vs Q E hr h => ?_)
  · obtain ⟨v, d, rfl, _⟩ := h
    rfl
  obtain ⟨v, d, rfl, hd, q⟩ := h
  refine ⟨_, (pss_one (ps_ret (pe_ifExp (pt_val (pe_call g_is_within (hr.mono (by omega)) rfl T.m_is_within T.F_is_within.kp T.b_is_within .nil pass0 (pa_cons (pv 0) (pa_cons (pe_un un_neg (pe_glob (v := .int 1000000000000000000000000000000) rfl T.g_MAX_STEP ⟨_, rfl⟩)) (pa_cons (pe_glob (v := .int 1000000000000000000000000000000) rfl T.g_MAX_STEP ⟨_, rfl⟩) pa_nil))))) pe_int pe_non))), ?_⟩
  refine ⟨_, rfl, _, rfl, v, d, -M30, M30, rfl, hd, _, rfl, ?_⟩
  cases e : inW d (-M30) M30 with
  | true =>
    rw [e] at q
    refine iteT ?_
    exact q
  | false =>
    rw [e] at q
    refine iteF ?_
    exact q
theorem ok_within (T : Txt K mg) : FnOk P w K mg base CX0 1 T.f__within_count T.d__within_count ["nodes", "steps"] spWithin := by
  refine T.F__within_count.ok sc__within_count (fun vs H Q E h => ?_) (fun cdv A outer s H vs Q E hr h => ?_)
  · obtain ⟨a, b, rfl, _⟩ := h
    rfl
  obtain ⟨a, b, rfl, q⟩ := h
  refine ⟨_, (pss_one (ps_ret (pe_ifExp (pt_cmpR op_le (pv 1) (pe_glob (v := .int 1000000000000000000000000000000) rfl T.g_MAX_COUNT ⟨_, rfl⟩) (nomark _)) (pe_tup (pa_cons (pv 0) (pa_cons (pv 1) pa_nil))) pe_non))), ?_⟩
  refine ⟨_, rfl, _, _, rfl, rfl, _, rfl, ?_⟩
  unfold within at q
  refine ite2 (fun g => ?_) (fun g => ?_)
  · rw [if_pos (of_decide_eq_true g)] at q
    refine ⟨_, rfl, _, rfl, (by show 2 ≤ sizeLine; decide), fun t ht => ?_⟩
    exact q _ _ (same_new ht) ⟨t, rfl, upd_same⟩
  · rw [if_neg (fun z => g (decide_eq_true z))] at q
    exact q _ _ (Same.refl _) rfl
theorem ok_szs (T : Txt K mg) {n : Nat} (g__sizes : FnOk P w K mg base CX0 (2 * n + 2) T.f__sizes T.d__sizes ["value", "leaf_steps", "room", "levels"] (spSz K T.f_steps_of_leaf n)) :
    FnOk P w K mg base CX0 (2 * n + 3) T.f__sizes_of_parts T.d__sizes_of_parts ["parts", "leaf_steps", "room", "levels"] (spSzs K T.f_steps_of_leaf n) := by
  have g__within_count : FnOk P w K mg base CX0 1 T.f__within_count T.d__within_count ["nodes", "steps"] spWithin := ok_within T
  refine T.F__sizes_of_parts.ok sc__sizes_of_parts (fun vs H Q E h => ?_) (fun cdv A outer s H vs Q E hr h => ?_)
  · obtain ⟨v, js, room, lv, rfl, _⟩ := h
    rfl
  obtain ⟨v, js, room, lv, rfl, hd, hn1, hn, q⟩ := h
  refine ⟨_, (pss_cons (ps_if (PW.pt (pw_or (pt_not (pt_val (pe_callB (r := rIsD K) call_isD (by rfl) T.n_isinstance (by decide +kernel) (pa_cons (pv 0) (pa_cons (pe_bltn (v := .ty "tuple") (by rfl) T.n_tuple (by decide +kernel) rfl) pa_nil))))) (pw_or1 (pt_cmpR op_gt (pe_callB (r := rLenS K) call_lenS (by rfl) T.n_len (by decide +kernel) (pa_cons (pv 0) pa_nil)) (pe_glob (v := .int 400) rfl T.g_MAX_PARTS ⟨_, rfl⟩) (nomark _))))) (pss_one (ps_ret pe_non)) pss_nil)
      (pss_cons (ps_set (i := 4) sc__sizes_of_parts.nd rfl (Or.inl rfl) pe_int)
      (pss_cons (ps_set (i := 5) sc__sizes_of_parts.nd rfl (Or.inl rfl) pe_int)
      (pss_cons (ps_for PassesOwn.never rfl (pi_tup (pv 0)) (pg_name (i := 6) sc__sizes_of_parts.nd rfl (Or.inl rfl))
        (pss_cons (ps_set (i := 7) sc__sizes_of_parts.nd rfl (Or.inl rfl) (pe_call g__sizes (hr.mono (by omega)) rfl T.m__sizes T.F__sizes.kp T.b__sizes .nil pass0 (pa_cons (pv 6) (pa_cons (pv 1) (pa_cons (pe_op op_sub (pv 2) (pv 4)) (pa_cons (pe_op op_sub (pv 3) pe_int) pa_nil))))))
        (pss_cons (ps_if (pt_cmpR op_isN (pv 7) pe_non (nomark _)) (pss_one (ps_ret pe_non)) pss_nil)
        (pss_cons (ps_aug (i := 4) sc__sizes_of_parts.nd rfl (Or.inl rfl) (pe_ix (r := rIxT K) ix_tup (pv 7) pe_int (fun _ _ => rfl)) ip_add)
        (pss_one (ps_aug (i := 5) sc__sizes_of_parts.nd rfl (Or.inl rfl) (pe_ix (r := rIxT K) ix_tup (pv 7) pe_int (fun _ _ => rfl)) ip_add))))))
      (pss_one (ps_ret (pe_call g__within_count (hr.mono (by omega)) rfl T.m__within_count T.F__within_count.kp T.b__within_count .nil pass0 (pa_cons (pv 4) (pa_cons (pv 5) pa_nil))))))))), ?_⟩
  obtain ⟨a, xs, rfl, hxs, hall⟩ := dp_tup_inv hd
  have hlen : xs.length = js.length := by rw [dpAll_length hall, J.toDs_eq, List.length_map]
  refine ⟨_, rfl, _, _, _, _, rfl, hd, kit_tuple _, _, rfl, ?_⟩
  refine iteF ?_
  refine ⟨_, rfl, a, xs, rfl, .inr hxs, _, _, rfl, rfl, _, rfl, ?_⟩
  refine ite2 (fun g => ?_) (fun g => ?_)
  · have g' : (400 : Int) < (xs.length : Int) := of_decide_eq_true g
    rw [if_pos (by omega)] at q
    exact q _ _ (Same.refl _) rfl
  have g' : ¬ (400 : Int) < (xs.length : Int) := fun z => g (decide_eq_true z)
  rw [if_neg (by omega)] at q
  refine ⟨_, rfl, a, rfl, ⟨xs, hxs⟩, ?_⟩
  -- the loop: what is left of the parts gives what is left of the sizes
  refine for_tup (K := K) (a := a) (xs := xs) (fun i σ H' => ∃ (nodes steps : Int) (y5 y6 : Option V), σ = [some (.ref a), some (.ref T.f_steps_of_leaf), some (.int room), some (.int lv), some (.int nodes), some (.int steps), y5, y6] ∧ Same H H' ∧
    szJs js 1 0 room lv = szJs (js.drop i) nodes steps room lv) ⟨1, 0, none, none, rfl, Same.refl _, rfl⟩ (fun i σ H' _ ⟨_, _, _, _, _, s1, _⟩ => same_sqT s1 hxs) ?_ ?_
  · rintro i x σ H' hi ⟨nodes, steps, y5, y6, rfl, s1, es⟩
    obtain ⟨d, ed, hd'⟩ := dpAll_get hall hi
    have hij : i < js.length := by
      rw [← hlen]
      exact (List.getElem?_eq_some_iff.mp hi).1
    have ej : d = (js[i]).toD := by
      rw [J.toDs_eq, List.getElem?_map, List.getElem?_eq_getElem hij] at ed
      exact (Option.some.inj ed).symm
    subst ej
    have hdrop : js.drop i = js[i] :: js.drop (i + 1) := List.drop_eq_getElem_cons hij
    rw [hdrop] at es
    refine ⟨_, rfl, _, rfl, _, rfl, _, rfl, _, _, rfl, rfl, _, rfl, _, _, rfl, rfl, x, js[i], room - nodes, lv - 1, rfl, dp_same s1 hd', by omega, by omega, fun H2 r2 s2 h2 => ?_⟩
    simp only [szJs] at es
    cases ez : szJ js[i] (room - nodes) (lv - 1) with
    | none =>
      rw [ez] at h2 es
      obtain rfl : r2 = .non := h2
      refine ⟨_, rfl, rfl, _, rfl, ?_⟩
      refine iteT ?_
      rw [es] at q
      exact q _ _ (s1.trans s2) rfl
    | some ab =>
      obtain ⟨a1, b1⟩ := ab
      rw [ez] at h2 es
      obtain ⟨t, rfl, ht⟩ := h2
      refine ⟨_, rfl, rfl, _, rfl, ?_⟩
      refine iteF ?_
      refine ⟨_, rfl, _, rfl, _, _, _, _, rfl, rfl, SqT.of ht, rfl, _, _, rfl, rfl, ?_⟩
      refine ⟨_, rfl, _, rfl, _, _, _, _, rfl, rfl, SqT.of ht, rfl, _, _, rfl, rfl, ?_⟩
      exact ⟨_, _, _, _, rfl, s1.trans s2, es⟩
  · rintro σ H' ⟨nodes, steps, y5, y6, rfl, s1, es⟩
    rw [hlen, List.drop_length] at es
    simp only [szJs] at es
    refine ⟨_, rfl, _, rfl, nodes, steps, rfl, fun H2 r2 s2 h2 => ?_⟩
    rw [es] at q
    exact q _ _ (s1.trans s2) h2
theorem ok_szr (T : Txt K mg) {n : Nat} (g__sizes : FnOk P w K mg base CX0 (2 * n + 2) T.f__sizes T.d__sizes ["value", "leaf_steps", "room", "levels"] (spSz K T.f_steps_of_leaf n)) :
    FnOk P w K mg base CX0 (2 * n + 3) T.f__sizes_of_rounds T.d__sizes_of_rounds ["n", "inner", "leaf_steps", "room", "levels"] (spSzr K T.f_steps_of_leaf n) := by
  have g__within_count : FnOk P w K mg base CX0 1 T.f__within_count T.d__within_count ["nodes", "steps"] spWithin := ok_within T
  have g_is_within := ok_wi (P := P) (w := w) (base := base) T
  refine T.F__sizes_of_rounds.ok sc__sizes_of_rounds (fun vs H Q E h => ?_) (fun cdv A outer s H vs Q E hr h => ?_)
  · obtain ⟨v, c, j, room, lv, rfl, _⟩ := h
    rfl
  obtain ⟨v, c, j, room, lv, rfl, hd, hn1, hn, q⟩ := h
  refine ⟨_, (pss_cons (ps_if (pt_not (pt_val (pe_call g_is_within (hr.mono (by omega)) rfl T.m_is_within T.F_is_within.kp T.b_is_within .nil pass0 (pa_cons (pv 0) (pa_cons pe_int (pa_cons (pe_glob (v := .int 1000000000000000000000000000000) rfl T.g_MAX_COUNT ⟨_, rfl⟩) pa_nil)))))) (pss_one (ps_ret pe_non)) pss_nil)
      (pss_cons (ps_set (i := 5) sc__sizes_of_rounds.nd rfl (Or.inl rfl) (pe_call g__sizes (hr.mono (by omega)) rfl T.m__sizes T.F__sizes.kp T.b__sizes .nil pass0 (pa_cons (pv 1) (pa_cons (pv 2) (pa_cons (pe_op op_sub (pv 3) pe_int) (pa_cons (pe_op op_sub (pv 4) pe_int) pa_nil))))))
      (pss_cons (ps_if (pt_cmpR op_isN (pv 5) pe_non (nomark _)) (pss_one (ps_ret pe_non)) pss_nil)
      (pss_one (ps_ret (pe_call g__within_count (hr.mono (by omega)) rfl T.m__within_count T.F__within_count.kp T.b__within_count .nil pass0 (pa_cons (pe_op op_add (pe_ix (r := rIxT K) ix_tup (pv 5) pe_int (fun _ _ => rfl)) pe_int) (pa_cons (pe_op op_mulW (pe_ix (r := rIxT K) ix_tup (pv 5) pe_int (fun _ _ => rfl)) (pv 0)) pa_nil)))))))), ?_⟩
  refine ⟨_, rfl, .int c, .int c, 0, M30, rfl, .int c, _, rfl, ?_⟩
  show if (!(decide (0 ≤ c) && decide (c ≤ M30))) = true then _ else _
  refine ite2 (fun g => ?_) (fun g => ?_)
  · rw [if_pos (fun z => by rw [decide_eq_true z.1, decide_eq_true z.2] at g; cases g)] at q
    exact q _ _ (Same.refl _) rfl
  obtain ⟨g0, g1⟩ : 0 ≤ c ∧ c ≤ M30 := by
    by_cases z : 0 ≤ c ∧ c ≤ M30
    · exact z
    · exfalso
      apply g
      rw [Bool.not_eq_true', Bool.and_eq_false_iff]
      by_cases z0 : 0 ≤ c
      · exact .inr (decide_eq_false fun y => z ⟨z0, y⟩)
      · exact .inl (decide_eq_false z0)
  rw [if_neg (fun z => z ⟨g0, g1⟩)] at q
  refine ⟨_, rfl, _, rfl, _, rfl, _, _, rfl, rfl, _, rfl, _, _, rfl, rfl, v, j, room - 1, lv - 1, rfl, hd, by omega, by omega, fun H2 r2 s2 h2 => ?_⟩
  cases ez : szJ j (room - 1) (lv - 1) with
  | none =>
    rw [ez] at h2 q
    obtain rfl : r2 = .non := h2
    refine ⟨_, rfl, rfl, _, rfl, ?_⟩
    refine iteT ?_
    exact q _ _ s2 rfl
  | some ab =>
    obtain ⟨a1, b1⟩ := ab
    rw [ez] at h2 q
    obtain ⟨t, rfl, ht⟩ := h2
    refine ⟨_, rfl, rfl, _, rfl, ?_⟩
    refine iteF ?_
    obtain ⟨jo, _, _, ea, eb⟩ := szJ_inv j _ _ _ _ ez
    have hb0 := J.steps_nn j jo
    have hb1 := J.steps_le j jo
    rw [← eb] at hb0 hb1
    refine ⟨_, rfl, _, _, _, _, rfl, rfl, SqT.of ht, rfl, _, _, rfl, rfl, _, rfl, _, _, _, _, rfl, rfl, SqT.of ht, rfl, _, rfl, _, _, rfl, rfl, ?_, ?_⟩
    · have e1 : b1.natAbs < 2 ^ 128 := Nat.lt_of_le_of_lt (show b1.natAbs ≤ 1000000000000000000000000000000 by simp only [M30] at hb1; omega) (by decide)
      have e2 : c.natAbs < 2 ^ 128 := Nat.lt_of_le_of_lt (show c.natAbs ≤ 1000000000000000000000000000000 by simp only [M30] at g1; omega) (by decide)
      exact wide_mul (a := 128) (b := 128) e1 e2 (by decide) (by decide) (by decide)
    refine ⟨_, _, rfl, fun H3 r3 s3 h3 => ?_⟩
    exact q _ _ (s2.trans s3) h3
theorem in_parts (k : Bool) : inV (.str (kwP k)) [.str "seq", .str "par"] = true := by cases k <;> decide +kernel
theorem in_parts_no (k : Bool) : inV (.str (kwR k)) [.str "seq", .str "par"] = false := by cases k <;> decide +kernel
theorem in_rounds (k : Bool) : inV (.str (kwR k)) [.str "repeat", .str "copies"] = true := by cases k <;> decide +kernel
theorem ok_sz (T : Txt K mg) {n : Nat} (g__sizes_of_parts : FnOk P w K mg base CX0 (2 * n + 3) T.f__sizes_of_parts T.d__sizes_of_parts ["parts", "leaf_steps", "room", "levels"] (spSzs K T.f_steps_of_leaf n))
    (g__sizes_of_rounds : FnOk P w K mg base CX0 (2 * n + 3) T.f__sizes_of_rounds T.d__sizes_of_rounds ["n", "inner", "leaf_steps", "room", "levels"] (spSzr K T.f_steps_of_leaf n)) :
    FnOk P w K mg base CX0 (2 * (n + 1) + 2) T.f__sizes T.d__sizes ["value", "leaf_steps", "room", "levels"] (spSz K T.f_steps_of_leaf (n + 1)) := by
  have g_steps_of_leaf := ok_leaf (P := P) (w := w) (base := base) T
  refine T.F__sizes.ok sc__sizes (fun vs H Q E h => ?_) (fun cdv A outer s H vs Q E hr h => ?_)
  · obtain ⟨v, j, room, lv, rfl, _⟩ := h
    rfl
  obtain ⟨v, j, room, lv, rfl, hd, hn1, hn, q⟩ := h
  refine ⟨_, (pss_cons (ps_if (PW.pt (pw_or (pt_cmpR op_lt (pv 2) pe_int (nomark _)) (pw_or1 (pt_cmpR op_lt (pv 3) pe_int (nomark _))))) (pss_one (ps_ret pe_non)) pss_nil)
      (pss_cons (ps_set (i := 4) sc__sizes.nd rfl (Or.inl rfl) (pe_callL (i := 1) g_steps_of_leaf (hr.mono (by omega)) rfl (.inl rfl) T.F_steps_of_leaf.kp T.b_steps_of_leaf .nil pass0 (pa_cons (pv 0) pa_nil)))
      (pss_cons (ps_if (pt_cmpR op_notN (pv 4) pe_non (nomark _)) (pss_one (ps_ret (pe_tup (pa_cons pe_int (pa_cons (pv 4) pa_nil))))) pss_nil)
      (pss_cons (ps_if (pt_not (pt_val (pe_callB (r := rIsD K) call_isD (by rfl) T.n_isinstance (by decide +kernel) (pa_cons (pv 0) (pa_cons (pe_bltn (v := .ty "tuple") (by rfl) T.n_tuple (by decide +kernel) rfl) pa_nil))))) (pss_one (ps_ret pe_non)) pss_nil)
      (pss_cons (ps_if (PW.pt (pw_and (pt_cmpR op_eq (pe_callB (r := rLenS K) call_lenS (by rfl) T.n_len (by decide +kernel) (pa_cons (pv 0) pa_nil)) pe_int (nomark _)) (pw_and1 (pt_cmpR (r := rIn K false) op_in_seq (pe_ix (r := rIxT K) ix_tup (pv 0) pe_int (fun _ _ => rfl)) (pe_tup (pa_cons pe_str (pa_cons pe_str pa_nil))) (by rfl))))) (pss_one (ps_ret (pe_call g__sizes_of_parts (hr.mono (by omega)) rfl T.m__sizes_of_parts T.F__sizes_of_parts.kp T.b__sizes_of_parts .nil pass0 (pa_cons (pe_ix (r := rIxT K) ix_tup (pv 0) pe_int (fun _ _ => rfl)) (pa_cons (pv 1) (pa_cons (pv 2) (pa_cons (pv 3) pa_nil))))))) pss_nil)
      (pss_cons (ps_if (PW.pt (pw_and (pt_cmpR op_eq (pe_callB (r := rLenS K) call_lenS (by rfl) T.n_len (by decide +kernel) (pa_cons (pv 0) pa_nil)) pe_int (nomark _)) (pw_and1 (pt_cmpR (r := rIn K false) op_in_seq (pe_ix (r := rIxT K) ix_tup (pv 0) pe_int (fun _ _ => rfl)) (pe_tup (pa_cons pe_str (pa_cons pe_str pa_nil))) (by rfl))))) (pss_one (ps_ret (pe_call g__sizes_of_rounds (hr.mono (by omega)) rfl T.m__sizes_of_rounds T.F__sizes_of_rounds.kp T.b__sizes_of_rounds .nil pass0 (pa_cons (pe_ix (r := rIxT K) ix_tup (pv 0) pe_int (fun _ _ => rfl)) (pa_cons (pe_ix (r := rIxT K) ix_tup (pv 0) pe_int (fun _ _ => rfl)) (pa_cons (pv 1) (pa_cons (pv 2) (pa_cons (pv 3) pa_nil)))))))) pss_nil)
      (pss_one (ps_ret pe_non)))))))), ?_⟩
  -- room < 1 or levels < 1
  have no : ∀ R : V → Hp → Prop, R = Q → (room < 1 ∨ lv < 1) → R .non H := by
    rintro R rfl z
    have e : szJ j room lv = none := by cases j <;> simp only [szJ] <;> rw [if_pos z]
    rw [e] at q
    exact q _ _ (Same.refl _) rfl
  refine ⟨_, rfl, _, _, rfl, rfl, _, rfl, ?_⟩
  refine ite2 (fun g => ?_) (fun g => ?_)
  · refine iteT ?_
    exact no _ rfl (.inl (of_decide_eq_true g))
  refine ⟨_, rfl, _, _, rfl, rfl, _, rfl, ?_⟩
  refine ite2 (fun g2 => ?_) (fun g2 => ?_)
  · exact no _ rfl (.inr (of_decide_eq_true g2))
  have g' : ¬ (room < 1 ∨ lv < 1) := fun z => z.elim (fun y => g (decide_eq_true y)) (fun y => g2 (decide_eq_true y))
  clear no
  cases j with
  | st i =>
    obtain rfl := dp_int_inv hd
    simp only [szJ] at q
    rw [if_neg g'] at q
    refine ⟨rfl, _, rfl, .int i, .int i, rfl, .int i, ?_⟩
    by_cases z : -M30 ≤ i ∧ i ≤ M30
    · rw [if_pos z] at q
      have e : inW (.int i) (-M30) M30 = true := by
        rw [inW_int, decide_eq_true z.1, decide_eq_true z.2] <;> rfl
      rw [if_pos e]
      refine ⟨_, rfl, rfl, _, rfl, ?_⟩
      refine iteT ?_
      refine ⟨_, rfl, (by show 2 ≤ sizeLine; decide), fun t ht => ?_⟩
      exact q _ _ (same_new ht) ⟨t, rfl, upd_same⟩
    · rw [if_neg z] at q
      have e : ¬ inW (.int i) (-M30) M30 = true := by
        rw [inW_int, Bool.and_eq_true, decide_eq_true_eq, decide_eq_true_eq]
        exact z
      rw [if_neg e]
      refine ⟨_, rfl, rfl, _, rfl, ?_⟩
      refine iteF ?_
      refine ⟨_, rfl, _, _, _, _, rfl, .int i, kit_tuple _, _, rfl, ?_⟩
      refine iteT ?_
      exact q _ _ (Same.refl _) rfl
  | ps k xs =>
    simp only [szJ] at q
    rw [if_neg g'] at q
    have hd0 := hd
    rw [J.toD] at hd
    obtain ⟨a, ys, rfl, hys, hall⟩ := dp_tup_inv hd
    cases hall with
    | cons e1 hall =>
      obtain rfl := dp_str_inv e1
      cases hall with
      | cons e2 hall =>
        cases hall
        rename_i vp
        refine ⟨rfl, _, rfl, .ref a, _, rfl, hd, ?_⟩
        refine ⟨_, rfl, rfl, _, rfl, ?_⟩
        refine iteF ?_
        refine ⟨_, rfl, _, _, _, _, rfl, hd, kit_tuple _, _, rfl, ?_⟩
        refine iteF ?_
        refine ⟨_, rfl, a, _, rfl, .inr hys, rfl, _, rfl, ?_⟩
        refine iteT ?_
        refine ⟨_, rfl, _, _, _, _, rfl, rfl, hys, rfl, (by show 2 ≤ sizeLine; decide), fun t ht => ?_⟩
        refine ⟨t, _, rfl, .inr (SqT.of upd_same), rfl, rfl, _, rfl, ?_⟩
        have s1 : Same H (upd H t (.tup [.str "seq", .str "par"])) := same_new ht
        show if inV (.str (kwP k)) [.str "seq", .str "par"] = true then _ else _
        rw [in_parts]
        refine iteT ?_
        refine ⟨_, rfl, _, _, _, _, rfl, rfl, same_sqT s1 hys, rfl, _, rfl, _, rfl, _, rfl, vp, xs, room, lv, rfl, dp_same s1 e2, by omega, by omega, fun H2 r2 s2 h2 => ?_⟩
        exact q _ _ (s1.trans s2) h2
  | rn k c x =>
    simp only [szJ] at q
    rw [if_neg g'] at q
    rw [J.toD] at hd
    obtain ⟨a, ys, rfl, hys, hall⟩ := dp_tup_inv hd
    cases hall with
    | cons e1 hall =>
      obtain rfl := dp_str_inv e1
      cases hall with
      | cons e2 hall =>
        obtain rfl := dp_int_inv e2
        cases hall with
        | cons e3 hall =>
          cases hall
          rename_i vx
          refine ⟨rfl, _, rfl, .ref a, _, rfl, hd, ?_⟩
          refine ⟨_, rfl, rfl, _, rfl, ?_⟩
          refine iteF ?_
          refine ⟨_, rfl, _, _, _, _, rfl, hd, kit_tuple _, _, rfl, ?_⟩
          refine iteF ?_
          refine ⟨_, rfl, a, _, rfl, .inr hys, rfl, _, rfl, ?_⟩
          refine iteF ?_
          refine ⟨_, rfl, a, _, rfl, .inr hys, rfl, _, rfl, ?_⟩
          refine iteT ?_
          refine ⟨_, rfl, _, _, _, _, rfl, rfl, hys, rfl, (by show 2 ≤ sizeLine; decide), fun t ht => ?_⟩
          refine ⟨t, _, rfl, .inr (SqT.of upd_same), rfl, rfl, _, rfl, ?_⟩
          have s1 : Same H (upd H t (.tup [.str "repeat", .str "copies"])) := same_new ht
          show if inV (.str (kwR k)) [.str "repeat", .str "copies"] = true then _ else _
          rw [in_rounds]
          refine iteT ?_
          refine ⟨_, rfl, _, _, _, _, rfl, rfl, same_sqT s1 hys, rfl, _, rfl, _, _, _, _, rfl, rfl, same_sqT s1 hys, rfl, _, rfl, _, rfl, _, rfl, vx, c, x, room, lv, rfl, dp_same s1 e3, by omega, by omega, fun H2 r2 s2 h2 => ?_⟩
          exact q _ _ (s1.trans s2) h2
theorem ok_sizes (T : Txt K mg) : ∀ n : Nat, FnOk P w K mg base CX0 (2 * n + 2) T.f__sizes T.d__sizes ["value", "leaf_steps", "room", "levels"] (spSz K T.f_steps_of_leaf n)
  | 0 => by
    have no : ∀ vs H Q E, ¬ spSz K T.f_steps_of_leaf 0 vs H Q E := by
      rintro vs H Q E ⟨v, j, room, lv, _, _, h1, h2, _⟩
      omega
    exact ⟨fun vs H Q E h => absurd h (no vs H Q E), fun A outer s H args us vs Q E _ _ _ _ h => absurd h (no vs H Q E)⟩
  | n + 1 => ok_sz T (ok_szs T (ok_sizes T n)) (ok_szr T (ok_sizes T n))
/-- jobs of at most thirteen levels -/
def spIsJob (K : PySem.W.Frag) : Sp := fun vs H Q _ => ∃ (v : V) (j : J), vs = [v] ∧ Dp K H v j.toD ∧ j.deep ≤ 20 ∧ ∀ H', Same H H' → Q (.bl (szJ j 400 13).isSome) H'
def spChecked (K : PySem.W.Frag) : Sp := fun vs H Q _ => ∃ (v : V) (j : J) (a b : Int), vs = [v] ∧ Dp K H v j.toD ∧ j.deep ≤ 20 ∧ szJ j 400 13 = some (a, b) ∧
  ∀ (H' : Hp) (t : Addr), Same H H' → H' t = some (.tup [.int a, .int b]) → Q (.ref t) H'
def spSzOf (K : PySem.W.Frag) (L : Addr) : Sp := fun vs H Q _ => ∃ (v : V) (j : J), vs = [v, .ref L] ∧ Dp K H v j.toD ∧ ∀ (H' : Hp) (r : V), Same H H' → RepSz H' r (szJ j 400 13) → Q r H'
theorem ok_szof (T : Txt K mg) : FnOk P w K mg base CX0 31 T.f_sizes_of T.d_sizes_of ["value", "leaf_steps"] (spSzOf K T.f_steps_of_leaf) := by
  have g__sizes := ok_sizes (P := P) (w := w) (base := base) T 14
  refine T.F_sizes_of.ok sc_sizes_of (fun vs H Q E h => ?_) (fun cdv A outer s H vs Q E hr h => ?_)
  · obtain ⟨v, j, rfl, _⟩ := h
    rfl
  obtain ⟨v, j, rfl, hd, q⟩ := h
  refine ⟨_, (pss_one (ps_ret (pe_call g__sizes (hr.mono (by omega)) rfl T.m__sizes T.F__sizes.kp T.b__sizes .nil pass0 (pa_cons (pv 0) (pa_cons (pv 1) (pa_cons (pe_glob (v := .int 400) rfl T.g_MAX_NODES ⟨_, rfl⟩) (pa_cons (pe_glob (v := .int 13) rfl T.g_MAX_DEPTH ⟨_, rfl⟩) pa_nil))))))), ?_⟩
  exact ⟨_, rfl, _, rfl, v, j, 400, 13, rfl, hd, by decide, by decide, q⟩
theorem ok_isjob (T : Txt K mg) : FnOk P w K mg base CX0 43 T.f_is_job T.d_is_job ["value"] (spIsJob K) := by
  have g_sizes_of := ok_szof (P := P) (w := w) (base := base) T
  refine T.F_is_job.ok sc_is_job (fun vs H Q E h => ?_) (fun cdv A outer s H vs Q E hr h => ?_)
  · obtain ⟨v, j, rfl, _⟩ := h
    rfl
  obtain ⟨v, j, rfl, hd, hn, q⟩ := h
  refine ⟨_, (pss_one (ps_ret (pe_cmpR op_notN (pe_call g_sizes_of (hr.mono (by omega)) rfl T.m_sizes_of T.F_sizes_of.kp T.b_sizes_of .nil pass0 (pa_cons (pv 0) (pa_cons (pe_glob (v := .ref T.f_steps_of_leaf) rfl T.m_steps_of_leaf rfl) pa_nil))) pe_non (nomark _)))), ?_⟩
  refine ⟨_, rfl, v, j, rfl, hd, fun H2 r2 s2 h2 => ?_⟩
  cases ez : szJ j 400 13 with
  | none =>
    rw [ez] at h2 q
    obtain rfl : r2 = .non := h2
    exact ⟨rfl, q _ s2⟩
  | some ab =>
    obtain ⟨a, b⟩ := ab
    rw [ez] at h2 q
    obtain ⟨t, rfl, ht⟩ := h2
    exact ⟨rfl, q _ s2⟩
theorem ok_checked (T : Txt K mg) : FnOk P w K mg base CX0 43 T.f_checked_sizes T.d_checked_sizes ["job"] (spChecked K) := by
  have g_sizes_of := ok_szof (P := P) (w := w) (base := base) T
  refine T.F_checked_sizes.ok sc_checked_sizes (fun vs H Q E h => ?_) (fun cdv A outer s H vs Q E hr h => ?_)
  · obtain ⟨v, j, a, b, rfl, _⟩ := h
    rfl
  obtain ⟨v, j, a, b, rfl, hd, hn, ez, q⟩ := h
  refine ⟨_, (pss_cons (ps_set (i := 1) sc_checked_sizes.nd rfl (Or.inl rfl) (pe_call g_sizes_of (hr.mono (by omega)) rfl T.m_sizes_of T.F_sizes_of.kp T.b_sizes_of .nil pass0 (pa_cons (pv 0) (pa_cons (pe_glob (v := .ref T.f_steps_of_leaf) rfl T.m_steps_of_leaf rfl) pa_nil))))
      (pss_cons (ps_if (pt_cmpR op_isN (pv 1) pe_non (nomark _)) (pss_one ps_never) pss_nil)
      (pss_one (ps_ret (pv 1))))), ?_⟩
  refine ⟨_, rfl, v, j, rfl, hd, fun H2 r2 s2 h2 => ?_⟩
  rw [ez] at h2
  obtain ⟨t, rfl, ht⟩ := h2
  refine ⟨_, rfl, rfl, _, rfl, ?_⟩
  refine iteF ?_
  exact ⟨_, rfl, q _ t s2 ht⟩
end
/-! block Find: is_index_tuple, find_step, _part_at over data of any kind (behind bSizes, Rq) -/
def isI : PyData → Bool
  | .int _ => true
  | _ => false
theorem isI_eq (d : PyData) : (isInt d && !isBoo d) = isI d := by cases d <;> rfl
def spIsIntQ (K : PySem.W.Frag) : Sp := fun vs H Q _ => ∃ (v : V) (p : Addr) (d : PyData), vs = [v] ∧ Dq K p H v d ∧ Q (.bl (isI d)) H
def isIdx : PyData → Bool
  | .tuple ds => ds.all isI
  | _ => false
def spIdx (K : PySem.W.Frag) : Sp := fun vs H Q _ => ∃ (v : V) (p : Addr) (d : PyData), vs = [v] ∧ Dq K p H v d ∧ d.bulk ≤ 80000 ∧ ∀ H', Same H H' → Q (.bl (isIdx d)) H'
def J.part : J → Int → Option J
  | .st _, _ => none
  | .ps _ xs, k => if k < 0 then none else xs[k.toNat]?
  | .rn _ n x, k => if k < 0 then none else if k < n then some x else none
def J.find : J → List PyData → Option Int
  | .st i, [] => some i
  | .ps _ _, [] => none
  | .rn _ _ _, [] => none
  | j, .int k :: r => match j.part k with
    | none => none
    | some y => y.find r
  | _, _ :: _ => none
def fdD (j : J) : PyData → Option Int
  | .tuple ds => j.find ds
  | _ => none
def opV : Option Int → V
  | none => .non
  | some i => .int i
def PartR (K : PySem.W.Frag) (H : Hp) (r : V) : Option J → Prop
  | none => r = .non
  | some y => Dp K H r y.toD
def spPart (K : PySem.W.Frag) : Sp := fun vs H Q _ => ∃ (v : V) (j : J) (k : Int), vs = [v, .int k] ∧ Dp K H v j.toD ∧ ∀ (H' : Hp) (r : V), Same H H' → PartR K H' r (j.part k) → Q r H'
def spFind (K : PySem.W.Frag) : Sp := fun vs H Q _ => ∃ (v u : V) (j : J) (p : Addr) (d : PyData), vs = [v, u] ∧ Dp K H v j.toD ∧ Dq K p H u d ∧ d.bulk ≤ 80000 ∧ ∀ H', Same H H' → Q (opV (fdD j d)) H'
theorem idx_ints : ∀ {ds : List PyData}, ds.all isI = true → ∃ a : List Int, ds = a.map .int
  | [], _ => ⟨[], rfl⟩
  | d :: ds, h => by
    rw [List.all_cons, Bool.and_eq_true] at h
    obtain ⟨a, rfl⟩ := idx_ints h.2
    cases d with
    | int i => exact ⟨i :: a, rfl⟩
    | _ => cases h.1
theorem find_not : ∀ {ds : List PyData} (j : J), ds.all isI = false → j.find ds = none
  | [], _, h => by cases h
  | d :: ds, j, h => by
    cases d with
    | int k =>
      have h' : ds.all isI = false := by simpa [isI] using h
      have e : j.find (.int k :: ds) = match j.part k with
        | none => none
        | some y => y.find ds := by cases j <;> rfl
      rw [e]
      cases j.part k with
      | none => rfl
      | some y => exact find_not y h'
    | _ => cases j <;> rfl
theorem find_int (j : J) (k : Int) (ds : List PyData) : j.find (.int k :: ds) = match j.part k with
    | none => none
    | some y => y.find ds := by cases j <;> rfl
theorem atI_exF {vs : List V} {r : Int} (h0 : 0 ≤ r) (h1 : r < (vs.length : Int)) : ∃ v, vs[r.toNat]? = some v ∧ atI vs r = some v := by
  have hk : r.toNat < vs.length := by omega
  exact ⟨vs[r.toNat], List.getElem?_eq_getElem hk, atI_at (j := r.toNat) (by omega) (List.getElem?_eq_getElem hk)⟩
theorem dq_len_bulk : ∀ ds : List PyData, ds.length ≤ PyData.bulkAll ds
  | [] => by simp [PyData.bulkAll]
  | d :: ds => by
    have := dq_len_bulk ds
    simp only [PyData.bulkAll, List.length_cons]
    omega
section
variable {P : Program} {w : World} {K : PySem.W.Frag} {mg : Str → Option Value} {base : Heap}
theorem ok_isintQ (T : Txt K mg) : FnOk P w K mg base CX0 1 T.f_is_integer T.d_is_integer ["value"] (spIsIntQ K) := by
  refine T.F_is_integer.ok sc_is_integer (fun vs H Q E h => ?_) (fun cdv A outer s H vs Q E hr h => ?_)
  · obtain ⟨v, p, d, rfl, _⟩ := h
    rfl
  obtain ⟨v, p, d, rfl, hd, q⟩ := h
  refine ⟨_, (pss_one (ps_ret (pe_and (pe_callB (r := rIsQ K) call_isQ (by rfl) T.n_isinstance (by decide +kernel) (pa_cons (pv 0) (pa_cons (pe_bltn (v := .ty "int") (by rfl) T.n_int (by decide +kernel) rfl) pa_nil))) (pe_one (pe_not (pe_callB (r := rIsQ K) call_isQ (by rfl) T.n_isinstance (by decide +kernel) (pa_cons (pv 0) (pa_cons (pe_bltn (v := .ty "bool") (by rfl) T.n_bool (by decide +kernel) rfl) pa_nil)))))))), ?_⟩
  rw [← isI_eq] at q
  refine ⟨_, rfl, v, _, p, d, _, rfl, hd, kit_int d, _, rfl, ?_⟩
  cases e : isInt d with
  | false =>
    refine iteF ?_
    rw [e] at q
    exact q
  | true =>
    refine iteT ⟨_, rfl, v, _, p, d, _, rfl, hd, kit_bool d, _, rfl, ?_⟩
    rw [e] at q
    exact q
theorem ok_idx (T : Txt K mg) : FnOk P w K mg base CX0 2 T.f_is_index_tuple T.d_is_index_tuple ["value"] (spIdx K) := by
  have g_is_integer := ok_isintQ (P := P) (w := w) (base := base) T
  refine T.F_is_index_tuple.ok sc_is_index_tuple (fun vs H Q E h => ?_) (fun cdv A outer s H vs Q E hr h => ?_)
  · obtain ⟨v, p, d, rfl, _⟩ := h
    rfl
  obtain ⟨v, p, d, rfl, hd, hb, q⟩ := h
  refine ⟨_, (pss_one (ps_ret (pe_and (pe_callB (r := rIsQ K) call_isQ (by rfl) T.n_isinstance (by decide +kernel) (pa_cons (pv 0) (pa_cons (pe_bltn (v := .ty "tuple") (by rfl) T.n_tuple (by decide +kernel) rfl) pa_nil))) (pe_one (pe_callB (r := rAll K) (cr_all rfl) (by rfl) T.n_all (by decide +kernel) (pa_cons (pe_lc (own := [("index", 1)]) (g := (gName 1)) (by rfl) sc_is_index_tuple.nd (pi_tup (pv 0)) (blkOk_by (N := N_is_index_tuple) (sc := (defScope s_is_index_tuple)) (by decide +kernel)) (fun _ _ _ _ _ => (pg_name (i := 1) sc_is_index_tuple.nd rfl (Or.inl rfl))) (fun _ _ _ _ _ => pts_nil) (fun _ _ _ _ _ => (pe_call g_is_integer (hr.mono (by omega)) rfl T.m_is_integer T.F_is_integer.kp T.b_is_integer .nil pass0 (pa_cons (pv 1) pa_nil)))) pa_nil)))))), ?_⟩
  refine ⟨_, rfl, v, _, p, d, _, rfl, hd, kit_tuple d, _, rfl, ?_⟩
  cases et : isTup d with
  | false =>
    refine iteF ?_
    have e : isIdx d = false := by cases d <;> first | rfl | cases et
    rw [e] at q
    exact q _ (Same.refl _)
  | true =>
  obtain ⟨ds, rfl⟩ : ∃ ds, d = .tuple ds := by
    cases d <;> first | exact ⟨_, rfl⟩ | cases et
  obtain ⟨a, xs, rfl, hxs, hall⟩ := dq_tup_inv hd
  have hlen : xs.length = ds.length := dqAll_length hall
  have hbl : ds.length ≤ 80000 := by
    have := dq_len_bulk ds
    simp only [PyData.bulk] at hb
    omega
  refine iteT ?_
  refine ⟨_, rfl, a, rfl, ⟨xs, hxs⟩, fun D hD => ?_⟩
  refine lc_tup (K := K) (a := a) (xs := xs) (fun i H' => Same H H' ∧ H' D = some (.lst (((ds.take i).map isI).map V.bl))) ?_ ?_ ?_ ?_
  · exact ⟨same_new hD, by simpa using upd_same⟩
  · rintro i H' _ ⟨s1, _⟩
    exact same_sqT s1 hxs
  · rintro i x H' hi ⟨s1, eD⟩
    obtain ⟨d, ed, hd'⟩ := dqAll_get hall hi
    refine ⟨rfl, ?_⟩
    unfold tYes
    refine iteT ?_
    refine ⟨_, rfl, x, p, d, rfl, hd'.keep (Same.kp s1), _, eD, ?_, ?_, ?_⟩
    · rw [List.length_map, List.length_map, List.length_take, sizeLine_eq]
      omega
    · intro c o hc
      rw [upd_ne (ne_of_none hc hD)]
      exact s1 _ _ hc
    · rw [upd_same, take_step isI ed, List.map_append]
      rfl
  · rintro H' ⟨s1, eD⟩
    rw [hlen, List.take_length] at eD
    refine ⟨D, _, rfl, SqL.of eD, ?_⟩
    have e : ((ds.map isI).all id) = isIdx (.tuple ds) := by simp [isIdx, List.all_map, Function.comp_def]
    rw [e]
    exact q _ s1
theorem ok_part (T : Txt K mg) : FnOk P w K mg base CX0 2 T.f__part_at T.d__part_at ["job", "index"] (spPart K) := by
  have g_is_integer := ok_isint (P := P) (w := w) (base := base) T
  refine T.F__part_at.ok sc__part_at (fun vs H Q E h => ?_) (fun cdv A outer s H vs Q E hr h => ?_)
  · obtain ⟨v, j, k, rfl, _⟩ := h
    rfl
  obtain ⟨v, j, k, rfl, hd, q⟩ := h
  refine ⟨_, (pss_cons (ps_if (PW.pt (pw_or (pt_val (pe_call g_is_integer (hr.mono (by omega)) rfl T.m_is_integer T.F_is_integer.kp T.b_is_integer .nil pass0 (pa_cons (pv 0) pa_nil))) (pw_or1 (pt_cmpR op_lt (pv 1) pe_int (nomark _))))) (pss_one (ps_ret pe_non)) pss_nil)
      (pss_cons (ps_if (pt_cmpR (r := rIn K false) op_in_seq (pe_ix (r := rIxT K) ix_tup (pv 0) pe_int (fun _ _ => rfl)) (pe_tup (pa_cons pe_str (pa_cons pe_str pa_nil))) (by rfl)) (pss_one (ps_ret (pe_ifExp (pt_cmpR op_lt (pv 1) (pe_callB (r := rLenS K) call_lenS (by rfl) T.n_len (by decide +kernel) (pa_cons (pe_ix (r := rIxT K) ix_tup (pv 0) pe_int (fun _ _ => rfl)) pa_nil)) (nomark _)) (pe_ix (r := rIxT K) ix_tup (pe_ix (r := rIxT K) ix_tup (pv 0) pe_int (fun _ _ => rfl)) (pv 1) (fun _ _ => rfl)) pe_non))) pss_nil)
      (pss_one (ps_ret (pe_ifExp (pt_cmpR op_lt (pv 1) (pe_ix (r := rIxT K) ix_tup (pv 0) pe_int (fun _ _ => rfl)) (nomark _)) (pe_ix (r := rIxT K) ix_tup (pv 0) pe_int (fun _ _ => rfl)) pe_non))))), ?_⟩
  refine ⟨_, rfl, v, _, rfl, hd, _, rfl, ?_⟩
  cases j with
  | st i =>
    refine iteT ?_
    exact q _ _ (Same.refl _) rfl
  | ps b xs =>
    refine iteF ?_
    refine ⟨_, rfl, _, _, rfl, rfl, _, rfl, ?_⟩
    refine ite2 (fun z => ?_) (fun z => ?_)
    · refine q _ _ (Same.refl _) ?_
      simp only [J.part]
      rw [if_pos (of_decide_eq_true z)]
      rfl
    have z' : ¬ k < 0 := fun y => z (decide_eq_true y)
    have hk0 : 0 ≤ k := by omega
    obtain ⟨c, d, vs, rfl, hys, hvs, hall⟩ := ps_inv hd
    have len : vs.length = xs.length := parts_len hall
    refine ⟨_, rfl, _, _, _, _, rfl, rfl, hys, rfl, (by show 2 ≤ sizeLine; decide), fun t ht => ?_⟩
    refine ⟨t, _, rfl, .inr (SqT.of upd_same), rfl, rfl, _, rfl, ?_⟩
    have s2 : Same H (upd H t (.tup [.str "seq", .str "par"])) := same_new ht
    show if inV (.str (kwP b)) [.str "seq", .str "par"] = true then _ else _
    rw [w_in_parts]
    refine iteT ?_
    generalize (upd H t (.tup [.str "seq", .str "par"])) = H2 at s2 ⊢
    refine ⟨_, rfl, _, rfl, _, _, _, _, rfl, rfl, same_sqT s2 hys, rfl, d, vs, rfl, .inr (same_sqT s2 hvs), _, _, rfl, rfl, _, rfl, ?_⟩
    refine ite2 (fun y => ?_) (fun y => ?_)
    · have y' : k < (vs.length : Int) := of_decide_eq_true y
      obtain ⟨z, ez, eat⟩ := atI_exF (vs := vs) hk0 y'
      obtain ⟨j', ej', _, dj'⟩ := parts_at hall ez
      refine ⟨_, rfl, _, _, _, _, rfl, rfl, same_sqT s2 hys, rfl, _, rfl, _, _, _, _, rfl, rfl, same_sqT s2 hvs, eat, ?_⟩
      refine q _ _ s2 ?_
      simp only [J.part]
      rw [if_neg z', ej']
      exact dp_same s2 dj'
    · have y' : ¬ k < (vs.length : Int) := fun z => y (decide_eq_true z)
      refine q _ _ s2 ?_
      simp only [J.part]
      rw [if_neg z', List.getElem?_eq_none (by omega)]
      rfl
  | rn b n x =>
    refine iteF ?_
    refine ⟨_, rfl, _, _, rfl, rfl, _, rfl, ?_⟩
    refine ite2 (fun z => ?_) (fun z => ?_)
    · refine q _ _ (Same.refl _) ?_
      simp only [J.part]
      rw [if_pos (of_decide_eq_true z)]
      rfl
    have z' : ¬ k < 0 := fun y => z (decide_eq_true y)
    obtain ⟨c, y, rfl, hys, hx⟩ := rn_inv hd
    refine ⟨_, rfl, _, _, _, _, rfl, rfl, hys, rfl, (by show 2 ≤ sizeLine; decide), fun t ht => ?_⟩
    refine ⟨t, _, rfl, .inr (SqT.of upd_same), rfl, rfl, _, rfl, ?_⟩
    have s2 : Same H (upd H t (.tup [.str "seq", .str "par"])) := same_new ht
    show if inV (.str (kwR b)) [.str "seq", .str "par"] = true then _ else _
    rw [w_in_parts_no]
    refine iteF ?_
    generalize (upd H t (.tup [.str "seq", .str "par"])) = H2 at s2 ⊢
    refine ⟨_, rfl, _, rfl, _, _, _, _, rfl, rfl, same_sqT s2 hys, rfl, _, _, rfl, rfl, _, rfl, ?_⟩
    refine ite2 (fun y => ?_) (fun y => ?_)
    · refine ⟨_, rfl, _, _, _, _, rfl, rfl, same_sqT s2 hys, rfl, ?_⟩
      refine q _ _ s2 ?_
      simp only [J.part]
      rw [if_neg z', if_pos (of_decide_eq_true y)]
      exact dp_same s2 hx
    · refine q _ _ s2 ?_
      simp only [J.part]
      rw [if_neg z', if_neg (fun z => y (decide_eq_true z))]
      rfl
theorem ok_find (T : Txt K mg) : FnOk P w K mg base CX0 3 T.f_find_step T.d_find_step ["job", "value"] (spFind K) := by
  have g_is_integer := ok_isint (P := P) (w := w) (base := base) T
  have g_is_index_tuple := ok_idx (P := P) (w := w) (base := base) T
  have g__part_at := ok_part (P := P) (w := w) (base := base) T
  refine T.F_find_step.ok sc_find_step (fun vs H Q E h => ?_) (fun cdv A outer s H vs Q E hr h => ?_)
  · obtain ⟨v, u, j, p, d, rfl, _⟩ := h
    rfl
  obtain ⟨v, u, j, p, d, rfl, hd, hu, hb, q⟩ := h
  refine ⟨_, (pss_cons (ps_if (pt_not (pt_val (pe_call g_is_index_tuple (hr.mono (by omega)) rfl T.m_is_index_tuple T.F_is_index_tuple.kp T.b_is_index_tuple .nil pass0 (pa_cons (pv 1) pa_nil)))) (pss_one (ps_ret pe_non)) pss_nil)
      (pss_cons (ps_set (i := 2) sc_find_step.nd rfl (Or.inl rfl) (pv 0))
      (pss_cons (ps_for PassesOwn.never rfl (pi_tup (pv 1)) (pg_name (i := 3) sc_find_step.nd rfl (Or.inl rfl))
        (pss_cons (ps_set (i := 2) sc_find_step.nd rfl (Or.inl rfl) (pe_call g__part_at (hr.mono (by omega)) rfl T.m__part_at T.F__part_at.kp T.b__part_at .nil pass0 (pa_cons (pv 2) (pa_cons (pv 3) pa_nil))))
        (pss_one (ps_if (pt_cmpR op_isN (pv 2) pe_non (nomark _)) (pss_one (ps_ret pe_non)) pss_nil))))
      (pss_one (ps_ret (pe_ifExp (pt_val (pe_call g_is_integer (hr.mono (by omega)) rfl T.m_is_integer T.F_is_integer.kp T.b_is_integer .nil pass0 (pa_cons (pv 2) pa_nil))) (pv 2) pe_non)))))), ?_⟩
  refine ⟨_, rfl, u, p, d, rfl, hu, hb, fun H1 s1 => ?_⟩
  refine ⟨_, rfl, ?_⟩
  cases ei : isIdx d with
  | false =>
    refine iteT ?_
    have e : fdD j d = none := by
      cases d with
      | tuple ds => exact find_not j ei
      | _ => rfl
    rw [e] at q
    exact q _ s1
  | true =>
  refine iteF ?_
  obtain ⟨ds, rfl⟩ : ∃ ds, d = .tuple ds := by
    cases d <;> first | exact ⟨_, rfl⟩ | cases ei
  obtain ⟨a, rfl⟩ := idx_ints ei
  obtain ⟨t, xs, rfl, hxs, hall⟩ := dq_tup_inv hu
  have hlen : xs.length = a.length := by rw [dqAll_length hall, List.length_map]
  simp only [fdD] at q
  refine ⟨_, rfl, _, rfl, t, rfl, ⟨xs, same_sqT s1 hxs⟩, ?_⟩
  refine for_tup (K := K) (a := t) (xs := xs) (fun i σ H' => ∃ (z : V) (y : J) (y3 : Option V), σ = [some v, some (.ref t), some z, y3] ∧ Same H H' ∧ Dp K H' z y.toD ∧ j.find (a.map .int) = y.find ((a.drop i).map .int))
    ⟨v, j, none, rfl, s1, dp_same s1 hd, rfl⟩ (fun i σ H' _ ⟨_, _, _, _, s2, _⟩ => same_sqT s2 hxs) ?_ ?_
  · rintro i x σ H' hi ⟨z, y, y3, rfl, s2, hz, ef⟩
    obtain ⟨d, ed, hd'⟩ := dqAll_get hall hi
    rw [List.getElem?_map] at ed
    obtain ⟨k, ek, rfl⟩ := Option.map_eq_some_iff.mp ed
    obtain rfl := dq_int_inv hd'
    obtain ⟨hlt, ek'⟩ := List.getElem?_eq_some_iff.mp ek
    have da : a.drop i = k :: a.drop (i + 1) := by rw [← ek']; exact List.drop_eq_getElem_cons hlt
    rw [da, List.map_cons, find_int] at ef
    refine ⟨_, rfl, _, rfl, z, y, k, rfl, hz, fun H3 r s3 hr3 => ?_⟩
    cases ep : y.part k with
    | none =>
      rw [ep] at hr3 ef
      obtain rfl : r = .non := hr3
      refine ⟨_, rfl, rfl, _, rfl, ?_⟩
      refine iteT ?_
      rw [ef] at q
      exact q _ (s2.trans s3)
    | some y' =>
      rw [ep] at hr3 ef
      have hr' : Dp K H3 r y'.toD := hr3
      have go : ∀ (z2 : V) (σ2 : L2.St), σ2 = [some v, some (.ref t), some r, some (.int k)] → ∃ (z : V) (y : J) (y3 : Option V), σ2 = [some v, some (.ref t), some z, y3] ∧ Same H H3 ∧ Dp K H3 z y.toD ∧ j.find (a.map .int) = y.find ((a.drop (i + 1)).map .int) := fun _ _ e => ⟨r, y', _, e, s2.trans s3, hr', ef⟩
      cases y' with
      | st i =>
        obtain rfl := dp_int_inv hr'
        refine ⟨_, rfl, rfl, _, rfl, ?_⟩
        refine iteF ?_
        exact go .non _ rfl
      | ps b xs =>
        obtain ⟨_, _, _, rfl, _⟩ := ps_inv hr'
        refine ⟨_, rfl, rfl, _, rfl, ?_⟩
        refine iteF ?_
        exact go .non _ rfl
      | rn b n x =>
        obtain ⟨_, _, rfl, _⟩ := rn_inv hr'
        refine ⟨_, rfl, rfl, _, rfl, ?_⟩
        refine iteF ?_
        exact go .non _ rfl
  · rintro σ H' ⟨z, y, y3, rfl, s2, hz, ef⟩
    rw [hlen, List.drop_length, List.map_nil] at ef
    refine ⟨_, rfl, z, _, rfl, hz, _, rfl, ?_⟩
    rw [ef] at q
    cases y with
    | st i =>
      obtain rfl := dp_int_inv hz
      refine iteT ?_
      exact ⟨_, rfl, q _ s2⟩
    | ps b xs =>
      refine iteF ?_
      exact q _ s2
    | rn b n x =>
      refine iteF ?_
      exact q _ s2
end
/-! block Pot: _law_pot, _law_take, _law_step -/
/-- a pot at p: what is left of the cell, the mixed number, how many were taken (at most n) -/
def Pot (H : Hp) (p : Addr) (n : Nat) : Prop := ∃ a b c : Int, H p = some (.lst [.int a, .int b, .int c]) ∧ (0 ≤ a ∧ a.natAbs < 2 ^ 3000) ∧ (0 ≤ b ∧ b < 2305843009213693951) ∧ (0 ≤ c ∧ c ≤ (n : Int))
theorem Pot.lst {H : Hp} {p : Addr} {n : Nat} (h : Pot H p n) : ∃ l, H p = some (.lst l) := by
  obtain ⟨a, b, c, h, _⟩ := h
  exact ⟨_, h⟩
theorem Pot.mono {H : Hp} {p : Addr} {n m : Nat} (h : Pot H p n) (e : n ≤ m) : Pot H p m := by
  obtain ⟨a, b, c, h1, h2, h3, h4⟩ := h
  exact ⟨a, b, c, h1, h2, h3, h4.1, by omega⟩
theorem Pot.same {H H' : Hp} {p : Addr} {n : Nat} (h : Pot H p n) (s : Same H H') : Pot H' p n := by
  obtain ⟨a, b, c, h1, h2⟩ := h
  exact ⟨a, b, c, s _ _ h1, h2⟩
def spPot (K : PySem.W.Frag) : Sp := fun vs H Q _ => ∃ (a : Addr) (ns : List Int) (k : Int), vs = [.ref a, .int k] ∧ SqL K H a (ns.map V.int) ∧ ns.length ≤ 1000 ∧ 0 ≤ k ∧ k ≤ 1000 ∧
  ∀ (H' : Hp) (p : Addr), Same H H' → H p = none → Pot H' p 0 → Q (.ref p) H'
def spTake : Sp := fun vs H Q _ => ∃ (p : Addr) (n : Nat) (m : Int), vs = [.ref p, .int m] ∧ Pot H p n ∧ n ≤ 1099511627776 ∧ 0 < m ∧ m.natAbs < 2 ^ 200 ∧
  ∀ (H' : Hp) (r : Int), Sx p H H' → Pot H' p (n + 1) → 0 ≤ r → r < m → Q (.int r) H'
def spStep : Sp := fun vs H Q _ => ∃ (p : Addr) (n : Nat), vs = [.ref p] ∧ Pot H p n ∧ n + 4 ≤ 1099511627776 ∧
  ∀ (H' : Hp) (r : Int), Sx p H H' → Pot H' p (n + 4) → -M30 ≤ r → r ≤ M30 → Q (.int r) H'
theorem natAbs_lt {i : Int} {B : Nat} (h0 : 0 ≤ i) (h : i < (B : Int)) : i.natAbs < B := by omega
theorem big14 : ((((10 : Int) ^ (60 : Int).toNat) ^ (14 : Int).toNat)).natAbs < 2 ^ 3000 := by decide +kernel
theorem pos14 : 0 < ((10 : Int) ^ (60 : Int).toNat) ^ (14 : Int).toNat := by decide +kernel
theorem mod_big {z m : Int} {B : Nat} (hm : 0 < m) (hB : m.natAbs < B) : 0 ≤ z % m ∧ (z % m).natAbs < B := by
  have h1 := Int.emod_nonneg z (Int.ne_of_gt hm)
  have h2 := Int.emod_lt_of_pos z hm
  exact ⟨h1, by omega⟩
section
variable {P : Program} {w : World} {K : PySem.W.Frag} {mg : Str → Option Value} {base : Heap}
theorem ok_pot (T : Txt K mg) : FnOk P w K mg base CX0 1 T.f__law_pot T.d__law_pot ["_law_script", "_law_k"] (spPot K) := by
  refine T.F__law_pot.ok sc__law_pot (fun vs H Q E h => ?_) (fun cdv A outer s H vs Q E hr h => ?_)
  · obtain ⟨a, ns, k, rfl, _⟩ := h
    rfl
  obtain ⟨a, ns, k, rfl, hS, hlen, hk0, hk1, q⟩ := h
  refine ⟨_, (pss_cons (ps_set (i := 2) sc__law_pot.nd rfl (Or.inl rfl) pe_int)
      (C8.pss_cut (ps_if (pt_cmpR op_lt (pv 1) (pe_callB (r := rLenS K) call_lenS (by rfl) T.n_len (by decide +kernel) (pa_cons (pv 0) pa_nil)) (nomark _)) (pss_one (ps_set (i := 2) sc__law_pot.nd rfl (Or.inl rfl) (pe_op op_mod (pe_callB call_abs (by rfl) T.n_abs (by decide +kernel) (pa_cons (pe_ix (r := rIxL K) ix_list (pv 0) (pv 1) (fun _ _ => rfl)) pa_nil)) (pe_op op_powW (pe_op op_powW pe_int pe_int) pe_int)))) pss_nil)
      (pss_cons (ps_set (i := 3) sc__law_pot.nd rfl (Or.inl rfl) (pe_op op_mod (pe_op op_powW (pe_op op_add (pe_op op_add (pe_op op_mod (pv 2) pe_int) (pe_op op_mulW pe_int (pv 1))) pe_int) pe_int) pe_int))
      (pss_one (ps_ret (pe_lst (pa_cons (pe_op op_mulW (pv 2) (pe_callTy call_int1 (by rfl) T.n_int (by decide +kernel) (pa_cons (pe_cmpR op_ge (pv 2) (pe_op op_powW pe_int pe_int) (nomark _)) pa_nil))) (pa_cons (pv 3) (pa_cons pe_int pa_nil))))))))), ?_⟩
  refine ⟨fun σ' H' => ∃ cell : Int, σ' = [some (.ref a), some (.int k), some (.int cell), none] ∧ H' = H ∧ 0 ≤ cell ∧ cell.natAbs < 2 ^ 3000, ?_, ?_⟩
  · refine ⟨_, rfl, _, rfl, a, _, rfl, .inl hS, _, _, rfl, rfl, _, rfl, ?_⟩
    refine ite2 (fun c => ?_) (fun c => ?_)
    · have c' := of_decide_eq_true c
      rw [List.length_map] at c'
      obtain ⟨z, _, hz⟩ := atI_int (ns := ns) hk0 c'
      refine ⟨_, rfl, _, rfl, _, _, _, _, rfl, rfl, hS, hz, _, rfl, _, _, rfl, rfl, powW_of 4 (by decide) (by decide) (by decide), _, _, rfl, rfl, powW_of 200 (by decide) (by decide +kernel) (by decide), _, _, rfl, rfl, pos14, ?_⟩
      have hb := mod_big (z := if z < 0 then -z else z) pos14 big14
      exact ⟨_, rfl, rfl, hb⟩
    · exact ⟨0, rfl, rfl, by decide, by decide⟩
  · rintro σ' H' ⟨cell, rfl, rfl, hc0, hc1⟩
    walk_at "rd"
    refine ⟨(by show (0 : Int) < 2147483587; decide), ?_⟩
    walk_at "rd"
    refine ⟨wide_mul (a := 64) (b := 64) (by decide) (by omega) (by decide) (by decide) (by decide), ?_⟩
    walk_at "rd"
    refine ⟨powW_of 64 (by decide) (by omega) (by decide), ?_⟩
    walk_at "rd"
    refine ⟨(by show (0 : Int) < 2305843009213693951; decide), ?_⟩
    dsimp only
    generalize (cell % 2147483587 + 6151 * k + 3) ^ (5 : Int).toNat = pw
    have hm0 : 0 ≤ pw % 2305843009213693951 := by omega
    have hm1 : pw % 2305843009213693951 < 2305843009213693951 := by omega
    generalize pw % 2305843009213693951 = mixed at hm0 hm1 ⊢
    walk_at "rd"
    refine ⟨powW_of 4 (by decide) (by decide) (by decide), ?_⟩
    walk_at "rd"
    refine .inr ⟨_, rfl, ?_⟩
    walk_at "rd"
    refine ⟨wide_mul (a := 3000) (b := 1) hc1 (by split <;> decide) (by decide) (by decide) (by decide), ?_⟩
    dsimp only
    have hk : 0 ≤ cell * (if decide ((10 : Int) ^ (18 : Int).toNat ≤ cell) = true then 1 else 0) ∧ (cell * (if decide ((10 : Int) ^ (18 : Int).toNat ≤ cell) = true then 1 else 0)).natAbs < 2 ^ 3000 := by
      split
      · rw [Int.mul_one]
        exact ⟨hc0, hc1⟩
      · rw [Int.mul_zero]
        exact ⟨Int.le_refl _, by decide⟩
    generalize cell * (if decide ((10 : Int) ^ (18 : Int).toNat ≤ cell) = true then 1 else 0) = c2 at hk ⊢
    walk_at "rd"
    refine ⟨(by show 3 ≤ sizeLine; decide), fun p hp => ?_⟩
    exact q _ p (same_new hp) hp ⟨_, _, _, upd_same, hk, ⟨hm0, hm1⟩, by decide, by decide⟩
theorem ok_take (T : Txt K mg) : FnOk P w K mg base CX0 1 T.f__law_take T.d__law_take ["_law_pot_here", "_law_many"] spTake := by
  refine T.F__law_take.ok sc__law_take (fun vs H Q E h => ?_) (fun cdv A outer s H vs Q E hr h => ?_)
  · obtain ⟨p, n, m, rfl, _⟩ := h
    rfl
  obtain ⟨p, n, m, rfl, ⟨a, b, c, hp, ⟨a0, a1⟩, ⟨b0, b1⟩, c0, c1⟩, hn, hm, hm2, q⟩ := h
  refine ⟨_, (pss_cons (ps_if (pt_cmpR op_gt (pe_ix (r := rIxL K) ix_list (pv 0) pe_int (fun _ _ => rfl)) pe_int (nomark _)) (pss_cons (ps_set (i := 2) sc__law_take.nd rfl (Or.inl rfl) (pe_op op_mod (pe_ix (r := rIxL K) ix_list (pv 0) pe_int (fun _ _ => rfl)) (pv 1)))
        (pss_cons (ps_asg (pe_op op_fdivW (pe_ix (r := rIxL K) ix_list (pv 0) pe_int (fun _ _ => rfl)) (pv 1)) (pg_sub (pv 0) pe_int set_list))
        (pss_one (ps_ret (pv 2))))) pss_nil)
      (pss_cons (ps_asg (pe_op op_add (pe_ix (r := rIxL K) ix_list (pv 0) pe_int (fun _ _ => rfl)) pe_int) (pg_sub (pv 0) pe_int set_list))
      (pss_cons (ps_set (i := 3) sc__law_take.nd rfl (Or.inl rfl) (pe_op op_mod (pe_op op_powW (pe_op op_add (pe_ix (r := rIxL K) ix_list (pv 0) pe_int (fun _ _ => rfl)) (pe_op op_mulW pe_int (pe_ix (r := rIxL K) ix_list (pv 0) pe_int (fun _ _ => rfl)))) pe_int) pe_int))
      (pss_cons (ps_set (i := 4) sc__law_take.nd rfl (Or.inl rfl) (pe_op op_mod (pe_op op_powW (pe_op op_add (pe_op op_add (pv 3) (pe_op op_mod (pe_ix (r := rIxL K) ix_list (pv 0) pe_int (fun _ _ => rfl)) pe_int)) (pe_op op_mulW pe_int (pe_ix (r := rIxL K) ix_list (pv 0) pe_int (fun _ _ => rfl)))) pe_int) pe_int))
      (pss_one (ps_ret (pe_op op_mod (pe_op op_fdivW (pv 4) pe_int) (pv 1)))))))), ?_⟩
  refine ⟨_, rfl, _, _, _, _, rfl, rfl, SqL.of hp, rfl, _, _, rfl, rfl, _, rfl, ?_⟩
  refine ite2 (fun g => ?_) (fun g => ?_)
  · refine ⟨_, rfl, _, _, _, _, rfl, rfl, SqL.of hp, rfl, _, rfl, _, _, rfl, rfl, hm, ?_⟩
    refine ⟨_, rfl, _, _, _, _, rfl, rfl, SqL.of hp, rfl, _, rfl, _, _, rfl, rfl, wide_div hm hm2 (by decide) (by decide), ?_⟩
    refine ⟨_, rfl, _, _, _, _, rfl, rfl, hp, rfl, ?_⟩
    refine ⟨_, rfl, ?_⟩
    have d0 : 0 ≤ a / m := Int.ediv_nonneg a0 (by omega)
    have d1 : a / m ≤ a := Int.ediv_le_self m a0
    exact q _ _ sx_upd ⟨_, _, _, upd_same, ⟨d0, Nat.lt_of_le_of_lt (by omega) a1⟩, ⟨b0, b1⟩, c0, by omega⟩ (Int.emod_nonneg _ (by omega)) (Int.emod_lt_of_pos _ hm)
  · refine ⟨_, rfl, _, _, _, _, rfl, rfl, SqL.of hp, rfl, _, _, rfl, rfl, ?_⟩
    refine ⟨_, rfl, _, _, _, _, rfl, rfl, hp, rfl, ?_⟩
    dsimp only
    have hq : (upd H p (.lst [.int a, .int b, .int (c + 1)])) p = some (.lst [.int a, .int b, .int (c + 1)]) := upd_same
    refine ⟨_, rfl, _, _, _, _, rfl, rfl, SqL.of hq, rfl, _, rfl, _, _, _, _, rfl, rfl, SqL.of hq, rfl, _, _, rfl, rfl, wide_mul (a := 64) (b := 64) (by decide) (by omega) (by decide) (by decide) (by decide), ?_⟩
    walk_at "rd"
    refine ⟨powW_of 64 (by decide) (by omega) (by decide), ?_⟩
    walk_at "rd"
    refine ⟨(by show (0 : Int) < 2305843009213693921; decide), ?_⟩
    dsimp only
    generalize (b + 98317 * (c + 1)) ^ (3 : Int).toNat = pw
    have o0 : 0 ≤ pw % 2305843009213693921 := by omega
    have o1 : pw % 2305843009213693921 < 2305843009213693921 := by omega
    generalize pw % 2305843009213693921 = one at o0 o1 ⊢
    refine ⟨_, rfl, _, rfl, _, _, _, _, rfl, rfl, SqL.of hq, rfl, _, _, rfl, rfl, (by show (0 : Int) < 65521; decide), _, _, rfl, rfl, _, rfl, _, _, _, _, rfl, rfl, SqL.of hq, rfl, _, _, rfl, rfl, wide_mul (a := 64) (b := 64) (by decide) (by omega) (by decide) (by decide) (by decide), ?_⟩
    walk_at "rd"
    refine ⟨powW_of 64 (by decide) (by omega) (by decide), ?_⟩
    walk_at "rd"
    refine ⟨(by show (0 : Int) < 2305843009213693907; decide), ?_⟩
    dsimp only
    generalize (one + b % 65521 + 37 * (c + 1)) ^ (5 : Int).toNat % 2305843009213693907 = two
    walk_at "rd"
    refine ⟨wide_div (b := 12) (by decide) (by decide) (by decide) (by decide), ?_⟩
    walk_at "rd"
    refine ⟨hm, ?_⟩
    exact q _ _ sx_upd ⟨_, _, _, upd_same, ⟨a0, a1⟩, ⟨b0, b1⟩, by omega, by omega⟩ (Int.emod_nonneg _ (by omega)) (Int.emod_lt_of_pos _ hm)
theorem ok_step (T : Txt K mg) : FnOk P w K mg base CX0 2 T.f__law_step T.d__law_step ["_law_pot_here"] spStep := by
  have g__law_take : FnOk P w K mg base CX0 1 T.f__law_take T.d__law_take ["_law_pot_here", "_law_many"] spTake := ok_take T
  refine T.F__law_step.ok sc__law_step (fun vs H Q E h => ?_) (fun cdv A outer s H vs Q E hr h => ?_)
  · obtain ⟨p, n, rfl, _⟩ := h
    rfl
  obtain ⟨p, n, rfl, hp, hn, q⟩ := h
  refine ⟨_, (pss_cons (ps_set (i := 1) sc__law_step.nd rfl (Or.inl rfl) (pe_call g__law_take (hr.mono (by omega)) rfl T.m__law_take T.F__law_take.kp T.b__law_take .nil pass0 (pa_cons (pv 0) (pa_cons pe_int pa_nil))))
      (pss_cons (ps_if (pt_cmpR op_eq (pv 1) pe_int (nomark _)) (pss_one (ps_ret pe_int)) pss_nil)
      (pss_cons (ps_if (pt_cmpR op_eq (pv 1) pe_int (nomark _)) (pss_cons (ps_set (i := 2) sc__law_step.nd rfl (Or.inl rfl) (pe_op op_add (pe_op op_mulW (pe_call g__law_take (hr.mono (by omega)) rfl T.m__law_take T.F__law_take.kp T.b__law_take .nil pass0 (pa_cons (pv 0) (pa_cons (pe_op op_powW pe_int pe_int) pa_nil))) (pe_op op_powW pe_int pe_int)) (pe_call g__law_take (hr.mono (by omega)) rfl T.m__law_take T.F__law_take.kp T.b__law_take .nil pass0 (pa_cons (pv 0) (pa_cons (pe_op op_powW pe_int pe_int) pa_nil)))))
        (pss_one (ps_ret (pe_ix (r := rIxL K) ix_list (pe_lst (pa_cons (pv 2) (pa_cons (pe_op op_sub pe_int (pv 2)) (pa_cons (pe_op op_powW pe_int pe_int) (pa_cons (pe_op op_sub pe_int (pe_op op_powW pe_int pe_int)) pa_nil))))) (pe_call g__law_take (hr.mono (by omega)) rfl T.m__law_take T.F__law_take.kp T.b__law_take .nil pass0 (pa_cons (pv 0) (pa_cons pe_int pa_nil))) (fun _ _ => rfl))))) pss_nil)
      (pss_one (ps_ret (pe_op op_sub (pe_call g__law_take (hr.mono (by omega)) rfl T.m__law_take T.F__law_take.kp T.b__law_take .nil pass0 (pa_cons (pv 0) (pa_cons pe_int pa_nil))) pe_int)))))), ?_⟩
  refine ⟨_, rfl, p, n, 14, rfl, hp, by omega, by decide, by decide, fun H1 r1 s1 hp1 h0 h1 => ?_⟩
  refine ⟨_, rfl, rfl, _, rfl, ?_⟩
  refine ite2 (fun g => ?_) (fun g => ?_)
  · exact q _ _ s1 (hp1.mono (by omega)) (by decide) (by decide)
  refine ⟨_, rfl, rfl, _, rfl, ?_⟩
  refine ite2 (fun g => ?_) (fun g => ?_)
  · refine ⟨_, rfl, _, _, rfl, rfl, powW_of 4 (by decide) (by decide) (by decide), p, n + 1, _, rfl, hp1, by omega, by decide, by decide, fun H2 r2 s2 hp2 k0 k1 => ?_⟩
    walk_at "rd"
    refine ⟨powW_of 4 (by decide) (by decide) (by decide), ?_⟩
    have k1' : r2 < 1000000000000000 := k1
    refine ⟨_, _, rfl, rfl, wide_mul (a := 64) (b := 64) (by omega) (by decide) (by decide) (by decide) (by decide), ?_⟩
    refine ⟨_, rfl, _, _, rfl, rfl, powW_of 4 (by decide) (by decide) (by decide), p, n + 2, _, rfl, hp2, by omega, by decide, by decide, fun H3 r3 s3 hp3 j0 j1 => ?_⟩
    have j1' : r3 < 1000000000000000 := j1
    walk_at "rd"
    dsimp only
    have e15 : (10 : Int) ^ (15 : Int).toNat = 1000000000000000 := by decide
    rw [e15]
    have b0 : 0 ≤ r2 * 1000000000000000 + r3 := by omega
    have b1 : r2 * 1000000000000000 + r3 < M30 := by
      show _ < (1000000000000000000000000000000 : Int)
      omega
    generalize r2 * 1000000000000000 + r3 = great at b0 b1 ⊢
    walk_at "rd"
    refine ⟨powW_of 4 (by decide) (by decide) (by decide), ?_⟩
    walk_at "rd"
    refine ⟨powW_of 4 (by decide) (by decide) (by decide), ?_⟩
    walk_at "rd"
    have e30 : (10 : Int) ^ (30 : Int).toNat = M30 := by decide
    dsimp only
    rw [e30]
    refine ⟨(by show 4 ≤ sizeLine; decide), fun l hl => ?_⟩
    have hp4 := hp3.same (same_new (o := .lst [.int great, .int (0 - great), .int M30, .int (0 - M30)]) hl)
    refine ⟨_, rfl, p, n + 3, _, rfl, hp4, by omega, by decide, by decide, fun H4 r4 s4 hp5 i0 i1 => ?_⟩
    obtain ⟨z, hz, ez⟩ := atI_int (ns := [great, 0 - great, M30, 0 - M30]) i0 i1
    obtain ⟨lp, hlp⟩ := hp3.lst
    have nlp : l ≠ p := fun e => by rw [e, hlp] at hl; cases hl
    refine ⟨_, _, _, _, rfl, rfl, SqL.of (s4 l _ nlp upd_same), ez, ?_⟩
    refine q _ _ (s1.trans (s2.trans (s3.trans ((sx_new hl).trans s4)))) hp5 ?_ ?_
    · simp only [List.mem_cons, List.not_mem_nil, or_false] at hz
      rcases hz with rfl | rfl | rfl | rfl <;> (try simp only [M30] at *) <;> omega
    · simp only [List.mem_cons, List.not_mem_nil, or_false] at hz
      rcases hz with rfl | rfl | rfl | rfl <;> (try simp only [M30] at *) <;> omega
  · refine ⟨_, rfl, p, n + 1, _, rfl, hp1, by omega, by decide, by decide, fun H2 r2 s2 hp2 k0 k1 => ?_⟩
    walk_at "rd"
    refine q _ _ (s1.trans s2) (hp2.mono (by omega)) ?_ ?_
    · show -(1000000000000000000000000000000 : Int) ≤ _
      omega
    · show _ ≤ (1000000000000000000000000000000 : Int)
      omega
end
/-! block Job: _law_job, the drawn jobs -/
def TB : Nat → Nat
  | 0 => 20
  | n + 1 => 20 + 3 * TB n
def NB : Nat → Int
  | 0 => 1
  | 1 => 1
  | 2 => 5
  | n + 3 => 1 + 3 * NB (n + 2)
mutual
/-- all numbers in bounds, few parts -/
def J.small : J → Prop
  | .st i => -M30 ≤ i ∧ i ≤ M30
  | .ps _ xs => xs.length ≤ 4 ∧ J.smallL xs
  | .rn _ n x => (0 ≤ n ∧ n ≤ M30) ∧ x.small
def J.smallL : List J → Prop
  | [] => True
  | x :: xs => x.small ∧ J.smallL xs
end
mutual
/-- all numbers of rounds and copies are among these -/
def J.cin (cs : List Int) : J → Prop
  | .st _ => True
  | .ps _ xs => J.cinL cs xs
  | .rn _ n x => n ∈ cs ∧ J.cin cs x
def J.cinL (cs : List Int) : List J → Prop
  | [] => True
  | x :: xs => J.cin cs x ∧ J.cinL cs xs
end
theorem J.cinL_app (cs : List Int) : ∀ xs ys : List J, J.cinL cs (xs ++ ys) ↔ J.cinL cs xs ∧ J.cinL cs ys
  | [], ys => by simp [J.cinL]
  | x :: xs, ys => by simp only [List.cons_append, J.cinL, J.cinL_app cs xs ys, and_assoc]
structure GenOk (cs : List Int) (n : Nat) (j : J) : Prop where
  cin : j.cin cs
  deep : j.deep ≤ max n 1
  nodes : j.nodes ≤ NB n
  small : j.small
structure GensOk (cs : List Int) (n : Nat) (js : List J) : Prop where
  cin : J.cinL cs js
  deep : J.deepL js ≤ max n 1
  nodes : J.nodesL js ≤ js.length * NB n
  small : J.smallL js
theorem NB_pos : ∀ n, 1 ≤ NB n
  | 0 => by decide
  | 1 => by decide
  | 2 => by decide
  | n + 3 => by
    have := NB_pos (n + 2)
    simp only [NB]
    omega
theorem J.deepL_app : ∀ xs ys : List J, J.deepL (xs ++ ys) = max (J.deepL xs) (J.deepL ys)
  | [], ys => by simp [J.deepL]
  | x :: xs, ys => by simp only [List.cons_append, J.deepL, J.deepL_app xs ys]; omega
theorem J.nodesL_app : ∀ xs ys : List J, J.nodesL (xs ++ ys) = J.nodesL xs + J.nodesL ys
  | [], ys => by simp [J.nodesL]
  | x :: xs, ys => by simp only [List.cons_append, J.nodesL, J.nodesL_app xs ys]; omega
theorem J.smallL_app : ∀ xs ys : List J, J.smallL (xs ++ ys) ↔ J.smallL xs ∧ J.smallL ys
  | [], ys => by simp [J.smallL]
  | x :: xs, ys => by simp only [List.cons_append, J.smallL, J.smallL_app xs ys, and_assoc]
theorem J.toDs_app : ∀ xs ys : List J, J.toDs (xs ++ ys) = J.toDs xs ++ J.toDs ys
  | [], ys => by simp [J.toDs]
  | x :: xs, ys => by simp only [List.cons_append, J.toDs, J.toDs_app xs ys]
theorem GensOk.nil {cs : List Int} {n : Nat} : GensOk cs n [] := ⟨trivial, by simp [J.deepL], by simp [J.nodesL], trivial⟩
theorem GensOk.snoc {cs : List Int} {n : Nat} {js : List J} {j : J} (h : GensOk cs n js) (g : GenOk cs n j) : GensOk cs n (js ++ [j]) := by
  refine ⟨(J.cinL_app _ _ _).mpr ⟨h.cin, g.cin, trivial⟩, ?_, ?_, ?_⟩
  · rw [J.deepL_app]
    have := h.deep
    have := g.deep
    simp only [J.deepL]
    omega
  · rw [J.nodesL_app, List.length_append, List.length_singleton]
    have h1 := h.nodes
    have h2 := g.nodes
    simp only [J.nodesL]
    have e : (((js.length + 1 : Nat) : Int)) * NB n = js.length * NB n + NB n := by
      rw [Int.natCast_add, Int.add_mul]
      simp
    rw [e]
    omega
  · rw [J.smallL_app]
    exact ⟨h.small, g.small, trivial⟩
theorem GenOk.step {cs : List Int} {n : Nat} {i : Int} (h1 : -M30 ≤ i) (h2 : i ≤ M30) : GenOk cs n (.st i) := by
  refine ⟨trivial, ?_, ?_, ?_⟩
  · simp only [J.deep]
    omega
  · simp only [J.nodes]
    exact NB_pos n
  · simp only [J.small]
    exact ⟨h1, h2⟩
/-- up to four steps in a row -/
theorem GenOk.row {cs : List Int} {n : Nat} {js : List J} (h : GensOk cs 1 js) (hl : js.length ≤ 4) : GenOk cs (n + 2) (.ps false js) := by
  have h1 := h.deep
  have h2 := h.nodes
  refine ⟨h.cin, ?_, ?_, ?_⟩
  · simp only [J.deep]
    omega
  · simp only [J.nodes]
    have e : NB 1 = 1 := rfl
    rw [e] at h2
    have : 5 ≤ NB (n + 2) := by
      cases n with
      | zero => decide
      | succ n =>
        have : ∀ n, 5 ≤ NB (n + 2) := by
          intro n
          induction n with
          | zero => decide
          | succ n ih => simp only [NB] at *; omega
        exact this _
    omega
  · simp only [J.small]
    exact ⟨hl, h.small⟩
theorem GenOk.parts {cs : List Int} {n : Nat} {k : Bool} {js : List J} (h : GensOk cs (n + 1) js) (hl : js.length ≤ 3) : GenOk cs (n + 2) (.ps k js) := by
  have h1 := h.deep
  have h2 := h.nodes
  refine ⟨h.cin, ?_, ?_, ?_⟩
  · simp only [J.deep]
    omega
  · simp only [J.nodes]
    have p := NB_pos (n + 1)
    have b : (js.length : Int) * NB (n + 1) ≤ 3 * NB (n + 1) := Int.mul_le_mul_of_nonneg_right (by omega) (by omega)
    cases n with
    | zero => simp only [NB] at *; omega
    | succ n =>
      have e : NB (n + 1 + 1) = NB (n + 2) := rfl
      rw [e] at *
      simp only [NB]
      omega
  · simp only [J.small]
    exact ⟨by omega, h.small⟩
theorem GenOk.rounds {cs : List Int} {n : Nat} {k : Bool} {c : Int} {x : J} (h : GenOk cs (n + 1) x) (h0 : 0 ≤ c) (h1 : c ≤ M30) (hc : c ∈ cs) : GenOk cs (n + 2) (.rn k c x) := by
  have h2 := h.deep
  have h3 := h.nodes
  refine ⟨⟨hc, h.cin⟩, ?_, ?_, ?_⟩
  · simp only [J.deep]
    omega
  · simp only [J.nodes]
    have p := NB_pos (n + 1)
    cases n with
    | zero => simp only [NB] at *; omega
    | succ n =>
      have e : NB (n + 1 + 1) = NB (n + 2) := rfl
      rw [e] at *
      simp only [NB]
      omega
  · simp only [J.small]
    exact ⟨⟨h0, h1⟩, h.small⟩
theorem pick2 {r : Int} (f : Bool → Str) (h0 : 0 ≤ r) (h1 : r < 2) : ∃ b : Bool, atI [V.str (f false), V.str (f true)] r = some (.str (f b)) := by
  have : r = 0 ∨ r = 1 := by omega
  rcases this with rfl | rfl
  · exact ⟨false, rfl⟩
  · exact ⟨true, rfl⟩
theorem dp_ps {K : PySem.W.Frag} {H : Hp} {t : Addr} {k : Bool} {v : V} {js : List J} (h : H t = some (.tup [.str (kwP k), v])) (d : Dp K H v (.tuple (J.toDs js))) : Dp K H (.ref t) (J.ps k js).toD := by
  rw [J.toD]
  exact .tup (.inl (.inl h)) (.cons (.str _) (.cons d .nil))
theorem dp_rn {K : PySem.W.Frag} {H : Hp} {t : Addr} {k : Bool} {n : Int} {v : V} {j : J} (h : H t = some (.tup [.str (kwR k), .int n, v])) (d : Dp K H v j.toD) : Dp K H (.ref t) (J.rn k n j).toD := by
  rw [J.toD]
  exact .tup (.inl (.inl h)) (.cons (.str _) (.cons (.int _) (.cons d .nil)))
def spJob (K : PySem.W.Frag) (n : Nat) : Sp := fun vs H Q _ => ∃ (p a : Addr) (m : Nat) (cs : List Int), vs = [.ref p, .int (n : Int), .ref a] ∧ Pot H p m ∧ m + TB n ≤ 1099511627776 ∧ H a = some (.lst (cs.map V.int)) ∧ a ≠ p ∧
  0 < cs.length ∧ cs.length ≤ 100 ∧ (∀ c ∈ cs, 0 ≤ c ∧ c ≤ M30) ∧
  ∀ (H' : Hp) (r : V) (j : J), Sx p H H' → Pot H' p (m + TB n) → Dp K H' r j.toD → GenOk cs n j → Q r H'
section
variable {P : Program} {w : World} {K : PySem.W.Frag} {mg : Str → Option Value} {base : Heap}
/-- the list that a comprehension fills beside a pot: what its turns keep -/
structure Row (K : PySem.W.Frag) (cs : List Int) (H0 : Hp) (p D : Addr) (n m : Nat) (js : List J) (H : Hp) : Prop where
  sx : Sx p H0 H
  pot : Pot H p m
  gen : GensOk cs n js
  lst : ∃ vs, H D = some (.lst vs) ∧ DpAll K H vs (J.toDs js)
theorem Row.snoc {cs : List Int} {H0 H H' : Hp} {p D : Addr} {n m m' : Nat} {js : List J} {r : V} {j : J} (R : Row K cs H0 p D n m js H) (d0 : H0 D = none) (nDp : D ≠ p) (s : Sx p H H') (hp : Pot H' p m') (hd : Dp K H' r j.toD) (g : GenOk cs n j) :
    ∃ acc, H' D = some (.lst acc) ∧ acc.length = js.length ∧ Row K cs H0 p D n m' (js ++ [j]) (upd H' D (.lst (acc ++ [r]))) := by
  obtain ⟨vs, h1, h2⟩ := R.lst
  obtain ⟨l, hl⟩ := R.pot.lst
  have h3 : H' D = some (.lst vs) := s D _ nDp h1
  refine ⟨vs, h3, ?_, ?_, ?_, R.gen.snoc g, _, upd_same, ?_⟩
  · rw [dpAll_length h2, J.toDs_eq, List.length_map]
  · intro b o nb hb
    have nbD : b ≠ D := fun e => by rw [e, d0] at hb; cases hb
    rw [upd_ne nbD]
    exact s b o nb (R.sx b o nb hb)
  · obtain ⟨a, b, c, z1, z2⟩ := hp
    exact ⟨a, b, c, by rw [upd_ne nDp.symm]; exact z1, z2⟩
  · have k1 : ∀ a xs, SqT K H a xs → SqT K H' a xs := fun a xs z => s.sqT hl z
    have k2 : ∀ a xs, SqT K H' a xs → SqT K (upd H' D (.lst (vs ++ [r]))) a xs := fun a xs z => (sx_upd (p := D)).sqT h3 z
    rw [J.toDs_app]
    exact dpAll_append (dpAll_keep k2 (J.noLs _) (dpAll_keep k1 (J.noLs _) h2)) (dpAll_one (dp_keep k2 j.noL hd))
/-- the jobs drawn with a smaller depth than n -/
def spJobs (K : PySem.W.Frag) (n : Nat) : Sp := fun vs H Q E => ∃ d, d < n ∧ spJob K d vs H Q E
theorem ok_job_next (T : Txt K mg) {n : Nat} (g__law_job : FnOk P w K mg base CX0 (n + 2) T.f__law_job T.d__law_job ["_law_pot_here", "_law_deep", "_law_counts"] (spJobs K n)) :
    FnOk P w K mg base CX0 (n + 3) T.f__law_job T.d__law_job ["_law_pot_here", "_law_deep", "_law_counts"] (spJobs K (n + 1)) := by
  have g__law_take : FnOk P w K mg base CX0 1 T.f__law_take T.d__law_take ["_law_pot_here", "_law_many"] spTake := ok_take T
  have g__law_step : FnOk P w K mg base CX0 2 T.f__law_step T.d__law_step ["_law_pot_here"] spStep := ok_step T
  refine T.F__law_job.ok sc__law_job (fun vs H Q E h => ?_) (fun cdv A outer s H vs Q E hr h => ?_)
  · obtain ⟨d, _, p, a, m, cs, rfl, _⟩ := h
    rfl
  obtain ⟨d, hd, p, a, m, cs, rfl, hp, hm, ha, nap, c0, c1, hcs, q⟩ := h
  refine ⟨_, (pss_cons (ps_set (i := 3) sc__law_job.nd rfl (Or.inl rfl) (pe_call g__law_take (hr.mono (by omega)) rfl T.m__law_take T.F__law_take.kp T.b__law_take .nil pass0 (pa_cons (pv 0) (pa_cons pe_int pa_nil))))
      (pss_cons (ps_if (PW.pt (pw_or (pt_cmpR op_lt (pv 1) pe_int (nomark _)) (pw_or1 (pt_cmpR op_eq (pv 3) pe_int (nomark _))))) (pss_one (ps_ret (pe_call g__law_step (hr.mono (by omega)) rfl T.m__law_step T.F__law_step.kp T.b__law_step .nil pass0 (pa_cons (pv 0) pa_nil)))) pss_nil)
      (pss_cons (ps_if (pt_cmpR op_lt (pv 3) pe_int (nomark _)) (pss_cons (ps_set (i := 4) sc__law_job.nd rfl (Or.inl rfl) (pe_ix (r := rIxL K) ix_list (pe_lst (pa_cons pe_int (pa_cons pe_int (pa_cons pe_int (pa_cons pe_int pa_nil))))) (pe_call g__law_take (hr.mono (by omega)) rfl T.m__law_take T.F__law_take.kp T.b__law_take .nil pass0 (pa_cons (pv 0) (pa_cons pe_int pa_nil))) (fun _ _ => rfl)))
        (pss_one (ps_ret (pe_tup (pa_cons pe_str (pa_cons (pe_callTy (r := rTupS K) call_tupS (by rfl) T.n_tuple (by decide +kernel) (pa_cons (pe_lc (own := [("_law_turn", 5)]) (g := (gName 5)) (by rfl) sc__law_job.nd (pi_range1 rfl T.n_range (pa_cons (pv 4) pa_nil)) (blkOk_by (N := N__law_job) (sc := (defScope s__law_job)) (by decide +kernel)) (fun _ _ _ _ _ => (pg_name (i := 5) sc__law_job.nd rfl (Or.inl rfl))) (fun _ _ _ _ _ => pts_nil) (fun _ _ _ _ _ => (pe_call g__law_step (hr.mono (by omega)) rfl T.m__law_step T.F__law_step.kp T.b__law_step .nil pass0 (pa_cons (pv 0) pa_nil)))) pa_nil)) pa_nil)))))) pss_nil)
      (pss_cons (ps_if (pt_cmpR op_lt (pv 3) pe_int (nomark _)) (pss_cons (ps_set (i := 4) sc__law_job.nd rfl (Or.inl rfl) (pe_ix (r := rIxL K) ix_list (pe_lst (pa_cons pe_int (pa_cons pe_int (pa_cons pe_int (pa_cons pe_int (pa_cons pe_int (pa_cons pe_int pa_nil))))))) (pe_call g__law_take (hr.mono (by omega)) rfl T.m__law_take T.F__law_take.kp T.b__law_take .nil pass0 (pa_cons (pv 0) (pa_cons pe_int pa_nil))) (fun _ _ => rfl)))
        (pss_one (ps_ret (pe_tup (pa_cons (pe_ix (r := rIxL K) ix_list (pe_lst (pa_cons pe_str (pa_cons pe_str pa_nil))) (pe_op op_mod (pv 3) pe_int) (fun _ _ => rfl)) (pa_cons (pe_callTy (r := rTupS K) call_tupS (by rfl) T.n_tuple (by decide +kernel) (pa_cons (pe_lc (own := [("_law_turn", 5)]) (g := (gName 5)) (by rfl) sc__law_job.nd (pi_range1 rfl T.n_range (pa_cons (pv 4) pa_nil)) (blkOk_by (N := N__law_job) (sc := (defScope s__law_job)) (by decide +kernel)) (fun _ _ _ _ _ => (pg_name (i := 5) sc__law_job.nd rfl (Or.inl rfl))) (fun _ _ _ _ _ => pts_nil) (fun _ _ _ _ _ => (pe_call g__law_job (hr.mono (by omega)) rfl T.m__law_job T.F__law_job.kp T.b__law_job .nil pass0 (pa_cons (pv 0) (pa_cons (pe_op op_sub (pv 1) pe_int) (pa_cons (pv 2) pa_nil)))))) pa_nil)) pa_nil)))))) pss_nil)
      (pss_one (ps_ret (pe_tup (pa_cons (pe_ix (r := rIxL K) ix_list (pe_lst (pa_cons pe_str (pa_cons pe_str pa_nil))) (pe_op op_mod (pv 3) pe_int) (fun _ _ => rfl)) (pa_cons (pe_ix (r := rIxL K) ix_list (pv 2) (pe_call g__law_take (hr.mono (by omega)) rfl T.m__law_take T.F__law_take.kp T.b__law_take .nil pass0 (pa_cons (pv 0) (pa_cons (pe_callB (r := rLenS K) call_lenS (by rfl) T.n_len (by decide +kernel) (pa_cons (pv 2) pa_nil)) pa_nil))) (fun _ _ => rfl)) (pa_cons (pe_call g__law_job (hr.mono (by omega)) rfl T.m__law_job T.F__law_job.kp T.b__law_job .nil pass0 (pa_cons (pv 0) (pa_cons (pe_op op_sub (pv 1) pe_int) (pa_cons (pv 2) pa_nil)))) pa_nil)))))))))), ?_⟩
  have tb : 20 ≤ TB d := by cases d <;> simp only [TB] <;> omega
  refine ⟨_, rfl, p, m, 9, rfl, hp, by omega, by decide, by decide, fun H1 r1 s1 hp1 h0 h1 => ?_⟩
  have ha1 := s1 a _ nap ha
  refine ⟨_, rfl, _, _, rfl, rfl, _, rfl, ?_⟩
  -- one step
  have one : ∀ (R : V → Hp → Prop), R = Q → spStep [.ref p] H1 R E0 := by
    rintro R rfl
    exact ⟨p, m + 1, rfl, hp1, by omega, fun H2 r2 s2 hp2 k0 k1 => q _ _ (.st r2) (s1.trans s2) (hp2.mono (by omega)) (.int _) (.step k0 k1)⟩
  refine ite2 (fun g => ?_) (fun g => ?_)
  · refine iteT ⟨_, rfl, ?_⟩
    exact one _ rfl
  have d2 : 2 ≤ d := by
    have g' : ¬ ((d : Int) < 2) := fun z => g (decide_eq_true z)
    omega
  obtain ⟨e, rfl⟩ : ∃ e, d = e + 2 := ⟨d - 2, by omega⟩
  refine ⟨_, rfl, rfl, _, rfl, ?_⟩
  refine ite2 (fun g => ?_) (fun g => ?_)
  · refine ⟨_, rfl, ?_⟩
    exact one _ rfl
  refine ⟨_, rfl, _, _, rfl, rfl, _, rfl, ?_⟩
  have etb : TB (e + 2) = 20 + 3 * TB (e + 1) := rfl
  have tb1 : 20 ≤ TB (e + 1) := by simp only [TB]; omega
  refine ite2 (fun g => ?_) (fun g => ?_)
  · -- a row of steps
    refine ⟨(by show 4 ≤ sizeLine; decide), fun l hl => ?_⟩
    obtain ⟨lp, hlp⟩ := hp1.lst
    have nlp : l ≠ p := fun z => by rw [z, hlp] at hl; cases hl
    refine ⟨_, rfl, p, m + 1, _, rfl, hp1.same (same_new hl), by omega, by decide, by decide, fun H2 r2 s2 hp2 k0 k1 => ?_⟩
    obtain ⟨z, hz, ez⟩ := atI_int (ns := [3, 2, 4, 0]) k0 k1
    have hz4 : 0 ≤ z ∧ z ≤ 4 := by
      simp only [List.mem_cons, List.not_mem_nil, or_false] at hz
      omega
    refine ⟨_, _, _, _, rfl, rfl, SqL.of (s2 l _ nlp upd_same), ez, ?_⟩
    have s02 : Sx p H H2 := s1.trans ((sx_new hl).trans s2)
    have h2n : m + 1 + 1 + 4 * z.toNat ≤ m + TB (e + 2) := by omega
    refine ⟨_, rfl, z, rfl, by omega, by omega, fun D hD => ?_⟩
    have nDp : D ≠ p := fun y => by
      obtain ⟨_, y2⟩ := hp2.lst
      rw [y, y2] at hD
      cases hD
    refine lc_range (lo := 0) (n := z.toNat) (fun i H' => ∃ js, js.length = i ∧ Row K cs H2 p D 1 (m + 1 + 1 + 4 * i) js H') ?_ ?_ ?_
    · exact ⟨[], rfl, fun b o nb hb => by rw [upd_ne (ne_of_none hb hD)]; exact hb, (hp2.same (same_new hD)), .nil, [], upd_same, .nil⟩
    · rintro i H' hi ⟨js, ejs, R⟩
      refine ⟨rfl, ?_⟩
      unfold tYes
      refine iteT ?_
      refine ⟨_, rfl, p, m + 1 + 1 + 4 * i, rfl, R.pot, by omega, fun H4 r4 s4 hp4 j0 j1 => ?_⟩
      obtain ⟨acc, x1, x2, x3⟩ := R.snoc hD nDp s4 hp4 (.int _) (GenOk.step (cs := cs) (n := 1) j0 j1)
      exact ⟨acc, x1, small1000 (by omega), _, by rw [List.length_append, List.length_singleton, ejs], x3⟩
    · rintro H' ⟨js, ejs, R⟩
      obtain ⟨vs, y1, y2⟩ := R.lst
      refine ⟨D, vs, rfl, .inl ⟨SqL.of y1, fun t ht => ?_⟩⟩
      refine ⟨(by show 2 ≤ sizeLine; decide), fun u hu => ?_⟩
      have st : Same H' (upd (upd H' t (.tup vs)) u (.tup [.str "seq", .ref t])) := (same_new ht).trans (same_new hu)
      refine q _ _ (.ps false js) (s02.trans (R.sx.trans (Same.sx st))) ((R.pot.same st).mono (by omega)) ?_ (GenOk.row R.gen (by omega))
      refine dp_ps (k := false) (v := .ref t) upd_same (.tup (.inl (.inl ?_)) (dpAll_same st y2))
      exact same_new hu _ _ upd_same
  refine ⟨_, rfl, _, _, rfl, rfl, _, rfl, ?_⟩
  refine ite2 (fun g => ?_) (fun g => ?_)
  · -- parts
    refine ⟨(by show 6 ≤ sizeLine; decide), fun l hl => ?_⟩
    obtain ⟨lp, hlp⟩ := hp1.lst
    have nlp : l ≠ p := fun z => by rw [z, hlp] at hl; cases hl
    refine ⟨_, rfl, p, m + 1, _, rfl, hp1.same (same_new hl), by omega, by decide, by decide, fun H2 r2 s2 hp2 k0 k1 => ?_⟩
    obtain ⟨z, hz, ez⟩ := atI_int (ns := [2, 3, 2, 1, 3, 0]) k0 k1
    have hz4 : 0 ≤ z ∧ z ≤ 3 := by
      simp only [List.mem_cons, List.not_mem_nil, or_false] at hz
      omega
    refine ⟨_, _, _, _, rfl, rfl, SqL.of (s2 l _ nlp upd_same), ez, ?_⟩
    have s02 : Sx p H H2 := s1.trans ((sx_new hl).trans s2)
    -- the kind
    refine ⟨(by show 2 ≤ sizeLine; decide), fun l2 hl2 => ?_⟩
    obtain ⟨lp2, hlp2⟩ := hp2.lst
    refine ⟨_, rfl, _, _, rfl, rfl, (by show (0 : Int) < 2; decide), ?_⟩
    obtain ⟨kb, ekb⟩ := pick2 kwP (r := r1 % 2) (by omega) (by omega)
    refine ⟨_, _, _, _, rfl, rfl, SqL.of upd_same, ekb, ?_⟩
    have s03 : Sx p H (upd H2 l2 (.lst [.str "seq", .str "par"])) := s02.trans (sx_new hl2)
    have hp3 := hp2.same (same_new (o := .lst [.str "seq", .str "par"]) hl2)
    generalize (upd H2 l2 (.lst [.str "seq", .str "par"])) = H3 at s03 hp3 ⊢
    refine ⟨_, rfl, z, rfl, by omega, by omega, fun D hD => ?_⟩
    have nDp : D ≠ p := fun y => by
      obtain ⟨_, y2⟩ := hp3.lst
      rw [y, y2] at hD
      cases hD
    refine lc_range (lo := 0) (n := z.toNat) (fun i H' => ∃ js, js.length = i ∧ Row K cs H3 p D (e + 1) (m + 1 + 1 + TB (e + 1) * i) js H') ?_ ?_ ?_
    · exact ⟨[], rfl, fun b o nb hb => by rw [upd_ne (ne_of_none hb hD)]; exact hb, (hp3.same (same_new hD)), .nil, [], upd_same, .nil⟩
    · rintro i H' hi ⟨js, ejs, R⟩
      have hi3 : i ≤ 2 := by omega
      have hmul : TB (e + 1) * i ≤ TB (e + 1) * 2 := Nat.mul_le_mul_left _ hi3
      have hmul2 : TB (e + 1) * (i + 1) = TB (e + 1) * i + TB (e + 1) := Nat.mul_succ _ _
      refine ⟨rfl, ?_⟩
      unfold tYes
      refine iteT ?_
      refine ⟨_, rfl, _, rfl, _, _, rfl, rfl, _, rfl, e + 1, by omega, p, a, m + 1 + 1 + TB (e + 1) * i, cs, ?_, R.pot, by omega, R.sx a _ nap (s03 a _ nap ha), nap, c0, c1, hcs, fun H4 r4 j4 s4 hp4 d4 g4 => ?_⟩
      · have ee : ((e + 2 : Nat) : Int) - 1 = ((e + 1 : Nat) : Int) := by omega
        rw [← ee]
        rfl
      obtain ⟨acc, x1, x2, x3⟩ := R.snoc hD nDp s4 hp4 d4 g4
      rw [Nat.add_assoc _ (TB (e + 1) * i), ← hmul2] at x3
      exact ⟨acc, x1, small1000 (by omega), _, by rw [List.length_append, List.length_singleton, ejs], x3⟩
    · rintro H' ⟨js, ejs, R⟩
      obtain ⟨vs, y1, y2⟩ := R.lst
      refine ⟨D, vs, rfl, .inl ⟨SqL.of y1, fun t ht => ?_⟩⟩
      refine ⟨(by show 2 ≤ sizeLine; decide), fun u hu => ?_⟩
      have st : Same H' (upd (upd H' t (.tup vs)) u (.tup [.str (kwP kb), .ref t])) := (same_new ht).trans (same_new hu)
      have hz3 : z.toNat ≤ 3 := by omega
      have hmul : TB (e + 1) * z.toNat ≤ TB (e + 1) * 3 := Nat.mul_le_mul_left _ hz3
      refine q _ _ (.ps kb js) (s03.trans (R.sx.trans (Same.sx st))) ((R.pot.same st).mono (by omega)) ?_ (GenOk.parts R.gen (by omega))
      refine dp_ps (k := kb) (v := .ref t) upd_same (.tup (.inl (.inl ?_)) (dpAll_same st y2))
      exact same_new hu _ _ upd_same
  -- rounds, copies
  refine ⟨(by show 2 ≤ sizeLine; decide), fun l hl => ?_⟩
  refine ⟨_, rfl, _, _, rfl, rfl, (by show (0 : Int) < 2; decide), ?_⟩
  obtain ⟨kb, ekb⟩ := pick2 kwR (r := r1 % 2) (by omega) (by omega)
  refine ⟨_, _, _, _, rfl, rfl, SqL.of upd_same, ekb, ?_⟩
  have s02 : Sx p H (upd H1 l (.lst [.str "repeat", .str "copies"])) := s1.trans (sx_new hl)
  have hp2 := hp1.same (same_new (o := .lst [.str "repeat", .str "copies"]) hl)
  generalize (upd H1 l (.lst [.str "repeat", .str "copies"])) = H2 at s02 hp2 ⊢
  have ha2 := s02 a _ nap ha
  refine ⟨_, rfl, _, rfl, _, rfl, a, _, rfl, .inl (SqL.of ha2), p, m + 1, _, rfl, hp2, by omega, ?_, ?_, fun H3 r3 s3 hp3 k0 k1 => ?_⟩
  · show (0 : Int) < ((cs.map V.int).length : Int)
    rw [List.length_map]
    omega
  · show (((cs.map V.int).length : Int)).natAbs < 2 ^ 200
    rw [List.length_map]
    exact Nat.lt_of_le_of_lt (show ((cs.length : Int)).natAbs ≤ 100 by omega) (by decide)
  rw [List.length_map] at k1
  obtain ⟨z, hz, ez⟩ := atI_int (ns := cs) k0 k1
  have ha3 := s3 a _ nap ha2
  refine ⟨_, _, _, _, rfl, rfl, SqL.of ha3, ez, ?_⟩
  refine ⟨_, rfl, _, rfl, _, _, rfl, rfl, _, rfl, e + 1, by omega, p, a, m + 1 + 1, cs, ?_, hp3, by omega, ha3, nap, c0, c1, hcs, fun H4 r4 j4 s4 hp4 d4 g4 => ?_⟩
  · have ee : ((e + 2 : Nat) : Int) - 1 = ((e + 1 : Nat) : Int) := by omega
    rw [← ee]
    rfl
  refine ⟨(by show 3 ≤ sizeLine; decide), fun u hu => ?_⟩
  have st : Same H4 (upd H4 u (.tup [.str (kwR kb), .int z, r4])) := same_new hu
  have hcz := hcs z hz
  exact q _ _ (.rn kb z j4) (s02.trans (s3.trans (s4.trans (Same.sx st)))) ((hp4.same st).mono (by omega)) (dp_rn upd_same (dp_same st d4)) (GenOk.rounds g4 hcz.1 hcz.2 hz)
theorem ok_jobs (T : Txt K mg) : ∀ n : Nat, FnOk P w K mg base CX0 (n + 2) T.f__law_job T.d__law_job ["_law_pot_here", "_law_deep", "_law_counts"] (spJobs K n)
  | 0 => ⟨fun vs H Q E h => (nomatch h.choose_spec.1), fun A outer s H args us vs Q E _ _ _ _ h => (nomatch h.choose_spec.1)⟩
  | n + 1 => ok_job_next T (ok_jobs T n)
theorem ok_job (T : Txt K mg) (n : Nat) : FnOk P w K mg base CX0 (n + 3) T.f__law_job T.d__law_job ["_law_pot_here", "_law_deep", "_law_counts"] (spJob K n) :=
  (ok_jobs T (n + 1)).imp fun vs H Q E h => ⟨n, Nat.lt_succ_self n, h⟩
end
/-! block Wide: _law_wide, a job with indices beyond nine (behind bJob) -/
abbrev jW1 (n : Int) (js : List J) : J := .ps true [.rn true n (.ps false [.st 2, .st (-3)]), .ps false js]
abbrev jW2 : J := .ps false [.rn false 12 (.ps true [.st 1, .st (-1)]), .rn true 11 (.st (-1))]
abbrev jW3 : J := .rn true 12 (.ps true [.ps false [.st 1, .st (-2)], .st 3])
/-- the three forms -/
def WideJ (j : J) : Prop := (∃ (n : Int) (js : List J), 10 ≤ n ∧ n ≤ 15 ∧ 11 ≤ js.length ∧ js.length ≤ 13 ∧ (∀ y ∈ js, ∃ i, y = .st i ∧ -M30 ≤ i ∧ i ≤ M30) ∧ j = jW1 n js) ∨ j = jW2 ∨ j = jW3
def spWide (K : PySem.W.Frag) : Sp := fun vs H Q _ => ∃ (p : Addr) (m : Nat), vs = [.ref p] ∧ Pot H p m ∧ m + 100 ≤ 1099511627776 ∧ ∀ (H' : Hp) (r : V) (j : J), Sx p H H' → Pot H' p (m + 100) → Dp K H' r j.toD → WideJ j → Q r H'
theorem st_dp {K : PySem.W.Frag} {H : Hp} : ∀ ns : List Int, DpAll K H (ns.map V.int) (J.toDs (ns.map J.st))
  | [] => .nil
  | k :: ns => .cons (.int k) (st_dp ns)
section
variable {P : Program} {w : World} {K : PySem.W.Frag} {mg : Str → Option Value} {base : Heap}
theorem ok_wide (T : Txt K mg) : FnOk P w K mg base CX0 3 T.f__law_wide T.d__law_wide ["_law_pot_here"] (spWide K) := by
  have g__law_take : FnOk P w K mg base CX0 1 T.f__law_take T.d__law_take ["_law_pot_here", "_law_many"] spTake := ok_take T
  have g__law_step : FnOk P w K mg base CX0 2 T.f__law_step T.d__law_step ["_law_pot_here"] spStep := ok_step T
  refine T.F__law_wide.ok sc__law_wide (fun vs H Q E h => ?_) (fun cdv A outer s H vs Q E hr h => ?_)
  · obtain ⟨p, m, rfl, _⟩ := h
    rfl
  obtain ⟨p, m, rfl, hp, hm, q⟩ := h
  refine ⟨_, (pss_cons (ps_set (i := 1) sc__law_wide.nd rfl (Or.inl rfl) (pe_callTy (r := rTupS K) call_tupS (by rfl) T.n_tuple (by decide +kernel) (pa_cons (pe_lc (own := [("_law_turn", 3)]) (g := (gName 3)) (by rfl) sc__law_wide.nd (pi_range1 rfl T.n_range (pa_cons (pe_op op_add pe_int (pe_call g__law_take (hr.mono (by omega)) rfl T.m__law_take T.F__law_take.kp T.b__law_take .nil pass0 (pa_cons (pv 0) (pa_cons pe_int pa_nil)))) pa_nil)) (blkOk_by (N := N__law_wide) (sc := (defScope s__law_wide)) (by decide +kernel)) (fun _ _ _ _ _ => (pg_name (i := 3) sc__law_wide.nd rfl (Or.inl rfl))) (fun _ _ _ _ _ => pts_nil) (fun _ _ _ _ _ => (pe_call g__law_step (hr.mono (by omega)) rfl T.m__law_step T.F__law_step.kp T.b__law_step .nil pass0 (pa_cons (pv 0) pa_nil)))) pa_nil)))
      (pss_cons (ps_set (i := 2) sc__law_wide.nd rfl (Or.inl rfl) (pe_lst (pa_cons (pe_tup (pa_cons pe_str (pa_cons (pe_tup (pa_cons (pe_tup (pa_cons pe_str (pa_cons (pe_op op_add pe_int (pe_call g__law_take (hr.mono (by omega)) rfl T.m__law_take T.F__law_take.kp T.b__law_take .nil pass0 (pa_cons (pv 0) (pa_cons pe_int pa_nil)))) (pa_cons (pe_tup (pa_cons pe_str (pa_cons (pe_tup (pa_cons pe_int (pa_cons (pe_un un_neg pe_int) pa_nil))) pa_nil))) pa_nil)))) (pa_cons (pe_tup (pa_cons pe_str (pa_cons (pv 1) pa_nil))) pa_nil))) pa_nil))) pa_nil)))
      (pss_cons (ps_set (i := 2) sc__law_wide.nd rfl (Or.inl rfl) (pe_op op_cat (pv 2) (pe_lst (pa_cons (pe_tup (pa_cons pe_str (pa_cons (pe_tup (pa_cons (pe_tup (pa_cons pe_str (pa_cons pe_int (pa_cons (pe_tup (pa_cons pe_str (pa_cons (pe_tup (pa_cons pe_int (pa_cons (pe_un un_neg pe_int) pa_nil))) pa_nil))) pa_nil)))) (pa_cons (pe_tup (pa_cons pe_str (pa_cons pe_int (pa_cons (pe_un un_neg pe_int) pa_nil)))) pa_nil))) pa_nil))) pa_nil))))
      (pss_one (ps_ret (pe_ix (r := rIxL K) ix_list (pe_op op_cat (pv 2) (pe_lst (pa_cons (pe_tup (pa_cons pe_str (pa_cons pe_int (pa_cons (pe_tup (pa_cons pe_str (pa_cons (pe_tup (pa_cons (pe_tup (pa_cons pe_str (pa_cons (pe_tup (pa_cons pe_int (pa_cons (pe_un un_neg pe_int) pa_nil))) pa_nil))) (pa_cons pe_int pa_nil))) pa_nil))) pa_nil)))) pa_nil))) (pe_call g__law_take (hr.mono (by omega)) rfl T.m__law_take T.F__law_take.kp T.b__law_take .nil pass0 (pa_cons (pv 0) (pa_cons pe_int pa_nil))) (fun _ _ => rfl))))))), ?_⟩
  refine ⟨_, rfl, p, m, 3, rfl, hp, by omega, by decide, by decide, fun H1 r s1 hp1 r0 r1 => ?_⟩
  refine ⟨_, _, rfl, rfl, 11 + r, rfl, by omega, by omega, fun D hD => ?_⟩
  have nDp : D ≠ p := fun y => by
    obtain ⟨_, y2⟩ := hp1.lst
    rw [y, y2] at hD
    cases hD
  refine lc_range (lo := 0) (n := (11 + r).toNat) (fun i H' => ∃ (ns : List Int), ns.length = i ∧ (∀ k ∈ ns, -M30 ≤ k ∧ k ≤ M30) ∧ Sx p H1 H' ∧ Pot H' p (m + 1 + 4 * i) ∧ H' D = some (.lst (ns.map V.int))) ?_ ?_ ?_
  · exact ⟨[], rfl, by simp, fun b o nb hb => by rw [upd_ne (ne_of_none hb hD)]; exact hb, hp1.same (same_new hD), upd_same⟩
  · rintro i H' hi ⟨ns, nl, nb, sx, hp2, eD⟩
    refine ⟨rfl, ?_⟩
    unfold tYes
    refine iteT ?_
    refine ⟨_, rfl, p, _, rfl, hp2, by omega, fun H2 z s2 hp3 z0 z1 => ?_⟩
    have eD2 := s2 _ _ nDp eD
    refine ⟨_, eD2, small1000 (by rw [List.length_map]; omega), ns ++ [z], by rw [List.length_append, List.length_singleton, nl], ?_, ?_, ?_, ?_⟩
    · intro k hk
      rcases List.mem_append.mp hk with hk | hk
      · exact nb k hk
      · rw [List.mem_singleton] at hk
        subst hk
        exact ⟨z0, z1⟩
    · intro b o hb ho
      have nbD : b ≠ D := fun e => by rw [e, hD] at ho; cases ho
      rw [upd_ne nbD]
      exact s2 _ _ hb (sx _ _ hb ho)
    · obtain ⟨x, y, z, e1, e2⟩ := hp3
      exact ⟨x, y, z, by rw [upd_ne nDp.symm]; exact e1, e2.1, e2.2.1, e2.2.2.1, by omega⟩
    · rw [upd_same, List.map_append]
      rfl
  rintro H2 ⟨ns, nl, nb, sx2, hp2, eD⟩
  have hnl : 11 ≤ ns.length ∧ ns.length ≤ 13 := by omega
  have hp2 : Pot H2 p (m + 60) := hp2.mono (by omega)
  refine ⟨D, _, rfl, .inl ⟨SqL.of eD, fun t ht => ?_⟩⟩
  have sx3 : Same H2 (upd H2 t (.tup (ns.map V.int))) := same_new ht
  have et : upd H2 t (.tup (ns.map V.int)) t = some (.tup (ns.map V.int)) := upd_same
  have hp3 := hp2.same sx3
  generalize (upd H2 t (.tup (ns.map V.int))) = H3 at sx3 et hp3 ⊢
  have S3 : Sx p H H3 := s1.trans (sx2.trans (Same.sx sx3))
  refine ⟨_, rfl, p, _, 6, rfl, hp3, by omega, by decide, by decide, fun H4 c s4 hp4 c0 c1 => ?_⟩
  have ntp : t ≠ p := fun z => by
    obtain ⟨_, y2⟩ := hp3.lst
    rw [z, y2] at et
    cases et
  have et4 := s4 _ _ ntp et
  have dsq : ∀ G, Same H4 G → Dp K G (.ref t) (.tuple (J.toDs (ns.map J.st))) := fun G s => .tup (SqT.of (s _ _ et4)) (st_dp ns)
  refine ⟨_, _, rfl, rfl, _, rfl, (by show 2 ≤ sizeLine; decide), fun a1 ha1 => ?_⟩
  obtain ⟨u1, d1⟩ := tup_fresh (K := K) (ds := [.int 2, .int (-3)]) ha1 (.cons (.int _) (.cons (.int _) .nil))
  generalize (upd H4 a1 (.tup [.int 2, .int (-3)])) = F1 at u1 d1 ⊢
  refine ⟨(by show 2 ≤ sizeLine; decide), fun a2 ha2 => ?_⟩
  obtain ⟨u2, d2⟩ := tup_fresh (K := K) (ds := [.str "seq", .tuple [.int 2, .int (-3)]]) ha2 (.cons (.str _) (.cons d1 .nil))
  generalize (upd F1 a2 (.tup [.str "seq", .ref a1])) = F2 at u2 d2 ⊢
  refine ⟨(by show 3 ≤ sizeLine; decide), fun a3 ha3 => ?_⟩
  obtain ⟨u3, d3⟩ := tup_fresh (K := K) (ds := [.str "copies", .int (10 + c), .tuple [.str "seq", .tuple [.int 2, .int (-3)]]]) ha3 (.cons (.str _) (.cons (.int _) (.cons d2 .nil)))
  generalize (upd F2 a3 (.tup [.str "copies", .int (10 + c), .ref a2])) = F3 at u3 d3 ⊢
  refine ⟨_, rfl, (by show 2 ≤ sizeLine; decide), fun a4 ha4 => ?_⟩
  obtain ⟨u4, d4⟩ := tup_fresh (K := K) (ds := [.str "seq", .tuple (J.toDs (ns.map J.st))]) ha4 (.cons (.str _) (.cons (dsq _ (u1.trans (u2.trans u3))) .nil))
  generalize (upd F3 a4 (.tup [.str "seq", .ref t])) = F4 at u4 d4 ⊢
  refine ⟨(by show 2 ≤ sizeLine; decide), fun a5 ha5 => ?_⟩
  obtain ⟨u5, d5⟩ := tup_fresh (K := K) (ds := [.tuple [.str "copies", .int (10 + c), .tuple [.str "seq", .tuple [.int 2, .int (-3)]]], .tuple [.str "seq", .tuple (J.toDs (ns.map J.st))]]) ha5 (.cons (dp_same u4 d3) (.cons d4 .nil))
  generalize (upd F4 a5 (.tup [.ref a3, .ref a4])) = F5 at u5 d5 ⊢
  refine ⟨(by show 2 ≤ sizeLine; decide), fun a6 ha6 => ?_⟩
  obtain ⟨u6, d6⟩ := tup_fresh (K := K) (ds := [.str "par", .tuple [.tuple [.str "copies", .int (10 + c), .tuple [.str "seq", .tuple [.int 2, .int (-3)]]], .tuple [.str "seq", .tuple (J.toDs (ns.map J.st))]]]) ha6 (.cons (.str _) (.cons d5 .nil))
  generalize (upd F5 a6 (.tup [.str "par", .ref a5])) = F6 at u6 d6 ⊢
  have dA : Dp K F6 (.ref a6) (jW1 (10 + c) (ns.map J.st)).toD := d6
  refine ⟨(by show 1 ≤ sizeLine; decide), fun l1 hl1 => ?_⟩
  have v1 : Same F6 (upd F6 l1 (.lst [.ref a6])) := same_new hl1
  have el1 : upd F6 l1 (.lst [.ref a6]) l1 = some (.lst [.ref a6]) := upd_same
  generalize (upd F6 l1 (.lst [.ref a6])) = E0 at v1 el1 ⊢
  refine ⟨_, rfl, _, rfl, (by show 2 ≤ sizeLine; decide), fun b1 hb1 => ?_⟩
  obtain ⟨w1, c1'⟩ := tup_fresh (K := K) (ds := [.int 1, .int (-1)]) hb1 (.cons (.int _) (.cons (.int _) .nil))
  generalize (upd E0 b1 (.tup [.int 1, .int (-1)])) = E1 at w1 c1' ⊢
  refine ⟨(by show 2 ≤ sizeLine; decide), fun b2 hb2 => ?_⟩
  obtain ⟨w2, c2⟩ := tup_fresh (K := K) (ds := [.str "par", .tuple [.int 1, .int (-1)]]) hb2 (.cons (.str _) (.cons c1' .nil))
  generalize (upd E1 b2 (.tup [.str "par", .ref b1])) = E2 at w2 c2 ⊢
  refine ⟨(by show 3 ≤ sizeLine; decide), fun b3 hb3 => ?_⟩
  obtain ⟨w3, c3⟩ := tup_fresh (K := K) (ds := [.str "repeat", .int 12, .tuple [.str "par", .tuple [.int 1, .int (-1)]]]) hb3 (.cons (.str _) (.cons (.int _) (.cons c2 .nil)))
  generalize (upd E2 b3 (.tup [.str "repeat", .int 12, .ref b2])) = E3 at w3 c3 ⊢
  refine ⟨_, rfl, (by show 3 ≤ sizeLine; decide), fun b4 hb4 => ?_⟩
  obtain ⟨w4, c4⟩ := tup_fresh (K := K) (ds := [.str "copies", .int 11, .int (-1)]) hb4 (.cons (.str _) (.cons (.int _) (.cons (.int _) .nil)))
  generalize (upd E3 b4 (.tup [.str "copies", .int 11, .int (-1)])) = E4 at w4 c4 ⊢
  refine ⟨(by show 2 ≤ sizeLine; decide), fun b5 hb5 => ?_⟩
  obtain ⟨w5, c5⟩ := tup_fresh (K := K) (ds := [.tuple [.str "repeat", .int 12, .tuple [.str "par", .tuple [.int 1, .int (-1)]]], .tuple [.str "copies", .int 11, .int (-1)]]) hb5 (.cons (dp_same w4 c3) (.cons c4 .nil))
  generalize (upd E4 b5 (.tup [.ref b3, .ref b4])) = E5 at w5 c5 ⊢
  refine ⟨(by show 2 ≤ sizeLine; decide), fun b6 hb6 => ?_⟩
  obtain ⟨w6, c6⟩ := tup_fresh (K := K) (ds := [.str "seq", .tuple [.tuple [.str "repeat", .int 12, .tuple [.str "par", .tuple [.int 1, .int (-1)]]], .tuple [.str "copies", .int 11, .int (-1)]]]) hb6 (.cons (.str _) (.cons c5 .nil))
  generalize (upd E5 b6 (.tup [.str "seq", .ref b5])) = E6 at w6 c6 ⊢
  have dB : Dp K E6 (.ref b6) jW2.toD := c6
  refine ⟨(by show 1 ≤ sizeLine; decide), fun l2 hl2 => ?_⟩
  have v2 : Same E6 (upd E6 l2 (.lst [.ref b6])) := same_new hl2
  have el2 : upd E6 l2 (.lst [.ref b6]) l2 = some (.lst [.ref b6]) := upd_same
  generalize (upd E6 l2 (.lst [.ref b6])) = E7 at v2 el2 ⊢
  have w17 := w1.trans (w2.trans (w3.trans (w4.trans (w5.trans (w6.trans v2)))))
  refine ⟨l1, l2, [.ref a6], [.ref b6], rfl, rfl, w17 _ _ el1, el2, (by show 2 ≤ sizeLine; decide), fun l3 hl3 => ?_⟩
  have v3 : Same E7 (upd E7 l3 (.lst ([.ref a6] ++ [.ref b6]))) := same_new hl3
  have el3 : upd E7 l3 (.lst ([.ref a6] ++ [.ref b6])) l3 = some (.lst ([.ref a6] ++ [.ref b6])) := upd_same
  generalize (upd E7 l3 (.lst ([.ref a6] ++ [.ref b6]))) = K0 at v3 el3 ⊢
  refine ⟨_, rfl, _, rfl, (by show 2 ≤ sizeLine; decide), fun e1 he1 => ?_⟩
  obtain ⟨x1, f1⟩ := tup_fresh (K := K) (ds := [.int 1, .int (-2)]) he1 (.cons (.int _) (.cons (.int _) .nil))
  generalize (upd K0 e1 (.tup [.int 1, .int (-2)])) = K1 at x1 f1 ⊢
  refine ⟨(by show 2 ≤ sizeLine; decide), fun e2 he2 => ?_⟩
  obtain ⟨x2, f2⟩ := tup_fresh (K := K) (ds := [.str "seq", .tuple [.int 1, .int (-2)]]) he2 (.cons (.str _) (.cons f1 .nil))
  generalize (upd K1 e2 (.tup [.str "seq", .ref e1])) = K2 at x2 f2 ⊢
  refine ⟨(by show 2 ≤ sizeLine; decide), fun e3 he3 => ?_⟩
  obtain ⟨x3, f3⟩ := tup_fresh (K := K) (ds := [.tuple [.str "seq", .tuple [.int 1, .int (-2)]], .int 3]) he3 (.cons f2 (.cons (.int _) .nil))
  generalize (upd K2 e3 (.tup [.ref e2, .int 3])) = K3 at x3 f3 ⊢
  refine ⟨(by show 2 ≤ sizeLine; decide), fun e4 he4 => ?_⟩
  obtain ⟨x4, f4⟩ := tup_fresh (K := K) (ds := [.str "par", .tuple [.tuple [.str "seq", .tuple [.int 1, .int (-2)]], .int 3]]) he4 (.cons (.str _) (.cons f3 .nil))
  generalize (upd K3 e4 (.tup [.str "par", .ref e3])) = K4 at x4 f4 ⊢
  refine ⟨(by show 3 ≤ sizeLine; decide), fun e5 he5 => ?_⟩
  obtain ⟨x5, f5⟩ := tup_fresh (K := K) (ds := [.str "copies", .int 12, .tuple [.str "par", .tuple [.tuple [.str "seq", .tuple [.int 1, .int (-2)]], .int 3]]]) he5 (.cons (.str _) (.cons (.int _) (.cons f4 .nil)))
  generalize (upd K4 e5 (.tup [.str "copies", .int 12, .ref e4])) = K5 at x5 f5 ⊢
  have dC : Dp K K5 (.ref e5) jW3.toD := f5
  refine ⟨(by show 1 ≤ sizeLine; decide), fun l4 hl4 => ?_⟩
  have v4 : Same K5 (upd K5 l4 (.lst [.ref e5])) := same_new hl4
  have el4 : upd K5 l4 (.lst [.ref e5]) l4 = some (.lst [.ref e5]) := upd_same
  generalize (upd K5 l4 (.lst [.ref e5])) = K6 at v4 el4 ⊢
  have x16 := x1.trans (x2.trans (x3.trans (x4.trans (x5.trans v4))))
  refine ⟨l3, l4, [.ref a6] ++ [.ref b6], [.ref e5], rfl, rfl, x16 _ _ el3, el4, (by show 3 ≤ sizeLine; decide), fun l5 hl5 => ?_⟩
  have v5 : Same K6 (upd K6 l5 (.lst (([.ref a6] ++ [.ref b6]) ++ [.ref e5]))) := same_new hl5
  have el5 : upd K6 l5 (.lst (([.ref a6] ++ [.ref b6]) ++ [.ref e5])) l5 = some (.lst (([.ref a6] ++ [.ref b6]) ++ [.ref e5])) := upd_same
  generalize (upd K6 l5 (.lst (([.ref a6] ++ [.ref b6]) ++ [.ref e5]))) = K7 at v5 el5 ⊢
  have sE : Same F6 E6 := v1.trans (w1.trans (w2.trans (w3.trans (w4.trans (w5.trans w6)))))
  have sK : Same E6 K7 := v2.trans (v3.trans (x16.trans v5))
  have sF : Same H4 F6 := u1.trans (u2.trans (u3.trans (u4.trans (u5.trans u6))))
  have sAll : Same H4 K7 := sF.trans (sE.trans sK)
  have hp7 := hp4.same sAll
  have n5 : l5 ≠ p := fun z => by
    obtain ⟨_, y2⟩ := hp7.lst
    rw [z, y2] at el5
    cases el5
    obtain ⟨_, y3⟩ := (hp4.same (sF.trans (sE.trans (v2.trans (v3.trans x16))))).lst
    rw [z, y3] at hl5
    cases hl5
  obtain ⟨l7, hl7⟩ := hp7.lst
  refine ⟨_, rfl, p, _, 3, rfl, hp7, by omega, by decide, by decide, fun L1 d s7 hp8 d0 d1' => ?_⟩
  have kk : ∀ a xs, SqT K K7 a xs → SqT K L1 a xs := fun a xs h => s7.sqT hl7 h
  have S7 : Sx p H L1 := S3.trans (s4.trans ((Same.sx sAll).trans s7))
  have eL := s7 _ _ n5 el5
  have fin : ∀ (r : V) (j : J), Dp K K7 r j.toD → WideJ j → Q r L1 := fun r j hd hw => q _ _ j S7 (hp8.mono (by omega)) (dp_keep kk j.noL hd) hw
  rcases (by omega : d = 0 ∨ d = 1 ∨ d = 2) with rfl | rfl | rfl
  · refine ⟨_, _, _, _, rfl, rfl, SqL.of eL, rfl, ?_⟩
    refine fin _ _ (dp_same (sE.trans sK) dA) (.inl ⟨10 + c, ns.map J.st, by omega, by omega, by rw [List.length_map]; omega, by rw [List.length_map]; omega, fun y hy => ?_, rfl⟩)
    obtain ⟨k, hk, rfl⟩ := List.mem_map.mp hy
    exact ⟨k, rfl, nb k hk⟩
  · refine ⟨_, _, _, _, rfl, rfl, SqL.of eL, rfl, ?_⟩
    exact fin _ _ (dp_same sK dB) (.inr (.inl rfl))
  · refine ⟨_, _, _, _, rfl, rfl, SqL.of eL, rfl, ?_⟩
    exact fin _ _ (dp_same (v4.trans v5) dC) (.inr (.inr rfl))
end
/-! block Steps2: _law_steps of jobs that are perhaps none -/
theorem J.stepsL_sum : ∀ xs : List J, (xs.map J.steps).sum = J.stepsL xs
  | [] => by simp [J.stepsL]
  | x :: xs => by simp only [List.map_cons, List.sum_cons, J.stepsL, J.stepsL_sum xs]
theorem J.deepL_mem : ∀ {l : List J} {y : J}, y ∈ l → y.deep ≤ J.deepL l
  | z :: r, y, h => by
    simp only [J.deepL]
    rcases List.mem_cons.mp h with rfl | h
    · omega
    · have := J.deepL_mem h
      omega
mutual
/-- no number of steps beyond 10 ** 30 within it -/
def J.stb : J → Prop
  | .st _ => True
  | .ps _ xs => xs.length ≤ 400 ∧ J.stbL xs
  | .rn _ n x => (0 ≤ n ∧ n ≤ M30) ∧ x.stb ∧ (0 ≤ x.steps ∧ x.steps ≤ M30)
def J.stbL : List J → Prop
  | [] => True
  | x :: xs => x.stb ∧ J.stbL xs
end
theorem J.stbL_mem : ∀ {l : List J} {y : J}, J.stbL l → y ∈ l → y.stb
  | z :: r, y, o, h => by
    simp only [J.stbL] at o
    rcases List.mem_cons.mp h with rfl | h
    · exact o.1
    · exact J.stbL_mem o.2 h
mutual
theorem J.stb_ok : ∀ j : J, j.ok → j.stb
  | .st _, _ => trivial
  | .ps _ xs, h => by
    simp only [J.ok] at h
    exact ⟨by omega, J.stbL_ok xs h.2.1⟩
  | .rn _ n x, h => by
    simp only [J.ok] at h
    exact ⟨h.1, J.stb_ok x h.2.1, J.steps_nn x h.2.1, J.steps_le x h.2.1⟩
theorem J.stbL_ok : ∀ xs : List J, J.okL xs → J.stbL xs
  | [], _ => trivial
  | x :: xs, h => by
    simp only [J.okL] at h
    exact ⟨J.stb_ok x h.1, J.stbL_ok xs h.2⟩
end
/-- the i-th part's data -/
theorem part_at {K : PySem.W.Frag} {H : Hp} {xs : List J} {vs : List V} {i : Nat} {x : V} (hall : DpAll K H vs (J.toDs xs)) (hi : vs[i]? = some x) : ∃ j, xs[i]? = some j ∧ j ∈ xs ∧ Dp K H x j.toD := by
  obtain ⟨d, ed, hd⟩ := dpAll_get hall hi
  rw [J.toDs_eq, List.getElem?_map] at ed
  cases e : xs[i]? with
  | none =>
    rw [e] at ed
    cases ed
  | some j =>
    rw [e] at ed
    obtain rfl := (Option.some.inj ed).symm
    exact ⟨j, rfl, List.mem_of_getElem? e, hd⟩
theorem take_map {α β : Type} {xs : List α} {i : Nat} {j : α} (f : α → β) (e : xs[i]? = some j) : (xs.take (i + 1)).map f = (xs.take i).map f ++ [f j] := by
  rw [List.take_add_one, e, List.map_append]
  rfl
theorem kwP_in (k : Bool) : inV (.str (kwP k)) [.str "seq", .str "par"] = true := by cases k <;> decide +kernel
theorem kwR_in (k : Bool) : inV (.str (kwR k)) [.str "seq", .str "par"] = false := by cases k <;> decide +kernel
theorem pow4_mono {a b : Nat} (h : a ≤ b) : (4 : Int) ^ a ≤ 4 ^ b := by
  induction h with
  | refl => exact Int.le_refl _
  | @step m _ ih =>
    refine Int.le_trans ih ?_
    rw [Int.pow_succ]
    have : (0 : Int) ≤ 4 ^ m := Int.le_of_lt (Int.pow_pos (by decide))
    omega
mutual
/-- a drawn job with few rounds has few steps -/
theorem J.few : ∀ (j : J) (cs : List Int), j.small → j.cin cs → (∀ c ∈ cs, 0 ≤ c ∧ c ≤ 4) → j.deep ≤ 40 → j.stb ∧ 0 ≤ j.steps ∧ j.steps ≤ 4 ^ j.deep
  | .st _, _, _, _, _, _ => by
    simp only [J.stb, J.steps, J.deep]
    exact ⟨trivial, by decide, by decide⟩
  | .ps k xs, cs, h, hc, hb, hd => by
    simp only [J.small] at h
    simp only [J.cin] at hc
    simp only [J.deep] at hd
    obtain ⟨h1, h2, h3⟩ := J.fewL xs cs h.2 hc hb (by omega)
    simp only [J.stb, J.steps, J.deep]
    refine ⟨⟨by omega, h1⟩, h2, Int.le_trans h3 ?_⟩
    rw [Int.pow_succ]
    have p : (0 : Int) ≤ 4 ^ J.deepL xs := Int.le_of_lt (Int.pow_pos (by decide))
    exact Int.mul_le_mul_of_nonneg_left (by omega) p
  | .rn k n x, cs, h, hc, hb, hd => by
    simp only [J.small] at h
    simp only [J.cin] at hc
    simp only [J.deep] at hd
    obtain ⟨h1, h2, h3⟩ := J.few x cs h.2 hc.2 hb (by omega)
    have hn := hb n hc.1
    have p40 : (4 : Int) ^ x.deep ≤ 4 ^ 40 := pow4_mono (by omega)
    have e40 : (4 : Int) ^ 40 ≤ M30 := by decide
    simp only [J.stb, J.steps, J.deep]
    refine ⟨⟨by simp only [M30]; omega, h1, h2, by omega⟩, Int.mul_nonneg h2 hn.1, ?_⟩
    rw [Int.pow_succ]
    exact Int.mul_le_mul h3 hn.2 hn.1 (Int.le_of_lt (Int.pow_pos (by decide)))
theorem J.fewL : ∀ (xs : List J) (cs : List Int), J.smallL xs → J.cinL cs xs → (∀ c ∈ cs, 0 ≤ c ∧ c ≤ 4) → J.deepL xs ≤ 40 → J.stbL xs ∧ 0 ≤ J.stepsL xs ∧ J.stepsL xs ≤ 4 ^ J.deepL xs * xs.length
  | [], _, _, _, _, _ => by simp [J.stbL, J.stepsL]
  | x :: xs, cs, h, hc, hb, hd => by
    simp only [J.smallL] at h
    simp only [J.cinL] at hc
    simp only [J.deepL] at hd ⊢
    obtain ⟨h1, h2, h3⟩ := J.few x cs h.1 hc.1 hb (by omega)
    obtain ⟨g1, g2, g3⟩ := J.fewL xs cs h.2 hc.2 hb (by omega)
    have p1 : (4 : Int) ^ x.deep ≤ 4 ^ (max x.deep (J.deepL xs)) := pow4_mono (by omega)
    have p2 : (4 : Int) ^ J.deepL xs ≤ 4 ^ (max x.deep (J.deepL xs)) := pow4_mono (by omega)
    have p3 := Int.mul_le_mul_of_nonneg_right p2 (show (0 : Int) ≤ xs.length by omega)
    simp only [J.stbL, J.stepsL, List.length_cons]
    refine ⟨⟨h1, g1⟩, by omega, ?_⟩
    rw [Int.natCast_add, Int.mul_add]
    simp only [Int.natCast_one, Int.mul_one]
    omega
end
theorem ls_ok {j : J} (h : j.ok) : j.stb := J.stb_ok j h
def spLS (K : PySem.W.Frag) (n : Nat) : Sp := fun vs H Q _ => ∃ (v : V) (j : J), vs = [v] ∧ Dp K H v j.toD ∧ j.deep ≤ n ∧ j.stb ∧ ∀ H', Same H H' → Q (.int j.steps) H'
section
variable {P : Program} {w : World} {K : PySem.W.Frag} {mg : Str → Option Value} {base : Heap}
theorem ok_ls_next (T : Txt K mg) {n : Nat} (g__law_steps : FnOk P w K mg base CX0 n T.f__law_steps T.d__law_steps ["_law_job_here"] (spLS K n)) :
    FnOk P w K mg base CX0 (n + 1) T.f__law_steps T.d__law_steps ["_law_job_here"] (spLS K (n + 1)) := by
  refine T.F__law_steps.ok sc__law_steps (fun vs H Q E h => ?_) (fun cdv A outer s H vs Q E hr h => ?_)
  · obtain ⟨v, j, rfl, _⟩ := h
    rfl
  obtain ⟨v, j, rfl, hd, hn, hok, q⟩ := h
  refine ⟨_, (pss_cons (ps_if (pt_not (pt_val (pe_callB (r := rIsD K) call_isD (by rfl) T.n_isinstance (by decide +kernel) (pa_cons (pv 0) (pa_cons (pe_bltn (v := .ty "tuple") (by rfl) T.n_tuple (by decide +kernel) rfl) pa_nil))))) (pss_one (ps_ret pe_int)) pss_nil)
      (pss_cons (ps_if (pt_cmpR (r := rIn K false) op_in_seq (pe_ix (r := rIxT K) ix_tup (pv 0) pe_int (fun _ _ => rfl)) (pe_tup (pa_cons pe_str (pa_cons pe_str pa_nil))) (by rfl)) (pss_one (ps_ret (pe_callB (r := rSum K) (cr_sum rfl) (by rfl) T.n_sum (by decide +kernel) (pa_cons (pe_lc (own := [("_law_part", 1)]) (g := (gName 1)) (by rfl) sc__law_steps.nd (pi_tup (pe_ix (r := rIxT K) ix_tup (pv 0) pe_int (fun _ _ => rfl))) (blkOk_by (N := N__law_steps) (sc := (defScope s__law_steps)) (by decide +kernel)) (fun _ _ _ _ _ => (pg_name (i := 1) sc__law_steps.nd rfl (Or.inl rfl))) (fun _ _ _ _ _ => pts_nil) (fun _ _ _ _ _ => (pe_call g__law_steps (hr.mono (by omega)) rfl T.m__law_steps T.F__law_steps.kp T.b__law_steps .nil pass0 (pa_cons (pv 1) pa_nil)))) pa_nil)))) pss_nil)
      (pss_one (ps_ret (pe_op op_mulW (pe_ix (r := rIxT K) ix_tup (pv 0) pe_int (fun _ _ => rfl)) (pe_call g__law_steps (hr.mono (by omega)) rfl T.m__law_steps T.F__law_steps.kp T.b__law_steps .nil pass0 (pa_cons (pe_ix (r := rIxT K) ix_tup (pv 0) pe_int (fun _ _ => rfl)) pa_nil))))))), ?_⟩
  cases j with
  | st i =>
    refine ⟨_, rfl, _, _, _, _, rfl, hd, kit_tuple _, _, rfl, ?_⟩
    refine iteT ?_
    simp only [J.steps] at q
    exact q _ (Same.refl _)
  | ps k xs =>
    simp only [J.deep] at hn
    simp only [J.stb] at hok
    simp only [J.steps] at q
    rw [J.toD] at hd
    obtain ⟨a, ys, rfl, hys, hall⟩ := dp_tup_inv hd
    refine ⟨_, rfl, _, _, _, _, rfl, hd, kit_tuple _, _, rfl, ?_⟩
    refine iteF ?_
    cases hall with
    | cons e1 hall =>
      obtain rfl := dp_str_inv e1
      cases hall with
      | cons e2 hall =>
        cases hall
        obtain ⟨b, vs, rfl, hvs, hall2⟩ := dp_tup_inv e2
        refine ⟨_, rfl, _, _, _, _, rfl, rfl, hys, rfl, (by show 2 ≤ sizeLine; decide), fun t ht => ?_⟩
        refine ⟨t, _, rfl, .inr (SqT.of upd_same), rfl, rfl, _, rfl, ?_⟩
        have s1 : Same H (upd H t (.tup [.str "seq", .str "par"])) := same_new ht
        show if inV (.str (kwP k)) [.str "seq", .str "par"] = true then _ else _
        rw [kwP_in]
        refine iteT ?_
        generalize (upd H t (.tup [.str "seq", .str "par"])) = H1 at s1 ⊢
        refine ⟨_, rfl, _, _, _, _, rfl, rfl, same_sqT s1 hys, rfl, b, rfl, ⟨vs, same_sqT s1 hvs⟩, fun D hD => ?_⟩
        refine lc_tup (K := K) (a := b) (xs := vs) (fun i H' => Same H1 H' ∧ H' D = some (.lst (((xs.take i).map J.steps).map V.int))) ?_ ?_ ?_ ?_
        · exact ⟨same_new hD, upd_same⟩
        · rintro i H' _ ⟨s2, _⟩
          exact same_sqT s2 (same_sqT s1 hvs)
        · rintro i x H' hi ⟨s2, eD⟩
          obtain ⟨j, ej, mj, dj⟩ := part_at hall2 hi
          refine ⟨rfl, ?_⟩
          unfold tYes
          refine iteT ?_
          refine ⟨_, rfl, x, j, rfl, dp_same (s1.trans s2) dj, by have := J.deepL_mem mj; omega, J.stbL_mem hok.2 mj, fun H3 s3 => ?_⟩
          refine ⟨_, s3 _ _ eD, ?_, ?_, ?_⟩
          · rw [List.length_map, List.length_map, List.length_take]
            have : i < vs.length := (List.getElem?_eq_some_iff.mp hi).1
            exact small1000 (by omega)
          · intro c o hc
            rw [upd_ne (ne_of_none hc hD)]
            exact s3 _ _ (s2 _ _ hc)
          · rw [upd_same, take_map J.steps ej, List.map_append]
            rfl
        · rintro H' ⟨s2, eD⟩
          have el : vs.length = xs.length := by rw [dpAll_length hall2, J.toDs_eq, List.length_map]
          rw [el, List.take_length] at eD
          refine ⟨D, xs.map J.steps, rfl, SqL.of eD, ?_⟩
          rw [J.stepsL_sum]
          exact q _ (s1.trans s2)
  | rn k c x =>
    simp only [J.deep] at hn
    simp only [J.stb] at hok
    simp only [J.steps] at q
    rw [J.toD] at hd
    obtain ⟨a, ys, rfl, hys, hall⟩ := dp_tup_inv hd
    refine ⟨_, rfl, _, _, _, _, rfl, hd, kit_tuple _, _, rfl, ?_⟩
    refine iteF ?_
    cases hall with
    | cons e1 hall =>
      obtain rfl := dp_str_inv e1
      cases hall with
      | cons e2 hall =>
        obtain rfl := dp_int_inv e2
        cases hall with
        | cons e3 hall =>
          cases hall
          refine ⟨_, rfl, _, _, _, _, rfl, rfl, hys, rfl, (by show 2 ≤ sizeLine; decide), fun t ht => ?_⟩
          refine ⟨t, _, rfl, .inr (SqT.of upd_same), rfl, rfl, _, rfl, ?_⟩
          have s1 : Same H (upd H t (.tup [.str "seq", .str "par"])) := same_new ht
          show if inV (.str (kwR k)) [.str "seq", .str "par"] = true then _ else _
          rw [kwR_in]
          refine iteF ?_
          refine ⟨_, rfl, _, _, _, _, rfl, rfl, same_sqT s1 hys, rfl, _, rfl, _, _, _, _, rfl, rfl, same_sqT s1 hys, rfl, _, x, rfl, dp_same s1 e3, by omega, hok.2.1, fun H2 s2 => ?_⟩
          have hb0 := hok.2.2.1
          have hb1 := hok.2.2.2
          have h1 := hok.1
          simp only [M30] at hb1 h1
          have e1 : x.steps.natAbs < 2 ^ 128 := Nat.lt_of_le_of_lt (show x.steps.natAbs ≤ 1000000000000000000000000000000 by omega) (by decide)
          have e2 : c.natAbs < 2 ^ 128 := Nat.lt_of_le_of_lt (show c.natAbs ≤ 1000000000000000000000000000000 by omega) (by decide)
          refine ⟨_, _, rfl, rfl, wide_mul (a := 128) (b := 128) e2 e1 (by decide) (by decide) (by decide), ?_⟩
          show Q (.int (c * x.steps)) _
          rw [Int.mul_comm]
          exact q _ (s1.trans s2)
theorem ok_ls (T : Txt K mg) : ∀ n : Nat, FnOk P w K mg base CX0 n T.f__law_steps T.d__law_steps ["_law_job_here"] (spLS K n)
  | 0 => by
    have no : ∀ vs H Q E, ¬ spLS K 0 vs H Q E := by
      rintro vs H Q E ⟨v, j, _, _, h, _⟩
      have := J.deep_pos j
      omega
    exact ⟨fun vs H Q E h => absurd h (no vs H Q E), fun A outer s H args us vs Q E _ _ _ _ h => absurd h (no vs H Q E)⟩
  | n + 1 => ok_ls_next T (ok_ls T n)
end
/-! block Small: _law_small, a drawn job of two to so many steps -/
abbrev csS : List Int := [1, 2, 3, 0, 2]
abbrev jS : J := .ps true [.ps false [.st 5, .st (-3)], .rn true 2 (.st (-1))]
structure SmallOk (size : Int) (j : J) : Prop where
  two : 1 < j.steps
  most : j.steps ≤ size
  deep : j.deep ≤ 6
  small : j.small
  cin : j.cin csS
  stb : j.stb
  nodes : j.nodes ≤ 400
theorem NB_5 {m : Nat} (h : m ≤ 5) : NB m ≤ 400 := by
  have : ∀ m, m < 6 → NB m ≤ 400 := by decide
  exact this m (by omega)
theorem TB_mono (n : Nat) : TB n ≤ TB (n + 1) := by
  simp only [TB]
  omega
def spSmall (K : PySem.W.Frag) : Sp := fun vs H Q _ => ∃ (p : Addr) (m n : Nat) (size : Int), vs = [.ref p, .int (n : Int), .int size] ∧ Pot H p m ∧ 2 ≤ n ∧ n ≤ 5 ∧ 4 ≤ size ∧ m + 4 * TB n ≤ 1099511627776 ∧
  ∀ (H' : Hp) (r : V) (j : J), Sx p H H' → Pot H' p (m + 4 * TB n) → Dp K H' r j.toD → SmallOk size j → Q r H'
section
variable {P : Program} {w : World} {K : PySem.W.Frag} {mg : Str → Option Value} {base : Heap}
theorem ok_small (T : Txt K mg) : FnOk P w K mg base CX0 10 T.f__law_small T.d__law_small ["_law_pot_here", "_law_deep", "_law_size"] (spSmall K) := by
  have g__law_job : FnOk P w K mg base CX0 9 T.f__law_job T.d__law_job ["_law_pot_here", "_law_deep", "_law_counts"] (spJobs K 7) := ok_jobs T 7
  have g__law_steps : FnOk P w K mg base CX0 8 T.f__law_steps T.d__law_steps ["_law_job_here"] (spLS K 8) := ok_ls T 8
  refine T.F__law_small.ok sc__law_small (fun vs H Q E h => ?_) (fun cdv A outer s H vs Q E hr h => ?_)
  · obtain ⟨p, m, n, size, rfl, _⟩ := h
    rfl
  obtain ⟨p, m, n, size, rfl, hp, n2, n6, hs, hm, q⟩ := h
  refine ⟨_, (pss_cons (ps_for PassesOwn.never rfl (pi_range1 rfl T.n_range (pa_cons pe_int pa_nil)) (pg_name (i := 3) sc__law_small.nd rfl (Or.inl rfl))
        (pss_cons (ps_set (i := 4) sc__law_small.nd rfl (Or.inl rfl) (pe_call g__law_job (hr.mono (by omega)) rfl T.m__law_job T.F__law_job.kp T.b__law_job .nil pass0 (pa_cons (pv 0) (pa_cons (pe_op op_sub (pv 1) (pe_op op_mod (pv 3) pe_int)) (pa_cons (pe_lst (pa_cons pe_int (pa_cons pe_int (pa_cons pe_int (pa_cons pe_int (pa_cons pe_int pa_nil)))))) pa_nil)))))
        (pss_one (ps_if (pt_chain op_lt op_le pe_int (pe_call g__law_steps (hr.mono (by omega)) rfl T.m__law_steps T.F__law_steps.kp T.b__law_steps .nil pass0 (pa_cons (pv 4) pa_nil)) (pv 2)) (pss_one (ps_ret (pv 4))) pss_nil))))
      (pss_one (ps_ret (pe_tup (pa_cons pe_str (pa_cons (pe_tup (pa_cons (pe_tup (pa_cons pe_str (pa_cons (pe_tup (pa_cons pe_int (pa_cons (pe_un un_neg pe_int) pa_nil))) pa_nil))) (pa_cons (pe_tup (pa_cons pe_str (pa_cons pe_int (pa_cons (pe_un un_neg pe_int) pa_nil)))) pa_nil))) pa_nil)))))), ?_⟩
  have tb2 : ∀ i : Nat, TB (n - i % 2) ≤ TB n := by
    intro i
    rcases Nat.mod_two_eq_zero_or_one i with e | e
    · rw [e]
      exact Nat.le_refl _
    · rw [e]
      have := TB_mono (n - 1)
      rw [show n - 1 + 1 = n by omega] at this
      exact this
  refine ⟨_, rfl, by decide, by decide, ?_⟩
  refine for_range (lo := 0) (n := (4 : Int).toNat) (fun i σ H' => ∃ y3 y4 : Option V, σ = [some (.ref p), some (.int (n : Int)), some (.int size), y3, y4] ∧ Sx p H H' ∧ Pot H' p (m + i * TB n)) ⟨none, none, rfl, Sx.refl, by simpa using hp⟩ ?_ ?_
  · rintro i σ H' hi ⟨y3, y4, rfl, s1, hp1⟩
    have hi4 : i < 4 := hi
    obtain ⟨lp, hlp⟩ := hp1.lst
    have hmul : (i + 1) * TB n = i * TB n + TB n := Nat.succ_mul i (TB n)
    have hmul4 : (i + 1) * TB n ≤ 4 * TB n := Nat.mul_le_mul_right _ (by omega)
    have htb := tb2 i
    refine ⟨_, rfl, _, rfl, _, rfl, _, _, rfl, rfl, (by show (0 : Int) < 2; decide), _, _, rfl, rfl, (by show 5 ≤ sizeLine; decide), fun l hl => ?_⟩
    have nlp : l ≠ p := fun z => by rw [z, hlp] at hl; cases hl
    have sl : Sx p H' (upd H' l (.lst (csS.map V.int))) := sx_new hl
    refine ⟨n - i % 2, by omega, p, l, m + i * TB n, csS, ?_, hp1.same (same_new hl), by omega, upd_same, nlp, by decide, by decide, by decide, fun H2 r j s2 hp2 dj gj => ?_⟩
    · have e : ((n : Int) - (0 + (i : Int)) % 2) = ((n - i % 2 : Nat) : Int) := by omega
      rw [← e]
      rfl
    have gd := gj.deep
    have hdeep : j.deep ≤ 6 := by omega
    obtain ⟨hst, h0, _⟩ := J.few j csS gj.small gj.cin (by decide) (by omega)
    refine ⟨_, rfl, r, j, rfl, dj, by omega, hst, fun H3 s3 => ?_⟩
    refine ⟨_, _, rfl, rfl, _, rfl, ?_⟩
    have X3 : Sx p H H3 := s1.trans (sl.trans (s2.trans (Same.sx s3)))
    have hp3 : Pot H3 p (m + (i + 1) * TB n) := (hp2.same s3).mono (by omega)
    refine ite2 (fun g1 => ?_) (fun g1 => ?_)
    · refine ⟨_, rfl, _, _, rfl, rfl, _, rfl, ?_⟩
      refine ite2 (fun g2 => ?_) (fun g2 => ?_)
      · refine ⟨_, rfl, ?_⟩
        exact q _ r j X3 (hp3.mono (by omega)) (dp_same s3 dj) ⟨of_decide_eq_true g1, of_decide_eq_true g2, hdeep, gj.small, gj.cin, hst, Int.le_trans gj.nodes (NB_5 (by omega))⟩
      · exact ⟨_, _, rfl, X3, hp3⟩
    · refine ⟨_, rfl, ?_⟩
      refine iteF ?_
      exact ⟨_, _, rfl, X3, hp3⟩
  · rintro σ H' ⟨y3, y4, rfl, s1, hp1⟩
    have hp4 : Pot H' p (m + 4 * TB n) := hp1
    refine ⟨_, rfl, (by show 2 ≤ sizeLine; decide), fun t1 h1 => ?_⟩
    obtain ⟨u1, d1⟩ := tup_fresh (K := K) (ds := [.int 5, .int (-3)]) h1 (.cons (.int _) (.cons (.int _) .nil))
    generalize (upd H' t1 _) = H1 at u1 d1 ⊢
    refine ⟨(by show 2 ≤ sizeLine; decide), fun t2 h2 => ?_⟩
    obtain ⟨u2, d2⟩ := tup_fresh (K := K) (ds := [.str "seq", .tuple [.int 5, .int (-3)]]) h2 (.cons (.str _) (.cons d1 .nil))
    generalize (upd H1 t2 _) = H2 at u2 d2 ⊢
    refine ⟨_, rfl, (by show 3 ≤ sizeLine; decide), fun t3 h3 => ?_⟩
    obtain ⟨u3, d3⟩ := tup_fresh (K := K) (ds := [.str "copies", .int 2, .int (-1)]) h3 (.cons (.str _) (.cons (.int _) (.cons (.int _) .nil)))
    generalize (upd H2 t3 _) = H3 at u3 d3 ⊢
    refine ⟨(by show 2 ≤ sizeLine; decide), fun t4 h4 => ?_⟩
    obtain ⟨u4, d4⟩ := tup_fresh (K := K) (ds := [.tuple [.str "seq", .tuple [.int 5, .int (-3)]], .tuple [.str "copies", .int 2, .int (-1)]]) h4 (.cons (dp_same u3 d2) (.cons d3 .nil))
    generalize (upd H3 t4 _) = H4 at u4 d4 ⊢
    refine ⟨(by show 2 ≤ sizeLine; decide), fun t5 h5 => ?_⟩
    obtain ⟨u5, d5⟩ := tup_fresh (K := K) (ds := [.str "par", .tuple [.tuple [.str "seq", .tuple [.int 5, .int (-3)]], .tuple [.str "copies", .int 2, .int (-1)]]]) h5 (.cons (.str _) (.cons d4 .nil))
    have uall := u1.trans (u2.trans (u3.trans (u4.trans u5)))
    have d5' : Dp K _ (.ref t5) jS.toD := d5
    have js4 : jS.steps = 4 := by
      simp only [J.steps, J.stepsL]
      decide
    refine q _ _ jS (s1.trans (Same.sx uall)) (hp4.same uall) d5' ⟨by rw [js4]; decide, by rw [js4]; omega, ?_, ?_, ?_, ?_, ?_⟩
    · simp only [J.deep, J.deepL]
      decide
    · simp only [J.small, J.smallL, M30, List.length_cons, List.length_nil, and_true]
      refine ⟨by decide, ?_⟩
      decide
    · simp only [J.cin, J.cinL, and_true, true_and]
      decide
    · simp only [J.stb, J.stbL, J.steps, M30, and_true, true_and, List.length_cons, List.length_nil]
      decide
    · simp only [J.nodes, J.nodesL]
      decide
end
/-! block Addr: _law_addresses, the addresses of a small job -/
theorem for_enum {K : PySem.W.Frag} {a : Addr} {xs : List V} {g : TG} {tb : TS} {D : Ends} {σ : L2.St} {H : Hp} (Pv : Nat → L2.St → Hp → Prop) (h0 : Pv 0 σ H)
    (hs : ∀ (i : Nat) (σ : L2.St) (H : Hp), i ≤ xs.length → Pv i σ H → SqL K H a xs)
    (step : ∀ (i : Nat) (x : V) (σ : L2.St) (H : Hp) (T : Addr), xs[i]? = some x → Pv i σ H → H T = none →
      g (.ref T) σ (upd H T (.tup [.int i, x])) fun σ2 H2 => tb { nx := Pv (i + 1), rt := D.rt, bk := D.nx, ct := Pv (i + 1) } σ2 H2)
    (fin : ∀ (σ : L2.St) (H : Hp), Pv xs.length σ H → D.nx σ H) :
    ∃ W : Nat → Nat → L2.St → Hp → Prop, (∃ m, W 0 m σ H) ∧ ∀ (i m : Nat) (σ : L2.St) (H : Hp), W i m σ H →
      (Ite K a).stop i H ∧ D.nx σ H ∨ (Ite K a).go i H ∧ ∃ N : L2.St → Hp → Prop, (∀ (σ' : L2.St) (H' : Hp), N σ' H' → ∃ m', m' < m ∧ W (i + 1) m' σ' H') ∧
        ∀ (x : V) (H' : Hp), (Ite K a).yld i H x H' → g x σ H' fun σ2 H2 => tb { nx := N, rt := D.rt, bk := D.nx, ct := N } σ2 H2 := by
  refine ⟨fun i m σ H => i ≤ xs.length ∧ m = xs.length - i ∧ Pv i σ H, ⟨_, Nat.zero_le _, rfl, h0⟩, ?_⟩
  rintro i m σ H ⟨hi, rfl, hp⟩
  have hq := hs i σ H hi hp
  by_cases e : i = xs.length
  · subst e
    exact .inl ⟨⟨xs, hq, Nat.le_refl _⟩, fin σ H hp⟩
  · have hlt : i < xs.length := by omega
    refine .inr ⟨⟨xs, xs[i], hq, List.getElem?_eq_getElem hlt⟩, Pv (i + 1), fun σ' H' z => ⟨_, ?_, by omega, rfl, z⟩, ?_⟩
    · omega
    · rintro x H' ⟨T, x', rfl, hT, rfl, hx⟩
      exact step i x' σ H T (hx xs hq) hp hT
theorem rCatA_d {K : PySem.W.Frag} {H : Hp} {Q : VK} {a b : Addr} {xs ys : List V} (h1 : SqT K H a xs) (h2 : SqT K H b ys) (hl : xs.length + ys.length ≤ sizeLine)
    (h : ∀ (H' : Hp) (t : Addr), Same H H' → SqT K H' t (xs ++ ys) → Q (.ref t) H') : rCatA K (.ref a) (.ref b) H Q := by
  refine ⟨a, b, xs, ys, rfl, rfl, h1, h2, hl, fun z => ?_, fun _ z => ?_, fun _ _ p hp => ?_⟩
  · subst z
    exact h H b (Same.refl _) h2
  · subst z
    exact h H a (Same.refl _) (by simpa using h1)
  · exact h _ p (same_new hp) (SqT.of upd_same)
/-- rows of addresses, each behind its index -/
def idx : List (List (List Int)) → Int → List (List Int)
  | [], _ => []
  | as :: r, i => as.map (i :: ·) ++ idx r (i + 1)
mutual
def J.adr : J → List (List Int)
  | .st _ => [[]]
  | .ps _ xs => idx (J.adrs xs) 0
  | .rn _ n x => idx (List.replicate (if 0 < x.steps then n.toNat else 0) x.adr) 0
def J.adrs : List J → List (List (List Int))
  | [] => []
  | x :: xs => x.adr :: J.adrs xs
end
theorem J.adrs_eq : ∀ xs : List J, J.adrs xs = xs.map J.adr
  | [] => rfl
  | x :: xs => by rw [J.adrs, J.adrs_eq xs]; rfl
theorem idx_app : ∀ (as bs : List (List (List Int))) (i : Int), idx (as ++ bs) i = idx as i ++ idx bs (i + as.length)
  | [], bs, i => by simp [idx]
  | a :: as, bs, i => by
    simp only [List.cons_append, idx, idx_app as bs, List.append_assoc, List.length_cons]
    congr 3
    omega
theorem idx_len : ∀ (as : List (List (List Int))) (i : Int), (idx as i).length = (as.map List.length).sum
  | [], _ => rfl
  | a :: as, i => by simp only [idx, List.length_append, List.length_map, idx_len as, List.map_cons, List.sum_cons]
theorem sum_rep (m : Nat) : ∀ k : Nat, (List.replicate k m).sum = k * m
  | 0 => by simp
  | k + 1 => by
    rw [List.replicate_succ, List.sum_cons, sum_rep m k, Nat.succ_mul]
    omega
mutual
theorem J.adr_len : ∀ j : J, j.stb → (j.adr.length : Int) = j.steps
  | .st _, _ => by simp [J.adr, J.steps]
  | .ps _ xs, h => by
    simp only [J.stb] at h
    simp only [J.adr, J.steps, idx_len]
    exact J.adrs_len xs h.2
  | .rn _ n x, h => by
    simp only [J.stb] at h
    have ih := J.adr_len x h.2.1
    simp only [J.adr, J.steps, idx_len, List.map_replicate, sum_rep]
    by_cases e : 0 < x.steps
    · rw [if_pos e]
      have hn : ((n.toNat : Nat) : Int) = n := by omega
      rw [Int.natCast_mul, hn, ih, Int.mul_comm]
    · rw [if_neg e]
      have : x.steps = 0 := by omega
      rw [this]
      simp
theorem J.adrs_len : ∀ xs : List J, J.stbL xs → ((((J.adrs xs).map List.length).sum : Nat) : Int) = J.stepsL xs
  | [], _ => by simp [J.adrs, J.stepsL]
  | x :: xs, h => by
    simp only [J.stbL] at h
    have h1 := J.adr_len x h.1
    have h2 := J.adrs_len xs h.2
    simp only [J.adrs, J.stepsL, List.map_cons, List.sum_cons, Int.natCast_add]
    omega
end
theorem idx_mem : ∀ {as : List (List (List Int))} {i : Int} {a : List Int}, a ∈ idx as i → ∃ r ∈ as, ∃ b ∈ r, a.length = b.length + 1
  | r :: as, i, a, h => by
    simp only [idx, List.mem_append, List.mem_map] at h
    rcases h with ⟨b, hb, rfl⟩ | h
    · exact ⟨r, List.mem_cons_self, b, hb, rfl⟩
    · obtain ⟨r', h1, b, h2, h3⟩ := idx_mem h
      exact ⟨r', List.mem_cons_of_mem _ h1, b, h2, h3⟩
mutual
theorem J.adr_deep : ∀ (j : J) (a : List Int), a ∈ j.adr → a.length ≤ j.deep
  | .st _, a, h => by
    simp only [J.adr, List.mem_singleton] at h
    subst h
    simp
  | .ps _ xs, a, h => by
    simp only [J.adr] at h
    obtain ⟨r, h1, b, h2, h3⟩ := idx_mem h
    have := J.adrs_deep xs r h1 b h2
    simp only [J.deep]
    omega
  | .rn _ n x, a, h => by
    simp only [J.adr] at h
    obtain ⟨r, h1, b, h2, h3⟩ := idx_mem h
    obtain ⟨_, rfl⟩ := List.mem_replicate.mp h1
    have := J.adr_deep x b h2
    simp only [J.deep]
    omega
theorem J.adrs_deep : ∀ (xs : List J) (r : List (List Int)), r ∈ J.adrs xs → ∀ b ∈ r, b.length ≤ J.deepL xs
  | [], r, h, _, _ => by simp [J.adrs] at h
  | x :: xs, r, h, b, hb => by
    simp only [J.adrs] at h
    simp only [J.deepL]
    rcases List.mem_cons.mp h with rfl | h
    · have := J.adr_deep x b hb
      omega
    · have := J.adrs_deep xs r h b hb
      omega
end
mutual
/-- few rounds and copies, also of what has no step -/
def J.rounded : J → Prop
  | .st _ => True
  | .ps _ xs => J.roundedL xs
  | .rn _ n x => n ≤ 1000 ∧ x.rounded
def J.roundedL : List J → Prop
  | [] => True
  | x :: xs => x.rounded ∧ J.roundedL xs
end
/-- an address as data -/
def adD (a : List Int) : PyData := .tuple (a.map .int)
def adDs (as : List (List Int)) : List PyData := as.map adD
theorem noLs_ad : ∀ as : List (List Int), noLs (adDs as) = true
  | [] => rfl
  | a :: as => by
    have ih := noLs_ad as
    have h : ∀ l : List Int, noLs (l.map PyData.int) = true := by
      intro l
      induction l with
      | nil => rfl
      | cons x r ih => simpa [noLs, noL] using ih
    simp only [adDs, List.map_cons, noLs, adD, noL, h, Bool.true_and] at ih ⊢
    exact ih
theorem noL_ad (a : List Int) : noL (adD a) = true := by
  have := noLs_ad [a]
  simpa [adDs, noLs] using this
def spAdr (K : PySem.W.Frag) (n : Nat) : Sp := fun vs H Q _ => ∃ (v : V) (j : J), vs = [v] ∧ Dp K H v j.toD ∧ j.deep ≤ n ∧ j.stb ∧ j.steps ≤ 1000 ∧ j.rounded ∧
  ∀ (H' : Hp) (l : Addr) (as : List V), Same H H' → H l = none → H' l = some (.lst as) → DpAll K H' as (adDs j.adr) → Q (.ref l) H'
theorem Same.free' {H H' : Hp} {l : Addr} (s : Same H H') (h : H' l = none) : H l = none := by
  cases e : H l with
  | none => rfl
  | some o =>
    rw [s _ _ e] at h
    cases h
theorem dpAll_rep' {K : PySem.W.Frag} {H : Hp} {v : V} {x : J} (h : Dp K H v x.toD) : ∀ k : Nat, DpAll K H (List.replicate k [v]).flatten (J.toDs (List.replicate k x))
  | 0 => .nil
  | k + 1 => by
    simp only [List.replicate_succ, List.flatten_cons, J.toDs]
    exact .cons h (dpAll_rep' h k)
theorem J.roundedL_mem : ∀ {l : List J} {y : J}, J.roundedL l → y ∈ l → y.rounded
  | z :: r, y, o, h => by
    simp only [J.roundedL] at o
    rcases List.mem_cons.mp h with rfl | h
    · exact o.1
    · exact J.roundedL_mem o.2 h
theorem J.steps_nn' (j : J) (h : j.stb) : 0 ≤ j.steps := by
  have := J.adr_len j h
  omega
theorem J.steps_mem : ∀ {l : List J} {y : J}, J.stbL l → J.stepsL l ≤ 1000 → y ∈ l → y.steps ≤ 1000
  | z :: r, y, o, hl, h => by
    simp only [J.stbL] at o
    simp only [J.stepsL] at hl
    have h1 := J.steps_nn' z o.1
    have h2 := J.adrs_len r o.2
    rcases List.mem_cons.mp h with rfl | h
    · omega
    · exact J.steps_mem o.2 (by omega) h
section
variable {P : Program} {w : World} {K : PySem.W.Frag} {mg : Str → Option Value} {base : Heap}
theorem ok_adr_next (T : Txt K mg) {n : Nat} (g__law_addresses : FnOk P w K mg base CX0 (n + 10) T.f__law_addresses T.d__law_addresses ["_law_job_here"] (spAdr K n)) (hn : n < 8) :
    FnOk P w K mg base CX0 (n + 11) T.f__law_addresses T.d__law_addresses ["_law_job_here"] (spAdr K (n + 1)) := by
  have g__law_steps : FnOk P w K mg base CX0 8 T.f__law_steps T.d__law_steps ["_law_job_here"] (spLS K 8) := ok_ls T 8
  refine T.F__law_addresses.ok sc__law_addresses (fun vs H Q E h => ?_) (fun cdv A outer s H vs Q E hr h => ?_)
  · obtain ⟨v, j, rfl, _⟩ := h
    rfl
  obtain ⟨v, j, rfl, hd, hdeep, hstb, hst, hrd, q⟩ := h
  refine ⟨_, (pss_cons (ps_if (pt_not (pt_val (pe_callB (r := rIsD K) call_isD (by rfl) T.n_isinstance (by decide +kernel) (pa_cons (pv 0) (pa_cons (pe_bltn (v := .ty "tuple") (by rfl) T.n_tuple (by decide +kernel) rfl) pa_nil))))) (pss_one (ps_ret (pe_lst (pa_cons (pe_tup pa_nil) pa_nil)))) pss_nil)
      (C8.pss_cut (ps_if (pt_cmpR (r := rIn K false) op_in_seq (pe_ix (r := rIxT K) ix_tup (pv 0) pe_int (fun _ _ => rfl)) (pe_tup (pa_cons pe_str (pa_cons pe_str pa_nil))) (by rfl)) (pss_one (ps_set (i := 1) sc__law_addresses.nd rfl (Or.inl rfl) (pe_callTy (r := rListS K) call_listS (by rfl) T.n_list (by decide +kernel) (pa_cons (pe_ix (r := rIxT K) ix_tup (pv 0) pe_int (fun _ _ => rfl)) pa_nil)))) (pss_one (ps_set (i := 1) sc__law_addresses.nd rfl (Or.inl rfl) (pe_op op_rep (pe_lst (pa_cons (pe_ix (r := rIxT K) ix_tup (pv 0) pe_int (fun _ _ => rfl)) pa_nil)) (pe_op op_mulW (pe_ix (r := rIxT K) ix_tup (pv 0) pe_int (fun _ _ => rfl)) (pe_callTy call_int1 (by rfl) T.n_int (by decide +kernel) (pa_cons (pe_cmpR op_gt (pe_call g__law_steps (hr.mono (by omega)) rfl T.m__law_steps T.F__law_steps.kp T.b__law_steps .nil pass0 (pa_cons (pe_ix (r := rIxT K) ix_tup (pv 0) pe_int (fun _ _ => rfl)) pa_nil)) pe_int (nomark _)) pa_nil)))))))
      (pss_cons (ps_set (i := 2) sc__law_addresses.nd rfl (Or.inl rfl) (pe_lst pa_nil))
      (pss_cons (ps_for PassesOwn.never rfl (pi_enum (by rfl) T.n_enumerate (pa_cons (pv 1) pa_nil)) (pg_tup (by rfl) (pgs_cons (pg_name (i := 3) sc__law_addresses.nd rfl (Or.inr rfl)) (pgs_cons (pg_name (i := 4) sc__law_addresses.nd rfl (Or.inl rfl)) pgs_nil)))
        (pss_one (ps_expr (pe_bm PySem.F.plainAttrs_list PySem.F.slot_list_extend PySem.F.type_list_extend mt_extend (pv 2) (pa_cons (pe_lc (own := [("_law_rest", 5)]) (g := (gName 5)) (by rfl) sc__law_addresses.nd (pi_list (pe_call g__law_addresses (hr.mono (by omega)) rfl T.m__law_addresses T.F__law_addresses.kp T.b__law_addresses .nil pass0 (pa_cons (pv 4) pa_nil))) (blkOk_by (N := N__law_addresses) (sc := (defScope s__law_addresses)) (by decide +kernel)) (fun _ _ _ _ _ => (pg_name (i := 5) sc__law_addresses.nd rfl (Or.inl rfl))) (fun _ _ _ _ _ => pts_nil) (fun _ _ _ _ _ => (pe_op (r := rCatA K) op_catA (pe_tup (pa_cons (pv 3) pa_nil)) (pv 5)))) pa_nil)))))
      (pss_one (ps_ret (pv 2))))))), ?_⟩
  refine ⟨_, rfl, _, _, _, _, rfl, hd, kit_tuple _, _, rfl, ?_⟩
  cases ej : isTup j.toD with
  | false =>
    refine iteT ?_
    refine ⟨(by show 0 ≤ sizeLine; decide), fun t ht => ?_⟩
    obtain ⟨s1, d1⟩ := tup_fresh (K := K) (ds := []) ht .nil
    generalize (upd H t _) = H1 at s1 d1 ⊢
    refine ⟨(by show 1 ≤ sizeLine; decide), fun l hl => ?_⟩
    have s2 : Same H1 (upd H1 l (.lst [.ref t])) := same_new hl
    cases j with
    | ps k xs => cases ej
    | rn k c x => cases ej
    | st i => exact q _ l [.ref t] (s1.trans s2) (Same.free' s1 hl) upd_same (.cons (dp_same s2 d1) .nil)
  | true =>
  refine iteF ?_
  refine ⟨fun σ' H' => ∃ (li : Addr) (ys : List V) (js : List J), σ' = [some v, some (.ref li), none, none, none, none] ∧ Same H H' ∧ H' li = some (.lst ys) ∧ DpAll K H' ys (J.toDs js) ∧
    (∀ y ∈ js, y.deep ≤ n ∧ y.stb ∧ y.steps ≤ 1000 ∧ y.rounded) ∧ j.adr = idx (J.adrs js) 0 ∧ js.length ≤ 1000, ?_, ?_⟩
  · cases j with
    | st i => cases ej
    | ps k xs =>
      simp only [J.deep] at hdeep
      simp only [J.stb] at hstb
      simp only [J.rounded] at hrd
      simp only [J.steps] at hst
      rw [J.toD] at hd
      obtain ⟨a, zs, rfl, hzs, hall⟩ := dp_tup_inv hd
      cases hall with
      | cons e1 hall =>
      obtain rfl := dp_str_inv e1
      cases hall with
      | cons e2 hall =>
      cases hall
      obtain ⟨b, us, rfl, hus, hall2⟩ := dp_tup_inv e2
      refine ⟨_, rfl, _, _, _, _, rfl, rfl, hzs, rfl, (by show 2 ≤ sizeLine; decide), fun t ht => ?_⟩
      refine ⟨t, _, rfl, .inr (SqT.of upd_same), rfl, rfl, _, rfl, ?_⟩
      have s1 : Same H (upd H t (.tup [.str "seq", .str "par"])) := same_new ht
      show if inV (.str (kwP k)) [.str "seq", .str "par"] = true then _ else _
      rw [kwP_in]
      refine iteT ?_
      generalize (upd H t (.tup [.str "seq", .str "par"])) = H1 at s1 ⊢
      refine ⟨_, rfl, _, _, _, _, rfl, rfl, same_sqT s1 hzs, rfl, b, us, rfl, .inr (same_sqT s1 hus), fun l hl => ?_⟩
      have s2 : Same H1 (upd H1 l (.lst us)) := same_new hl
      refine ⟨l, us, xs, rfl, s1.trans s2, upd_same, dpAll_same (s1.trans s2) hall2, fun y hy => ?_, rfl, by omega⟩
      have h1 := J.deepL_mem hy
      exact ⟨by omega, J.stbL_mem hstb.2 hy, J.steps_mem hstb.2 hst hy, J.roundedL_mem hrd hy⟩
    | rn k c x =>
      simp only [J.deep] at hdeep
      simp only [J.stb] at hstb
      simp only [J.rounded] at hrd
      simp only [J.steps] at hst
      rw [J.toD] at hd
      obtain ⟨a, zs, rfl, hzs, hall⟩ := dp_tup_inv hd
      cases hall with
      | cons e1 hall =>
      obtain rfl := dp_str_inv e1
      cases hall with
      | cons e2 hall =>
      obtain rfl := dp_int_inv e2
      cases hall with
      | cons e3 hall =>
      cases hall
      rename_i vx
      refine ⟨_, rfl, _, _, _, _, rfl, rfl, hzs, rfl, (by show 2 ≤ sizeLine; decide), fun t ht => ?_⟩
      refine ⟨t, _, rfl, .inr (SqT.of upd_same), rfl, rfl, _, rfl, ?_⟩
      have s1 : Same H (upd H t (.tup [.str "seq", .str "par"])) := same_new ht
      show if inV (.str (kwR k)) [.str "seq", .str "par"] = true then _ else _
      rw [kwR_in]
      refine iteF ?_
      generalize (upd H t (.tup [.str "seq", .str "par"])) = H1 at s1 ⊢
      refine ⟨_, rfl, _, _, _, _, rfl, rfl, same_sqT s1 hzs, rfl, (by show 1 ≤ sizeLine; decide), fun l hl => ?_⟩
      have s2 : Same H1 (upd H1 l (.lst [vx])) := same_new hl
      have el : upd H1 l (.lst [vx]) l = some (.lst [vx]) := upd_same
      generalize (upd H1 l (.lst [vx])) = H2 at s2 el ⊢
      have s12 := s1.trans s2
      refine ⟨_, rfl, _, _, _, _, rfl, rfl, same_sqT s12 hzs, rfl, _, rfl, _, _, _, _, rfl, rfl, same_sqT s12 hzs, rfl, vx, x, rfl, dp_same s12 e3, by omega, hstb.2.1, fun H3 s3 => ?_⟩
      refine ⟨_, _, rfl, rfl, .inr ⟨_, rfl, ?_⟩⟩
      have hcnt : (c * (if decide (0 < x.steps) = true then (1 : Int) else 0)).toNat = if 0 < x.steps then c.toNat else 0 := by
        by_cases e : 0 < x.steps
        · rw [if_pos e, if_pos (decide_eq_true e), Int.mul_one]
        · rw [if_neg e, if_neg (fun z => e (of_decide_eq_true z)), Int.mul_zero]
          rfl
      have hle : (if 0 < x.steps then c.toNat else 0) ≤ 1000 := by
        split <;> omega
      refine ⟨_, _, rfl, rfl, ?_, ?_⟩
      · have e1 : c.natAbs < 2 ^ 128 := Nat.lt_of_le_of_lt (show c.natAbs ≤ 1000 by omega) (by decide)
        have e2 : (if decide (0 < x.steps) = true then (1 : Int) else 0).natAbs < 2 ^ 128 := by
          split <;> decide
        exact wide_mul (a := 128) (b := 128) e1 e2 (by decide) (by decide) (by decide)
      refine ⟨l, _, _, rfl, rfl, s3 _ _ el, ?_, ?_, ?_, fun l2 hl2 => ?_⟩
      · have : (0 : Int) ≤ c * (if decide (0 < x.steps) = true then (1 : Int) else 0) := Int.mul_nonneg hstb.1.1 (by split <;> decide)
        omega
      · have : c * (if decide (0 < x.steps) = true then (1 : Int) else 0) ≤ 1000 := by
          split <;> omega
        omega
      · rw [hcnt]
        exact small (by simpa using hle)
      · rw [hcnt]
        have s4 : Same H3 (upd H3 l2 (.lst (List.replicate (if 0 < x.steps then c.toNat else 0) [vx]).flatten)) := same_new hl2
        have sall := s12.trans (s3.trans s4)
        refine ⟨l2, _, List.replicate (if 0 < x.steps then c.toNat else 0) x, rfl, sall, upd_same, ?_, fun y hy => ?_, ?_, by simpa using hle⟩
        · exact dpAll_rep' (dp_same sall e3) _
        · obtain ⟨hne, rfl⟩ := List.mem_replicate.mp hy
          have hpos : 0 < y.steps ∧ 1 ≤ c := by
            split at hne
            · rename_i hp
              exact ⟨hp, by omega⟩
            · exact absurd rfl hne
          refine ⟨by omega, hstb.2.1, ?_, hrd.2⟩
          have h1 : y.steps * 1 ≤ y.steps * c := Int.mul_le_mul_of_nonneg_left hpos.2 (by omega)
          omega
        · rw [J.adrs_eq, List.map_replicate]
          rfl
  · rintro σ' H' ⟨li, ys, js, rfl, s1, eli, hys, hjs, ead, hjl⟩
    have ylen : ys.length = js.length := by rw [dpAll_length hys, J.toDs_eq, List.length_map]
    have hlen : j.adr.length ≤ 1000 := by
      have := J.adr_len j hstb
      omega
    refine ⟨(by show 0 ≤ sizeLine; decide), fun f hf => ?_⟩
    have s2 : Same H' (upd H' f (.lst [])) := same_new hf
    have ef : upd H' f (.lst []) f = some (.lst []) := upd_same
    refine ⟨_, rfl, li, ys, rfl, SqL.of (s2 _ _ eli), ?_⟩
    refine for_enum (xs := ys) (fun i σ G => ∃ (y3 y4 y5 : Option V) (fs : List V), σ = [some v, some (.ref li), some (.ref f), y3, y4, y5] ∧ Same H' G ∧ G f = some (.lst fs) ∧ DpAll K G fs (adDs (idx (J.adrs (js.take i)) 0)))
      ⟨none, none, none, [], rfl, s2, ef, .nil⟩ (fun i σ G _ ⟨_, _, _, _, _, s3, _⟩ => SqL.of (s3 _ _ eli)) ?_ ?_
    · rintro i x σ G t hi ⟨y3, y4, y5, fs, rfl, s3, efs, hfs⟩ ht
      have s4 : Same G (upd G t (.tup [.int i, x])) := same_new ht
      have q4 : SqT K (upd G t (.tup [.int i, x])) t [.int i, x] := SqT.of upd_same
      generalize (upd G t (.tup [.int i, x])) = G1 at s4 q4 ⊢
      refine ⟨t, _, rfl, q4, rfl, _, _, rfl, _, _, rfl, rfl, ?_⟩
      obtain ⟨y, ey, my, dy⟩ := part_at hys hi
      obtain ⟨ydeep, ystb, yst, yrd⟩ := hjs y my
      have efs1 := s4 _ _ efs
      refine ⟨_, rfl, .inl ⟨rfl, fs, SqL.of efs1⟩, ?_⟩
      refine ⟨_, rfl, x, y, rfl, dp_same (s3.trans s4) dy, ydeep, ystb, yst, yrd, fun G2 l4 as4 s5 n5 e5 d5 => ?_⟩
      have as4len : as4.length = y.adr.length := by rw [dpAll_length d5, adDs, List.length_map]
      have yl : y.adr.length ≤ 1000 := by
        have := J.adr_len y ystb
        omega
      refine ⟨l4, rfl, ⟨as4, SqL.of e5⟩, fun D hD => ?_⟩
      refine lc_list (K := K) (a := l4) (xs := as4) (fun k G3 => Same G2 G3 ∧ ∃ ws, G3 D = some (.lst ws) ∧ DpAll K G3 ws (adDs ((y.adr.take k).map ((i : Int) :: ·)))) ?_ ?_ ?_ ?_
      · exact ⟨same_new hD, [], upd_same, .nil⟩
      · rintro k G3 _ ⟨s6, _⟩
        exact SqL.of (s6 _ _ e5)
      · rintro k r G3 hk ⟨s6, ws, eD, hws⟩
        obtain ⟨d, ed, hdr⟩ := dpAll_get d5 hk
        rw [adDs, List.getElem?_map] at ed
        cases er : y.adr[k]? with
        | none =>
          rw [er] at ed
          cases ed
        | some ad =>
        rw [er] at ed
        obtain rfl := (Option.some.inj ed).symm
        obtain ⟨ra, rs, rfl, hrs, hra⟩ := dp_tup_inv hdr
        have wl : ws.length ≤ 1000 := by
          rw [dpAll_length hws, adDs, List.length_map, List.length_map, List.length_take]
          omega
        have kl : k < y.adr.length := (List.getElem?_eq_some_iff.mp er).1
        have wl' : ws.length = k := by
          rw [dpAll_length hws, adDs, List.length_map, List.length_map, List.length_take]
          omega
        refine ⟨rfl, ?_⟩
        unfold tYes
        refine iteT ?_
        refine ⟨_, rfl, (by show 1 ≤ sizeLine; decide), fun t1 h1 => ?_⟩
        have s7 : Same G3 (upd G3 t1 (.tup [.int i])) := same_new h1
        have q7 : SqT K (upd G3 t1 (.tup [.int i])) t1 [.int i] := SqT.of upd_same
        generalize (upd G3 t1 (.tup [.int i])) = G4 at s7 q7 ⊢
        refine ⟨_, rfl, ?_⟩
        refine rCatA_d (xs := [.int i]) (ys := rs) q7 (same_sqT (s6.trans s7) hrs) ?_ (fun G5 t2 s8 q8 => ?_)
        · have h1 := dpAll_length hra
          rw [List.length_map] at h1
          have h2 := J.adr_deep y ad (List.mem_of_getElem? er)
          exact small (by simp only [List.length_singleton]; omega)
        refine ⟨ws, (s7.trans s8) _ _ eD, small1000 (by omega), ?_, ws ++ [.ref t2], upd_same, ?_⟩
        · intro c o hc
          rw [upd_ne (ne_of_none hc hD)]
          exact (s6.trans (s7.trans s8)) _ _ hc
        · rw [adDs, take_map (fun a => (i : Int) :: a) er, List.map_append]
          have hold : DpAll K G5 ws (adDs ((y.adr.take k).map ((i : Int) :: ·))) := dpAll_same (s7.trans s8) hws
          have hnew : Dp K G5 (.ref t2) (adD ((i : Int) :: ad)) := .tup q8 (.cons (.int _) (dpAll_same (s6.trans (s7.trans s8)) hra))
          have kk : ∀ a xs, SqT K G5 a xs → SqT K (upd G5 D (.lst (ws ++ [.ref t2]))) a xs := fun a xs z => (sx_upd (p := D)).sqT ((s7.trans s8) _ _ eD) z
          exact dpAll_append (dpAll_keep kk (noLs_ad _) hold) (.cons (dp_keep kk (noL_ad _) hnew) .nil)
      · rintro G3 ⟨s6, ws, eD, hws⟩
        rw [as4len, List.take_length] at hws
        have efs3 := (s5.trans s6) _ _ efs1
        have etake : adDs (idx (J.adrs (js.take (i + 1))) 0) = adDs (idx (J.adrs (js.take i)) 0) ++ adDs (y.adr.map ((i : Int) :: ·)) := by
          have hi' : i < js.length := (List.getElem?_eq_some_iff.mp ey).1
          rw [J.adrs_eq, J.adrs_eq, take_map J.adr ey, idx_app]
          simp only [idx, List.append_nil, adDs, List.map_append, List.length_map, List.length_take]
          rw [show (0 : Int) + ((min i js.length : Nat) : Int) = (i : Int) by omega]
        have tot : fs.length + ws.length ≤ 1000 := by
          have h1 : fs.length + ws.length = (adDs (idx (J.adrs (js.take (i + 1))) 0)).length := by
            rw [etake, List.length_append, dpAll_length hfs, dpAll_length hws]
          have h2 : (adDs (idx (J.adrs (js.take (i + 1))) 0)).length ≤ (idx (J.adrs js) 0).length := by
            rw [adDs, List.length_map]
            have e3 : js = js.take (i + 1) ++ js.drop (i + 1) := (List.take_append_drop _ _).symm
            conv =>
              rhs
              rw [e3, J.adrs_eq, List.map_append, idx_app, List.length_append]
            rw [J.adrs_eq]
            omega
          rw [← ead] at h2
          omega
        refine ⟨f, D, fs, ws, rfl, rfl, efs3, eD, small tot, ?_⟩
        have kk : ∀ a xs, SqT K G3 a xs → SqT K (upd G3 f (.lst (fs ++ ws))) a xs := fun a xs z => (sx_upd (p := f)).sqT efs3 z
        refine ⟨_, _, _, fs ++ ws, rfl, ?_, upd_same, ?_⟩
        · intro c o hc
          rw [upd_ne (ne_of_none hc hf)]
          exact (s3.trans (s4.trans (s5.trans s6))) _ _ hc
        · rw [etake]
          exact dpAll_append (dpAll_keep kk (noLs_ad _) (dpAll_same (s4.trans (s5.trans s6)) hfs)) (dpAll_keep kk (noLs_ad _) hws)
    · rintro σ G ⟨y3, y4, y5, fs, rfl, s3, efs, hfs⟩
      rw [ylen, List.take_length, ← ead] at hfs
      refine ⟨_, rfl, ?_⟩
      exact q G f fs (s1.trans s3) (Same.free' s1 hf) efs hfs
theorem ok_adr (T : Txt K mg) : ∀ n : Nat, n ≤ 8 → FnOk P w K mg base CX0 (n + 10) T.f__law_addresses T.d__law_addresses ["_law_job_here"] (spAdr K n)
  | 0, _ => by
    have no : ∀ vs H Q E, ¬ spAdr K 0 vs H Q E := by
      rintro vs H Q E ⟨v, j, _, _, h, _⟩
      have := J.deep_pos j
      omega
    exact ⟨fun vs H Q E h => absurd h (no vs H Q E), fun A outer s H args us vs Q E _ _ _ _ h => absurd h (no vs H Q E)⟩
  | n + 1, h => ok_adr_next T (ok_adr T n (by omega)) (by omega)
end
/-! block Rows: step_rows, the rows of the steps of a small job (behind bAddr, with En) -/
abbrev SRow := List Int × Int × List (Int × Int)
def wRow (i : Int) (g : List (Int × Int)) (r : SRow) : SRow := (i :: r.1, r.2.1, g ++ r.2.2.map fun p => (p.1 + 1, p.2))
/-- the gate of what comes in sequence -/
def gateOf (sq : Bool) (n : Nat) : List (Int × Int) := if sq = true then [(0, (n : Int))] else []
def packs (sq : Bool) : List (List SRow) → Int → List SRow → List SRow
  | [], _, acc => acc
  | rs :: r, i, acc => packs sq r (i + 1) (acc ++ rs.map (wRow i (gateOf sq acc.length)))
mutual
def J.srows : J → List SRow
  | .st i => [([], i, [])]
  | .ps b xs => packs (!b) (J.srowss xs) 0 []
  | .rn b n x => packs (!b) (List.replicate (if x.srows.isEmpty = true then 0 else n.toNat) x.srows) 0 []
def J.srowss : List J → List (List SRow)
  | [] => []
  | x :: xs => x.srows :: J.srowss xs
end
theorem J.srowss_eq : ∀ xs : List J, J.srowss xs = xs.map J.srows
  | [] => rfl
  | x :: xs => by rw [J.srowss, J.srowss_eq xs]; rfl
theorem packs_adr (sq : Bool) : ∀ (rss : List (List SRow)) (i : Int) (acc : List SRow), (packs sq rss i acc).map (·.1) = acc.map (·.1) ++ idx (rss.map fun rs => rs.map (·.1)) i
  | [], i, acc => by simp [packs, idx]
  | rs :: r, i, acc => by
    rw [packs, packs_adr sq r (i + 1), List.map_append, List.map_cons, idx, List.append_assoc]
    congr 2
    simp [wRow, Function.comp_def]
theorem packs_len (sq : Bool) : ∀ (rss : List (List SRow)) (i : Int) (acc : List SRow), (packs sq rss i acc).length = acc.length + (rss.map List.length).sum
  | [], i, acc => by simp [packs]
  | rs :: r, i, acc => by
    rw [packs, packs_len sq r (i + 1), List.length_append, List.length_map, List.map_cons, List.sum_cons]
    omega
mutual
theorem J.srows_adr : ∀ j : J, j.stb → j.srows.map (·.1) = j.adr
  | .st i, _ => by simp [J.srows, J.adr]
  | .ps b xs, h => by
    simp only [J.stb] at h
    rw [J.srows, packs_adr, J.adr, J.srowss_adr xs h.2]
    rfl
  | .rn b n x, h => by
    simp only [J.stb] at h
    have ih := J.srows_adr x h.2.1
    have hl := J.adr_len x h.2.1
    rw [J.srows, packs_adr, J.adr, List.map_replicate, ih]
    have e : x.srows.isEmpty = true ↔ ¬ 0 < x.steps := by
      rw [List.isEmpty_iff_length_eq_zero, ← List.length_map (f := (·.1)), ih]
      omega
    by_cases z : 0 < x.steps
    · rw [if_neg (fun y => e.mp y z), if_pos z]
      rfl
    · rw [if_pos (e.mpr z), if_neg z]
      rfl
theorem J.srowss_adr : ∀ xs : List J, J.stbL xs → (J.srowss xs).map (fun rs => rs.map (·.1)) = J.adrs xs
  | [], _ => rfl
  | x :: xs, h => by
    rw [J.srowss, List.map_cons, J.adrs, J.srows_adr x h.1, J.srowss_adr xs h.2]
end
theorem J.srows_len (j : J) (h : j.stb) : (j.srows.length : Int) = j.steps := by
  rw [← J.adr_len j h, ← J.srows_adr j h, List.length_map]
theorem packs_mem {sq : Bool} {P : SRow → Prop} : ∀ {rss : List (List SRow)} {i : Int} {acc : List SRow}, (∀ r ∈ acc, P r) → (∀ rs ∈ rss, ∀ r ∈ rs, ∀ (i : Int) (m : Nat), P (wRow i (gateOf sq m) r)) → ∀ r ∈ packs sq rss i acc, P r
  | [], i, acc, h, _ => by rw [packs]; exact h
  | rs :: rr, i, acc, h, k => by
    rw [packs]
    refine packs_mem (fun r hr => ?_) (fun rs' h' => k rs' (List.mem_cons_of_mem _ h'))
    rcases List.mem_append.mp hr with hr | hr
    · exact h r hr
    · obtain ⟨r0, h0, rfl⟩ := List.mem_map.mp hr
      exact k rs (List.mem_cons_self ..) r0 h0 _ _
theorem wRow_bd {i : Int} {sq : Bool} {m n : Nat} {r : SRow} (h : r.1.length ≤ n ∧ r.2.2.length ≤ n) : (wRow i (gateOf sq m) r).1.length ≤ n + 1 ∧ (wRow i (gateOf sq m) r).2.2.length ≤ n + 1 := by
  refine ⟨?_, ?_⟩
  · simp only [wRow, List.length_cons]
    omega
  · simp only [wRow, List.length_append, List.length_map]
    have : (gateOf sq m).length ≤ 1 := by
      unfold gateOf
      split <;> simp
    omega
mutual
theorem J.srows_bd : ∀ (j : J) (r : SRow), r ∈ j.srows → r.1.length ≤ j.deep ∧ r.2.2.length ≤ j.deep
  | .st i, r, h => by
    simp only [J.srows, List.mem_singleton] at h
    subst h
    simp
  | .ps b xs, r, h => by
    rw [J.srows] at h
    simp only [J.deep]
    have key := packs_mem (P := fun r => r.1.length ≤ J.deepL xs + 1 ∧ r.2.2.length ≤ J.deepL xs + 1) (sq := !b) (rss := J.srowss xs) (i := 0) (acc := []) (fun r hr => by cases hr) (fun rs h1 r h2 i m => wRow_bd (J.srowss_bd xs rs h1 r h2)) r h
    omega
  | .rn b n x, r, h => by
    rw [J.srows] at h
    simp only [J.deep]
    have key := packs_mem (P := fun r => r.1.length ≤ x.deep + 1 ∧ r.2.2.length ≤ x.deep + 1) (sq := !b) (rss := List.replicate (if x.srows.isEmpty = true then 0 else n.toNat) x.srows) (i := 0) (acc := []) (fun r hr => by cases hr) (fun rs h1 r h2 i m => by
      obtain ⟨_, rfl⟩ := List.mem_replicate.mp h1
      exact wRow_bd (J.srows_bd x r h2)) r h
    omega
theorem J.srowss_bd : ∀ (xs : List J) (rs : List SRow), rs ∈ J.srowss xs → ∀ r ∈ rs, r.1.length ≤ J.deepL xs ∧ r.2.2.length ≤ J.deepL xs
  | [], rs, h, _, _ => by simp [J.srowss] at h
  | x :: xs, rs, h, r, hr => by
    rw [J.srowss, List.mem_cons] at h
    simp only [J.deepL]
    rcases h with rfl | h
    · have := J.srows_bd x r hr
      omega
    · have := J.srowss_bd xs rs h r hr
      omega
end
def gatesD (g : List (Int × Int)) : PyData := .tuple (g.map fun p => .tuple [.int p.1, .int p.2])
def rowD (r : SRow) : PyData := .tuple [adD r.1, .int r.2.1, gatesD r.2.2]
def rowsD (rs : List SRow) : List PyData := rs.map rowD
theorem noLs_gates : ∀ g : List (Int × Int), noLs (g.map fun p => PyData.tuple [.int p.1, .int p.2]) = true
  | [] => rfl
  | p :: g => by
    rw [List.map_cons]
    simp only [noLs, noL, noLs_gates g, Bool.and_self]
theorem noL_row (r : SRow) : noL (rowD r) = true := by
  simp only [rowD, noL, noLs, noL_ad, gatesD, noLs_gates, Bool.and_self]
theorem noLs_rows : ∀ rs : List SRow, noLs (rowsD rs) = true
  | [] => rfl
  | r :: rs => by
    simp only [rowsD, List.map_cons, noLs, noL_row, Bool.true_and]
    exact noLs_rows rs
theorem ints_valsR {K : PySem.W.Frag} {H : Hp} : ∀ {xs : List V} {a : List Int}, DpAll K H xs (a.map PyData.int) → xs = a.map V.int
  | [], [], _ => rfl
  | [], _ :: _, h => by cases h
  | _ :: _, [], h => by cases h
  | _ :: _, k :: a, h => by
    cases h with
    | cons h1 h2 =>
      rw [dp_int_inv h1, ints_valsR h2]
      rfl
theorem ints_dpR {K : PySem.W.Frag} {H : Hp} : ∀ a : List Int, DpAll K H (a.map V.int) (a.map .int)
  | [] => .nil
  | k :: a => .cons (.int k) (ints_dpR a)
/-- pairs of an index and a list of rows; the lists lie where ne holds -/
inductive PrX (K : PySem.W.Frag) (ne : Addr → Prop) (H : Hp) : List V → List (List SRow) → Int → Prop
  | nil {i : Int} : PrX K ne H [] [] i
  | cons {t la : Addr} {rws vs : List V} {rs : List SRow} {rss : List (List SRow)} {i : Int} : SqT K H t [.int i, .ref la] → ne la → H la = some (.lst rws) → DpAll K H rws (rowsD rs) → PrX K ne H vs rss (i + 1) → PrX K ne H (.ref t :: vs) (rs :: rss) i
theorem PrX.length {K : PySem.W.Frag} {ne : Addr → Prop} {H : Hp} : ∀ {vs : List V} {rss : List (List SRow)} {i : Int}, PrX K ne H vs rss i → vs.length = rss.length
  | _, _, _, .nil => rfl
  | _, _, _, .cons _ _ _ _ h => congrArg (· + 1) h.length
theorem PrX.keep {K : PySem.W.Frag} {ne ne' : Addr → Prop} {H H' : Hp} (t : ∀ a xs, SqT K H a xs → SqT K H' a xs) (l : ∀ a o, ne a → H a = some o → H' a = some o) (m : ∀ a, ne a → ne' a) : ∀ {vs : List V} {rss : List (List SRow)} {i : Int}, PrX K ne H vs rss i → PrX K ne' H' vs rss i
  | _, _, _, .nil => .nil
  | _, _, _, .cons a b c d h => .cons (t _ _ a) (m _ b) (l _ _ b c) (dpAll_keep t (noLs_rows _) d) (h.keep t l m)
theorem PrX.snoc {K : PySem.W.Frag} {ne : Addr → Prop} {H : Hp} {t la : Addr} {rws : List V} {rs : List SRow} : ∀ {vs : List V} {rss : List (List SRow)} {i : Int}, PrX K ne H vs rss i → SqT K H t [.int (i + (rss.length : Int)), .ref la] → ne la → H la = some (.lst rws) → DpAll K H rws (rowsD rs) → PrX K ne H (vs ++ [.ref t]) (rss ++ [rs]) i
  | _, _, i, .nil, a, b, c, d => .cons (by simpa using a) b c d .nil
  | _, _, i, .cons (rss := r0) a' b' c' d' h, a, b, c, d => .cons a' b' c' d' (h.snoc (by
      have e : i + 1 + (r0.length : Int) = i + ((r0.length + 1 : Nat) : Int) := by omega
      rw [e]
      exact a) b c d)
theorem PrX.get {K : PySem.W.Frag} {ne : Addr → Prop} {H : Hp} : ∀ {vs : List V} {rss : List (List SRow)} {i : Int} {k : Nat} {v : V}, PrX K ne H vs rss i → vs[k]? = some v →
    ∃ (t la : Addr) (rws : List V) (rs : List SRow), rss[k]? = some rs ∧ v = .ref t ∧ SqT K H t [.int (i + (k : Int)), .ref la] ∧ ne la ∧ H la = some (.lst rws) ∧ DpAll K H rws (rowsD rs)
  | _, _, _, _, _, .nil, e => by simp at e
  | _, _, i, 0, _, .cons a b c d _, e => by
    simp at e
    subst e
    exact ⟨_, _, _, _, rfl, rfl, by simpa using a, b, c, d⟩
  | _, _, i, k + 1, _, .cons _ _ _ _ h, e => by
    obtain ⟨t, la, rws, rs, e1, e2, e3, e4⟩ := h.get (k := k) (by simpa using e)
    exact ⟨t, la, rws, rs, by simpa using e1, e2, by rw [show i + ((k + 1 : Nat) : Int) = i + 1 + (k : Int) by omega]; exact e3, e4⟩
/-- the rows by index of what is no step -/
def J.rss : J → List (List SRow)
  | .st _ => []
  | .ps _ xs => J.srowss xs
  | .rn _ n x => List.replicate (if x.srows.isEmpty = true then 0 else n.toNat) x.srows
theorem J.steps_part : ∀ {l : List J} {y : J} {m : Int}, J.stbL l → J.stepsL l ≤ m → y ∈ l → y.steps ≤ m
  | [], _, _, _, _, h => by cases h
  | x :: l, y, m, hs, hm, h => by
    simp only [J.stbL] at hs
    simp only [J.stepsL] at hm
    have h1 := J.steps_nn' x hs.1
    have h2 := J.adrs_len l hs.2
    rcases List.mem_cons.mp h with rfl | h
    · omega
    · exact J.steps_part hs.2 (by omega) h
def spRowIn (K : PySem.W.Frag) : Sp := fun vs H Q _ => ∃ (i : Int) (vg vr : V) (g : List (Int × Int)) (r : SRow), vs = [.int i, vg, vr] ∧ Dp K H vg (gatesD g) ∧ Dp K H vr (rowD r) ∧ g.length ≤ 1 ∧ r.1.length ≤ 40 ∧ r.2.2.length ≤ 40 ∧
  ∀ (H' : Hp) (v : V), Same H H' → Dp K H' v (rowD (wRow i g r)) → Q v H'
section
variable {P : Program} {w : World} {K : PySem.W.Frag} {mg : Str → Option Value} {base : Heap}
theorem ok_rowin (T : Txt K mg) : FnOk P w K mg base CX0 1 T.f__row_within T.d__row_within ["index", "outer_gates", "row"] (spRowIn K) := by
  refine T.F__row_within.ok sc__row_within (fun vs H Q E h => ?_) (fun cdv A outer s H vs Q E hr h => ?_)
  · obtain ⟨i, vg, vr, g, r, rfl, _⟩ := h
    rfl
  obtain ⟨i, vg, vr, g, r, rfl, hg, hrow, gl, al, il, q⟩ := h
  obtain ⟨ad, st, ga⟩ := r
  have al' : ad.length ≤ 40 := al
  have il' : ga.length ≤ 40 := il
  refine ⟨_, (pss_cons (ps_asg (pv 2) (pg_tup (by rfl) (pgs_cons (pg_name (i := 3) sc__row_within.nd rfl (Or.inl rfl)) (pgs_cons (pg_name (i := 4) sc__row_within.nd rfl (Or.inl rfl)) (pgs_cons (pg_name (i := 5) sc__row_within.nd rfl (Or.inl rfl)) pgs_nil)))))
      (pss_cons (ps_setLc (i := 6) (own := [("level", 7), ("least", 8)]) (g := (gTup K 2 (gCons (gName 7) (gCons (gName 8) gNil)))) (by rfl) sc__row_within.nd rfl rfl (sw_true rfl rfl rfl (by decide +kernel)) (pi_tup (pv 5)) (blkOk_by (N := N__row_within) (sc := (defScope s__row_within)) (by decide +kernel)) (fun _ _ _ _ _ => (pg_tup (by rfl) (pgs_cons (pg_name (i := 7) sc__row_within.nd rfl (Or.inl rfl)) (pgs_cons (pg_name (i := 8) sc__row_within.nd rfl (Or.inl rfl)) pgs_nil)))) (fun _ _ _ _ _ => pts_nil) (fun _ _ _ _ _ => (pe_tup (pa_cons (pe_op op_add (pv 7) pe_int) (pa_cons (pv 8) pa_nil)))))
      (pss_one (ps_ret (pe_tup (pa_cons (pe_op (r := rCatA K) op_catA (pe_tup (pa_cons (pv 0) pa_nil)) (pv 3)) (pa_cons (pv 4) (pa_cons (pe_op (r := rCatA K) op_catA (pv 1) (pe_callTy (r := rTupS K) call_tupS (by rfl) T.n_tuple (by decide +kernel) (pa_cons (pv 6) pa_nil))) pa_nil)))))))), ?_⟩
  obtain ⟨tr, xs, rfl, qr, hall⟩ := dp_tup_inv hrow
  cases hall with
  | cons d1 hall =>
  cases hall with
  | cons d2 hall =>
  cases hall with
  | cons d3 hall =>
  cases hall
  obtain rfl := dp_int_inv d2
  obtain ⟨ta, xa, rfl, qa, da⟩ := dp_tup_inv d1
  obtain ⟨tg, xg, rfl, qg, dg⟩ := dp_tup_inv d3
  refine ⟨_, rfl, tr, _, rfl, qr, rfl, _, _, rfl, _, _, rfl, _, _, rfl, rfl, ?_⟩
  refine ⟨_, rfl, tg, rfl, ⟨_, qg⟩, fun D hD => ?_⟩
  have xgl : xg.length = ga.length := by rw [dpAll_length dg, List.length_map]
  refine lc_tup (K := K) (a := tg) (xs := xg) (fun k H1 => Same H H1 ∧ ∃ ws, H1 D = some (.lst ws) ∧ DpAll K H1 ws (((ga.map fun p => (p.1 + 1, p.2)).take k).map fun p => .tuple [.int p.1, .int p.2])) ?_ ?_ ?_ ?_
  · exact ⟨same_new hD, [], upd_same, by simpa using .nil⟩
  · rintro k H1 _ ⟨s1, _⟩
    exact same_sqT s1 qg
  · rintro k x H1 hk ⟨s1, ws, eD, dw⟩
    obtain ⟨d, ed, hd⟩ := dpAll_get dg hk
    rw [List.getElem?_map] at ed
    obtain ⟨pp, ep, rfl⟩ := Option.map_eq_some_iff.mp ed
    obtain ⟨tp, xp, rfl, qp, dp⟩ := dp_tup_inv hd
    cases dp with
    | cons p1 dp =>
    cases dp with
    | cons p2 dp =>
    cases dp
    obtain rfl := dp_int_inv p1
    obtain rfl := dp_int_inv p2
    have hlt : k < ga.length := (List.getElem?_eq_some_iff.mp ep).1
    refine ⟨tp, _, rfl, same_sqT s1 qp, rfl, _, _, rfl, _, _, rfl, rfl, rfl, ?_⟩
    unfold tYes
    refine iteT ?_
    refine ⟨_, rfl, _, _, rfl, rfl, _, rfl, (by show 2 ≤ sizeLine; decide), fun t ht => ?_⟩
    obtain ⟨s2, d2⟩ := tup_fresh (K := K) (ds := [.int (pp.1 + 1), .int pp.2]) ht (.cons (.int _) (.cons (.int _) .nil))
    generalize (upd H1 t (.tup [.int (pp.1 + 1), .int pp.2])) = H2 at s2 d2 ⊢
    have eD2 := s2 _ _ eD
    have wl : ws.length = k := by
      rw [dpAll_length dw, List.length_map, List.length_take, List.length_map]
      omega
    refine ⟨ws, eD2, small1000 (by omega), ?_, ws ++ [.ref t], upd_same, ?_⟩
    · intro c o hc
      rw [upd_ne (ne_of_none hc hD)]
      exact s2 _ _ (s1 _ _ hc)
    · have e2 : (ga.map fun p => (p.1 + 1, p.2))[k]? = some (pp.1 + 1, pp.2) := by rw [List.getElem?_map, ep]; rfl
      rw [take_map (fun p : Int × Int => PyData.tuple [.int p.1, .int p.2]) e2]
      have kk : ∀ b xs, SqT K H2 b xs → SqT K (upd H2 D (.lst (ws ++ [.ref t]))) b xs := fun b xs h => (sx_upd (p := D)).sqT eD2 h
      exact dpAll_append (dpAll_keep kk (noLs_gates _) (dpAll_same s2 dw)) (.cons (dp_keep kk (by rfl) d2) .nil)
  · rintro H1 ⟨s1, ws, eD, dw⟩
    rw [xgl, ← List.length_map (f := fun p : Int × Int => (p.1 + 1, p.2)), List.take_length] at dw
    obtain rfl := ints_valsR da
    obtain ⟨tgo, xgo, rfl, qgo, dgo⟩ := dp_tup_inv hg
    have wl : ws.length = ga.length := by rw [dpAll_length dw, List.length_map, List.length_map]
    have gol : xgo.length = g.length := by rw [dpAll_length dgo, List.length_map]
    refine ⟨_, rfl, (by show 1 ≤ sizeLine; decide), fun t1 h1 => ?_⟩
    have s2 : Same H1 (upd H1 t1 (.tup [.int i])) := same_new h1
    have q1 : SqT K (upd H1 t1 (.tup [.int i])) t1 [.int i] := SqT.of upd_same
    generalize (upd H1 t1 (.tup [.int i])) = H2 at s2 q1 ⊢
    refine ⟨_, rfl, ?_⟩
    refine rCatA_d q1 (same_sqT (s1.trans s2) qa) (by rw [List.length_map]; exact small (by simp only [List.length_singleton]; omega)) (fun H3 t3 s3 q3 => ?_)
    have s13 := s1.trans (s2.trans s3)
    refine ⟨_, rfl, _, rfl, _, rfl, D, _, rfl, .inl ⟨SqL.of (s3 _ _ (s2 _ _ eD)), fun t4 h4 => ?_⟩⟩
    have s4 : Same H3 (upd H3 t4 (.tup ws)) := same_new h4
    have q4 : SqT K (upd H3 t4 (.tup ws)) t4 ws := SqT.of upd_same
    generalize (upd H3 t4 (.tup ws)) = H4 at s4 q4 ⊢
    refine rCatA_d (same_sqT (s13.trans s4) qgo) q4 (by exact small (by omega)) (fun H5 t5 s5 q5 => ?_)
    refine ⟨(by show 3 ≤ sizeLine; decide), fun t6 h6 => ?_⟩
    have s6 : Same H5 (upd H5 t6 (.tup [.ref t3, .int st, .ref t5])) := same_new h6
    have sall := s13.trans (s4.trans (s5.trans s6))
    refine q _ _ sall ?_
    refine .tup (SqT.of upd_same) (.cons (.tup (same_sqT (s4.trans (s5.trans s6)) q3) (ints_dpR (i :: ad))) (.cons (.int _) (.cons (.tup (same_sqT s6 q5) ?_) .nil)))
    rw [wRow, List.map_append]
    exact dpAll_append (dpAll_same sall dgo) (dpAll_same (s2.trans (s3.trans (s4.trans (s5.trans s6)))) dw)
/-- the rows of a job with few levels -/
def spRows (K : PySem.W.Frag) (n : Nat) : Sp := fun vs H Q _ => ∃ (v : V) (j : J), vs = [v] ∧ Dp K H v j.toD ∧ j.deep ≤ n ∧ j.deep ≤ 20 ∧ j.stb ∧ j.steps ≤ 400 ∧
  ∀ (H' : Hp) (l : Addr) (ws : List V), Same H H' → H l = none → H' l = some (.lst ws) → DpAll K H' ws (rowsD j.srows) → Q (.ref l) H'
def spIdxRows (K : PySem.W.Frag) (n : Nat) : Sp := fun vs H Q _ => ∃ (v : V) (j : J), vs = [v] ∧ Dp K H v j.toD ∧ isTup j.toD = true ∧ j.deep ≤ n + 1 ∧ j.deep ≤ 20 ∧ j.stb ∧ j.steps ≤ 400 ∧
  ∀ (H' : Hp) (l : Addr) (ws : List V), Same H H' → H l = none → H' l = some (.lst ws) → PrX K (fun b => H b = none) H' ws j.rss 0 → Q (.ref l) H'
theorem ok_idxrows (T : Txt K mg) {n : Nat} (g_step_rows : FnOk P w K mg base CX0 (2 * n + 1) T.f_step_rows T.d_step_rows ["job"] (spRows K n)) :
    FnOk P w K mg base CX0 (2 * n + 2) T.f__rows_by_index T.d__rows_by_index ["job"] (spIdxRows K n) := by
  refine T.F__rows_by_index.ok sc__rows_by_index (fun vs H Q E h => ?_) (fun cdv A outer s H vs Q E hr h => ?_)
  · obtain ⟨v, j, rfl, _⟩ := h
    rfl
  obtain ⟨v, j, rfl, hd, hj, hn, h20, hstb, h400, q⟩ := h
  refine ⟨_, (pss_cons (ps_if (pt_cmpR (r := rIn K false) op_in_seq (pe_ix (r := rIxT K) ix_tup (pv 0) pe_int (fun _ _ => rfl)) (pe_tup (pa_cons pe_str (pa_cons pe_str pa_nil))) (by rfl)) (pss_one (ps_ret (pe_lc (own := [("index", 2), ("part", 3)]) (g := (gTup K 2 (gCons (gName 2) (gCons (gName 3) gNil)))) (by rfl) sc__rows_by_index.nd (pi_enumT (by rfl) T.n_enumerate (pa_cons (pe_ix (r := rIxT K) ix_tup (pv 0) pe_int (fun _ _ => rfl)) pa_nil)) (blkOk_by (N := N__rows_by_index) (sc := (defScope s__rows_by_index)) (by decide +kernel)) (fun _ _ _ _ _ => (pg_tup (by rfl) (pgs_cons (pg_name (i := 2) sc__rows_by_index.nd rfl (Or.inl rfl)) (pgs_cons (pg_name (i := 3) sc__rows_by_index.nd rfl (Or.inl rfl)) pgs_nil)))) (fun _ _ _ _ _ => pts_nil) (fun _ _ _ _ _ => (pe_tup (pa_cons (pv 2) (pa_cons (pe_call g_step_rows (hr.mono (by omega)) rfl T.m_step_rows T.F_step_rows.kp T.b_step_rows .nil pass0 (pa_cons (pv 3) pa_nil)) pa_nil))))))) pss_nil)
      (pss_cons (ps_set (i := 1) sc__rows_by_index.nd rfl (Or.inr rfl) (pe_ifExp (pt_cmpR op_gt (pe_ix (r := rIxT K) ix_tup (pv 0) pe_int (fun _ _ => rfl)) pe_int (nomark _)) (pe_call g_step_rows (hr.mono (by omega)) rfl T.m_step_rows T.F_step_rows.kp T.b_step_rows .nil pass0 (pa_cons (pe_ix (r := rIxT K) ix_tup (pv 0) pe_int (fun _ _ => rfl)) pa_nil)) (pe_lst pa_nil)))
      (pss_one (ps_ret (pe_lc (own := [("index", 2)]) (g := (gName 2)) (by rfl) sc__rows_by_index.nd (pi_range1 rfl T.n_range (pa_cons (pe_ifExp (pt_truth (pv 1) (by intro _; rfl)) (pe_ix (r := rIxT K) ix_tup (pv 0) pe_int (fun _ _ => rfl)) pe_int) pa_nil)) (blkOk_by (N := N__rows_by_index) (sc := (defScope s__rows_by_index)) (by decide +kernel)) (fun _ _ _ _ _ => (pg_name (i := 2) sc__rows_by_index.nd rfl (Or.inl rfl))) (fun _ _ _ _ _ => pts_nil) (fun _ _ _ _ _ => (pe_tup (pa_cons (pv 2) (pa_cons (pv 1) pa_nil))))))))), ?_⟩
  cases j with
  | st i => cases hj
  | ps b xs =>
    simp only [J.deep] at hn h20
    simp only [J.stb] at hstb
    simp only [J.steps] at h400
    obtain ⟨c, e, vs, rfl, hys, hvs, hall⟩ := ps_inv hd
    have len : vs.length = xs.length := parts_len hall
    refine ⟨_, rfl, _, _, _, _, rfl, rfl, hys, rfl, (by show 2 ≤ sizeLine; decide), fun t ht => ?_⟩
    refine ⟨t, _, rfl, .inr (SqT.of upd_same), rfl, rfl, _, rfl, ?_⟩
    have s1 : Same H (upd H t (.tup [.str "seq", .str "par"])) := same_new ht
    show if inV (.str (kwP b)) [.str "seq", .str "par"] = true then _ else _
    rw [w_in_parts]
    refine iteT ?_
    generalize (upd H t (.tup [.str "seq", .str "par"])) = H1 at s1 ⊢
    refine ⟨_, rfl, _, _, _, _, rfl, rfl, same_sqT s1 hys, rfl, e, vs, rfl, same_sqT s1 hvs, fun D hD => ?_⟩
    refine lc_it (walk_enumT (xs := vs)) (fun k H2 => Same H1 H2 ∧ ∃ ws, H2 D = some (.lst ws) ∧ PrX K (fun b => H b = none ∧ b ≠ D) H2 ws ((J.srowss xs).take k) 0) ?_ ?_ ?_ ?_
    · exact ⟨same_new hD, [], upd_same, by simpa using .nil⟩
    · rintro k H2 _ ⟨s2, _⟩
      exact same_sqT s2 (same_sqT s1 hvs)
    · rintro k x H2 H3 hk ⟨s2, ws, eD, dw⟩ ⟨T1, x1, x2, rfl, hT, rfl, e1, e2⟩
      cases e1
      obtain ⟨y, ey, my, dy⟩ := parts_at hall e2
      have s3 : Same H2 (upd H2 T1 (.tup [.int (k : Nat), x2])) := same_new hT
      have q3 : SqT K (upd H2 T1 (.tup [.int (k : Nat), x2])) T1 [.int (k : Nat), x2] := SqT.of upd_same
      generalize (upd H2 T1 (.tup [.int (k : Nat), x2])) = H3 at s3 q3 ⊢
      refine ⟨T1, _, rfl, q3, rfl, _, _, rfl, _, _, rfl, rfl, rfl, ?_⟩
      unfold tYes
      refine iteT ?_
      have hyd := deep_mem my
      have hys400 : y.steps ≤ 400 := J.steps_part hstb.2 h400 my
      refine ⟨_, rfl, _, rfl, x2, y, rfl, dp_same (s1.trans (s2.trans s3)) dy, by omega, by omega, J.stbL_mem hstb.2 my, hys400, fun H4 l ws4 s4 n4 e4 d4 => ?_⟩
      refine ⟨(by show 2 ≤ sizeLine; decide), fun t ht => ?_⟩
      have eD3 := s3 _ _ eD
      have nlD : l ≠ D := fun z => by rw [z, eD3] at n4; cases n4
      have eD4 := s4 _ _ eD3
      have hlH : H l = none := (s1.trans (s2.trans s3)).free n4
      have s5 : Same H4 (upd H4 t (.tup [.int (k : Nat), .ref l])) := same_new ht
      have q5 : SqT K (upd H4 t (.tup [.int (k : Nat), .ref l])) t [.int (k : Nat), .ref l] := SqT.of upd_same
      generalize (upd H4 t (.tup [.int (k : Nat), .ref l])) = H5 at s5 q5 ⊢
      have s25 := s3.trans (s4.trans s5)
      have eD5 := s25 _ _ eD
      have wl : ws.length = k := by
        rw [dw.length, List.length_take, J.srowss_eq, List.length_map]
        omega
      refine ⟨ws, eD5, small1000 (by omega), ?_, ws ++ [.ref t], upd_same, ?_⟩
      · intro c2 o hc
        rw [upd_ne (ne_of_none hc hD)]
        exact s25 _ _ (s2 _ _ hc)
      · have e6 : (J.srowss xs).take (k + 1) = (J.srowss xs).take k ++ [y.srows] := by
          rw [J.srowss_eq, ← List.map_take, ← List.map_take, List.take_add_one, ey]
          simp
        have e7 : ((J.srowss xs).take k).length = k := by
          rw [List.length_take, J.srowss_eq, List.length_map]
          omega
        have kk : ∀ b xs, SqT K H5 b xs → SqT K (upd H5 D (.lst (ws ++ [.ref t]))) b xs := fun b xs h => (sx_upd (p := D)).sqT eD5 h
        have old := dw.keep (H' := upd H5 D (.lst (ws ++ [.ref t]))) (ne' := fun b => H b = none ∧ b ≠ D) (fun a xs h => kk _ _ (same_sqT s25 h)) (fun a o n h => by rw [upd_ne n.2]; exact s25 _ _ h) (fun _ h => h)
        rw [e6]
        refine old.snoc ?_ ⟨hlH, nlD⟩ (by rw [upd_ne nlD]; exact s5 _ _ e4) (dpAll_keep kk (noLs_rows _) (dpAll_same s5 d4))
        rw [e7, Int.zero_add]
        exact kk _ _ q5
    · rintro H2 ⟨s2, ws, eD, dw⟩
      rw [len, ← List.length_map (f := J.srows), ← J.srowss_eq, List.take_length] at dw
      exact q _ D ws (s1.trans s2) (Same.free' s1 hD) eD (dw.keep (fun _ _ h => h) (fun _ _ _ h => h) (fun _ h => h.1))
  | rn b c x =>
    simp only [J.deep] at hn h20
    have hstb' := hstb
    simp only [J.stb] at hstb
    simp only [J.steps] at h400
    obtain ⟨t0, z, rfl, hys, hx⟩ := rn_inv hd
    refine ⟨_, rfl, _, _, _, _, rfl, rfl, hys, rfl, (by show 2 ≤ sizeLine; decide), fun t ht => ?_⟩
    refine ⟨t, _, rfl, .inr (SqT.of upd_same), rfl, rfl, _, rfl, ?_⟩
    have s1 : Same H (upd H t (.tup [.str "seq", .str "par"])) := same_new ht
    show if inV (.str (kwR b)) [.str "seq", .str "par"] = true then _ else _
    rw [w_in_parts_no]
    refine iteF ?_
    generalize (upd H t (.tup [.str "seq", .str "par"])) = H1 at s1 ⊢
    have x0 := J.steps_nn' x hstb.2.1
    -- the rows of one round
    refine ⟨_, rfl, _, _, _, _, rfl, rfl, same_sqT s1 hys, rfl, _, _, rfl, rfl, _, rfl, ?_⟩
    refine ite2 (fun g => ?_) (fun g => ?_)
    · have g' : 0 < c := of_decide_eq_true g
      have xs400 : x.steps ≤ 400 := by
        have h1 : x.steps * 1 ≤ x.steps * c := Int.mul_le_mul_of_nonneg_left (by omega) x0
        omega
      refine ⟨_, rfl, _, _, _, _, rfl, rfl, same_sqT s1 hys, rfl, z, x, rfl, dp_same s1 hx, by omega, by omega, hstb.2.1, xs400, fun H2 l ws s2 n2 e2 d2 => ?_⟩
      have wl : ws.length = x.srows.length := by rw [dpAll_length d2, rowsD, List.length_map]
      have s12 := s1.trans s2
      have hlH : H l = none := s1.free n2
      refine ⟨_, rfl, !ws.isEmpty, .inl ⟨ws, SqL.of e2, rfl⟩, ?_⟩
      cases hw : ws.isEmpty with
      | true =>
        have hx0 : x.srows.isEmpty = true := by
          rw [List.isEmpty_iff_length_eq_zero, ← wl]
          exact List.isEmpty_iff_length_eq_zero.mp hw
        refine iteF ?_
        refine ⟨0, rfl, by decide, by decide, fun D hD => ?_⟩
        have nlD : l ≠ D := fun z => by rw [← z, e2] at hD; cases hD
        refine lc_range (lo := 0) (n := 0) (fun i H3 => Same H2 H3 ∧ ∃ us, H3 D = some (.lst us) ∧ PrX K (fun b => H b = none ∧ b ≠ D) H3 us (List.replicate i x.srows) 0) ?_ ?_ ?_
        · exact ⟨same_new hD, [], upd_same, by simpa using .nil⟩
        · rintro i H3 hi ⟨s3, us, eD, du⟩
          refine ⟨rfl, ?_⟩
          unfold tYes
          refine iteT ?_
          refine ⟨_, rfl, _, rfl, (by show 2 ≤ sizeLine; decide), fun t ht => ?_⟩
          have s5 : Same H3 (upd H3 t (.tup [.int (0 + (i : Int)), .ref l])) := same_new ht
          have q5 : SqT K (upd H3 t (.tup [.int (0 + (i : Int)), .ref l])) t [.int (0 + (i : Int)), .ref l] := SqT.of upd_same
          generalize (upd H3 t (.tup [.int (0 + (i : Int)), .ref l])) = H5 at s5 q5 ⊢
          have eD5 := s5 _ _ eD
          have ul : us.length = i := by
            rw [du.length, List.length_replicate]
          refine ⟨us, eD5, small1000 (by omega), ?_, us ++ [.ref t], upd_same, ?_⟩
          · intro c2 o hc
            rw [upd_ne (ne_of_none hc hD)]
            exact s5 _ _ (s3 _ _ hc)
          · have kk : ∀ b xs, SqT K H5 b xs → SqT K (upd H5 D (.lst (us ++ [.ref t]))) b xs := fun b xs h => (sx_upd (p := D)).sqT eD5 h
            have old := du.keep (H' := upd H5 D (.lst (us ++ [.ref t]))) (ne' := fun b => H b = none ∧ b ≠ D) (fun a xs h => kk _ _ (same_sqT s5 h)) (fun a o n h => by rw [upd_ne n.2]; exact s5 _ _ h) (fun _ h => h)
            rw [List.replicate_succ']
            refine old.snoc ?_ ⟨hlH, nlD⟩ (by rw [upd_ne nlD]; exact s5 _ _ (s3 _ _ e2)) (dpAll_keep kk (noLs_rows _) (dpAll_same (s3.trans s5) d2))
            rw [List.length_replicate]
            exact kk _ _ q5
        · rintro H3 ⟨s3, us, eD, du⟩
          refine q _ D us (s12.trans s3) (Same.free' s12 hD) eD ?_
          rw [J.rss, if_pos hx0]
          exact du.keep (fun _ _ h => h) (fun _ _ _ h => h) (fun _ h => h.1)
      | false =>
        have hx0 : ¬ x.srows.isEmpty = true := fun y => by
          rw [List.isEmpty_iff_length_eq_zero, ← wl, ← List.isEmpty_iff_length_eq_zero, hw] at y
          cases y
        have xpos : 0 < x.steps := by
          have h1 := J.srows_len x hstb.2.1
          have h2 : x.srows.length ≠ 0 := fun y => hx0 (List.isEmpty_iff_length_eq_zero.mpr y)
          omega
        have c400 : c ≤ 400 := by
          have h1 : 1 * c ≤ x.steps * c := Int.mul_le_mul_of_nonneg_right (by omega) (by omega)
          omega
        refine iteT ?_
        refine ⟨_, rfl, _, _, _, _, rfl, rfl, same_sqT s12 hys, rfl, c, rfl, by omega, by omega, fun D hD => ?_⟩
        have nlD : l ≠ D := fun z => by rw [← z, e2] at hD; cases hD
        refine lc_range (lo := 0) (n := c.toNat) (fun i H3 => Same H2 H3 ∧ ∃ us, H3 D = some (.lst us) ∧ PrX K (fun b => H b = none ∧ b ≠ D) H3 us (List.replicate i x.srows) 0) ?_ ?_ ?_
        · exact ⟨same_new hD, [], upd_same, by simpa using .nil⟩
        · rintro i H3 hi ⟨s3, us, eD, du⟩
          refine ⟨rfl, ?_⟩
          unfold tYes
          refine iteT ?_
          refine ⟨_, rfl, _, rfl, (by show 2 ≤ sizeLine; decide), fun t ht => ?_⟩
          have s5 : Same H3 (upd H3 t (.tup [.int (0 + (i : Int)), .ref l])) := same_new ht
          have q5 : SqT K (upd H3 t (.tup [.int (0 + (i : Int)), .ref l])) t [.int (0 + (i : Int)), .ref l] := SqT.of upd_same
          generalize (upd H3 t (.tup [.int (0 + (i : Int)), .ref l])) = H5 at s5 q5 ⊢
          have eD5 := s5 _ _ eD
          have ul : us.length = i := by
            rw [du.length, List.length_replicate]
          refine ⟨us, eD5, small1000 (by omega), ?_, us ++ [.ref t], upd_same, ?_⟩
          · intro c2 o hc
            rw [upd_ne (ne_of_none hc hD)]
            exact s5 _ _ (s3 _ _ hc)
          · have kk : ∀ b xs, SqT K H5 b xs → SqT K (upd H5 D (.lst (us ++ [.ref t]))) b xs := fun b xs h => (sx_upd (p := D)).sqT eD5 h
            have old := du.keep (H' := upd H5 D (.lst (us ++ [.ref t]))) (ne' := fun b => H b = none ∧ b ≠ D) (fun a xs h => kk _ _ (same_sqT s5 h)) (fun a o n h => by rw [upd_ne n.2]; exact s5 _ _ h) (fun _ h => h)
            rw [List.replicate_succ']
            refine old.snoc ?_ ⟨hlH, nlD⟩ (by rw [upd_ne nlD]; exact s5 _ _ (s3 _ _ e2)) (dpAll_keep kk (noLs_rows _) (dpAll_same (s3.trans s5) d2))
            rw [List.length_replicate]
            exact kk _ _ q5
        · rintro H3 ⟨s3, us, eD, du⟩
          refine q _ D us (s12.trans s3) (Same.free' s12 hD) eD ?_
          rw [J.rss, if_neg hx0]
          exact du.keep (fun _ _ h => h) (fun _ _ _ h => h) (fun _ h => h.1)
    · have g' : c = 0 := by
        have : ¬ 0 < c := fun y => g (decide_eq_true y)
        omega
      subst g'
      refine ⟨(by show 0 ≤ sizeLine; decide), fun l hl => ?_⟩
      have s2 : Same H1 (upd H1 l (.lst [])) := same_new hl
      have hlH : H l = none := s1.free hl
      have e2 : upd H1 l (.lst []) l = some (.lst []) := upd_same
      generalize (upd H1 l (.lst [])) = H2 at s2 e2 ⊢
      have s12 := s1.trans s2
      have d2 : DpAll K H2 [] (rowsD []) := .nil
      refine ⟨_, rfl, false, .inl ⟨[], SqL.of e2, rfl⟩, ?_⟩
      refine iteF ?_
      refine ⟨0, rfl, by decide, by decide, fun D hD => ?_⟩
      have nlD : l ≠ D := fun z => by rw [← z, e2] at hD; cases hD
      refine lc_range (lo := 0) (n := 0) (fun i H3 => Same H2 H3 ∧ ∃ us, H3 D = some (.lst us) ∧ PrX K (fun b => H b = none ∧ b ≠ D) H3 us (List.replicate i ([] : List SRow)) 0) ?_ ?_ ?_
      · exact ⟨same_new hD, [], upd_same, by simpa using .nil⟩
      · rintro i H3 hi ⟨s3, us, eD, du⟩
        refine ⟨rfl, ?_⟩
        unfold tYes
        refine iteT ?_
        refine ⟨_, rfl, _, rfl, (by show 2 ≤ sizeLine; decide), fun t ht => ?_⟩
        have s5 : Same H3 (upd H3 t (.tup [.int (0 + (i : Int)), .ref l])) := same_new ht
        have q5 : SqT K (upd H3 t (.tup [.int (0 + (i : Int)), .ref l])) t [.int (0 + (i : Int)), .ref l] := SqT.of upd_same
        generalize (upd H3 t (.tup [.int (0 + (i : Int)), .ref l])) = H5 at s5 q5 ⊢
        have eD5 := s5 _ _ eD
        have ul : us.length = i := by
          rw [du.length, List.length_replicate]
        refine ⟨us, eD5, small1000 (by omega), ?_, us ++ [.ref t], upd_same, ?_⟩
        · intro c2 o hc
          rw [upd_ne (ne_of_none hc hD)]
          exact s5 _ _ (s3 _ _ hc)
        · have kk : ∀ b xs, SqT K H5 b xs → SqT K (upd H5 D (.lst (us ++ [.ref t]))) b xs := fun b xs h => (sx_upd (p := D)).sqT eD5 h
          have old := du.keep (H' := upd H5 D (.lst (us ++ [.ref t]))) (ne' := fun b => H b = none ∧ b ≠ D) (fun a xs h => kk _ _ (same_sqT s5 h)) (fun a o n h => by rw [upd_ne n.2]; exact s5 _ _ h) (fun _ h => h)
          rw [List.replicate_succ']
          refine old.snoc ?_ ⟨hlH, nlD⟩ (by rw [upd_ne nlD]; exact s5 _ _ (s3 _ _ e2)) (dpAll_keep kk (noLs_rows _) (dpAll_same (s3.trans s5) d2))
          rw [List.length_replicate]
          exact kk _ _ q5
      · rintro H3 ⟨s3, us, eD, du⟩
        refine q _ D us (s12.trans s3) (Same.free' s12 hD) eD ?_
        have e0 : (J.rn b 0 x).rss = [] := by
          rw [J.rss]
          split <;> rfl
        rw [e0]
        exact du.keep (fun _ _ h => h) (fun _ _ _ h => h) (fun _ h => h.1)
theorem w_in_srR (k : Bool) : inV (.str (kwP k)) [.str "seq", .str "repeat"] = !k := by cases k <;> decide +kernel
theorem w_in_srR2 (k : Bool) : inV (.str (kwR k)) [.str "seq", .str "repeat"] = !k := by cases k <;> decide +kernel
/-- which job it is: in sequence or side by side -/
def J.sq : J → Bool
  | .st _ => false
  | .ps b _ => !b
  | .rn b _ _ => !b
theorem J.srows_rss {j : J} (h : isTup j.toD = true) : j.srows = packs j.sq j.rss 0 [] := by
  cases j with
  | st i => cases h
  | ps b xs => rfl
  | rn b n x => rfl
theorem j_word {K : PySem.W.Frag} {H : Hp} {v : V} {j : J} (h : isTup j.toD = true) (hd : Dp K H v j.toD) : ∃ (t : Addr) (ys : List V) (x : Str), v = .ref t ∧ SqT K H t (.str x :: ys) ∧ inV (.str x) [.str "seq", .str "repeat"] = j.sq := by
  cases j with
  | st i => cases h
  | ps b xs =>
    obtain ⟨c, e, vs, rfl, hys, _⟩ := ps_inv hd
    exact ⟨c, _, _, rfl, hys, w_in_srR b⟩
  | rn b n x =>
    obtain ⟨c, y, rfl, hys, _⟩ := rn_inv hd
    exact ⟨c, _, _, rfl, hys, w_in_srR2 b⟩
theorem packs_take {sq : Bool} {rss : List (List SRow)} {k : Nat} {rs : List SRow} (e : rss[k]? = some rs) : ∀ (i : Int) (acc : List SRow), packs sq (rss.take (k + 1)) i acc = packs sq (rss.take k) i acc ++ rs.map (wRow (i + (k : Int)) (gateOf sq (packs sq (rss.take k) i acc).length)) := by
  induction rss generalizing k with
  | nil => simp at e
  | cons r rr ih =>
    intro i acc
    cases k with
    | zero =>
      simp only [List.getElem?_cons_zero, Option.some.injEq] at e
      subst e
      simp [packs]
    | succ k =>
      simp only [List.getElem?_cons_succ] at e
      simp only [List.take_succ_cons, packs]
      rw [ih e, show i + 1 + (k : Int) = i + ((k + 1 : Nat) : Int) by omega]
theorem packs_le (sq : Bool) (rss : List (List SRow)) (k : Nat) : (packs sq (rss.take k) 0 []).length ≤ (packs sq rss 0 []).length := by
  rw [packs_len, packs_len]
  have e : rss = rss.take k ++ rss.drop k := (List.take_append_drop _ _).symm
  conv =>
    rhs
    rw [e, List.map_append, List.sum_append]
  omega
theorem J.rss_bd {j : J} {rs : List SRow} (h : rs ∈ j.rss) : ∀ r ∈ rs, r.1.length ≤ j.deep ∧ r.2.2.length ≤ j.deep := by
  cases j with
  | st i => simp [J.rss] at h
  | ps b xs =>
    intro r hr
    have := J.srowss_bd xs rs h r hr
    simp only [J.deep]
    omega
  | rn b n x =>
    intro r hr
    obtain ⟨_, rfl⟩ := List.mem_replicate.mp h
    have := J.srows_bd x r hr
    simp only [J.deep]
    omega
theorem ok_rows_next (T : Txt K mg) {n : Nat} (g__rows_by_index : FnOk P w K mg base CX0 (2 * n + 2) T.f__rows_by_index T.d__rows_by_index ["job"] (spIdxRows K n)) :
    FnOk P w K mg base CX0 (2 * n + 3) T.f_step_rows T.d_step_rows ["job"] (spRows K (n + 1)) := by
  have g_is_integer := ok_isint (P := P) (w := w) (base := base) T
  have g__row_within := ok_rowin (P := P) (w := w) (base := base) T
  refine T.F_step_rows.ok sc_step_rows (fun vs H Q E h => ?_) (fun cdv A outer s H vs Q E hr h => ?_)
  · obtain ⟨v, j, rfl, _⟩ := h
    rfl
  obtain ⟨v, j, rfl, hd, hn, h20, hstb, h400, q⟩ := h
  refine ⟨_, (pss_cons (ps_if (pt_val (pe_call g_is_integer (hr.mono (by omega)) rfl T.m_is_integer T.F_is_integer.kp T.b_is_integer .nil pass0 (pa_cons (pv 0) pa_nil))) (pss_one (ps_ret (pe_lst (pa_cons (pe_tup (pa_cons (pe_tup pa_nil) (pa_cons (pv 0) (pa_cons (pe_tup pa_nil) pa_nil)))) pa_nil)))) pss_nil)
      (pss_cons (ps_set (i := 1) sc_step_rows.nd rfl (Or.inl rfl) (pe_lst pa_nil))
      (pss_cons (ps_for PassesOwn.never rfl (pi_list (pe_call g__rows_by_index (hr.mono (by omega)) rfl T.m__rows_by_index T.F__rows_by_index.kp T.b__rows_by_index .nil pass0 (pa_cons (pv 0) pa_nil))) (pg_tup (by rfl) (pgs_cons (pg_name (i := 2) sc_step_rows.nd rfl (Or.inr rfl)) (pgs_cons (pg_name (i := 3) sc_step_rows.nd rfl (Or.inl rfl)) pgs_nil)))
        (pss_cons (ps_set (i := 4) sc_step_rows.nd rfl (Or.inr rfl) (pe_ifExp (pt_cmpR (r := rIn K false) op_in_seq (pe_ix (r := rIxT K) ix_tup (pv 0) pe_int (fun _ _ => rfl)) (pe_tup (pa_cons pe_str (pa_cons pe_str pa_nil))) (by rfl)) (pe_tup (pa_cons (pe_tup (pa_cons pe_int (pa_cons (pe_callB (r := rLenS K) call_lenS (by rfl) T.n_len (by decide +kernel) (pa_cons (pv 1) pa_nil)) pa_nil))) pa_nil)) (pe_tup pa_nil)))
        (pss_one (ps_expr (pe_bm PySem.F.plainAttrs_list PySem.F.slot_list_extend PySem.F.type_list_extend mt_extend (pv 1) (pa_cons (pe_lc (own := [("row", 5)]) (g := (gName 5)) (by rfl) sc_step_rows.nd (pi_list (pv 3)) (blkOk_by (N := N_step_rows) (sc := (defScope s_step_rows)) (by decide +kernel)) (fun _ _ _ _ _ => (pg_name (i := 5) sc_step_rows.nd rfl (Or.inl rfl))) (fun _ _ _ _ _ => pts_nil) (fun _ _ _ _ _ => (pe_call g__row_within (hr.mono (by omega)) rfl T.m__row_within T.F__row_within.kp T.b__row_within .nil pass0 (pa_cons (pv 2) (pa_cons (pv 4) (pa_cons (pv 5) pa_nil)))))) pa_nil))))))
      (pss_one (ps_ret (pv 1)))))), ?_⟩
  refine ⟨_, rfl, v, _, rfl, hd, _, rfl, ?_⟩
  cases ej : isTup j.toD with
  | false =>
    cases j with
    | ps b xs => cases ej
    | rn b c x => cases ej
    | st i =>
    refine iteT ?_
    obtain rfl := dp_int_inv hd
    refine ⟨(by show 0 ≤ sizeLine; decide), fun t1 h1 => ?_⟩
    obtain ⟨s1, d1⟩ := tup_fresh (K := K) (ds := []) h1 .nil
    generalize (upd H t1 (.tup [])) = H1 at s1 d1 ⊢
    refine ⟨_, rfl, (by show 0 ≤ sizeLine; decide), fun t2 h2 => ?_⟩
    obtain ⟨s2, d2⟩ := tup_fresh (K := K) (ds := []) h2 .nil
    generalize (upd H1 t2 (.tup [])) = H2 at s2 d2 ⊢
    refine ⟨(by show 3 ≤ sizeLine; decide), fun t3 h3 => ?_⟩
    obtain ⟨s3, d3⟩ := tup_fresh (K := K) (ds := [.tuple [], .int i, .tuple []]) h3 (.cons (dp_same s2 d1) (.cons (.int _) (.cons d2 .nil)))
    generalize (upd H2 t3 (.tup [.ref t1, .int i, .ref t2])) = H3 at s3 d3 ⊢
    refine ⟨(by show 1 ≤ sizeLine; decide), fun l hl => ?_⟩
    have s13 := s1.trans (s2.trans s3)
    have s4 : Same H3 (upd H3 l (.lst [.ref t3])) := same_new hl
    exact q _ l [.ref t3] (s13.trans s4) (s13.free hl) upd_same (.cons (dp_same s4 d3) .nil)
  | true =>
  have ei : (isInt j.toD && !isBoo j.toD) = false := by
    cases j with
    | st i => cases ej
    | ps b xs => rfl
    | rn b c x => rfl
  rw [ei]
  refine iteF ?_
  refine ⟨(by show 0 ≤ sizeLine; decide), fun L hL => ?_⟩
  have s1 : Same H (upd H L (.lst [])) := same_new hL
  have eL : upd H L (.lst []) L = some (.lst []) := upd_same
  generalize (upd H L (.lst [])) = H1 at s1 eL ⊢
  refine ⟨_, rfl, v, j, rfl, dp_same s1 hd, ej, hn, h20, hstb, h400, fun H2 l ws s2 n2 e2 d2 => ?_⟩
  have nLl : l ≠ L := fun z => by rw [z, eL] at n2; cases n2
  have d2' : PrX K (fun b => b ≠ L) H2 ws j.rss 0 := d2.keep (fun _ _ h => h) (fun _ _ _ h => h) (fun a h z => by rw [z, eL] at h; cases h)
  obtain ⟨tj, ysj, xj, rfl, hwj, hsq⟩ := j_word ej (dp_same (s1.trans s2) hd)
  have tot := J.srows_len j hstb
  refine ⟨l, rfl, ⟨ws, SqL.of e2⟩, ?_⟩
  refine for_list (K := K) (a := l) (xs := ws) (fun i σ G => ∃ (y2 y3 y4 : Option V) (fs : List V), σ = [some (.ref tj), some (.ref L), y2, y3, y4, none] ∧ Sx L H2 G ∧ G L = some (.lst fs) ∧ DpAll K G fs (rowsD (packs j.sq (j.rss.take i) 0 [])))
    ⟨none, none, none, [], rfl, Sx.refl, s2 _ _ eL, .nil⟩ (fun i σ G _ ⟨_, _, _, _, _, s3, _⟩ => SqL.of (s3 _ _ nLl e2)) ?_ ?_
  · rintro i x σ G hi ⟨y2, y3, y4, fs, rfl, s3, eG, dG⟩
    have eL2 := s2 _ _ eL
    have kk : ∀ a xs, SqT K H2 a xs → SqT K G a xs := fun a xs h => s3.sqT eL2 h
    obtain ⟨t, la, rws, rs, ers, rfl, qt, nla, ela, drs⟩ := d2'.get hi
    rw [Int.zero_add] at qt
    have ela' := s3 _ _ nla ela
    refine ⟨t, _, rfl, kk _ _ qt, rfl, _, _, rfl, _, _, rfl, rfl, ?_⟩
    refine ⟨_, rfl, _, _, _, _, rfl, rfl, kk _ _ hwj, atI_at (j := 0) rfl rfl, (by show 2 ≤ sizeLine; decide), fun t1 h1 => ?_⟩
    refine ⟨t1, _, rfl, .inr (SqT.of upd_same), rfl, rfl, _, rfl, ?_⟩
    have u1 : Same G (upd G t1 (.tup [.str "seq", .str "repeat"])) := same_new h1
    show if inV (.str xj) [.str "seq", .str "repeat"] = true then _ else _
    rw [hsq]
    generalize (upd G t1 (.tup [.str "seq", .str "repeat"])) = G1 at u1 ⊢
    cases hq : j.sq with
    | true =>
      refine iteT ?_
      refine ⟨_, rfl, L, _, rfl, .inl (SqL.of (u1 _ _ eG)), (by show 2 ≤ sizeLine; decide), fun ta ha => ?_⟩
      obtain ⟨u2, da⟩ := tup_fresh (K := K) (ds := [.int 0, .int (fs.length : Nat)]) ha (.cons (.int _) (.cons (.int _) .nil))
      generalize (upd G1 ta (.tup [.int 0, .int (fs.length : Nat)])) = Ga at u2 da ⊢
      refine ⟨(by show 1 ≤ sizeLine; decide), fun tb hb => ?_⟩
      obtain ⟨u3, dg⟩ := tup_fresh (K := K) (ds := [.tuple [.int 0, .int (fs.length : Nat)]]) hb (.cons da .nil)
      have dg : Dp K _ (.ref tb) (gatesD [((0 : Int), (fs.length : Int))]) := dg
      generalize (upd Ga tb (.tup [.ref ta])) = G2 at u3 dg ⊢
      have sG := u1.trans (u2.trans u3)
      have d20 := J.rss_bd (List.mem_of_getElem? ers)
      have eG3 := sG _ _ eG
      have ela3 := sG _ _ ela'
      have rl : rws.length = rs.length := by rw [dpAll_length drs, rowsD, List.length_map]
      have tot2 : fs.length + rs.length ≤ 400 := by
        have h1 := packs_le j.sq j.rss (i + 1)
        rw [packs_take ers 0 [], List.length_append, List.length_map, ← J.srows_rss ej] at h1
        have h2 : fs.length = (packs j.sq (j.rss.take i) 0 []).length := by rw [dpAll_length dG, rowsD, List.length_map]
        omega
      refine ⟨_, rfl, .inl ⟨rfl, fs, SqL.of eG3⟩, ?_⟩
      refine ⟨_, rfl, la, rfl, ⟨rws, SqL.of ela3⟩, fun D hD => ?_⟩
      refine lc_list (K := K) (a := la) (xs := rws) (fun k F => Same G2 F ∧ ∃ us, F D = some (.lst us) ∧ DpAll K F us (rowsD ((rs.take k).map (wRow (i : Nat) [((0 : Int), (fs.length : Int))])))) ?_ ?_ ?_ ?_
      · exact ⟨same_new hD, [], upd_same, by simpa [rowsD] using .nil⟩
      · rintro k F _ ⟨sF, _⟩
        exact SqL.of (sF _ _ ela3)
      · rintro k x F hk ⟨sF, us, eD, du⟩
        obtain ⟨d, ed, hdx⟩ := dpAll_get drs hk
        rw [rowsD, List.getElem?_map] at ed
        obtain ⟨rr, er, rfl⟩ := Option.map_eq_some_iff.mp ed
        have bd := d20 rr (List.mem_of_getElem? er)
        have kr : k < rs.length := (List.getElem?_eq_some_iff.mp er).1
        have dx : Dp K F x (rowD rr) := dp_same (sG.trans sF) (dp_keep kk (noL_row rr) hdx)
        refine ⟨rfl, ?_⟩
        unfold tYes
        refine iteT ?_
        refine ⟨_, rfl, _, rfl, _, rfl, (i : Nat), .ref tb, x, [((0 : Int), (fs.length : Int))], rr, rfl, dp_same sF dg, dx, by simp, by omega, by omega, fun F2 v s4 d4 => ?_⟩
        have ul : us.length = k := by
          rw [dpAll_length du, rowsD, List.length_map, List.length_map, List.length_take]
          omega
        have eD2 := s4 _ _ eD
        refine ⟨us, eD2, small1000 (by omega), ?_, us ++ [v], upd_same, ?_⟩
        · intro c2 o hc
          rw [upd_ne (ne_of_none hc hD)]
          exact s4 _ _ (sF _ _ hc)
        · have k2 : ∀ b xs, SqT K F2 b xs → SqT K (upd F2 D (.lst (us ++ [v]))) b xs := fun b xs h => (sx_upd (p := D)).sqT eD2 h
          rw [take_map (wRow (i : Nat) [((0 : Int), (fs.length : Int))]) er, rowsD, List.map_append]
          exact dpAll_append (dpAll_keep k2 (noLs_rows _) (dpAll_same s4 du)) (.cons (dp_keep k2 (noL_row _) d4) .nil)
      · rintro F ⟨sF, us, eD, du⟩
        rw [rl, List.take_length] at du
        have ul : us.length = rs.length := by rw [dpAll_length du, rowsD, List.length_map, List.length_map]
        have eF := sF _ _ eG3
        refine ⟨L, D, fs, us, rfl, rfl, eF, eD, small (by omega), ?_⟩
        have k3 : ∀ b xs, SqT K F b xs → SqT K (upd F L (.lst (fs ++ us))) b xs := fun b xs h => (sx_upd (p := L)).sqT eF h
        refine ⟨_, _, _, fs ++ us, rfl, ?_, upd_same, ?_⟩
        · exact s3.trans ((Same.sx (sG.trans sF)).trans sx_upd)
        · have hl : (packs j.sq (j.rss.take i) 0 []).length = fs.length := by rw [dpAll_length dG, rowsD, List.length_map]
          rw [hq] at hl dG
          rw [packs_take ers 0 [], Int.zero_add, rowsD, List.map_append, hl]
          exact dpAll_append (dpAll_keep k3 (noLs_rows _) (dpAll_same (sG.trans sF) dG)) (dpAll_keep k3 (noLs_rows _) du)
    | false =>
      refine iteF ?_
      refine ⟨(by show 0 ≤ sizeLine; decide), fun tb hb => ?_⟩
      obtain ⟨u3, dg⟩ := tup_fresh (K := K) (ds := []) hb .nil
      have dg : Dp K _ (.ref tb) (gatesD []) := dg
      generalize (upd G1 tb (.tup [])) = G2 at u3 dg ⊢
      have sG := u1.trans u3
      have d20 := J.rss_bd (List.mem_of_getElem? ers)
      have eG3 := sG _ _ eG
      have ela3 := sG _ _ ela'
      have rl : rws.length = rs.length := by rw [dpAll_length drs, rowsD, List.length_map]
      have tot2 : fs.length + rs.length ≤ 400 := by
        have h1 := packs_le j.sq j.rss (i + 1)
        rw [packs_take ers 0 [], List.length_append, List.length_map, ← J.srows_rss ej] at h1
        have h2 : fs.length = (packs j.sq (j.rss.take i) 0 []).length := by rw [dpAll_length dG, rowsD, List.length_map]
        omega
      refine ⟨_, rfl, .inl ⟨rfl, fs, SqL.of eG3⟩, ?_⟩
      refine ⟨_, rfl, la, rfl, ⟨rws, SqL.of ela3⟩, fun D hD => ?_⟩
      refine lc_list (K := K) (a := la) (xs := rws) (fun k F => Same G2 F ∧ ∃ us, F D = some (.lst us) ∧ DpAll K F us (rowsD ((rs.take k).map (wRow (i : Nat) ([] : List (Int × Int)))))) ?_ ?_ ?_ ?_
      · exact ⟨same_new hD, [], upd_same, by simpa [rowsD] using .nil⟩
      · rintro k F _ ⟨sF, _⟩
        exact SqL.of (sF _ _ ela3)
      · rintro k x F hk ⟨sF, us, eD, du⟩
        obtain ⟨d, ed, hdx⟩ := dpAll_get drs hk
        rw [rowsD, List.getElem?_map] at ed
        obtain ⟨rr, er, rfl⟩ := Option.map_eq_some_iff.mp ed
        have bd := d20 rr (List.mem_of_getElem? er)
        have kr : k < rs.length := (List.getElem?_eq_some_iff.mp er).1
        have dx : Dp K F x (rowD rr) := dp_same (sG.trans sF) (dp_keep kk (noL_row rr) hdx)
        refine ⟨rfl, ?_⟩
        unfold tYes
        refine iteT ?_
        refine ⟨_, rfl, _, rfl, _, rfl, (i : Nat), .ref tb, x, ([] : List (Int × Int)), rr, rfl, dp_same sF dg, dx, by simp, by omega, by omega, fun F2 v s4 d4 => ?_⟩
        have ul : us.length = k := by
          rw [dpAll_length du, rowsD, List.length_map, List.length_map, List.length_take]
          omega
        have eD2 := s4 _ _ eD
        refine ⟨us, eD2, small1000 (by omega), ?_, us ++ [v], upd_same, ?_⟩
        · intro c2 o hc
          rw [upd_ne (ne_of_none hc hD)]
          exact s4 _ _ (sF _ _ hc)
        · have k2 : ∀ b xs, SqT K F2 b xs → SqT K (upd F2 D (.lst (us ++ [v]))) b xs := fun b xs h => (sx_upd (p := D)).sqT eD2 h
          rw [take_map (wRow (i : Nat) ([] : List (Int × Int))) er, rowsD, List.map_append]
          exact dpAll_append (dpAll_keep k2 (noLs_rows _) (dpAll_same s4 du)) (.cons (dp_keep k2 (noL_row _) d4) .nil)
      · rintro F ⟨sF, us, eD, du⟩
        rw [rl, List.take_length] at du
        have ul : us.length = rs.length := by rw [dpAll_length du, rowsD, List.length_map, List.length_map]
        have eF := sF _ _ eG3
        refine ⟨L, D, fs, us, rfl, rfl, eF, eD, small (by omega), ?_⟩
        have k3 : ∀ b xs, SqT K F b xs → SqT K (upd F L (.lst (fs ++ us))) b xs := fun b xs h => (sx_upd (p := L)).sqT eF h
        refine ⟨_, _, _, fs ++ us, rfl, ?_, upd_same, ?_⟩
        · exact s3.trans ((Same.sx (sG.trans sF)).trans sx_upd)
        · have hl : (packs j.sq (j.rss.take i) 0 []).length = fs.length := by rw [dpAll_length dG, rowsD, List.length_map]
          rw [hq] at hl dG
          rw [packs_take ers 0 [], Int.zero_add, rowsD, List.map_append, hl]
          exact dpAll_append (dpAll_keep k3 (noLs_rows _) (dpAll_same (sG.trans sF) dG)) (dpAll_keep k3 (noLs_rows _) du)
  · rintro σ G ⟨y2, y3, y4, fs, rfl, s3, eG, dG⟩
    rw [d2.length, List.take_length, ← J.srows_rss ej] at dG
    refine ⟨_, rfl, ?_⟩
    refine q G L fs ?_ hL eG dG
    intro b o hb
    have nb : b ≠ L := ne_of_none hb hL
    exact s3 _ _ nb (s2 _ _ (s1 _ _ hb))
theorem ok_rows (T : Txt K mg) : ∀ n : Nat, FnOk P w K mg base CX0 (2 * n + 1) T.f_step_rows T.d_step_rows ["job"] (spRows K n)
  | 0 => by
    have no : ∀ vs H Q E, ¬ spRows K 0 vs H Q E := by
      rintro vs H Q E ⟨v, j, _, _, h, _⟩
      have := J.deep_pos j
      omega
    exact ⟨fun vs H Q E h => absurd h (no vs H Q E), fun A outer s H args us vs Q E _ _ _ _ h => absurd h (no vs H Q E)⟩
  | n + 1 => ok_rows_next T (ok_idxrows T (ok_rows T n))
/-- jobs that are small -/
def spCkSmall (K : PySem.W.Frag) : Sp := fun vs H Q _ => ∃ (v : V) (j : J), vs = [v] ∧ Dp K H v j.toD ∧ j.deep ≤ 20 ∧ (szJ j 400 13).isSome = true ∧ j.steps ≤ 400 ∧ ∀ H', Same H H' → Q .non H'
theorem ok_cksmall (T : Txt K mg) : FnOk P w K mg base CX0 44 T.f_check_small T.d_check_small ["job"] (spCkSmall K) := by
  have g_checked_sizes := ok_checked (P := P) (w := w) (base := base) T
  refine T.F_check_small.ok sc_check_small (fun vs H Q E h => ?_) (fun cdv A outer s H vs Q E hr h => ?_)
  · obtain ⟨v, j, rfl, _⟩ := h
    rfl
  obtain ⟨v, j, rfl, hd, h20, hs, h400, q⟩ := h
  obtain ⟨⟨a, b⟩, ez⟩ := Option.isSome_iff_exists.mp hs
  have eb := (szJ_inv j 400 13 a b ez).2.2.2.2
  refine ⟨_, (pss_one (ps_if (pt_cmpR op_gt (pe_ix (r := rIxT K) ix_tup (pe_call g_checked_sizes (hr.mono (by omega)) rfl T.m_checked_sizes T.F_checked_sizes.kp T.b_checked_sizes .nil pass0 (pa_cons (pv 0) pa_nil)) pe_int (fun _ _ => rfl)) (pe_glob (v := .int 400) rfl T.g_MAX_SMALL ⟨_, rfl⟩) (nomark _)) (pss_one ps_never) pss_nil)), ?_⟩
  refine ⟨_, rfl, v, j, a, b, rfl, hd, h20, ez, fun H1 t s1 e1 => ?_⟩
  refine ⟨_, _, _, _, rfl, rfl, SqT.of e1, rfl, _, _, rfl, rfl, _, rfl, ?_⟩
  refine ite2 (fun g => ?_) (fun g => ?_)
  · have : (400 : Int) < b := of_decide_eq_true g
    omega
  · exact q _ s1
def spAllAdr (K : PySem.W.Frag) : Sp := fun vs H Q _ => ∃ (v : V) (j : J), vs = [v] ∧ Dp K H v j.toD ∧ (szJ j 400 13).isSome = true ∧ j.steps ≤ 400 ∧ ∀ (H' : Hp) (v : V), Same H H' → Dp K H' v (.tuple (adDs j.adr)) → Q v H'
theorem ok_alladr (T : Txt K mg) : FnOk P w K mg base CX0 45 T.f_all_addresses T.d_all_addresses ["job"] (spAllAdr K) := by
  have g_check_small := ok_cksmall (P := P) (w := w) (base := base) T
  have g_step_rows : FnOk P w K mg base CX0 41 T.f_step_rows T.d_step_rows ["job"] (spRows K 20) := ok_rows T 20
  refine T.F_all_addresses.ok sc_all_addresses (fun vs H Q E h => ?_) (fun cdv A outer s H vs Q E hr h => ?_)
  · obtain ⟨v, j, rfl, _⟩ := h
    rfl
  obtain ⟨v, j, rfl, hd, hs, h400, q⟩ := h
  obtain ⟨⟨a, b⟩, ez⟩ := Option.isSome_iff_exists.mp hs
  have inv := szJ_inv j 400 13 a b ez
  have hdp : j.deep ≤ 13 := by have := inv.2.2.1; omega
  have hstb := J.stb_ok j inv.1
  refine ⟨_, (pss_cons (ps_expr (pe_call g_check_small (hr.mono (by omega)) rfl T.m_check_small T.F_check_small.kp T.b_check_small .nil pass0 (pa_cons (pv 0) pa_nil)))
      (pss_one (ps_ret (pe_callTy (r := rTupS K) call_tupS (by rfl) T.n_tuple (by decide +kernel) (pa_cons (pe_lc (own := [("row", 1)]) (g := (gName 1)) (by rfl) sc_all_addresses.nd (pi_list (pe_call g_step_rows (hr.mono (by omega)) rfl T.m_step_rows T.F_step_rows.kp T.b_step_rows .nil pass0 (pa_cons (pv 0) pa_nil))) (blkOk_by (N := N_all_addresses) (sc := (defScope s_all_addresses)) (by decide +kernel)) (fun _ _ _ _ _ => (pg_name (i := 1) sc_all_addresses.nd rfl (Or.inl rfl))) (fun _ _ _ _ _ => pts_nil) (fun _ _ _ _ _ => (pe_ix (r := rIxT K) ix_tup (pv 1) pe_int (fun _ _ => rfl)))) pa_nil))))), ?_⟩
  refine ⟨_, rfl, v, j, rfl, hd, by omega, hs, h400, fun H1 s1 => ?_⟩
  refine ⟨_, rfl, v, j, rfl, dp_same s1 hd, by omega, by omega, hstb, h400, fun H2 l ws s2 n2 e2 d2 => ?_⟩
  have wl : ws.length = j.srows.length := by rw [dpAll_length d2, rowsD, List.length_map]
  have hl := J.srows_len j hstb
  refine ⟨l, rfl, ⟨ws, SqL.of e2⟩, fun D hD => ?_⟩
  refine lc_list (K := K) (a := l) (xs := ws) (fun k F => Same H2 F ∧ ∃ us, F D = some (.lst us) ∧ DpAll K F us (adDs ((j.srows.take k).map (·.1)))) ?_ ?_ ?_ ?_
  · exact ⟨same_new hD, [], upd_same, by simpa [adDs] using .nil⟩
  · rintro k F _ ⟨sF, _⟩
    exact SqL.of (sF _ _ e2)
  · rintro k x F hk ⟨sF, us, eD, du⟩
    obtain ⟨d, ed, hdx⟩ := dpAll_get d2 hk
    rw [rowsD, List.getElem?_map] at ed
    obtain ⟨rr, er, rfl⟩ := Option.map_eq_some_iff.mp ed
    obtain ⟨tr, xr, rfl, qr, dr⟩ := dp_tup_inv hdx
    cases dr with
    | @cons xr0 _ _ _ da dr =>
    have ul : us.length = k := by
      rw [dpAll_length du, adDs, List.length_map, List.length_map, List.length_take]
      have := (List.getElem?_eq_some_iff.mp er).1
      omega
    have kr := (List.getElem?_eq_some_iff.mp er).1
    refine ⟨rfl, ?_⟩
    unfold tYes
    refine iteT ?_
    refine ⟨_, rfl, _, _, _, _, rfl, rfl, same_sqT sF qr, atI_at (j := 0) rfl rfl, ?_⟩
    refine ⟨us, eD, small1000 (by omega), ?_, us ++ [xr0], upd_same, ?_⟩
    · intro c2 o hc
      rw [upd_ne (ne_of_none hc hD)]
      exact sF _ _ hc
    · have k2 : ∀ b xs, SqT K F b xs → SqT K (upd F D (.lst (us ++ [xr0]))) b xs := fun b xs h => (sx_upd (p := D)).sqT eD h
      rw [take_map (fun r : SRow => r.1) er, adDs, List.map_append]
      exact dpAll_append (dpAll_keep k2 (noLs_ad _) du) (.cons (dp_keep k2 (noL_ad _) (dp_same sF da)) .nil)
  · rintro F ⟨sF, us, eD, du⟩
    rw [wl, List.take_length, J.srows_adr j hstb] at du
    refine ⟨D, _, rfl, .inl ⟨SqL.of eD, fun t ht => ?_⟩⟩
    have s3 : Same F (upd F t (.tup us)) := same_new ht
    exact q _ _ (s1.trans (s2.trans (sF.trans s3))) (.tup (SqT.of upd_same) (dpAll_same s3 du))
end
/-! block Sys: a job as a system of steps; its low is the least sum (with Jst; behind bAddr) -/
mutual
def J.sys : J → Sys
  | .st i => ⟨[([], i)], fun _ _ => false⟩
  | .ps k xs => comp (!k) (J.syss xs) 0
  | .rn k n x => comp (!k) (List.replicate (if 0 < x.steps then n.toNat else 0) x.sys) 0
def J.syss : List J → List Sys
  | [] => []
  | x :: xs => x.sys :: J.syss xs
end
theorem Sys.Low.net {S : Sys} {l : Int} (h : S.Low l) : l ≤ S.net := by
  have h1 := h.le (fun _ => true) (fun _ _ _ _ _ _ => rfl)
  rw [sumD_all fun _ _ => rfl] at h1
  exact h1
theorem cRows_idx : ∀ (Ss : List Sys) (i : Int), (cRows Ss i).map (·.1) = idx (Ss.map fun S => S.rows.map (·.1)) i
  | [], _ => rfl
  | S :: r, i => by
    simp only [cRows, List.map_append, List.map_cons, idx, cRows_idx r, pre, List.map_map]
    rfl
mutual
theorem J.sys_adr : ∀ j : J, j.sys.rows.map (·.1) = j.adr
  | .st _ => rfl
  | .ps k xs => by
    simp only [J.sys, comp, cRows_idx, J.adr]
    rw [J.syss_adr xs]
  | .rn k n x => by
    have ih := J.sys_adr x
    simp only [J.sys, comp, cRows_idx, J.adr, List.map_replicate, ih]
theorem J.syss_adr : ∀ xs : List J, (J.syss xs).map (fun S => S.rows.map (·.1)) = J.adrs xs
  | [] => rfl
  | x :: xs => by
    have h1 := J.sys_adr x
    have h2 := J.syss_adr xs
    simp only [J.syss, J.adrs, List.map_cons, h1, h2]
end
theorem lowPar_rep (p : Part) : ∀ m : Nat, lowPar (List.replicate m p) = m * p.2
  | 0 => by simp [lowPar]
  | m + 1 => by
    simp only [List.replicate_succ, lowPar, lowPar_rep p m]
    rw [Int.natCast_add, Int.add_mul]
    simp only [Int.natCast_one, Int.one_mul]
    omega
theorem lowSeq_rep (p : Part) (h : p.2 ≤ p.1.net) : ∀ m : Nat, lowSeq (List.replicate (m + 1) p) = p.2 + m * min 0 p.1.net
  | 0 => by
    simp only [List.replicate_succ, List.replicate_zero, lowSeq]
    simp
    omega
  | m + 1 => by
    rw [List.replicate_succ, lowSeq, lowSeq_rep p h m]
    have e : ((m + 1 : Nat) : Int) * min 0 p.1.net = m * min 0 p.1.net + min 0 p.1.net := by
      rw [Int.natCast_add, Int.add_mul]
      simp
    rw [e]
    by_cases c : 0 ≤ p.1.net
    · have z : min 0 p.1.net = 0 := by omega
      rw [z]
      simp only [Int.mul_zero]
      omega
    · have z : min 0 p.1.net = p.1.net := by omega
      rw [z]
      have : (m : Int) * p.1.net ≤ 0 := Int.mul_nonpos_of_nonneg_of_nonpos (by omega) (by omega)
      omega
theorem sysOf_rep (m : Nat) (p : Part) : sysOf (List.replicate m p) = List.replicate m p.1 := by
  simp [sysOf]
theorem sum_repI (m : Int) : ∀ k : Nat, (List.replicate k m).sum = k * m
  | 0 => by simp
  | k + 1 => by
    rw [List.replicate_succ, List.sum_cons, sum_repI m k, Int.natCast_add, Int.add_mul]
    simp only [Int.natCast_one, Int.one_mul]
    omega
theorem J.rows_none {x : J} (h : x.stb) (e : ¬ 0 < x.steps) : x.sys.rows = [] := by
  have h1 := J.adr_len x h
  have h2 := congrArg List.length (J.sys_adr x)
  rw [List.length_map] at h2
  exact List.eq_nil_of_length_eq_zero (by omega)
mutual
theorem J.low_sys : ∀ j : J, j.stb → j.sys.Low j.low ∧ j.sys.net = j.net
  | .st i, _ => by
    refine ⟨⟨fun D _ => ?_, ⟨fun _ => decide (i < 0), (fun _ _ _ _ z => (by cases z)), ?_⟩⟩, ?_⟩
    · simp only [J.sys, J.low, sumD, List.map_cons, List.map_nil, List.sum_cons, List.sum_nil]
      split <;> omega
    · simp only [J.sys, J.low, sumD, List.map_cons, List.map_nil, List.sum_cons, List.sum_nil, decide_eq_true_eq]
      split <;> omega
    · simp [J.sys, J.net, Sys.net]
  | .ps k xs, h => by
    simp only [J.stb] at h
    obtain ⟨Ps, e1, e2, e3, e4, e5⟩ := J.lows_sys xs h.2
    refine ⟨?_, ?_⟩
    · cases k with
      | false =>
        simp only [J.sys, J.low, Bool.not_false]
        rw [← e1, ← e3]
        exact low_seq Ps 0 e2
      | true =>
        simp only [J.sys, J.low, Bool.not_true]
        rw [← e1, ← e4]
        exact low_par Ps 0 e2
    · simp only [J.sys, J.net, net_comp]
      exact e5
  | .rn k n x, h => by
    simp only [J.stb] at h
    obtain ⟨hx, hn⟩ := J.low_sys x h.2.1
    by_cases e : 0 < x.steps
    · have ec : ((n.toNat : Nat) : Int) = n := by omega
      refine ⟨?_, ?_⟩
      · have all : ∀ p ∈ List.replicate n.toNat ((x.sys, x.low) : Part), p.1.Low p.2 := by
          intro p hp
          obtain ⟨_, rfl⟩ := List.mem_replicate.mp hp
          exact hx
        cases k with
        | false =>
          have l := low_seq _ 0 all
          rw [sysOf_rep] at l
          simp only [J.sys, J.low, Bool.not_false, if_pos e]
          by_cases z : n = 0
          · rw [if_pos z]
            subst z
            exact l
          · rw [if_neg z]
            obtain ⟨m, em⟩ : ∃ m, n.toNat = m + 1 := ⟨n.toNat - 1, by omega⟩
            have em' : n - 1 = (m : Int) := by omega
            rw [em, lowSeq_rep _ hx.net, hn] at l
            rw [em, em']
            exact l
        | true =>
          have l := low_par _ 0 all
          rw [sysOf_rep, lowPar_rep, ec] at l
          simp only [J.sys, J.low, Bool.not_true, if_pos e]
          exact l
      · simp only [J.sys, J.net, net_comp, if_pos e, List.map_replicate, sum_repI, hn, ec]
    · have rn := J.rows_none h.2.1 e
      have l0 : x.low = 0 := by
        obtain ⟨D, _, hD⟩ := hx.at_
        rw [rn] at hD
        exact hD.symm
      have n0 : x.net = 0 := by
        rw [← hn]
        unfold Sys.net
        rw [rn]
        rfl
      have z : (J.rn k n x).sys = comp (!k) [] 0 := by simp only [J.sys, if_neg e, List.replicate_zero]
      rw [z]
      refine ⟨?_, ?_⟩
      · have lw : (J.rn k n x).low = 0 := by
          cases k with
          | false =>
            simp only [J.low, l0, n0]
            split <;> simp
          | true => simp only [J.low, l0, Int.mul_zero]
        rw [lw]
        exact ⟨fun D _ => Int.le_refl _, fun _ => false, fun a ha => by simp [comp, cRows] at ha, rfl⟩
      · simp only [J.net, n0, Int.mul_zero]
        rfl
theorem J.lows_sys : ∀ xs : List J, J.stbL xs → ∃ Ps : List Part, sysOf Ps = J.syss xs ∧ (∀ p ∈ Ps, p.1.Low p.2) ∧ lowSeq Ps = J.lowS xs ∧ lowPar Ps = J.lowL xs ∧ ((J.syss xs).map Sys.net).sum = J.netL xs
  | [], _ => ⟨[], rfl, (fun p hp => (by cases hp)), rfl, rfl, rfl⟩
  | x :: xs, h => by
    simp only [J.stbL] at h
    obtain ⟨h1, h2⟩ := J.low_sys x h.1
    obtain ⟨Ps, e1, e2, e3, e4, e5⟩ := J.lows_sys xs h.2
    refine ⟨(x.sys, x.low) :: Ps, ?_, ?_, ?_, ?_, ?_⟩
    · simp only [sysOf, List.map_cons, J.syss] at e1 ⊢
      rw [e1]
    · intro p hp
      rcases List.mem_cons.mp hp with rfl | hp
      · exact h1
      · exact e2 p hp
    · simp only [lowSeq, J.lowS, e3, h2]
    · simp only [lowPar, J.lowL, e4]
    · simp only [J.syss, List.map_cons, List.sum_cons, e5, J.netL, h2]
end
/-! block AtM: the rows of parts and rounds (behind bSys) -/
theorem cRows_at : ∀ {Ss : List Sys} {i k : Int} {r : List Int} {v : Int}, (k :: r, v) ∈ cRows Ss i → i ≤ k ∧ ∃ S, Ss[(k - i).toNat]? = some S ∧ (r, v) ∈ S.rows
  | S :: Ss, i, k, r, v, h => by
    simp only [cRows, List.mem_append, pre, List.mem_map, Prod.mk.injEq, List.cons.injEq] at h
    rcases h with ⟨b, hb, ⟨e1, e2⟩, e3⟩ | h
    · subst e1
      refine ⟨Int.le_refl _, S, ?_, ?_⟩
      · rw [Int.sub_self]
        rfl
      · obtain ⟨b1, b2⟩ := b
        cases e2
        cases e3
        exact hb
    · obtain ⟨h1, S', h2, h3⟩ := cRows_at h
      refine ⟨by omega, S', ?_, h3⟩
      have e : (k - i).toNat = (k - (i + 1)).toNat + 1 := by omega
      rw [e]
      exact h2
theorem J.syss_eq : ∀ xs : List J, J.syss xs = xs.map J.sys
  | [] => rfl
  | x :: xs => by rw [J.syss, J.syss_eq xs]; rfl
theorem rows_ps {b : Bool} {xs : List J} {k : Int} {r : List Int} {v : Int} (h : (k :: r, v) ∈ (J.ps b xs).sys.rows) : 0 ≤ k ∧ ∃ y, xs[k.toNat]? = some y ∧ (r, v) ∈ y.sys.rows := by
  simp only [J.sys, comp] at h
  obtain ⟨h1, S, h2, h3⟩ := cRows_at h
  rw [J.syss_eq, Int.sub_zero, List.getElem?_map] at h2
  cases e : xs[k.toNat]? with
  | none =>
    rw [e] at h2
    cases h2
  | some y =>
    rw [e] at h2
    obtain rfl := (Option.some.inj h2).symm
    exact ⟨h1, y, rfl, h3⟩
theorem rows_rn {b : Bool} {n : Int} {x : J} {k : Int} {r : List Int} {v : Int} (h : (k :: r, v) ∈ (J.rn b n x).sys.rows) : (r, v) ∈ x.sys.rows := by
  simp only [J.sys, comp] at h
  obtain ⟨h1, S, h2, h3⟩ := cRows_at h
  obtain ⟨_, rfl⟩ := List.mem_replicate.mp (List.mem_of_getElem? h2)
  exact h3
theorem rows_nil {j : J} {v : Int} (h : ([], v) ∈ j.sys.rows) : j = .st v := by
  cases j with
  | st i =>
    simp only [J.sys, List.mem_singleton, Prod.mk.injEq, true_and] at h
    rw [h]
  | ps b xs =>
    simp only [J.sys, comp] at h
    obtain ⟨k, r, e, _⟩ := cRows_head h
    cases e
  | rn b n x =>
    simp only [J.sys, comp] at h
    obtain ⟨k, r, e, _⟩ := cRows_head h
    cases e
theorem atI_ex {vs : List V} {r : Int} (h0 : 0 ≤ r) (h1 : r < (vs.length : Int)) : ∃ v, vs[r.toNat]? = some v ∧ atI vs r = some v := by
  have hk : r.toNat < vs.length := by omega
  exact ⟨vs[r.toNat], List.getElem?_eq_getElem hk, atI_at (j := r.toNat) (by omega) (List.getElem?_eq_getElem hk)⟩
/-! block States: _law_states, all sets of steps that hold what comes ahead (behind bAt; _law_ahead's promise is taken as given here) -/
theorem keepT {K : PySem.W.Frag} {D : Addr} {H H' : Hp} {l : List V} (h : H D = some (.lst l)) (s : Sx D H H') : Kp K D H H' := s.kp h
def rNotLD (K : PySem.W.Frag) : R2 := fun x y H Q => ∃ (ds : List PyData) (d : PyData), Dp K H y (.list ds) ∧ Dp K H x d ∧ PyData.canLayAll0 ds = true ∧ d.canLay0 = true ∧ d.depth ≤ 60 ∧ Q (.bl (!(ds.any fun e => e.eqv d))) H
theorem op_notInLD {X : Cx} (hu : X.A.units + 66 < cLine) : OpR X (compareOp .NotIn) (rNotLD X.K) := by
  rintro pins s σ H x y v u Q I rv ru ⟨ds, d, hy, hx, c1, c2, c3, q⟩
  obtain ⟨as, r1⟩ := Dp.reads I _ _ _ hy ru
  obtain ⟨bs, r2⟩ := Dp.reads I _ _ _ hx rv
  refine SeqAt.notIn_list_reads r1 r2 c1 c2 ?_ ⟨.bl _, H, I, rfl, q⟩
  have : min (PyData.depthAll ds) d.depth ≤ 60 := Nat.le_trans (Nat.min_le_right _ _) c3
  omega
/-- the sets that are found, one step more each time -/
def stNext (ah : List Int → List Int → Bool) (every : List (List Int)) (one : List Int) (fs : List (List (List Int))) : List (List (List Int)) :=
  fs ++ (fs.filter fun S => every.all fun o => !(ah o one) || S.contains o).map (· ++ [one])
def stAll (ah : List Int → List Int → Bool) (every : List (List Int)) : List (List Int) → List (List (List Int)) → List (List (List Int))
  | [], fs => fs
  | one :: r, fs => stAll ah every r (stNext ah every one fs)
def stD (S : List (List Int)) : PyData := .list (adDs S)
def spAhead (K : PySem.W.Frag) : Sp := fun vs H Q _ => ∃ (v : V) (j : J) (t1 t2 : Addr) (a b : List Int), vs = [v, .ref t1, .ref t2] ∧ Dp K H v j.toD ∧ SqT K H t1 (a.map V.int) ∧ SqT K H t2 (b.map V.int) ∧ a ∈ j.adr ∧ b ∈ j.adr ∧
  j.deep ≤ 8 ∧ ∀ H', Same H H' → Q (.bl (j.sys.ahead a b)) H'
theorem ad_lay (a : List Int) : (adD a).canLay0 = true := by
  have h : ∀ l : List Int, PyData.canLayAll0 (l.map PyData.int) = true := by
    intro l
    induction l with
    | nil => simp [PyData.canLayAll0]
    | cons x r ih => simp [PyData.canLayAll0, PyData.canLay0, ih]
  simp [adD, PyData.canLay0, h]
theorem ads_lay : ∀ as : List (List Int), PyData.canLayAll0 (adDs as) = true
  | [] => by simp [adDs, PyData.canLayAll0]
  | a :: as => by
    have ih := ads_lay as
    simp only [adDs, List.map_cons, PyData.canLayAll0, ad_lay, Bool.true_and] at ih ⊢
    exact ih
theorem ad_depth (a : List Int) : (adD a).depth ≤ 2 := by
  have h : ∀ l : List Int, PyData.depthAll (l.map PyData.int) ≤ 0 := by
    intro l
    induction l with
    | nil => simp [PyData.depthAll]
    | cons x r ih => simp only [List.map_cons, PyData.depthAll, PyData.depth]; omega
  have := h a
  simp only [adD, PyData.depth]
  omega
theorem ints_eqv : ∀ a b : List Int, PyData.eqvAll (a.map .int) (b.map .int) = decide (a = b)
  | [], [] => by simp [PyData.eqvAll]
  | [], b :: bs => by simp [PyData.eqvAll]
  | a :: as, [] => by simp [PyData.eqvAll]
  | a :: as, b :: bs => by
    have ih := ints_eqv as bs
    by_cases h : a = b <;> simp [PyData.eqvAll, PyData.eqv, ih, h]
theorem ad_eqv (a b : List Int) : (adD a).eqv (adD b) = decide (a = b) := by
  simp only [adD, PyData.eqv]
  exact ints_eqv a b
theorem any_ad (S : List (List Int)) (b : List Int) : ((adDs S).any fun e => e.eqv (adD b)) = S.contains b := by
  induction S with
  | nil => rfl
  | cons a S ih =>
    have e : (adDs (a :: S)).any (fun e => e.eqv (adD b)) = ((adD a).eqv (adD b) || (adDs S).any fun e => e.eqv (adD b)) := rfl
    rw [e, ih, ad_eqv]
    simp only [List.contains_cons]
    congr 1
    by_cases h : a = b
    · subst h
      simp
    · have h' : ¬ b = a := fun z => h z.symm
      simp [h, h']
/-- what comes ahead stands before -/
def Before (ah : List Int → List Int → Bool) (A : List (List Int)) : Prop := ∀ pre b rest, A = pre ++ b :: rest → ∀ a ∈ A, ah a b = true → a ∈ pre
def ClosedA (ah : List Int → List Int → Bool) (A : List (List Int)) (D : List Int → Bool) : Prop := ∀ a ∈ A, ∀ b ∈ A, ah a b = true → D b = true → D a = true
theorem st_cond {ah : List Int → List Int → Bool} {A S : List (List Int)} {one : List Int} : (A.all fun o => !(ah o one) || S.contains o) = true ↔ ∀ o ∈ A, ah o one = true → o ∈ S := by
  rw [List.all_eq_true]
  constructor
  · intro h o ho ha
    have := h o ho
    rw [ha] at this
    simpa using this
  · intro h o ho
    cases e : ah o one with
    | false => rfl
    | true =>
      have := h o ho e
      simpa using this
theorem st_mem {ah : List Int → List Int → Bool} {A : List (List Int)} {one : List Int} {fs : List (List (List Int))} {S : List (List Int)} :
    S ∈ stNext ah A one fs ↔ S ∈ fs ∨ ∃ R ∈ fs, (∀ o ∈ A, ah o one = true → o ∈ R) ∧ S = R ++ [one] := by
  unfold stNext
  rw [List.mem_append, List.mem_map]
  constructor
  · rintro (h | ⟨R, h1, rfl⟩)
    · exact .inl h
    · obtain ⟨h2, h3⟩ := List.mem_filter.mp h1
      exact .inr ⟨R, h2, st_cond.mp h3, rfl⟩
  · rintro (h | ⟨R, h1, h2, rfl⟩)
    · exact .inl h
    · exact .inr ⟨R, List.mem_filter.mpr ⟨h1, st_cond.mpr h2⟩, rfl⟩
theorem st_sound {ah : List Int → List Int → Bool} {A : List (List Int)} (hb : Before ah A) (nd : A.Nodup) : ∀ (rest pre : List (List Int)) (fs : List (List (List Int))), A = pre ++ rest →
    (∀ S ∈ fs, ∃ D, ClosedA ah A D ∧ S = pre.filter D) → ∀ S ∈ stAll ah A rest fs, ∃ D, ClosedA ah A D ∧ S = A.filter D
  | [], pre, fs, e, h, S, hS => by
    obtain ⟨D, h1, h2⟩ := h S hS
    rw [List.append_nil] at e
    exact ⟨D, h1, e ▸ h2⟩
  | one :: rest, pre, fs, e, h, S, hS => by
    refine st_sound hb nd rest (pre ++ [one]) _ (by rw [e, List.append_assoc]; rfl) ?_ S hS
    intro S hS
    have npre : one ∉ pre := by
      rw [e] at nd
      have := (List.nodup_append.mp nd).2.2
      intro z
      exact this one z one List.mem_cons_self rfl
    have inA : ∀ x ∈ pre, x ∈ A := fun x hx => by rw [e]; exact List.mem_append_left _ hx
    have before : ∀ a ∈ A, ∀ b ∈ pre, ah a b = true → a ∈ pre := by
      intro a ha b hbp hab
      obtain ⟨p1, p2, ep⟩ := List.append_of_mem hbp
      have := hb p1 b (p2 ++ one :: rest) (by rw [e, ep]; simp) a ha hab
      rw [ep]
      exact List.mem_append_left _ this
    rcases st_mem.mp hS with h1 | ⟨R, h1, h2, rfl⟩
    · obtain ⟨D, c, eS⟩ := h S h1
      refine ⟨fun x => D x && pre.contains x, ?_, ?_⟩
      · intro a ha b hbA hab hD
        simp only [Bool.and_eq_true, List.contains_iff_mem] at hD ⊢
        exact ⟨c a ha b hbA hab hD.1, before a ha b hD.2 hab⟩
      · rw [List.filter_append, eS]
        have e1 : pre.filter (fun x => D x && pre.contains x) = pre.filter D := List.filter_congr fun x hx => by simp [hx]
        have e2 : [one].filter (fun x => D x && pre.contains x) = [] := by simp [npre]
        rw [e1, e2, List.append_nil]
    · obtain ⟨D, c, eS⟩ := h R h1
      refine ⟨fun x => (D x && pre.contains x) || x == one, ?_, ?_⟩
      · intro a ha b hbA hab hD
        simp only [Bool.or_eq_true, Bool.and_eq_true, List.contains_iff_mem, beq_iff_eq] at hD ⊢
        rcases hD with hD | rfl
        · exact .inl ⟨c a ha b hbA hab hD.1, before a ha b hD.2 hab⟩
        · have := h2 a ha hab
          rw [eS] at this
          obtain ⟨m1, m2⟩ := List.mem_filter.mp this
          exact .inl ⟨m2, m1⟩
      · rw [List.filter_append, eS]
        have e1 : pre.filter (fun x => (D x && pre.contains x) || x == one) = pre.filter D := List.filter_congr fun x hx => by
          have : (x == one) = false := by
            simp only [beq_eq_false_iff_ne, ne_eq]
            rintro rfl
            exact npre hx
          simp [hx, this]
        rw [e1]
        simp
theorem st_full {ah : List Int → List Int → Bool} {A : List (List Int)} (hb : Before ah A) {D : List Int → Bool} (c : ClosedA ah A D) : ∀ (rest pre : List (List Int)) (fs : List (List (List Int))), A = pre ++ rest →
    pre.filter D ∈ fs → A.filter D ∈ stAll ah A rest fs
  | [], pre, fs, e, h => by
    rw [List.append_nil] at e
    subst e
    exact h
  | one :: rest, pre, fs, e, h => by
    refine st_full hb c rest (pre ++ [one]) _ (by rw [e, List.append_assoc]; rfl) ?_
    rw [List.filter_append]
    cases hD : D one with
    | false =>
      simp only [List.filter_cons, hD, List.filter_nil, List.append_nil, Bool.false_eq_true, if_false]
      exact st_mem.mpr (.inl h)
    | true =>
      simp only [List.filter_cons, hD, List.filter_nil, if_true]
      refine st_mem.mpr (.inr ⟨_, h, fun o ho hoa => ?_, rfl⟩)
      have o1 : one ∈ A := by
        rw [e]
        simp
      exact List.mem_filter.mpr ⟨hb pre one rest e o ho hoa, c o ho one o1 hoa hD⟩
/-- what is found are just the closed sets -/
theorem st_all {ah : List Int → List Int → Bool} {A : List (List Int)} (hb : Before ah A) (nd : A.Nodup) (S : List (List Int)) : S ∈ stAll ah A A [[]] ↔ ∃ D, ClosedA ah A D ∧ S = A.filter D := by
  constructor
  · refine st_sound hb nd A [] [[]] rfl (fun S hS => ⟨fun _ => false, (fun _ _ _ _ _ z => (by cases z)), ?_⟩) S
    simpa using hS
  · rintro ⟨D, c, rfl⟩
    exact st_full hb c A [] [[]] rfl (by simp)
theorem ahead_rest {sq : Bool} {S : Sys} {r : List Sys} {i k m : Int} {c d : List Int} (hk : i + 1 ≤ k) (h : cAhead sq (S :: r) i (k :: c) (m :: d) = true) : cAhead sq r (i + 1) (k :: c) (m :: d) = true := by
  simp only [cAhead] at h ⊢
  by_cases z : k = m
  · subst z
    simp only [ne_eq, not_true_eq_false, if_false, aheadAt] at h ⊢
    rw [if_neg (by omega)] at h
    exact h
  · simp only [ne_eq, z, not_false_eq_true, if_true] at h ⊢
    exact h
theorem cRows_before {sq : Bool} : ∀ {Ss : List Sys} {i : Int}, (∀ S ∈ Ss, Before S.ahead (S.rows.map (·.1))) → Before (cAhead sq Ss i) ((cRows Ss i).map (·.1))
  | [], i, h, q, b, rest, e, a, ha, hab => by simp [cRows] at ha
  | S :: r, i, h, q, b, rest, e, a, ha, hab => by
    have heads : ∀ x ∈ (cRows r (i + 1)).map (·.1), ∃ k c, x = k :: c ∧ i + 1 ≤ k := by
      intro x hx
      obtain ⟨y, hy, rfl⟩ := List.mem_map.mp hx
      exact cRows_head hy
    have ih := cRows_before (sq := sq) (Ss := r) (i := i + 1) (fun S hS => h S (List.mem_cons_of_mem _ hS))
    have e1 : (cRows (S :: r) i).map (·.1) = (S.rows.map (·.1)).map (i :: ·) ++ (cRows r (i + 1)).map (·.1) := by
      simp only [cRows, List.map_append]
      congr 1
      unfold pre
      rw [List.map_map, List.map_map]
      rfl
    rw [e1] at e ha
    have later : ∀ mid, q = (S.rows.map (·.1)).map (i :: ·) ++ mid → (cRows r (i + 1)).map (·.1) = mid ++ b :: rest → a ∈ q := by
      intro mid h1 h2
      rw [h1]
      rcases List.mem_append.mp ha with ha | ha
      · exact List.mem_append_left _ ha
      · refine List.mem_append_right _ (ih mid b rest h2 a ha ?_)
        obtain ⟨k, c, ea, hk⟩ := heads a ha
        obtain ⟨m, d, eb, hm⟩ := heads b (by rw [h2]; simp)
        rw [ea, eb] at hab ⊢
        exact ahead_rest hk hab
    rcases List.append_eq_append_iff.mp e with ⟨mid, h1, h2⟩ | ⟨mid, h1, h2⟩
    · exact later mid h1 h2
    · cases mid with
      | nil =>
        rw [List.append_nil] at h1
        exact later [] (by rw [List.append_nil]; exact h1.symm) h2.symm
      | cons m0 mid =>
        obtain ⟨rfl, h3⟩ := List.cons.inj h2
        -- b stands in the first
        obtain ⟨p1, p2, e3, e4, e5⟩ := List.map_eq_append_iff.mp h1
        obtain ⟨b', p3, rfl, e6, e7⟩ := List.map_eq_cons_iff.mp e5
        rcases List.mem_append.mp ha with ha | ha
        · obtain ⟨a', ha', rfl⟩ := List.mem_map.mp ha
          simp only [cAhead, aheadAt, ne_eq, ← e6, not_true_eq_false, if_false, if_true] at hab
          have := h S List.mem_cons_self p1 b' p3 e3 a' ha' hab
          rw [← e4]
          exact List.mem_map.mpr ⟨a', this, rfl⟩
        · exfalso
          obtain ⟨k, c, ea, hk⟩ := heads a ha
          rw [ea, ← e6] at hab
          simp only [cAhead, ne_eq] at hab
          rw [if_pos (by omega)] at hab
          simp only [Bool.and_eq_true, decide_eq_true_eq] at hab
          omega
mutual
theorem J.sys_before : ∀ j : J, Before j.sys.ahead (j.sys.rows.map (·.1))
  | .st i => by
    intro q b rest e a ha hab
    cases hab
  | .ps k xs => by
    simp only [J.sys, comp]
    exact cRows_before (J.syss_before xs)
  | .rn k n x => by
    simp only [J.sys, comp]
    refine cRows_before fun S hS => ?_
    obtain ⟨_, rfl⟩ := List.mem_replicate.mp hS
    exact J.sys_before x
theorem J.syss_before : ∀ xs : List J, ∀ S ∈ J.syss xs, Before S.ahead (S.rows.map (·.1))
  | [], S, h => by cases h
  | x :: xs, S, h => by
    simp only [J.syss] at h
    rcases List.mem_cons.mp h with rfl | h
    · exact J.sys_before x
    · exact J.syss_before xs S h
end
theorem cRows_nodup : ∀ {Ss : List Sys} {i : Int}, (∀ S ∈ Ss, (S.rows.map (·.1)).Nodup) → ((cRows Ss i).map (·.1)).Nodup
  | [], i, h => by simp [cRows]
  | S :: r, i, h => by
    have ih := cRows_nodup (Ss := r) (i := i + 1) (fun S hS => h S (List.mem_cons_of_mem _ hS))
    have e1 : (cRows (S :: r) i).map (·.1) = (S.rows.map (·.1)).map (i :: ·) ++ (cRows r (i + 1)).map (·.1) := by
      simp only [cRows, List.map_append]
      congr 1
      unfold pre
      rw [List.map_map, List.map_map]
      rfl
    rw [e1, List.nodup_append]
    refine ⟨?_, ih, ?_⟩
    · refine List.Pairwise.map _ (fun a b hab z => hab (List.cons.inj z).2) (h S List.mem_cons_self)
    · intro a ha b hb
      obtain ⟨a', _, rfl⟩ := List.mem_map.mp ha
      obtain ⟨y, hy, rfl⟩ := List.mem_map.mp hb
      obtain ⟨k, c, e, hk⟩ := cRows_head hy
      rw [e]
      intro z
      have := (List.cons.inj z).1
      omega
mutual
theorem J.sys_nodup : ∀ j : J, (j.sys.rows.map (·.1)).Nodup
  | .st i => by simp [J.sys]
  | .ps k xs => by
    simp only [J.sys, comp]
    exact cRows_nodup (J.syss_nodup xs)
  | .rn k n x => by
    simp only [J.sys, comp]
    refine cRows_nodup fun S hS => ?_
    obtain ⟨_, rfl⟩ := List.mem_replicate.mp hS
    exact J.sys_nodup x
theorem J.syss_nodup : ∀ xs : List J, ∀ S ∈ J.syss xs, (S.rows.map (·.1)).Nodup
  | [], S, h => by cases h
  | x :: xs, S, h => by
    simp only [J.syss] at h
    rcases List.mem_cons.mp h with rfl | h
    · exact J.sys_nodup x
    · exact J.syss_nodup xs S h
end
/-- the step at an address -/
def valOf (rows : List Row1) (a : List Int) : Int := ((rows.find? fun r => r.1 == a).map (·.2)).getD 0
theorem valOf_mem : ∀ {rows : List Row1} {r : Row1}, (rows.map (·.1)).Nodup → r ∈ rows → valOf rows r.1 = r.2
  | x :: rows, r, nd, h => by
    rw [List.map_cons, List.nodup_cons] at nd
    rcases List.mem_cons.mp h with rfl | h
    · simp [valOf]
    · have ne : ¬ x.1 = r.1 := fun z => nd.1 (z ▸ List.mem_map.mpr ⟨r, h, rfl⟩)
      have ih := valOf_mem nd.2 h
      unfold valOf at ih ⊢
      have e : (x.1 == r.1) = false := by simpa using ne
      rw [List.find?_cons, e]
      exact ih
def useOf (rows : List Row1) (S : List (List Int)) : Int := (S.map (valOf rows)).sum
theorem use_sumD {rows : List Row1} (nd : (rows.map (·.1)).Nodup) (D : List Int → Bool) : useOf rows ((rows.map (·.1)).filter D) = sumD rows D := by
  have key : ∀ rs : List Row1, (∀ r ∈ rs, valOf rows r.1 = r.2) → (((rs.map (·.1)).filter D).map (valOf rows)).sum = sumD rs D := by
    intro rs
    induction rs with
    | nil => intro _; rfl
    | cons x rs ih =>
      intro h
      have h1 := h x List.mem_cons_self
      have h2 := ih fun r hr => h r (List.mem_cons_of_mem _ hr)
      unfold sumD at h2 ⊢
      simp only [List.map_cons, List.sum_cons, List.filter_cons]
      cases e : D x.1 with
      | true =>
        simp only [if_true, List.map_cons, List.sum_cons, h1, h2]
      | false =>
        simp only [Bool.false_eq_true, if_false, h2]
        omega
  exact key rows fun r hr => valOf_mem nd hr
theorem st_last {ah : List Int → List Int → Bool} {A : List (List Int)} (hb : Before ah A) : ∀ (rest pre : List (List Int)) (fs : List (List (List Int))), A = pre ++ rest → fs.getLast? = some pre → (stAll ah A rest fs).getLast? = some A
  | [], pre, fs, e, h => by
    rw [List.append_nil] at e
    subst e
    exact h
  | one :: rest, pre, fs, e, h => by
    refine st_last hb rest (pre ++ [one]) _ (by rw [e, List.append_assoc]; rfl) ?_
    obtain ⟨front, rfl⟩ : ∃ front, fs = front ++ [pre] := by
      obtain ⟨l, hl⟩ := List.getLast?_eq_some_iff.mp h
      exact ⟨l, hl⟩
    have hc : (A.all fun o => !(ah o one) || pre.contains o) = true := st_cond.mpr fun o ho hoa => hb pre one rest e o ho hoa
    unfold stNext
    rw [List.filter_append]
    simp only [List.filter_cons, hc, if_true, List.filter_nil, List.map_append, List.map_cons, List.map_nil]
    rw [← List.append_assoc, List.getLast?_concat]
/-- the sets that are found for a job: their sums, the least of them, the last of them -/
def J.states (j : J) : List (List (List Int)) := stAll j.sys.ahead j.adr j.adr [[]]
theorem J.states_low (j : J) (h : j.stb) : (∀ S ∈ j.states, j.low ≤ useOf j.sys.rows S) ∧ (∃ S ∈ j.states, useOf j.sys.rows S = j.low) := by
  have hA := J.sys_adr j
  have nd := J.sys_nodup j
  have hb := J.sys_before j
  obtain ⟨hl, _⟩ := J.low_sys j h
  have cl : ∀ D, ClosedA j.sys.ahead (j.sys.rows.map (·.1)) D → j.sys.Closed D := fun D c a ha b hbb hab hD => c a.1 (List.mem_map.mpr ⟨a, ha, rfl⟩) b.1 (List.mem_map.mpr ⟨b, hbb, rfl⟩) hab hD
  have cl' : ∀ D, j.sys.Closed D → ClosedA j.sys.ahead (j.sys.rows.map (·.1)) D := by
    intro D c a ha b hbb hab hD
    obtain ⟨a', ha', rfl⟩ := List.mem_map.mp ha
    obtain ⟨b', hb', rfl⟩ := List.mem_map.mp hbb
    exact c a' ha' b' hb' hab hD
  unfold J.states
  rw [← hA]
  constructor
  · intro S hS
    obtain ⟨D, c, rfl⟩ := (st_all hb nd S).mp hS
    rw [use_sumD nd]
    exact hl.le D (cl D c)
  · obtain ⟨D, c, e⟩ := hl.at_
    exact ⟨_, (st_all hb nd _).mpr ⟨D, cl' D c, rfl⟩, by rw [use_sumD nd, e]⟩
theorem J.states_last (j : J) (h : j.stb) : j.states.getLast? = some j.adr ∧ useOf j.sys.rows j.adr = j.net := by
  have hA := J.sys_adr j
  have nd := J.sys_nodup j
  have hb := J.sys_before j
  obtain ⟨_, hn⟩ := J.low_sys j h
  refine ⟨?_, ?_⟩
  · unfold J.states
    rw [← hA]
    exact st_last hb _ [] [[]] rfl rfl
  · have e := use_sumD nd fun _ => true
    rw [sumD_all fun _ _ => rfl, List.filter_eq_self.mpr (fun _ _ => rfl), hA] at e
    rw [e]
    exact hn
/-! block StatesW: for the walk of _law_states (behind bStates): its promise, and small facts -/
theorem ints_vals {K : PySem.W.Frag} {H : Hp} : ∀ {xs : List V} {a : List Int}, DpAll K H xs (a.map PyData.int) → xs = a.map V.int
  | [], [], _ => rfl
  | [], _ :: _, h => by cases h
  | _ :: _, [], h => by cases h
  | x :: xs, i :: a, h => by
    cases h with
    | cons h1 h2 =>
      obtain rfl := dp_int_inv h1
      rw [List.map_cons, ints_vals h2]
def stCond (ah : List Int → List Int → Bool) (A : List (List Int)) (one : List Int) (S : List (List Int)) : Bool := A.all fun o => !(ah o one) || S.contains o
theorem st_empty {ah : List Int → List Int → Bool} {A S : List (List Int)} {one : List Int} : (((A.filter fun o => ah o one).filter fun o => !S.contains o).isEmpty) = stCond ah A one S := by
  unfold stCond
  rw [List.filter_filter]
  cases e : A.all fun o => !(ah o one) || S.contains o with
  | true =>
    rw [List.isEmpty_iff, List.filter_eq_nil_iff]
    intro o ho
    have := List.all_eq_true.mp e o ho
    simp only [Bool.or_eq_true, Bool.not_eq_true'] at this
    rcases this with h | h
    · simp [h]
    · have m : o ∈ S := by simpa using h
      simp [m]
  | false =>
    rw [List.all_eq_false] at e
    obtain ⟨o, ho, h⟩ := e
    simp only [Bool.or_eq_true, Bool.not_eq_true', not_or, Bool.not_eq_false, Bool.not_eq_true] at h
    rw [List.isEmpty_eq_false_iff, ne_eq, List.filter_eq_nil_iff]
    intro z
    exact absurd (by simp [h.1, h.2]; simpa using h.2) (z o ho)
def spStates (K : PySem.W.Frag) : Sp := fun vs H Q _ => ∃ (v : V) (j : J), vs = [v] ∧ Dp K H v j.toD ∧ j.deep ≤ 8 ∧ j.stb ∧ j.steps ≤ 12 ∧ j.rounded ∧
  ∀ (H' : Hp) (l : Addr) (ss : List V), Same H H' → H' l = some (.lst ss) → DpAll K H' ss (j.states.map stD) → Q (.ref l) H'
theorem stNext_len (ah : List Int → List Int → Bool) (A : List (List Int)) (one : List Int) (fs : List (List (List Int))) : (stNext ah A one fs).length ≤ 2 * fs.length := by
  unfold stNext
  have := List.length_filter_le (fun S => A.all fun o => !(ah o one) || S.contains o) fs
  rw [List.length_append, List.length_map]
  omega
theorem stAll_snoc (ah : List Int → List Int → Bool) (A : List (List Int)) (one : List Int) : ∀ (pre : List (List Int)) (fs : List (List (List Int))), stAll ah A (pre ++ [one]) fs = stNext ah A one (stAll ah A pre fs)
  | [], fs => rfl
  | p :: pre, fs => stAll_snoc ah A one pre (stNext ah A p fs)
/-! block Ahead: _law_ahead, which step comes ahead of which (behind bStatesW; with HandS.Zip) -/
/-- what a for walks, within a comprehension's own block: its written part is the def's -/
theorem pi_listK {X : Cx} {tg l : Expr} {tl : TE} (K : PySem.W.Frag) (hk : X.K = K) (hl : PE X l tl) : PI X tg l (iList K tl) := by
  subst hk
  exact pi_list hl
theorem pi_tupK {X : Cx} {tg l : Expr} {tl : TE} (K : PySem.W.Frag) (hk : X.K = K) (hl : PE X l tl) : PI X tg l (iTup K tl) := by
  subst hk
  exact pi_tup hl
/-- a loop over zip of two tuples, to the end of the shorter one -/
theorem for_zipT2 {K : PySem.W.Frag} {a b : Addr} {xs ys : List V} {g : TG} {tb : TS} {D : Ends} {σ : L2.St} {H : Hp} (Pv : Nat → L2.St → Hp → Prop) (h0 : Pv 0 σ H) (hq : ∀ i σ H, Pv i σ H → SqT K H a xs ∧ SqT K H b ys)
    (hs : ∀ (i : Nat) (x y : V) (T : Addr) (σ : L2.St) (H : Hp), xs[i]? = some x → ys[i]? = some y → Pv i σ H → H T = none → g (.ref T) σ (upd H T (.tup [x, y])) fun σ2 H2 => tb { D with nx := Pv (i + 1), ct := Pv (i + 1), bk := D.nx } σ2 H2)
    (hd : ∀ i σ H, i ≤ xs.length → i ≤ ys.length → (i = xs.length ∨ i = ys.length) → Pv i σ H → D.nx σ H) :
    ∃ W : Nat → Nat → L2.St → Hp → Prop, (∃ m, W 0 m σ H) ∧ ∀ i m σ H, W i m σ H →
      ((RZ.ItzT K a b).stop i H ∧ D.nx σ H) ∨ ((RZ.ItzT K a b).go i H ∧ ∃ N : L2.St → Hp → Prop, (∀ σ' H', N σ' H' → ∃ m', m' < m ∧ W (i + 1) m' σ' H') ∧ ∀ v H', (RZ.ItzT K a b).yld i H v H' → g v σ H' fun σ2 H2 => tb { D with nx := N, ct := N, bk := D.nx } σ2 H2) := by
  refine ⟨fun i m σ H => m = xs.length - i ∧ i ≤ xs.length ∧ i ≤ ys.length ∧ Pv i σ H, ⟨xs.length, rfl, Nat.zero_le _, Nat.zero_le _, h0⟩, ?_⟩
  rintro i m σ H ⟨rfl, hi, hi2, p⟩
  obtain ⟨qx, qy⟩ := hq i σ H p
  by_cases hlt : i < xs.length ∧ i < ys.length
  · have hx : xs[i]? = some xs[i] := List.getElem?_eq_getElem hlt.1
    have hy : ys[i]? = some ys[i] := List.getElem?_eq_getElem hlt.2
    refine .inr ⟨⟨xs, ys, _, _, qx, qy, hx, hy⟩, Pv (i + 1), fun σ' H' p' => ⟨xs.length - (i + 1), by omega, rfl, hlt.1, hlt.2, p'⟩, fun v H' y => ?_⟩
    obtain ⟨T, x', y', rfl, hT, rfl, f1, f2⟩ := y
    exact hs i x' y' T σ H (f1 xs qx) (f2 ys qy) p hT
  · have e : i = xs.length ∨ i = ys.length := by omega
    refine .inl ⟨⟨xs, ys, qx, qy, ?_⟩, hd i σ H hi hi2 e p⟩
    omega
theorem aheadAt_at {S : Sys} {c d : List Int} : ∀ {Ss : List Sys} {i k : Int}, i ≤ k → Ss[(k - i).toNat]? = some S → aheadAt Ss i k c d = S.ahead c d
  | [], i, k, _, h => by simp at h
  | R :: Ss, i, k, hk, h => by
    unfold aheadAt
    by_cases e : k = i
    · subst e
      rw [if_pos rfl]
      rw [Int.sub_self] at h
      have h' : R = S := by simpa using h
      rw [h']
    · rw [if_neg e]
      refine aheadAt_at (by omega) ?_
      have e2 : (k - i).toNat = (k - (i + 1)).toNat + 1 := by omega
      rw [e2] at h
      simpa using h
/-- an address has a step -/
theorem adr_row {j : J} {a : List Int} (h : a ∈ j.adr) : ∃ v, (a, v) ∈ j.sys.rows := by
  rw [← J.sys_adr j] at h
  obtain ⟨r, hr, rfl⟩ := List.mem_map.mp h
  exact ⟨r.2, hr⟩
theorem row_adr {j : J} {a : List Int} {v : Int} (h : (a, v) ∈ j.sys.rows) : a ∈ j.adr := by
  rw [← J.sys_adr j]
  exact List.mem_map.mpr ⟨_, h, rfl⟩
theorem adr_st {i : Int} {a : List Int} (h : a ∈ (J.st i).adr) : a = [] := by
  simpa [J.adr] using h
theorem adr_ps {b : Bool} {xs : List J} {k : Int} {r : List Int} (h : (k :: r) ∈ (J.ps b xs).adr) : 0 ≤ k ∧ ∃ y, xs[k.toNat]? = some y ∧ r ∈ y.adr := by
  obtain ⟨v, hv⟩ := adr_row h
  obtain ⟨h1, y, h2, h3⟩ := rows_ps hv
  exact ⟨h1, y, h2, row_adr h3⟩
theorem adr_rn {b : Bool} {n : Int} {x : J} {k : Int} {r : List Int} (h : (k :: r) ∈ (J.rn b n x).adr) : 0 ≤ k ∧ r ∈ x.adr ∧ (List.replicate (if 0 < x.steps then n.toNat else 0) x.sys)[k.toNat]? = some x.sys := by
  obtain ⟨v, hv⟩ := adr_row h
  simp only [J.sys, comp] at hv
  obtain ⟨h1, S, h2, h3⟩ := cRows_at hv
  rw [Int.sub_zero] at h2
  obtain ⟨_, rfl⟩ := List.mem_replicate.mp (List.mem_of_getElem? h2)
  exact ⟨h1, row_adr h3, h2⟩
theorem ahead_ps {b : Bool} {xs : List J} {k m : Int} {c d : List Int} {y : J} (h0 : 0 ≤ k) (hy : xs[k.toNat]? = some y) : (J.ps b xs).sys.ahead (k :: c) (m :: d) = if k ≠ m then !b && decide (k < m) else y.sys.ahead c d := by
  simp only [J.sys, comp, cAhead]
  congr 1
  refine aheadAt_at h0 ?_
  rw [Int.sub_zero, J.syss_eq, List.getElem?_map, hy]
  rfl
theorem ahead_rn {b : Bool} {n : Int} {x : J} {k m : Int} {c d : List Int} (h0 : 0 ≤ k) (hy : (List.replicate (if 0 < x.steps then n.toNat else 0) x.sys)[k.toNat]? = some x.sys) : (J.rn b n x).sys.ahead (k :: c) (m :: d) = if k ≠ m then !b && decide (k < m) else x.sys.ahead c d := by
  simp only [J.sys, comp, cAhead]
  congr 1
  refine aheadAt_at h0 ?_
  rw [Int.sub_zero, hy]
theorem ahead_nil {j : J} {a b : List Int} (ha : a ∈ j.adr) (hb : b ∈ j.adr) (h : a = [] ∨ b = []) : j.sys.ahead a b = false := by
  cases j with
  | st i => rfl
  | ps k xs =>
    simp only [J.sys, comp]
    rcases h with rfl | rfl
    · rfl
    · cases a <;> rfl
  | rn k n x =>
    simp only [J.sys, comp]
    rcases h with rfl | rfl
    · rfl
    · cases a <;> rfl
theorem w_in_sr (k : Bool) : inV (.str (kwP k)) [.str "seq", .str "repeat"] = !k := by cases k <;> decide +kernel
theorem w_in_sr2 (k : Bool) : inV (.str (kwR k)) [.str "seq", .str "repeat"] = !k := by cases k <;> decide +kernel
section
variable {P : Program} {w : World} {K : PySem.W.Frag} {mg : Str → Option Value} {base : Heap}
theorem ok_ahead (T : Txt K mg) : FnOk P w K mg base CX0 1 T.f__law_ahead T.d__law_ahead ["_law_job_here", "_law_one", "_law_other"] (spAhead K) := by
  refine T.F__law_ahead.ok sc__law_ahead (fun vs H Q E h => ?_) (fun cdv A outer s H vs Q E hr h => ?_)
  · obtain ⟨v, j, t1, t2, a, b, rfl, _⟩ := h
    rfl
  obtain ⟨v, j, t1, t2, a, b, rfl, hd, h1, h2, ha, hb, hdeep, q⟩ := h
  refine ⟨_, (pss_cons (ps_for PassesOwn.never rfl (RZ.pi_zipA (by rfl) T.n_zip (pa_cons (pv 1) (pa_cons (pv 2) pa_nil))) (pg_tup (by rfl) (pgs_cons (pg_name (i := 3) sc__law_ahead.nd rfl (Or.inl rfl)) (pgs_cons (pg_name (i := 4) sc__law_ahead.nd rfl (Or.inl rfl)) pgs_nil)))
        (pss_cons (ps_if (pt_cmpR op_ne (pv 3) (pv 4) (nomark _)) (pss_one (ps_ret (pe_and (pe_cmpR (r := rIn K false) op_in_seq (pe_ix (r := rIxT K) ix_tup (pv 0) pe_int (fun _ _ => rfl)) (pe_tup (pa_cons pe_str (pa_cons pe_str pa_nil))) (by rfl)) (pe_one (pe_cmpR op_lt (pv 3) (pv 4) (nomark _)))))) pss_nil)
        (pss_one (ps_set (i := 0) sc__law_ahead.nd rfl (Or.inl rfl) (pe_ifExp (pt_cmpR (r := rIn K false) op_in_seq (pe_ix (r := rIxT K) ix_tup (pv 0) pe_int (fun _ _ => rfl)) (pe_tup (pa_cons pe_str (pa_cons pe_str pa_nil))) (by rfl)) (pe_ix (r := rIxT K) ix_tup (pe_ix (r := rIxT K) ix_tup (pv 0) pe_int (fun _ _ => rfl)) (pv 3) (fun _ _ => rfl)) (pe_ix (r := rIxT K) ix_tup (pv 0) pe_int (fun _ _ => rfl)))))))
      (pss_one (ps_ret pe_bl))), ?_⟩
  refine ⟨_, rfl, _, rfl, t1, t2, _, _, rfl, .inr ⟨h1, h2, ?_⟩⟩
  refine for_zipT2 (K := K) (xs := a.map V.int) (ys := b.map V.int) (fun i σ H' => ∃ (u : V) (y : J) (y3 y4 : Option V), σ = [some u, some (.ref t1), some (.ref t2), y3, y4] ∧ Same H H' ∧ Dp K H' u y.toD ∧
      a.drop i ∈ y.adr ∧ b.drop i ∈ y.adr ∧ j.sys.ahead a b = y.sys.ahead (a.drop i) (b.drop i))
    ⟨v, j, none, none, rfl, Same.refl _, hd, by simpa using ha, by simpa using hb, by simp⟩ (fun i σ H' ⟨_, _, _, _, _, s1, _⟩ => ⟨same_sqT s1 h1, same_sqT s1 h2⟩) ?_ ?_
  · rintro i x x2 t σ H' hi hi2 ⟨u, y, y3, y4, rfl, s1, hu, hya, hyb, hah⟩ ht
    rw [List.getElem?_map] at hi hi2
    obtain ⟨k, ek, rfl⟩ := Option.map_eq_some_iff.mp hi
    obtain ⟨m, em, rfl⟩ := Option.map_eq_some_iff.mp hi2
    obtain ⟨hlt, ek'⟩ := List.getElem?_eq_some_iff.mp ek
    obtain ⟨hlt2, em'⟩ := List.getElem?_eq_some_iff.mp em
    have da : a.drop i = k :: a.drop (i + 1) := by rw [← ek']; exact List.drop_eq_getElem_cons hlt
    have db : b.drop i = m :: b.drop (i + 1) := by rw [← em']; exact List.drop_eq_getElem_cons hlt2
    rw [da] at hya
    rw [db] at hyb
    rw [da, db] at hah
    have s2 : Same H' (upd H' t (.tup [.int k, .int m])) := same_new ht
    have qt : SqT K (upd H' t (.tup [.int k, .int m])) t [.int k, .int m] := SqT.of upd_same
    generalize (upd H' t (.tup [.int k, .int m])) = H2 at s2 qt ⊢
    refine ⟨t, _, rfl, qt, rfl, _, _, rfl, _, _, rfl, rfl, ?_⟩
    refine ⟨_, rfl, _, rfl, rfl, _, rfl, ?_⟩
    rw [w_dec_int]
    cases y with
    | st z => exact absurd (adr_st hya) (by simp)
    | ps kb xs =>
      obtain ⟨k0, y', ey, hya'⟩ := adr_ps hya
      obtain ⟨m0, y'', ey2, hyb'⟩ := adr_ps hyb
      rw [ahead_ps k0 ey] at hah
      obtain ⟨c, d, vs, rfl, hys, hvs, hall⟩ := ps_inv hu
      by_cases km : k = m
      · subst km
        rw [ey] at ey2
        obtain rfl := Option.some.inj ey2
        simp only [ne_eq, not_true_eq_false, if_false] at hah
        rw [decide_eq_true rfl]
        refine iteF ?_
        have len : vs.length = xs.length := parts_len hall
        have hlt3 : k.toNat < xs.length := (List.getElem?_eq_some_iff.mp ey).1
        obtain ⟨z, ez, eat⟩ := atI_ex (vs := vs) k0 (by omega)
        obtain ⟨j', ej', _, dj'⟩ := parts_at hall ez
        rw [ey] at ej'
        obtain rfl := Option.some.inj ej'
        refine ⟨_, rfl, _, _, _, _, rfl, rfl, same_sqT s2 hys, rfl, (by show 2 ≤ sizeLine; decide), fun t3 ht3 => ?_⟩
        refine ⟨t3, _, rfl, .inr (SqT.of upd_same), rfl, rfl, _, rfl, ?_⟩
        have s3 : Same H2 (upd H2 t3 (.tup [.str "seq", .str "par"])) := same_new ht3
        show if inV (.str (kwP kb)) [.str "seq", .str "par"] = true then _ else _
        rw [w_in_parts]
        refine iteT ?_
        generalize (upd H2 t3 (.tup [.str "seq", .str "par"])) = H3 at s3 ⊢
        have s23 := s2.trans s3
        refine ⟨_, rfl, _, _, _, _, rfl, rfl, same_sqT s23 hys, rfl, _, rfl, _, _, _, _, rfl, rfl, same_sqT s23 hvs, eat, ?_⟩
        exact ⟨_, _, _, _, rfl, s1.trans s23, dp_same s23 dj', hya', hyb', hah⟩
      · simp only [ne_eq, km, not_false_eq_true, if_true] at hah
        rw [decide_eq_false km]
        refine iteT ?_
        refine ⟨_, rfl, _, _, _, _, rfl, rfl, same_sqT s2 hys, rfl, (by show 2 ≤ sizeLine; decide), fun t3 ht3 => ?_⟩
        refine ⟨t3, _, rfl, .inr (SqT.of upd_same), rfl, rfl, ?_⟩
        refine ⟨_, rfl, ?_⟩
        rw [w_in_sr]
        cases kb with
        | true =>
          refine iteF ?_
          have hq := q _ (s1.trans (s2.trans (same_new (o := .tup [.str "seq", .str "repeat"]) ht3)))
          rw [hah] at hq
          exact hq
        | false =>
          refine iteT ?_
          refine ⟨_, rfl, _, rfl, _, _, rfl, rfl, ?_⟩
          have hq := q _ (s1.trans (s2.trans (same_new (o := .tup [.str "seq", .str "repeat"]) ht3)))
          rw [hah] at hq
          exact hq
    | rn kb n x =>
      obtain ⟨k0, hya', ey⟩ := adr_rn hya
      obtain ⟨m0, hyb', ey2⟩ := adr_rn hyb
      rw [ahead_rn k0 ey] at hah
      obtain ⟨c, z, rfl, hys, hx⟩ := rn_inv hu
      by_cases km : k = m
      · subst km
        simp only [ne_eq, not_true_eq_false, if_false] at hah
        rw [decide_eq_true rfl]
        refine iteF ?_
        refine ⟨_, rfl, _, _, _, _, rfl, rfl, same_sqT s2 hys, rfl, (by show 2 ≤ sizeLine; decide), fun t3 ht3 => ?_⟩
        refine ⟨t3, _, rfl, .inr (SqT.of upd_same), rfl, rfl, _, rfl, ?_⟩
        have s3 : Same H2 (upd H2 t3 (.tup [.str "seq", .str "par"])) := same_new ht3
        show if inV (.str (kwR kb)) [.str "seq", .str "par"] = true then _ else _
        rw [w_in_parts_no]
        refine iteF ?_
        generalize (upd H2 t3 (.tup [.str "seq", .str "par"])) = H3 at s3 ⊢
        have s23 := s2.trans s3
        refine ⟨_, rfl, _, _, _, _, rfl, rfl, same_sqT s23 hys, rfl, ?_⟩
        exact ⟨_, _, _, _, rfl, s1.trans s23, dp_same s23 hx, hya', hyb', hah⟩
      · simp only [ne_eq, km, not_false_eq_true, if_true] at hah
        rw [decide_eq_false km]
        refine iteT ?_
        refine ⟨_, rfl, _, _, _, _, rfl, rfl, same_sqT s2 hys, rfl, (by show 2 ≤ sizeLine; decide), fun t3 ht3 => ?_⟩
        refine ⟨t3, _, rfl, .inr (SqT.of upd_same), rfl, rfl, ?_⟩
        refine ⟨_, rfl, ?_⟩
        rw [w_in_sr2]
        cases kb with
        | true =>
          refine iteF ?_
          have hq := q _ (s1.trans (s2.trans (same_new (o := .tup [.str "seq", .str "repeat"]) ht3)))
          rw [hah] at hq
          exact hq
        | false =>
          refine iteT ?_
          refine ⟨_, rfl, _, rfl, _, _, rfl, rfl, ?_⟩
          have hq := q _ (s1.trans (s2.trans (same_new (o := .tup [.str "seq", .str "repeat"]) ht3)))
          rw [hah] at hq
          exact hq
  · rintro i σ H' hi hi2 e ⟨u, y, y3, y4, rfl, s1, hu, hya, hyb, hah⟩
    rw [List.length_map] at hi hi2 e
    rw [List.length_map] at e
    have hq := q _ s1
    rw [hah, ahead_nil hya hyb (by rcases e with e | e <;> (subst e; simp))] at hq
    exact hq
end
/-! block Prec: precedes (behind bFind, bAhead, bRows) -/
theorem cRows_put : ∀ {Ss : List Sys} {i : Int} {m : Nat} {S : Sys} {r : List Int} {v : Int}, Ss[m]? = some S → (r, v) ∈ S.rows → ((i + (m : Int)) :: r, v) ∈ cRows Ss i
  | [], _, _, _, _, _, h, _ => by simp at h
  | S :: Ss, i, 0, _, r, v, h, hr => by
    simp only [List.getElem?_cons_zero, Option.some.injEq] at h
    subst h
    simp only [cRows, List.mem_append, pre, List.mem_map]
    exact .inl ⟨(r, v), hr, by simp⟩
  | S :: Ss, i, m + 1, _, r, v, h, hr => by
    simp only [List.getElem?_cons_succ] at h
    have := cRows_put (i := i + 1) h hr
    simp only [cRows, List.mem_append]
    right
    rw [show i + ((m + 1 : Nat) : Int) = i + 1 + (m : Int) by omega]
    exact this
theorem find_of_rows : ∀ (a : List Int) (j : J) (v : Int), (a, v) ∈ j.sys.rows → j.find (a.map .int) = some v
  | [], j, v, h => by
    rw [rows_nil h]
    rfl
  | k :: r, j, v, h => by
    rw [List.map_cons, find_int]
    cases j with
    | st i =>
      simp only [J.sys, List.mem_singleton, Prod.mk.injEq] at h
      cases h.1
    | ps b xs =>
      obtain ⟨k0, y, ey, hy⟩ := rows_ps h
      simp only [J.part]
      rw [if_neg (by omega), ey]
      exact find_of_rows r y v hy
    | rn b n x =>
      have hy := rows_rn h
      obtain ⟨k0, _, e⟩ := adr_rn (row_adr h)
      have hlt := (List.getElem?_eq_some_iff.mp e).1
      rw [List.length_replicate] at hlt
      have hkn : k < n := by
        split at hlt <;> omega
      simp only [J.part]
      rw [if_neg (by omega), if_pos hkn]
      exact find_of_rows r x v hy
theorem rows_of_find : ∀ (a : List Int) (j : J) (v : Int), j.stb → j.find (a.map .int) = some v → (a, v) ∈ j.sys.rows
  | [], j, v, _, h => by
    cases j with
    | st i =>
      cases h
      simp [J.sys]
    | ps b xs => cases h
    | rn b n x => cases h
  | k :: r, j, v, hs, h => by
    rw [List.map_cons, find_int] at h
    cases j with
    | st i => cases h
    | ps b xs =>
      simp only [J.stb] at hs
      simp only [J.part] at h
      split at h
      · cases h
      · rename_i y ey
        split at ey
        · cases ey
        · have ih := rows_of_find r y v (J.stbL_mem hs.2 (List.mem_of_getElem? ey)) h
          have e2 : (J.syss xs)[k.toNat]? = some y.sys := by rw [J.syss_eq, List.getElem?_map, ey]; rfl
          have := cRows_put (i := 0) e2 ih
          simp only [J.sys, comp]
          rw [show (0 : Int) + ((k.toNat : Nat) : Int) = k by omega] at this
          exact this
    | rn b n x =>
      simp only [J.stb] at hs
      simp only [J.part] at h
      split at h
      · cases h
      · rename_i y ey
        split at ey
        · cases ey
        · split at ey
          · cases ey
            rename_i h1 h2
            have ih := rows_of_find r x v hs.2.1 h
            have hpos : 0 < x.steps := by
              have h3 := J.adr_len x hs.2.1
              have h4 := List.length_pos_of_mem (row_adr ih)
              omega
            have e2 : (List.replicate (if 0 < x.steps then n.toNat else 0) x.sys)[k.toNat]? = some x.sys := by
              rw [if_pos hpos, List.getElem?_replicate, if_pos (by omega)]
            have := cRows_put (i := 0) e2 ih
            simp only [J.sys, comp]
            rw [show (0 : Int) + ((k.toNat : Nat) : Int) = k by omega] at this
            exact this
          · cases ey
theorem find_adr {a : List Int} {j : J} {v : Int} (hs : j.stb) (h : j.find (a.map .int) = some v) : a ∈ j.adr := row_adr (rows_of_find a j v hs h)
theorem adr_find {a : List Int} {j : J} (h : a ∈ j.adr) : ∃ v, j.find (a.map .int) = some v := by
  obtain ⟨v, hv⟩ := adr_row h
  exact ⟨v, find_of_rows a j v hv⟩
def spChk0 (K : PySem.W.Frag) : Sp := fun vs H Q _ => ∃ (v u : V) (j : J) (p : Addr) (d : PyData) (i : Int), vs = [v, u] ∧ Dp K H v j.toD ∧ Dq K p H u d ∧ d.bulk ≤ 80000 ∧ fdD j d = some i ∧ ∀ H', Same H H' → Q (.int i) H'
def spPrec (K : PySem.W.Frag) : Sp := fun vs H Q _ => ∃ (v : V) (j : J) (t1 t2 : Addr) (a b : List Int), vs = [v, .ref t1, .ref t2] ∧ Dp K H v j.toD ∧ (szJ j 400 13).isSome = true ∧ SqT K H t1 (a.map V.int) ∧ SqT K H t2 (b.map V.int) ∧ a ∈ j.adr ∧ b ∈ j.adr ∧
  ∀ H', Same H H' → Q (.bl (j.sys.ahead a b)) H'
theorem ints_dq {K : PySem.W.Frag} {p : Addr} {H : Hp} : ∀ a : List Int, DqAll K p H (a.map V.int) (a.map .int)
  | [] => .nil
  | k :: a => .cons (.int k) (ints_dq a)
theorem ints_bulk : ∀ a : List Int, PyData.bulkAll (a.map .int) ≤ 2 * a.length
  | [] => by simp [PyData.bulkAll]
  | k :: a => by
    have := ints_bulk a
    simp only [List.map_cons, PyData.bulkAll, PyData.bulk, List.length_cons]
    omega
section
variable {P : Program} {w : World} {K : PySem.W.Frag} {mg : Str → Option Value} {base : Heap}
theorem ok_chk0 (T : Txt K mg) : FnOk P w K mg base CX0 4 T.f__checked_step T.d__checked_step ["job", "address"] (spChk0 K) := by
  have g_find_step := ok_find (P := P) (w := w) (base := base) T
  refine T.F__checked_step.ok sc__checked_step (fun vs H Q E h => ?_) (fun cdv A outer s H vs Q E hr h => ?_)
  · obtain ⟨v, u, j, p, d, i, rfl, _⟩ := h
    rfl
  obtain ⟨v, u, j, p, d, i, rfl, hd, hu, hb, ef, q⟩ := h
  refine ⟨_, (pss_cons (ps_set (i := 2) sc__checked_step.nd rfl (Or.inl rfl) (pe_call g_find_step (hr.mono (by omega)) rfl T.m_find_step T.F_find_step.kp T.b_find_step .nil pass0 (pa_cons (pv 0) (pa_cons (pv 1) pa_nil))))
      (pss_cons (ps_if (pt_cmpR op_isN (pv 2) pe_non (nomark _)) (pss_one ps_never) pss_nil)
      (pss_one (ps_ret (pv 2))))), ?_⟩
  refine ⟨_, rfl, _, rfl, v, u, j, p, d, rfl, hd, hu, hb, fun H1 s1 => ?_⟩
  rw [ef]
  refine ⟨_, rfl, rfl, _, rfl, ?_⟩
  refine iteF ?_
  exact ⟨_, rfl, q _ s1⟩
theorem ok_prec (T : Txt K mg) : FnOk P w K mg base CX0 45 T.f_precedes T.d_precedes ["job", "first", "second"] (spPrec K) := by
  have g_checked_sizes := ok_checked (P := P) (w := w) (base := base) T
  have g__checked_step := ok_chk0 (P := P) (w := w) (base := base) T
  have g__part_at := ok_part (P := P) (w := w) (base := base) T
  refine T.F_precedes.ok sc_precedes (fun vs H Q E h => ?_) (fun cdv A outer s H vs Q E hr h => ?_)
  · obtain ⟨v, j, t1, t2, a, b, rfl, _⟩ := h
    rfl
  obtain ⟨v, j, t1, t2, a, b, rfl, hd, hs, h1, h2, ha, hb, q⟩ := h
  obtain ⟨⟨a0, b0⟩, ez⟩ := Option.isSome_iff_exists.mp hs
  have inv := szJ_inv j 400 13 a0 b0 ez
  have hdp : j.deep ≤ 13 := by have := inv.2.2.1; omega
  have la := J.adr_deep j a ha
  have lb := J.adr_deep j b hb
  have bka : (PyData.tuple (a.map .int)).bulk ≤ 80000 := by
    have := ints_bulk a
    simp only [PyData.bulk]
    omega
  have bkb : (PyData.tuple (b.map .int)).bulk ≤ 80000 := by
    have := ints_bulk b
    simp only [PyData.bulk]
    omega
  obtain ⟨va, ea⟩ := adr_find ha
  obtain ⟨vb, eb⟩ := adr_find hb
  refine ⟨_, (pss_cons (ps_expr (pe_call g_checked_sizes (hr.mono (by omega)) rfl T.m_checked_sizes T.F_checked_sizes.kp T.b_checked_sizes .nil pass0 (pa_cons (pv 0) pa_nil)))
      (pss_cons (ps_expr (pe_call g__checked_step (hr.mono (by omega)) rfl T.m__checked_step T.F__checked_step.kp T.b__checked_step .nil pass0 (pa_cons (pv 0) (pa_cons (pv 1) pa_nil))))
      (pss_cons (ps_expr (pe_call g__checked_step (hr.mono (by omega)) rfl T.m__checked_step T.F__checked_step.kp T.b__checked_step .nil pass0 (pa_cons (pv 0) (pa_cons (pv 2) pa_nil))))
      (pss_cons (ps_set (i := 3) sc_precedes.nd rfl (Or.inl rfl) (pv 0))
      (pss_cons (ps_for PassesOwn.never rfl (RZ.pi_zipA (by rfl) T.n_zip (pa_cons (pv 1) (pa_cons (pv 2) pa_nil))) (pg_tup (by rfl) (pgs_cons (pg_name (i := 4) sc_precedes.nd rfl (Or.inl rfl)) (pgs_cons (pg_name (i := 5) sc_precedes.nd rfl (Or.inl rfl)) pgs_nil)))
        (pss_cons (ps_if (pt_cmpR op_ne (pv 4) (pv 5) (nomark _)) (pss_one (ps_ret (pe_and (pe_cmpR (r := rIn K false) op_in_seq (pe_ix (r := rIxT K) ix_tup (pv 3) pe_int (fun _ _ => rfl)) (pe_tup (pa_cons pe_str (pa_cons pe_str pa_nil))) (by rfl)) (pe_one (pe_cmpR op_lt (pv 4) (pv 5) (nomark _)))))) pss_nil)
        (pss_one (ps_set (i := 3) sc_precedes.nd rfl (Or.inl rfl) (pe_call g__part_at (hr.mono (by omega)) rfl T.m__part_at T.F__part_at.kp T.b__part_at .nil pass0 (pa_cons (pv 3) (pa_cons (pv 4) pa_nil)))))))
      (pss_one (ps_ret pe_bl))))))), ?_⟩
  refine ⟨_, rfl, v, j, a0, b0, rfl, hd, by omega, ez, fun H1 t s1 e1 => ?_⟩
  refine ⟨_, rfl, _, rfl, v, .ref t1, j, t1, .tuple (a.map .int), va, rfl, dp_same s1 hd, .tup (same_sqT s1 h1) (ints_dq a), bka, ea, fun H2 s2 => ?_⟩
  have s12 := s1.trans s2
  refine ⟨_, rfl, _, rfl, v, .ref t2, j, t2, .tuple (b.map .int), vb, rfl, dp_same s12 hd, .tup (same_sqT s12 h2) (ints_dq b), bkb, eb, fun H3 s3 => ?_⟩
  have s13 := s12.trans s3
  refine ⟨_, rfl, ?_⟩
  refine ⟨_, rfl, _, rfl, t1, t2, _, _, rfl, .inr ⟨same_sqT s13 h1, same_sqT s13 h2, ?_⟩⟩
  refine for_zipT2 (K := K) (xs := a.map V.int) (ys := b.map V.int) (fun i σ H' => ∃ (u : V) (y : J) (y3 y4 : Option V), σ = [some v, some (.ref t1), some (.ref t2), some u, y3, y4] ∧ Same H H' ∧ Dp K H' u y.toD ∧
      a.drop i ∈ y.adr ∧ b.drop i ∈ y.adr ∧ j.sys.ahead a b = y.sys.ahead (a.drop i) (b.drop i))
    ⟨v, j, none, none, rfl, s13, dp_same s13 hd, by simpa using ha, by simpa using hb, by simp⟩ (fun i σ H' ⟨_, _, _, _, _, s1, _⟩ => ⟨same_sqT s1 h1, same_sqT s1 h2⟩) ?_ ?_
  · rintro i x x2 t σ H' hi hi2 ⟨u, y, y3, y4, rfl, s1, hu, hya, hyb, hah⟩ ht
    rw [List.getElem?_map] at hi hi2
    obtain ⟨k, ek, rfl⟩ := Option.map_eq_some_iff.mp hi
    obtain ⟨m, em, rfl⟩ := Option.map_eq_some_iff.mp hi2
    obtain ⟨hlt, ek'⟩ := List.getElem?_eq_some_iff.mp ek
    obtain ⟨hlt2, em'⟩ := List.getElem?_eq_some_iff.mp em
    have da : a.drop i = k :: a.drop (i + 1) := by rw [← ek']; exact List.drop_eq_getElem_cons hlt
    have db : b.drop i = m :: b.drop (i + 1) := by rw [← em']; exact List.drop_eq_getElem_cons hlt2
    rw [da] at hya
    rw [db] at hyb
    rw [da, db] at hah
    have s2 : Same H' (upd H' t (.tup [.int k, .int m])) := same_new ht
    have qt : SqT K (upd H' t (.tup [.int k, .int m])) t [.int k, .int m] := SqT.of upd_same
    generalize (upd H' t (.tup [.int k, .int m])) = H2 at s2 qt ⊢
    refine ⟨t, _, rfl, qt, rfl, _, _, rfl, _, _, rfl, rfl, ?_⟩
    refine ⟨_, rfl, _, rfl, rfl, _, rfl, ?_⟩
    rw [w_dec_int]
    have hah2 : ∃ z, y.part k = some z ∧ (k = m → a.drop (i + 1) ∈ z.adr ∧ b.drop (i + 1) ∈ z.adr) ∧ j.sys.ahead a b = if k ≠ m then y.sq && decide (k < m) else z.sys.ahead (a.drop (i + 1)) (b.drop (i + 1)) := by
      cases y with
      | st z => exact absurd (adr_st hya) (by simp)
      | ps kb xs =>
        obtain ⟨k0, y', ey, hya'⟩ := adr_ps hya
        obtain ⟨m0, y'', ey2, hyb'⟩ := adr_ps hyb
        rw [ahead_ps k0 ey] at hah
        refine ⟨y', by simp only [J.part]; rw [if_neg (by omega), ey], fun e => ⟨hya', ?_⟩, hah⟩
        subst e
        rw [ey] at ey2
        obtain rfl := Option.some.inj ey2
        exact hyb'
      | rn kb n x =>
        obtain ⟨k0, hya', ey⟩ := adr_rn hya
        obtain ⟨m0, hyb', ey2⟩ := adr_rn hyb
        rw [ahead_rn k0 ey] at hah
        have hlt := (List.getElem?_eq_some_iff.mp ey).1
        rw [List.length_replicate] at hlt
        have hkn : k < n := by
          split at hlt <;> omega
        exact ⟨x, by simp only [J.part]; rw [if_neg (by omega), if_pos hkn], fun e => ⟨hya', hyb'⟩, hah⟩
    obtain ⟨z, ez, hz, hah3⟩ := hah2
    have ety : isTup y.toD = true := by
      cases y with
      | st i => cases ez
      | ps b xs => rfl
      | rn b n x => rfl
    by_cases km : k = m
    · subst km
      simp only [ne_eq, not_true_eq_false, if_false] at hah3
      rw [decide_eq_true rfl]
      refine iteF ?_
      refine ⟨_, rfl, _, rfl, u, y, k, rfl, dp_same s2 hu, fun H3 r s3 hr3 => ?_⟩
      rw [ez] at hr3
      exact ⟨r, z, _, _, rfl, s1.trans (s2.trans s3), hr3, (hz rfl).1, (hz rfl).2, hah3⟩
    · simp only [ne_eq, km, not_false_eq_true, if_true] at hah3
      rw [decide_eq_false km]
      refine iteT ?_
      obtain ⟨tj, ysj, xj, rfl, hwj, hsq⟩ := j_word ety (dp_same s2 hu)
      refine ⟨_, rfl, _, _, _, _, rfl, rfl, hwj, atI_at (j := 0) rfl rfl, (by show 2 ≤ sizeLine; decide), fun t3 ht3 => ?_⟩
      refine ⟨t3, _, rfl, .inr (SqT.of upd_same), rfl, rfl, ?_⟩
      refine ⟨_, rfl, ?_⟩
      have hq := q _ (s1.trans (s2.trans (same_new (o := .tup [.str "seq", .str "repeat"]) ht3)))
      rw [hah3] at hq
      show if inV (.str xj) [.str "seq", .str "repeat"] = true then _ else _
      rw [hsq]
      cases esq : y.sq with
      | true =>
        rw [esq] at hq
        refine iteT ?_
        refine ⟨_, rfl, _, rfl, _, _, rfl, rfl, ?_⟩
        exact hq
      | false =>
        rw [esq] at hq
        refine iteF ?_
        exact hq
  · rintro i σ H' hi hi2 e ⟨u, y, y3, y4, rfl, s1, hu, hya, hyb, hah⟩
    rw [List.length_map] at hi hi2 e
    rw [List.length_map] at e
    have hq := q _ s1
    rw [hah, ahead_nil hya hyb (by rcases e with e | e <;> (subst e; simp))] at hq
    exact hq
end
/-! block Drawn: _law_drawn, the address of a drawn step (behind bJob, bSteps, bFind) -/
theorem atI_lastI {ns : List Int} {z : Int} (h : ns.getLast? = some z) : atI (ns.map V.int) (-1) = some (.int z) := by
  obtain ⟨l, rfl⟩ := List.getLast?_eq_some_iff.mp h
  rw [List.map_append]
  exact L2.atI_last _ _
theorem rCatA_n {K : PySem.W.Frag} {H : Hp} {Q : VK} {a b : Addr} {xs ys : List V} (h1 : SqT K H a xs) (h2 : H b = some (.tup ys)) (ne : ys ≠ []) (hl : xs.length + ys.length ≤ sizeLine)
    (h : ∀ (H' : Hp) (t : Addr), Same H H' → H' t = some (.tup (xs ++ ys)) → Q (.ref t) H') : rCatA K (.ref a) (.ref b) H Q := by
  refine ⟨a, b, xs, ys, rfl, rfl, h1, SqT.of h2, hl, fun z => ?_, fun _ z => absurd z ne, fun _ _ p hp => ?_⟩
  · subst z
    exact h H b (Same.refl _) h2
  · exact h _ p (same_new hp) upd_same
/-- how many indices there may yet be -/
def left (σ : L2.St) (H : Hp) : Nat := match σ[2]? with
  | some (some (V.ref t)) => match H t with
    | some (HO.tup xs) => 100 - xs.length
    | _ => 0
  | _ => 0
theorem left_of {σ : L2.St} {H : Hp} {t : Addr} {xs : List V} (h1 : σ[2]? = some (some (.ref t))) (h2 : H t = some (.tup xs)) : left σ H = 100 - xs.length := by
  simp only [left, h1, h2]
/-- from j by these indices to y -/
def Way (j : J) (a : List Int) (y : J) : Prop := ∀ r : List PyData, j.find (a.map .int ++ r) = y.find r
theorem Way.nil (j : J) : Way j [] j := fun _ => rfl
theorem Way.snoc {j y z : J} {a : List Int} {k : Int} (h : Way j a y) (e : y.part k = some z) : Way j (a ++ [k]) z := fun r => by
  rw [List.map_append, List.append_assoc, h]
  show y.find (.int k :: r) = z.find r
  rw [find_int, e]
structure AtD (K : PySem.W.Frag) (j : J) (p : Addr) (m : Nat) (H0 H : Hp) (u : V) (t : Addr) (a : List Int) (y : J) (n : Nat) : Prop where
  sx : Sx p H0 H
  pot : Pot H p n
  few : n + 2 * y.deep ≤ m + 2 * j.deep
  job : Dp K H u y.toD
  ok : y.ok
  pos : 0 < y.steps
  tup : H t = some (.tup (a.map V.int))
  bd : ∀ k ∈ a, 0 ≤ k ∧ k ≤ M30
  len : a.length + y.deep ≤ j.deep
  way : Way j a y
/-- the numbers of the parts that have steps -/
def Fulls (xs : List J) (n : Nat) (is : List Int) : Prop := (∀ k ∈ is, ∃ (i : Nat) (y : J), k = (i : Int) ∧ xs[i]? = some y ∧ 0 < y.steps) ∧ (∀ (i : Nat) (y : J), i < n → xs[i]? = some y → 0 < y.steps → (i : Int) ∈ is)
theorem some_full : ∀ (xs : List J), 0 < J.stepsL xs → J.okL xs → ∃ (i : Nat) (y : J), xs[i]? = some y ∧ 0 < y.steps
  | [], h, _ => by simp [J.stepsL] at h
  | x :: xs, h, o => by
    by_cases e : 0 < x.steps
    · exact ⟨0, x, rfl, e⟩
    · simp only [J.stepsL] at h
      obtain ⟨i, y, h1, h2⟩ := some_full xs (by omega) o.2
      exact ⟨i + 1, y, by simpa using h1, h2⟩
def spDrawn (K : PySem.W.Frag) : Sp := fun vs H Q _ => ∃ (p : Addr) (m : Nat) (v : V) (j : J), vs = [.ref p, v] ∧ Pot H p m ∧ m + 2 * j.deep ≤ 1099511627776 ∧ Dp K H v j.toD ∧ j.ok ∧ 0 < j.steps ∧ j.deep ≤ 20 ∧
  ∀ (H' : Hp) (t : Addr) (a : List Int) (i : Int), Sx p H H' → Pot H' p (m + 2 * j.deep) → SqT K H' t (a.map V.int) → a.length ≤ 20 → (∀ k ∈ a, 0 ≤ k ∧ k ≤ M30) → j.find (a.map .int) = some i → Q (.ref t) H'
section
variable {P : Program} {w : World} {K : PySem.W.Frag} {mg : Str → Option Value} {base : Heap}
theorem ok_drawn (T : Txt K mg) : FnOk P w K mg base CX0 21 T.f__law_drawn T.d__law_drawn ["_law_pot_here", "_law_job_here"] (spDrawn K) := by
  have g__law_take : FnOk P w K mg base CX0 1 T.f__law_take T.d__law_take ["_law_pot_here", "_law_many"] spTake := ok_take T
  have g__law_steps : FnOk P w K mg base CX0 20 T.f__law_steps T.d__law_steps ["_law_job_here"] (spLS K 20) := ok_ls T 20
  refine T.F__law_drawn.ok sc__law_drawn (fun vs H Q E h => ?_) (fun cdv A outer s H vs Q E hr h => ?_)
  · obtain ⟨p, m, v, j, rfl, _⟩ := h
    rfl
  obtain ⟨p, m, v, j, rfl, hp, hm, hd, hok, hpos, hdeep, q⟩ := h
  refine ⟨_, (pss_cons (ps_set (i := 2) sc__law_drawn.nd rfl (Or.inl rfl) (pe_tup pa_nil))
      (pss_cons (ps_while PassesOwn.never (pt_val (pe_callB (r := rIsD K) call_isD (by rfl) T.n_isinstance (by decide +kernel) (pa_cons (pv 1) (pa_cons (pe_bltn (v := .ty "tuple") (by rfl) T.n_tuple (by decide +kernel) rfl) pa_nil))))
        (pss_one (ps_if (pt_cmpR (r := rIn K false) op_in_seq (pe_ix (r := rIxT K) ix_tup (pv 1) pe_int (fun _ _ => rfl)) (pe_tup (pa_cons pe_str (pa_cons pe_str pa_nil))) (by rfl)) (pss_cons (ps_set (i := 3) sc__law_drawn.nd rfl (Or.inr rfl) (pe_lc (own := [("_law_part", 6)]) (g := (gName 6)) (by rfl) sc__law_drawn.nd (pi_tup (pe_ix (r := rIxT K) ix_tup (pv 1) pe_int (fun _ _ => rfl))) (blkOk_by (N := N__law_drawn) (sc := (defScope s__law_drawn)) (by decide +kernel)) (fun _ _ _ _ _ => (pg_name (i := 6) sc__law_drawn.nd rfl (Or.inl rfl))) (fun _ _ _ _ _ => pts_nil) (fun _ _ _ _ _ => (pe_call g__law_steps (hr.mono (by omega)) rfl T.m__law_steps T.F__law_steps.kp T.b__law_steps .nil pass0 (pa_cons (pv 6) pa_nil)))))
          (pss_cons (ps_setLc (i := 4) (own := [("_law_index", 5)]) (g := (gName 5)) (by rfl) sc__law_drawn.nd rfl rfl (sw_true rfl rfl rfl (by decide +kernel)) (pi_range1 rfl T.n_range (pa_cons (pe_callB (r := rLenS K) call_lenS (by rfl) T.n_len (by decide +kernel) (pa_cons (pv 3) pa_nil)) pa_nil)) (blkOk_by (N := N__law_drawn) (sc := (defScope s__law_drawn)) (by decide +kernel)) (fun _ _ _ _ _ => (pg_name (i := 5) sc__law_drawn.nd rfl (Or.inl rfl))) (fun _ _ _ _ _ => (pts_one (pt_cmpR op_gt (pe_ix (r := rIxL K) ix_list (pv 3) (pv 5) (fun _ _ => rfl)) pe_int (nomark _)))) (fun _ _ _ _ _ => (pv 5)))
          (pss_cons (ps_set (i := 2) sc__law_drawn.nd rfl (Or.inl rfl) (pe_op (r := rCatA K) op_catA (pv 2) (pe_tup (pa_cons (pe_ix (r := rIxL K) ix_list (pv 4) (pe_call g__law_take (hr.mono (by omega)) rfl T.m__law_take T.F__law_take.kp T.b__law_take .nil pass0 (pa_cons (pv 0) (pa_cons (pe_callB (r := rLenS K) call_lenS (by rfl) T.n_len (by decide +kernel) (pa_cons (pv 4) pa_nil)) pa_nil))) (fun _ _ => rfl)) pa_nil))))
          (pss_one (ps_set (i := 1) sc__law_drawn.nd rfl (Or.inl rfl) (pe_ix (r := rIxT K) ix_tup (pe_ix (r := rIxT K) ix_tup (pv 1) pe_int (fun _ _ => rfl)) (pe_ix (r := rIxT K) ix_tup (pv 2) (pe_un un_neg pe_int) (fun _ _ => rfl)) (fun _ _ => rfl))))))) (pss_cons (ps_set (i := 5) sc__law_drawn.nd rfl (Or.inl rfl) (pe_ix (r := rIxL K) ix_list (pe_lst (pa_cons pe_int (pa_cons (pe_op op_sub (pe_ix (r := rIxT K) ix_tup (pv 1) pe_int (fun _ _ => rfl)) pe_int) (pa_cons (pe_call g__law_take (hr.mono (by omega)) rfl T.m__law_take T.F__law_take.kp T.b__law_take .nil pass0 (pa_cons (pv 0) (pa_cons (pe_ix (r := rIxT K) ix_tup (pv 1) pe_int (fun _ _ => rfl)) pa_nil))) pa_nil)))) (pe_call g__law_take (hr.mono (by omega)) rfl T.m__law_take T.F__law_take.kp T.b__law_take .nil pass0 (pa_cons (pv 0) (pa_cons pe_int pa_nil))) (fun _ _ => rfl)))
          (pss_cons (ps_set (i := 2) sc__law_drawn.nd rfl (Or.inl rfl) (pe_op (r := rCatA K) op_catA (pv 2) (pe_tup (pa_cons (pv 5) pa_nil))))
          (pss_one (ps_set (i := 1) sc__law_drawn.nd rfl (Or.inl rfl) (pe_ix (r := rIxT K) ix_tup (pv 1) pe_int (fun _ _ => rfl)))))))))
      (pss_one (ps_ret (pv 2))))), ?_⟩
  obtain ⟨lp, hlp⟩ := hp.lst
  refine ⟨(by show 0 ≤ sizeLine; decide), fun t0 ht0 => ?_⟩
  have s0 : Same H (upd H t0 (.tup [])) := same_new ht0
  refine while_by (fun σ H' => ∃ (u : V) (t : Addr) (a : List Int) (y : J) (n : Nat) (y3 y4 y5 y6 : Option V), σ = [some (.ref p), some u, some (.ref t), y3, y4, y5, y6] ∧ AtD K j p m H H' u t a y n)
    left ⟨v, t0, [], j, m, none, none, none, none, rfl, Same.sx s0, hp.same s0, Nat.le_refl _, dp_same s0 hd, hok, hpos, upd_same, by simp, by simp, Way.nil j⟩ ?_ ?_
  · rintro σ H' ⟨u, t, a, y, n, y3, y4, y5, y6, rfl, A⟩
    obtain ⟨sx, hpn, few, du, yok, ypos, et, bd, hlen, way⟩ := A
    obtain ⟨ln, hln⟩ := hpn.lst
    have ntp : t ≠ p := fun z => by rw [z, hln] at et; cases et
    have hleft : left [some (.ref p), some u, some (.ref t), y3, y4, y5, y6] H' = 100 - a.length := by
      rw [left_of rfl et, List.length_map]
    refine ⟨_, rfl, _, _, _, _, rfl, du, kit_tuple _, _, rfl, ?_⟩
    cases y with
    | st i =>
      refine iteF ?_
      obtain rfl := dp_int_inv du
      have e := way []
      rw [List.append_nil] at e
      exact ⟨_, rfl, q _ t a i sx (hpn.mono (by simp only [J.deep] at few; omega)) (SqT.of et) (by omega) bd e⟩
    | ps kb xs =>
      refine iteT ?_
      obtain ⟨c, b, vs, rfl, hys, hvs, hall⟩ := ps_inv du
      have len : vs.length = xs.length := parts_len hall
      have yok' := yok
      simp only [J.ok] at yok'
      have hxl : xs.length ≤ 400 := by have := yok'.1; omega
      simp only [J.steps] at ypos
      simp only [J.deep] at few hlen
      refine ⟨_, rfl, _, _, _, _, rfl, rfl, hys, rfl, (by show 2 ≤ sizeLine; decide), fun t1 ht1 => ?_⟩
      refine ⟨t1, _, rfl, .inr (SqT.of upd_same), rfl, rfl, _, rfl, ?_⟩
      have s1 : Same H' (upd H' t1 (.tup [.str "seq", .str "par"])) := same_new ht1
      show if inV (.str (kwP kb)) [.str "seq", .str "par"] = true then _ else _
      rw [w_in_parts]
      refine iteT ?_
      generalize (upd H' t1 (.tup [.str "seq", .str "par"])) = H1 at s1 ⊢
      refine ⟨_, rfl, _, _, _, _, rfl, rfl, same_sqT s1 hys, rfl, b, rfl, ⟨vs, same_sqT s1 hvs⟩, fun D hD => ?_⟩
      refine lc_tup (K := K) (a := b) (xs := vs) (fun i H2 => Same H1 H2 ∧ H2 D = some (.lst (((xs.take i).map J.steps).map V.int))) ?_ ?_ ?_ ?_
      · exact ⟨same_new hD, upd_same⟩
      · rintro i H2 _ ⟨s2, _⟩
        exact same_sqT s2 (same_sqT s1 hvs)
      · rintro i x H2 hi ⟨s2, eD⟩
        obtain ⟨y', ey, my, dy⟩ := parts_at hall hi
        refine ⟨rfl, ?_⟩
        unfold tYes
        refine iteT ?_
        refine ⟨_, rfl, x, y', rfl, dp_same (s1.trans s2) dy, by have := deep_mem my; omega, ls_ok (ok_mem yok'.2.1 my), fun H3 s3 => ?_⟩
        refine ⟨_, s3 _ _ eD, ?_, ?_, ?_⟩
        · rw [List.length_map, List.length_map, List.length_take]
          exact small1000 (by omega)
        · intro c2 o hc
          rw [upd_ne (ne_of_none hc hD)]
          exact s3 _ _ (s2 _ _ hc)
        · rw [upd_same, take_step J.steps ey, List.map_append]
          rfl
      rintro H2 ⟨s2, eD⟩
      rw [len, List.take_length] at eD
      have s12 := s1.trans s2
      refine ⟨_, rfl, D, _, rfl, .inl (SqL.of eD), _, rfl, by omega, by simp only [List.length_map]; omega, fun D2 hD2 => ?_⟩
      rw [List.length_map, List.length_map, Int.toNat_natCast]
      refine lc_range (lo := 0) (n := xs.length) (fun i H3 => Same H2 H3 ∧ ∃ is : List Int, is.length ≤ i ∧ H3 D2 = some (.lst (is.map V.int)) ∧ Fulls xs i is) ?_ ?_ ?_
      · exact ⟨same_new hD2, [], by simp, by simpa using upd_same, by simp [Fulls]⟩
      · rintro i H3 hi ⟨s3, is, isl, eD2, fu⟩
        refine ⟨rfl, ?_⟩
        have ei : xs[i]? = some xs[i] := List.getElem?_eq_getElem hi
        have eat : atI ((xs.map J.steps).map V.int) (0 + (i : Int)) = some (.int xs[i].steps) := atI_at (j := i) (by omega) (by rw [List.getElem?_map, List.getElem?_map, ei]; rfl)
        refine ⟨_, rfl, _, rfl, _, _, _, _, rfl, rfl, SqL.of (s3 _ _ eD), eat, _, _, rfl, rfl, _, rfl, ?_⟩
        refine ite2 (fun z => ?_) (fun z => ?_)
        · refine ⟨_, rfl, _, eD2, ?_, ?_, is ++ [(0 + (i : Int))], ?_, ?_, ?_⟩
          · rw [List.length_map]
            exact small1000 (by omega)
          · intro c2 o hc
            rw [upd_ne (ne_of_none hc hD2)]
            exact s3 _ _ hc
          · rw [List.length_append, List.length_singleton]
            omega
          · rw [upd_same, List.map_append]
            rfl
          · refine ⟨fun k hk => ?_, fun m y' hm ey hy => ?_⟩
            · rw [List.mem_append, List.mem_singleton] at hk
              rcases hk with hk | rfl
              · exact fu.1 k hk
              · exact ⟨i, _, by omega, ei, of_decide_eq_true z⟩
            · rw [List.mem_append, List.mem_singleton]
              by_cases e : m = i
              · right
                omega
              · exact .inl (fu.2 m y' (by omega) ey hy)
        · refine ⟨s3, is, by omega, eD2, fu.1, fun m y' hm ey hy => ?_⟩
          by_cases e : m = i
          · subst e
            rw [ei] at ey
            obtain rfl := Option.some.inj ey
            exact absurd (decide_eq_true hy) z
          · exact fu.2 m y' (by omega) ey hy
      rintro H3 ⟨s3, is, isl, eD2, fu⟩
      have hne : 0 < is.length := by
        obtain ⟨i, y', ey, hy⟩ := some_full xs ypos yok'.2.1
        have := fu.2 i y' ((List.getElem?_eq_some_iff.mp ey).1) ey hy
        exact List.length_pos_of_mem this
      have s13 := s12.trans s3
      have hp3 := hpn.same s13
      obtain ⟨l3, hl3⟩ := hp3.lst
      have nD2 : D2 ≠ p := fun z => by rw [z, hl3] at eD2; cases eD2; rw [z] at hD2; obtain ⟨_, h2⟩ := (hpn.same s12).lst; rw [h2] at hD2; cases hD2
      refine ⟨_, rfl, _, rfl, _, rfl, _, rfl, D2, _, rfl, .inl (SqL.of eD2), p, n, _, rfl, hp3, by omega, ?_, ?_, fun H4 r s4 hp4 r0 r1 => ?_⟩
      · rw [List.length_map]
        omega
      · rw [List.length_map]
        exact Nat.lt_of_le_of_lt (show ((is.length : Int)).natAbs ≤ 400 by omega) (by decide)
      rw [List.length_map] at r1
      obtain ⟨k, hk, ek⟩ := atI_int (ns := is) r0 r1
      obtain ⟨i, z, rfl, ez, hz⟩ := fu.1 k hk
      have S4 : Sx p H' H4 := (Same.sx s13).trans s4
      refine ⟨_, _, _, _, rfl, rfl, SqL.of (s4 _ _ nD2 eD2), ek, (by show 1 ≤ sizeLine; decide), fun t2 ht2 => ?_⟩
      have s5 : Same H4 (upd H4 t2 (.tup [.int (i : Int)])) := same_new ht2
      have et2 : upd H4 t2 (.tup [.int (i : Int)]) t2 = some (.tup [.int (i : Int)]) := upd_same
      generalize (upd H4 t2 (.tup [.int (i : Int)])) = H5 at s5 et2 ⊢
      have et5 := s5 _ _ (S4 _ _ ntp et)
      refine rCatA_n (SqT.of et5) et2 (by simp) (by rw [List.length_map]; exact small (by simp only [List.length_singleton]; omega)) fun H6 t6 s6 et6 => ?_
      have S6 : Sx p H' H6 := S4.trans (Same.sx (s5.trans s6))
      have hp6 := hp4.same (s5.trans s6)
      have kk : ∀ a xs, SqT K H' a xs → SqT K H6 a xs := fun a xs h => S6.sqT hln h
      have hl2 : atI ((a ++ [(i : Int)]).map V.int) (-1) = some (.int (i : Int)) := atI_lastI (by simp)
      have hiv : i < vs.length := by rw [len]; exact (List.getElem?_eq_some_iff.mp ez).1
      obtain ⟨z', ez', _, dz⟩ := parts_at hall (List.getElem?_eq_getElem hiv)
      rw [ez] at ez'
      obtain rfl := Option.some.inj ez'
      have et6' : H6 t6 = some (.tup ((a ++ [(i : Int)]).map V.int)) := by rw [et6, List.map_append]; rfl
      refine ⟨_, rfl, _, _, _, _, rfl, rfl, kk _ _ hys, rfl, _, rfl, _, rfl, _, _, _, _, rfl, rfl, SqT.of et6', hl2, _, _, _, _, rfl, rfl, kk _ _ hvs, atI_at (j := i) rfl (List.getElem?_eq_getElem hiv), ?_⟩
      have hdz := deep_mem (List.mem_of_getElem? ez)
      refine ⟨⟨_, t6, a ++ [(i : Int)], z, n + 1, _, _, _, _, rfl, sx.trans S6, hp6, by omega, dp_keep kk z.noL dz, ok_mem yok'.2.1 (List.mem_of_getElem? ez), hz, et6', ?_, ?_, way.snoc ?_⟩, ?_⟩
      · intro k hk
        rw [List.mem_append, List.mem_singleton] at hk
        rcases hk with hk | rfl
        · exact bd k hk
        · simp only [M30]
          omega
      · rw [List.length_append, List.length_singleton]
        omega
      · simp only [J.part]
        rw [if_neg (by omega), Int.toNat_natCast]
        exact ez
      · rw [hleft, left_of rfl et6', List.length_map, List.length_append, List.length_singleton]
        omega
    | rn kb c x =>
      refine iteT ?_
      obtain ⟨b, z, rfl, hys, hx⟩ := rn_inv du
      have yok' := yok
      simp only [J.ok, M30] at yok'
      simp only [J.steps] at ypos
      simp only [J.deep] at few hlen
      have hc0 : 0 < c := by
        rcases Int.lt_or_le 0 c with h | h
        · exact h
        · have e : c = 0 := by omega
          rw [e] at ypos
          simp at ypos
      have hx0 : 0 < x.steps := by
        rcases Int.lt_or_le 0 x.steps with h | h
        · exact h
        · have := Int.mul_nonneg (show (0 : Int) ≤ -x.steps by omega) (Int.le_of_lt hc0)
          rw [Int.neg_mul] at this
          omega
      refine ⟨_, rfl, _, _, _, _, rfl, rfl, hys, rfl, (by show 2 ≤ sizeLine; decide), fun t1 ht1 => ?_⟩
      refine ⟨t1, _, rfl, .inr (SqT.of upd_same), rfl, rfl, _, rfl, ?_⟩
      have s1 : Same H' (upd H' t1 (.tup [.str "seq", .str "par"])) := same_new ht1
      show if inV (.str (kwR kb)) [.str "seq", .str "par"] = true then _ else _
      rw [w_in_parts_no]
      refine iteF ?_
      generalize (upd H' t1 (.tup [.str "seq", .str "par"])) = H1 at s1 ⊢
      have hp1 := hpn.same s1
      refine ⟨_, rfl, _, _, _, _, rfl, rfl, same_sqT s1 hys, rfl, _, _, rfl, rfl, _, rfl, _, rfl, _, _, _, _, rfl, rfl, same_sqT s1 hys, rfl, p, n, c, rfl, hp1, by omega, hc0, Nat.lt_of_le_of_lt (show c.natAbs ≤ 1000000000000000000000000000000 by omega) (by decide), fun H4 r s4 hp4 r0 r1 => ?_⟩
      refine ⟨(by show 3 ≤ sizeLine; decide), fun l hl => ?_⟩
      obtain ⟨l4, hl4⟩ := hp4.lst
      have nlp : l ≠ p := fun z => by rw [z, hl4] at hl; cases hl
      have s5 : Same H4 (upd H4 l (.lst [.int 0, .int (c - 1), .int r])) := same_new hl
      have el : upd H4 l (.lst [.int 0, .int (c - 1), .int r]) l = some (.lst ([0, c - 1, r].map V.int)) := upd_same
      have hp5 := hp4.same s5
      generalize (upd H4 l (.lst [.int 0, .int (c - 1), .int r])) = H5 at s5 el hp5 ⊢
      refine ⟨_, rfl, p, n + 1, 3, rfl, hp5, by omega, by decide, by decide, fun H6 r2 s6 hp6 k0 k1 => ?_⟩
      obtain ⟨k, hk, ek⟩ := atI_int (ns := [0, c - 1, r]) k0 k1
      have hk2 : 0 ≤ k ∧ k < c := by
        simp only [List.mem_cons, List.not_mem_nil, or_false] at hk
        omega
      refine ⟨_, _, _, _, rfl, rfl, SqL.of (s6 _ _ nlp el), ek, ?_⟩
      have S6 : Sx p H' H6 := (Same.sx s1).trans (s4.trans ((Same.sx s5).trans s6))
      have et6 := S6 _ _ ntp et
      refine ⟨_, rfl, _, rfl, (by show 1 ≤ sizeLine; decide), fun t2 ht2 => ?_⟩
      have s7 : Same H6 (upd H6 t2 (.tup [.int k])) := same_new ht2
      have et2 : upd H6 t2 (.tup [.int k]) t2 = some (.tup [.int k]) := upd_same
      generalize (upd H6 t2 (.tup [.int k])) = H7 at s7 et2 ⊢
      refine rCatA_n (SqT.of (s7 _ _ et6)) et2 (by simp) (by rw [List.length_map]; exact small (by simp only [List.length_singleton]; omega)) fun H8 t8 s8 et8 => ?_
      have S8 : Sx p H' H8 := S6.trans (Same.sx (s7.trans s8))
      have kk : ∀ a xs, SqT K H' a xs → SqT K H8 a xs := fun a xs h => S8.sqT hln h
      have et8' : H8 t8 = some (.tup ((a ++ [k]).map V.int)) := by rw [et8, List.map_append]; rfl
      refine ⟨_, rfl, _, _, _, _, rfl, rfl, kk _ _ hys, rfl, ?_⟩
      refine ⟨⟨_, t8, a ++ [k], x, n + 1 + 1, _, _, _, _, rfl, sx.trans S8, hp6.same (s7.trans s8), by omega, dp_keep kk x.noL hx, yok'.2.1, hx0, et8', ?_, ?_, way.snoc ?_⟩, ?_⟩
      · intro k' hk'
        rw [List.mem_append, List.mem_singleton] at hk'
        rcases hk' with hk' | rfl
        · exact bd k' hk'
        · simp only [M30]
          omega
      · rw [List.length_append, List.length_singleton]
        omega
      · simp only [J.part]
        rw [if_neg (by omega), if_pos hk2.2]
      · rw [hleft, left_of rfl et8', List.length_map, List.length_append, List.length_singleton]
        omega
  · rintro σ H' Q1 Q2 f ⟨v1, e1, x1, x2, x3, x4, x5, x6, x7, x8, x9, x10⟩
    exact ⟨v1, e1, x1, x2, x3, x4, x5, x6, x7, x8, x9, f _ _ x10⟩
end
/-! block Law08 (behind bDrawn, bWide, bRows, bPrec, bStates2's bAhead) -/
def Good (j : J) : Prop := j.ok ∧ j.nodes ≤ 400 ∧ j.deep ≤ 13
theorem Good.sz {j : J} (g : Good j) : szJ j 400 13 = some (j.nodes, j.steps) := szJ_some j 400 13 g.1 g.2.1 (by have := g.2.2; omega)
theorem Good.isSome {j : J} (g : Good j) : (szJ j 400 13).isSome = true := by rw [g.sz]; rfl
theorem good_of {j : J} (h : (szJ j 400 13).isSome = true) : Good j := by
  obtain ⟨⟨a, b⟩, e⟩ := Option.isSome_iff_exists.mp h
  obtain ⟨q1, q2, q3, _⟩ := szJ_inv j 400 13 a b e
  exact ⟨q1, q2, by omega⟩
theorem Good.d20 {j : J} (g : Good j) : j.deep ≤ 20 := Nat.le_trans g.2.2 (by decide)
theorem pow4_30 {n : Nat} (h : n ≤ 40) : (4 : Int) ^ n ≤ M30 := Int.le_trans (pow4_mono h) (by decide)
mutual
theorem J.few_ok : ∀ (j : J) (cs : List Int), j.small → j.cin cs → (∀ c ∈ cs, 0 ≤ c ∧ c ≤ 4) → j.deep ≤ 40 → j.ok
  | .st _, _, h, _, _, _ => by
    simp only [J.small] at h
    simpa only [J.ok] using h
  | .ps k xs, cs, h, hc, hb, hd => by
    have hf := J.few (.ps k xs) cs h hc hb hd
    have h40 := pow4_30 hd
    simp only [J.small] at h
    simp only [J.cin] at hc
    simp only [J.deep] at hd
    have h1 := J.few_okL xs cs h.2 hc hb (by omega)
    have h2 := hf.2.2
    simp only [J.ok]
    refine ⟨by omega, h1, ?_⟩
    have e : (J.ps k xs).steps = J.stepsL xs := by simp only [J.steps]
    rw [e] at h2
    omega
  | .rn k n x, cs, h, hc, hb, hd => by
    have hf := J.few (.rn k n x) cs h hc hb hd
    have h40 := pow4_30 hd
    simp only [J.small] at h
    simp only [J.cin] at hc
    simp only [J.deep] at hd
    have h1 := J.few_ok x cs h.2 hc.2 hb (by omega)
    have h2 := hf.2.2
    simp only [J.ok]
    have e : (J.rn k n x).steps = x.steps * n := by simp only [J.steps]
    rw [e] at h2
    refine ⟨h.1, h1, ?_⟩
    omega
theorem J.few_okL : ∀ (xs : List J) (cs : List Int), J.smallL xs → J.cinL cs xs → (∀ c ∈ cs, 0 ≤ c ∧ c ≤ 4) → J.deepL xs ≤ 40 → J.okL xs
  | [], _, _, _, _, _ => trivial
  | x :: xs, cs, h, hc, hb, hd => by
    simp only [J.smallL] at h
    simp only [J.cinL] at hc
    simp only [J.deepL] at hd
    exact ⟨J.few_ok x cs h.1 hc.1 hb (by omega), J.few_okL xs cs h.2 hc.2 hb (by omega)⟩
end
mutual
theorem J.few_rounded : ∀ (j : J) (cs : List Int), j.cin cs → (∀ c ∈ cs, c ≤ 1000) → j.rounded
  | .st _, _, _, _ => trivial
  | .ps k xs, cs, hc, hb => by
    simp only [J.cin] at hc
    simp only [J.rounded]
    exact J.few_roundedL xs cs hc hb
  | .rn k n x, cs, hc, hb => by
    simp only [J.cin] at hc
    simp only [J.rounded]
    exact ⟨hb n hc.1, J.few_rounded x cs hc.2 hb⟩
theorem J.few_roundedL : ∀ (xs : List J) (cs : List Int), J.cinL cs xs → (∀ c ∈ cs, c ≤ 1000) → J.roundedL xs
  | [], _, _, _ => trivial
  | x :: xs, cs, hc, hb => by
    simp only [J.cinL] at hc
    exact ⟨J.few_rounded x cs hc.1 hb, J.few_roundedL xs cs hc.2 hb⟩
end
theorem SmallOk.good {size : Int} {j : J} (h : SmallOk size j) : Good j :=
  ⟨J.few_ok j csS h.small h.cin (by decide) (by have := h.deep; omega), h.nodes, by have := h.deep; omega⟩
theorem SmallOk.rounded {size : Int} {j : J} (h : SmallOk size j) : j.rounded := J.few_rounded j csS h.cin (by decide)
/-! the addresses: bounds, order, text -/
theorem adr_bd : ∀ (a : List Int) (j : J), j.ok → a ∈ j.adr → ∀ k ∈ a, 0 ≤ k ∧ k ≤ M30
  | [], _, _, _ => by simp
  | k :: r, j, ho, h => by
    cases j with
    | st i => exact absurd (adr_st h) (by simp)
    | ps b xs =>
      obtain ⟨k0, y, ey, hy⟩ := adr_ps h
      simp only [J.ok] at ho
      have hl := (List.getElem?_eq_some_iff.mp ey).1
      have ih := adr_bd r y (ok_mem ho.2.1 (List.mem_of_getElem? ey)) hy
      intro m hm
      rcases List.mem_cons.mp hm with rfl | hm
      · have := ho.1
        simp only [M30]
        omega
      · exact ih m hm
    | rn b n x =>
      obtain ⟨k0, hy, ey⟩ := adr_rn h
      simp only [J.ok, M30] at ho
      have hl := (List.getElem?_eq_some_iff.mp ey).1
      rw [List.length_replicate] at hl
      have hkn : k < n := by
        split at hl <;> omega
      have ih := adr_bd r x ho.2.1 hy
      intro m hm
      rcases List.mem_cons.mp hm with rfl | hm
      · simp only [M30]
        omega
      · exact ih m hm
abbrev InOrd (l : List (List Int)) : Prop := l.Pairwise (fun x y => HT.lexLt y x = false)
theorem idx_low : ∀ (as : List (List (List Int))) (i : Int) (a : List Int), a ∈ idx as i → ∃ k r, a = k :: r ∧ i ≤ k
  | [], _, _, h => by simp [idx] at h
  | l :: as, i, a, h => by
    simp only [idx, List.mem_append, List.mem_map] at h
    rcases h with ⟨r, _, rfl⟩ | h
    · exact ⟨i, r, rfl, Int.le_refl _⟩
    · obtain ⟨k, r, rfl, hk⟩ := idx_low as (i + 1) a h
      exact ⟨k, r, rfl, by omega⟩
theorem idx_ord : ∀ (as : List (List (List Int))) (i : Int), (∀ l ∈ as, InOrd l) → InOrd (idx as i)
  | [], _, _ => by simp [idx]
  | l :: as, i, h => by
    simp only [InOrd, idx, List.pairwise_append, List.pairwise_map]
    refine ⟨(h l (List.mem_cons_self ..)).imp fun {a b} e => ?_, idx_ord as (i + 1) fun m hm => h m (List.mem_cons_of_mem _ hm), fun a ha b hb => ?_⟩
    · rw [HT.lexLt_cons, if_pos rfl]
      exact e
    · obtain ⟨r, _, rfl⟩ := List.mem_map.mp ha
      obtain ⟨k, r', rfl, hk⟩ := idx_low as (i + 1) b hb
      rw [HT.lexLt_cons, if_neg (by omega)]
      exact decide_eq_false (by omega)
mutual
theorem J.adr_ord : ∀ j : J, InOrd j.adr
  | .st _ => by simp [J.adr, InOrd]
  | .ps _ xs => by
    simp only [J.adr]
    exact idx_ord _ _ (J.adrs_ord xs)
  | .rn _ n x => by
    simp only [J.adr]
    refine idx_ord _ _ fun l hl => ?_
    obtain ⟨_, rfl⟩ := List.mem_replicate.mp hl
    exact J.adr_ord x
theorem J.adrs_ord : ∀ xs : List J, ∀ l ∈ J.adrs xs, InOrd l
  | [], l, h => by simp [J.adrs] at h
  | x :: xs, l, h => by
    simp only [J.adrs, List.mem_cons] at h
    rcases h with rfl | h
    · exact J.adr_ord x
    · exact J.adrs_ord xs l h
end
theorem adr_ne {j : J} {a : List Int} (h : 1 < j.steps) (ha : a ∈ j.adr) : a ≠ [] := by
  rintro rfl
  cases j with
  | st i => simp [J.steps] at h
  | ps b xs =>
    simp only [J.adr] at ha
    obtain ⟨k, r, e, _⟩ := idx_low _ _ _ ha
    cases e
  | rn b n x =>
    simp only [J.adr] at ha
    obtain ⟨k, r, e, _⟩ := idx_low _ _ _ ha
    cases e
theorem keys_of {K : PySem.W.Frag} {H : Hp} : ∀ {as : List V} {ks : List (List Int)}, DpAll K H as (adDs ks) → (∀ k ∈ ks, k ≠ []) → KeysT K H as ks
  | _, [], h, _ => by
    cases h
    exact .nil
  | _, k :: ks, h, hn => by
    cases h with
    | cons hx hr =>
    obtain ⟨t, xs, rfl, ht, hxs⟩ := dp_tup_inv hx
    obtain rfl := Lw.ints_vals hxs
    exact .cons ht (hn k (List.mem_cons_self ..)) (keys_of hr fun m hm => hn m (List.mem_cons_of_mem _ hm))
theorem ints_fine : ∀ a : List Int, (∀ k ∈ a, 0 ≤ k ∧ k ≤ M30) → fines (a.map .int)
  | [], _ => trivial
  | k :: a, h => by
    obtain ⟨h1, h2⟩ := h k (List.mem_cons_self ..)
    simp only [M30] at h2
    simp only [List.map_cons, fines, fine]
    refine ⟨?_, ints_fine a fun m hm => h m (List.mem_cons_of_mem _ hm)⟩
    have e : (1000000000000000000000000000000 : Nat) < 10 ^ 180 := by decide +kernel
    exact Nat.lt_of_le_of_lt (show k.natAbs ≤ 1000000000000000000000000000000 by omega) e
theorem adDs_fine : ∀ as : List (List Int), (∀ a ∈ as, ∀ k ∈ a, 0 ≤ k ∧ k ≤ M30) → fines (adDs as)
  | [], _ => trivial
  | a :: as, h => by
    show fines (adD a :: adDs as)
    simp only [fines, adD, fine]
    exact ⟨ints_fine a (h a (List.mem_cons_self ..)), adDs_fine as fun m hm => h m (List.mem_cons_of_mem _ hm)⟩
theorem ints_depth : ∀ a : List Int, PyData.depthAll (a.map .int) ≤ 1
  | [] => by simp [PyData.depthAll]
  | k :: a => by
    have := ints_depth a
    simp only [List.map_cons, PyData.depthAll, PyData.depth]
    omega
theorem adDs_depth : ∀ as : List (List Int), PyData.depthAll (adDs as) ≤ 2
  | [] => by simp [adDs, PyData.depthAll]
  | a :: as => by
    have h1 := adDs_depth as
    have h2 := ints_depth a
    show PyData.depthAll (adD a :: adDs as) ≤ 2
    simp only [PyData.depthAll, adD, PyData.depth]
    omega
theorem adDs_bulk {n : Nat} : ∀ as : List (List Int), (∀ a ∈ as, a.length ≤ n) → PyData.bulkAll (adDs as) ≤ as.length * (2 * n + 5)
  | [], _ => by simp [adDs, PyData.bulkAll]
  | a :: as, h => by
    have h1 := adDs_bulk as fun m hm => h m (List.mem_cons_of_mem _ hm)
    have h2 : PyData.bulkAll (a.map .int) ≤ 2 * a.length := by
      clear h h1
      induction a with
      | nil => simp [PyData.bulkAll]
      | cons k a ih =>
        simp only [List.map_cons, List.length_cons, PyData.bulkAll, PyData.bulk]
        omega
    have h3 := h a (List.mem_cons_self ..)
    show PyData.bulkAll (adD a :: adDs as) ≤ _
    rw [List.length_cons, Nat.succ_mul]
    simp only [PyData.bulkAll, adD, PyData.bulk]
    omega
theorem ints_lay : ∀ a : List Int, PyData.canLayAll0 (a.map .int) = true
  | [] => rfl
  | k :: a => by
    simp only [List.map_cons, PyData.canLayAll0, PyData.canLay0, ints_lay a, Bool.and_self]
theorem adDs_lay : ∀ as : List (List Int), PyData.canLayAll0 (adDs as) = true
  | [] => rfl
  | a :: as => by
    show PyData.canLayAll0 (adD a :: adDs as) = true
    simp only [PyData.canLayAll0, adD, PyData.canLay0, ints_lay a, adDs_lay as, Bool.and_self]
theorem adL_shaped (as : List (List Int)) : SeqAt.shaped (.list (adDs as)) = true := by
  have h := adDs_depth as
  have e : (PyData.list (adDs as)).depth ≤ 64 := by
    simp only [PyData.depth]
    omega
  unfold SeqAt.shaped
  rw [decide_eq_true e]
  simp only [PyData.canLay0, adDs_lay as, Bool.and_self]
theorem adT_shaped (as : List (List Int)) : SeqAt.shaped (.tuple (adDs as)) = true := by
  have h := adDs_depth as
  have e : (PyData.tuple (adDs as)).depth ≤ 64 := by
    simp only [PyData.depth]
    omega
  unfold SeqAt.shaped
  rw [decide_eq_true e]
  simp only [PyData.canLay0, adDs_lay as, Bool.and_self]
theorem adT_self (as : List (List Int)) : PyData.eqv (.tuple (adDs as)) (.tuple (adDs as)) = true := SeqAt.eqv_refl _ (by simp only [PyData.canLay0, adDs_lay as])
theorem adL_self (as : List (List Int)) : PyData.eqv (.list (adDs as)) (.list (adDs as)) = true := SeqAt.eqv_refl _ (by simp only [PyData.canLay0, adDs_lay as])
/-- what repr of the addresses asks for -/
theorem adT_repr {j : J} (g : Good j) (h : j.steps ≤ 400) : fine (.tuple (adDs j.adr)) ∧ (PyData.tuple (adDs j.adr)).depth ≤ 64 ∧ (PyData.tuple (adDs j.adr)).bulk ≤ 80000 := by
  have h1 := J.adr_len j (J.stb_ok j g.1)
  have h2 := adDs_depth j.adr
  have h3 := adDs_bulk (n := 13) j.adr fun a ha => Nat.le_trans (J.adr_deep j a ha) g.2.2
  refine ⟨?_, ?_, ?_⟩
  · simp only [fine]
    exact adDs_fine _ fun a ha => adr_bd a j g.1 ha
  · simp only [PyData.depth]
    omega
  · simp only [PyData.bulk]
    omega
/-! the wide jobs -/
theorem sts_all : ∀ {js : List J}, (∀ y ∈ js, ∃ i, y = .st i ∧ -M30 ≤ i ∧ i ≤ M30) → J.okL js ∧ J.stepsL js = js.length ∧ J.nodesL js = js.length ∧ J.deepL js ≤ 1 ∧ J.roundedL js
  | [], _ => by simp [J.okL, J.stepsL, J.nodesL, J.deepL, J.roundedL]
  | y :: js, h => by
    obtain ⟨i, rfl, h1, h2⟩ := h y (List.mem_cons_self ..)
    obtain ⟨a, b, c, d, e⟩ := sts_all fun m hm => h m (List.mem_cons_of_mem _ hm)
    simp only [J.okL, J.stepsL, J.nodesL, J.deepL, J.roundedL, J.ok, J.steps, J.nodes, J.deep, J.rounded, b, c, List.length_cons]
    refine ⟨⟨⟨h1, h2⟩, a⟩, by omega, by omega, by omega, trivial, e⟩
theorem WideJ.all {j : J} (h : WideJ j) : Good j ∧ j.rounded ∧ j.deep ≤ 8 ∧ j.steps ≤ 400 ∧ 0 < j.steps := by
  rcases h with ⟨n, js, n0, n1, l0, l1, hj, rfl⟩ | rfl | rfl
  · obtain ⟨a, b, c, d, e⟩ := sts_all hj
    refine ⟨⟨?_, ?_, ?_⟩, ?_, ?_, ?_, ?_⟩
    · simp only [J.ok, J.okL, J.steps, J.stepsL, M30, List.length_cons, List.length_nil, b]
      refine ⟨by omega, ⟨⟨by omega, ⟨by omega, ⟨by omega, by omega, trivial⟩, by omega⟩, by omega⟩, ⟨by omega, a, by omega⟩, trivial⟩, by omega⟩
    · simp only [J.nodes, J.nodesL, c]
      omega
    · simp only [J.deep, J.deepL]
      omega
    · simp only [J.rounded, J.roundedL]
      exact ⟨⟨by omega, trivial, trivial, trivial⟩, e, trivial⟩
    · simp only [J.deep, J.deepL]
      omega
    · simp only [J.steps, J.stepsL, b]
      omega
    · simp only [J.steps, J.stepsL, b]
      omega
  · refine ⟨⟨?_, ?_, ?_⟩, ?_, ?_, ?_, ?_⟩ <;> simp only [J.ok, J.okL, J.steps, J.stepsL, J.nodes, J.nodesL, J.deep, J.deepL, J.rounded, J.roundedL, M30, List.length_cons, List.length_nil] <;> decide
  · refine ⟨⟨?_, ?_, ?_⟩, ?_, ?_, ?_, ?_⟩ <;> simp only [J.ok, J.okL, J.steps, J.stepsL, J.nodes, J.nodesL, J.deep, J.deepL, J.rounded, J.roundedL, M30, List.length_cons, List.length_nil] <;> decide
abbrev jD8 : J := .rn false 1000000000000 (.ps true [.rn true 1000000000 (.ps false [.st 2, .st (-3)]), .st (-1)])
theorem good_D8 : Good jD8 ∧ 0 < jD8.steps ∧ jD8.deep ≤ 8 := by
  refine ⟨⟨?_, ?_, ?_⟩, ?_, ?_⟩ <;> simp only [J.ok, J.okL, J.steps, J.stepsL, J.nodes, J.nodesL, J.deep, J.deepL, M30, List.length_cons, List.length_nil] <;> decide
theorem pickA {vs : List V} {r : Int} (h0 : 0 ≤ r) (h1 : r < (vs.length : Int)) : ∃ v, vs[r.toNat]? = some v ∧ atI vs r = some v := by
  have hl : r.toNat < vs.length := by omega
  exact ⟨_, List.getElem?_eq_getElem hl, atI_at (j := r.toNat) (by omega) (List.getElem?_eq_getElem hl)⟩
abbrev jF8 : J := .rn true 1000000000000000000000000000000 (.rn false 0 (.st 5))
theorem good_F8 : Good jF8 ∧ jF8.steps ≤ 400 := by
  refine ⟨⟨?_, ?_, ?_⟩, ?_⟩ <;> simp only [J.ok, J.okL, J.steps, J.stepsL, J.nodes, J.nodesL, J.deep, J.deepL, M30, List.length_cons, List.length_nil] <;> decide
theorem adr_F8 : jF8.adr = [] := by
  have e : ¬ 0 < (J.rn false 0 (.st 5)).steps := by
    simp only [J.steps]
    decide
  simp only [J.adr]
  rw [if_neg e]
  rfl
abbrev jG8 : J := .rn true 400 (.st 1)
theorem good_G8 : Good jG8 ∧ jG8.steps ≤ 400 := by
  refine ⟨⟨?_, ?_, ?_⟩, ?_⟩ <;> simp only [J.ok, J.okL, J.steps, J.stepsL, J.nodes, J.nodesL, J.deep, J.deepL, M30, List.length_cons, List.length_nil] <;> decide
def ones (n : Nat) : List (List Int) := (List.range n).map fun (m : Nat) => [(m : Int)]
theorem ones_succ (n : Nat) : ones (n + 1) = ones n ++ [[(n : Int)]] := by
  unfold ones
  rw [List.range_succ, List.map_append]
  rfl
theorem idx_ones : ∀ n : Nat, idx (List.replicate n [[]]) 0 = ones n
  | 0 => rfl
  | n + 1 => by
    rw [List.replicate_succ', idx_app, idx_ones n, ones_succ, List.length_replicate]
    simp [idx]
theorem adr_G8 : jG8.adr = ones 400 := by
  have e : 0 < (J.st 1).steps := by
    simp only [J.steps]
    decide
  simp only [J.adr]
  rw [if_pos e]
  exact idx_ones 400
theorem good_m4 : Good (.st (-4)) ∧ (J.st (-4)).steps ≤ 400 := by
  refine ⟨⟨?_, ?_, ?_⟩, ?_⟩ <;> simp only [J.ok, J.steps, J.nodes, J.deep, M30] <;> decide
/-! block Law08: the law (behind bLaw08M) -/
def spLaw (K : PySem.W.Frag) : Sp := fun vs H Q _ => ∃ (a : Addr) (ns : List Int), vs = [.ref a] ∧ Only H ∧ SqL K H a (ns.map V.int) ∧ ns.length ≤ 63 ∧ ∀ H', Q (.bl true) H'
section
variable {P : Program} {w : World} {K : PySem.W.Frag} {mg : Str → Option Value} {base : Heap}
theorem ok_law {f : Addr} {fd : FuncData} (F : Fun K "law" "law" s_law f fd) (T : Txt K mg) : FnG P w K mg base CX0 60 f fd ["_law_script"] (spLaw K) := by
  have g__law_pot := ok_pot (P := P) (w := w) (base := base) T
  have g__law_take : FnOk P w K mg base CX0 1 T.f__law_take T.d__law_take ["_law_pot_here", "_law_many"] spTake := ok_take T
  have g__law_job := ok_job (P := P) (w := w) (base := base) T 5
  have g__law_small := ok_small (P := P) (w := w) (base := base) T
  have g_is_job := ok_isjob (P := P) (w := w) (base := base) T
  have g__law_steps : FnOk P w K mg base CX0 20 T.f__law_steps T.d__law_steps ["_law_job_here"] (spLS K 20) := ok_ls T 20
  have g__law_addresses : FnOk P w K mg base CX0 18 T.f__law_addresses T.d__law_addresses ["_law_job_here"] (spAdr K 8) := ok_adr T 8 (by decide)
  have g_all_addresses := ok_alladr (P := P) (w := w) (base := base) T
  have g_precedes := ok_prec (P := P) (w := w) (base := base) T
  have g__law_ahead := ok_ahead (P := P) (w := w) (base := base) T
  have g__law_wide := ok_wide (P := P) (w := w) (base := base) T
  have g__law_drawn := ok_drawn (P := P) (w := w) (base := base) T
  refine okG F sc_law (fun vs H Q E h => ?_) (fun cdv A outer s H vs Q E hr gd h => ?_)
  · obtain ⟨a, ns, rfl, _⟩ := h
    rfl
  obtain ⟨a, ns, rfl, hO, hS, hlen, q⟩ := h
  have hsc := Scr.of hO hS
  have e12 : (10 : Int) ^ (12 : Int).toNat = 1000000000000 := by decide
  have e9 : (10 : Int) ^ (9 : Int).toNat = 1000000000 := by decide
  refine ⟨_, (pss_cons (ps_for PassesOwn.never rfl (pi_range1 rfl T.n_range (pa_cons (pe_callB (call_max2 rfl) (by rfl) T.n_max (by decide +kernel) (pa_cons pe_int (pa_cons (pe_callB (call_min2 rfl) (by rfl) T.n_min (by decide +kernel) (pa_cons pe_int (pa_cons (pe_callB (r := rLenS K) call_lenS (by rfl) T.n_len (by decide +kernel) (pa_cons (pv 0) pa_nil)) pa_nil))) pa_nil))) pa_nil)) (pg_name (i := 1) sc_law.nd rfl (Or.inl rfl))
        (pss_cons (ps_set (i := 2) sc_law.nd rfl (Or.inl rfl) (pe_call g__law_pot (hr.mono (by omega)) rfl T.m__law_pot T.F__law_pot.kp T.b__law_pot .nil pass0 (pa_cons (pv 0) (pa_cons (pv 1) pa_nil))))
        (pss_cons (ps_set (i := 3) sc_law.nd rfl (Or.inl rfl) (pe_call g__law_small (hr.mono (by omega)) rfl T.m__law_small T.F__law_small.kp T.b__law_small .nil pass0 (pa_cons (pv 2) (pa_cons pe_int (pa_cons pe_int pa_nil)))))
        (pss_cons (ps_set (i := 4) sc_law.nd rfl (Or.inl rfl) (pe_call g__law_addresses (hr.mono (by omega)) rfl T.m__law_addresses T.F__law_addresses.kp T.b__law_addresses .nil pass0 (pa_cons (pv 3) pa_nil)))
        (pss_cons (ps_if (PW.pt (pw_or (pt_cmpR op_ne (pe_callB (r := rRepr K) (call_reprD gd (room66 hr)) (by rfl) T.n_repr (by decide +kernel) (pa_cons (pe_call g_all_addresses (hr.mono (by omega)) rfl T.m_all_addresses T.F_all_addresses.kp T.b_all_addresses .nil pass0 (pa_cons (pv 3) pa_nil)) pa_nil)) (pe_callB (r := rRepr K) (call_reprD gd (room66 hr)) (by rfl) T.n_repr (by decide +kernel) (pa_cons (pe_callTy (r := rTupS K) call_tupS (by rfl) T.n_tuple (by decide +kernel) (pa_cons (pv 4) pa_nil)) pa_nil)) (nomark _)) (pw_or1 (pt_cmpR (r := rNeD K) (op_neD hr.units) (pe_callB (r := rSortTS K) cr_sortTS (by rfl) T.n_sorted (by decide +kernel) (pa_cons (pv 4) pa_nil)) (pv 4) (nomark _))))) (pss_one (ps_ret pe_bl)) pss_nil)
        (pss_cons (ps_for PassesOwn.never rfl (pi_list (pv 4)) (pg_name (i := 5) sc_law.nd rfl (Or.inl rfl))
          (pss_one (ps_for PassesOwn.never rfl (pi_list (pv 4)) (pg_name (i := 6) sc_law.nd rfl (Or.inl rfl))
            (pss_one (ps_if (pt_cmpR op_ne (pe_callB (r := rRepr K) (call_reprD gd (room66 hr)) (by rfl) T.n_repr (by decide +kernel) (pa_cons (pe_call g_precedes (hr.mono (by omega)) rfl T.m_precedes T.F_precedes.kp T.b_precedes .nil pass0 (pa_cons (pv 3) (pa_cons (pv 5) (pa_cons (pv 6) pa_nil)))) pa_nil)) (pe_callB (r := rRepr K) (call_reprD gd (room66 hr)) (by rfl) T.n_repr (by decide +kernel) (pa_cons (pe_call g__law_ahead (hr.mono (by omega)) rfl T.m__law_ahead T.F__law_ahead.kp T.b__law_ahead .nil pass0 (pa_cons (pv 3) (pa_cons (pv 5) (pa_cons (pv 6) pa_nil)))) pa_nil)) (nomark _)) (pss_one (ps_ret pe_bl)) pss_nil)))))
        (pss_cons (ps_set (i := 7) sc_law.nd rfl (Or.inl rfl) (pe_call g__law_wide (hr.mono (by omega)) rfl T.m__law_wide T.F__law_wide.kp T.b__law_wide .nil pass0 (pa_cons (pv 2) pa_nil)))
        (pss_cons (ps_set (i := 8) sc_law.nd rfl (Or.inl rfl) (pe_call g__law_addresses (hr.mono (by omega)) rfl T.m__law_addresses T.F__law_addresses.kp T.b__law_addresses .nil pass0 (pa_cons (pv 7) pa_nil)))
        (pss_cons (ps_if (pt_cmpR op_ne (pe_callB (r := rRepr K) (call_reprD gd (room66 hr)) (by rfl) T.n_repr (by decide +kernel) (pa_cons (pe_call g_all_addresses (hr.mono (by omega)) rfl T.m_all_addresses T.F_all_addresses.kp T.b_all_addresses .nil pass0 (pa_cons (pv 7) pa_nil)) pa_nil)) (pe_callB (r := rRepr K) (call_reprD gd (room66 hr)) (by rfl) T.n_repr (by decide +kernel) (pa_cons (pe_callTy (r := rTupS K) call_tupS (by rfl) T.n_tuple (by decide +kernel) (pa_cons (pv 8) pa_nil)) pa_nil)) (nomark _)) (pss_one (ps_ret pe_bl)) pss_nil)
        (pss_cons (ps_for PassesOwn.never rfl (pi_range1 rfl T.n_range (pa_cons pe_int pa_nil)) (pg_name (i := 9) sc_law.nd rfl (Or.inl rfl))
          (pss_cons (ps_par (i := 5) (j := 6) (by rfl) sc_law.nd rfl rfl (by decide) rfl rfl (pa_cons (pe_ix (r := rIxL K) ix_list (pv 8) (pe_call g__law_take (hr.mono (by omega)) rfl T.m__law_take T.F__law_take.kp T.b__law_take .nil pass0 (pa_cons (pv 2) (pa_cons (pe_callB (r := rLenS K) call_lenS (by rfl) T.n_len (by decide +kernel) (pa_cons (pv 8) pa_nil)) pa_nil))) (fun _ _ => rfl)) (pa_cons (pe_ix (r := rIxL K) ix_list (pv 8) (pe_call g__law_take (hr.mono (by omega)) rfl T.m__law_take T.F__law_take.kp T.b__law_take .nil pass0 (pa_cons (pv 2) (pa_cons (pe_callB (r := rLenS K) call_lenS (by rfl) T.n_len (by decide +kernel) (pa_cons (pv 8) pa_nil)) pa_nil))) (fun _ _ => rfl)) pa_nil)) (by rfl))
          (pss_one (ps_if (pt_cmpR op_ne (pe_callB (r := rRepr K) (call_reprD gd (room66 hr)) (by rfl) T.n_repr (by decide +kernel) (pa_cons (pe_call g_precedes (hr.mono (by omega)) rfl T.m_precedes T.F_precedes.kp T.b_precedes .nil pass0 (pa_cons (pv 7) (pa_cons (pv 5) (pa_cons (pv 6) pa_nil)))) pa_nil)) (pe_callB (r := rRepr K) (call_reprD gd (room66 hr)) (by rfl) T.n_repr (by decide +kernel) (pa_cons (pe_call g__law_ahead (hr.mono (by omega)) rfl T.m__law_ahead T.F__law_ahead.kp T.b__law_ahead .nil pass0 (pa_cons (pv 7) (pa_cons (pv 5) (pa_cons (pv 6) pa_nil)))) pa_nil)) (nomark _)) (pss_one (ps_ret pe_bl)) pss_nil))))
        (pss_cons (ps_set (i := 10) sc_law.nd rfl (Or.inl rfl) (pe_call g__law_job (hr.mono (by omega)) rfl T.m__law_job T.F__law_job.kp T.b__law_job .nil pass0 (pa_cons (pv 2) (pa_cons pe_int (pa_cons (pe_lst (pa_cons pe_int (pa_cons pe_int (pa_cons pe_int (pa_cons (pe_op op_powW pe_int pe_int) (pa_cons pe_int pa_nil)))))) pa_nil)))))
        (C8.pss_cut (ps_if (PW.pt (pw_or (pt_not (pt_val (pe_call g_is_job (hr.mono (by omega)) rfl T.m_is_job T.F_is_job.kp T.b_is_job .nil pass0 (pa_cons (pv 10) pa_nil)))) (pw_or1 (pt_cmpR op_eq (pe_call g__law_steps (hr.mono (by omega)) rfl T.m__law_steps T.F__law_steps.kp T.b__law_steps .nil pass0 (pa_cons (pv 10) pa_nil)) pe_int (nomark _))))) (pss_one (ps_set (i := 10) sc_law.nd rfl (Or.inl rfl) (pe_tup (pa_cons pe_str (pa_cons (pe_op op_powW pe_int pe_int) (pa_cons (pe_tup (pa_cons pe_str (pa_cons (pe_tup (pa_cons (pe_tup (pa_cons pe_str (pa_cons (pe_op op_powW pe_int pe_int) (pa_cons (pe_tup (pa_cons pe_str (pa_cons (pe_tup (pa_cons pe_int (pa_cons (pe_un un_neg pe_int) pa_nil))) pa_nil))) pa_nil)))) (pa_cons (pe_un un_neg pe_int) pa_nil))) pa_nil))) pa_nil)))))) pss_nil)
        (pss_one (ps_for PassesOwn.never rfl (pi_range1 rfl T.n_range (pa_cons pe_int pa_nil)) (pg_name (i := 9) sc_law.nd rfl (Or.inl rfl))
          (pss_cons (ps_par (i := 5) (j := 6) (by rfl) sc_law.nd rfl rfl (by decide) rfl rfl (pa_cons (pe_call g__law_drawn (hr.mono (by omega)) rfl T.m__law_drawn T.F__law_drawn.kp T.b__law_drawn .nil pass0 (pa_cons (pv 2) (pa_cons (pv 10) pa_nil))) (pa_cons (pe_call g__law_drawn (hr.mono (by omega)) rfl T.m__law_drawn T.F__law_drawn.kp T.b__law_drawn .nil pass0 (pa_cons (pv 2) (pa_cons (pv 10) pa_nil))) pa_nil)) (by rfl))
          (pss_one (ps_for PassesOwn.never rfl (pi_tup (pe_tup (pa_cons (pe_tup (pa_cons (pv 5) (pa_cons (pv 6) pa_nil))) (pa_cons (pe_tup (pa_cons (pv 6) (pa_cons (pv 5) pa_nil))) (pa_cons (pe_tup (pa_cons (pv 5) (pa_cons (pv 5) pa_nil))) pa_nil))))) (pg_tup (by rfl) (pgs_cons (pg_name (i := 11) sc_law.nd rfl (Or.inl rfl)) (pgs_cons (pg_name (i := 12) sc_law.nd rfl (Or.inl rfl)) pgs_nil)))
            (pss_one (ps_if (pt_cmpR op_ne (pe_callB (r := rRepr K) (call_reprD gd (room66 hr)) (by rfl) T.n_repr (by decide +kernel) (pa_cons (pe_call g_precedes (hr.mono (by omega)) rfl T.m_precedes T.F_precedes.kp T.b_precedes .nil pass0 (pa_cons (pv 10) (pa_cons (pv 11) (pa_cons (pv 12) pa_nil)))) pa_nil)) (pe_callB (r := rRepr K) (call_reprD gd (room66 hr)) (by rfl) T.n_repr (by decide +kernel) (pa_cons (pe_call g__law_ahead (hr.mono (by omega)) rfl T.m__law_ahead T.F__law_ahead.kp T.b__law_ahead .nil pass0 (pa_cons (pv 10) (pa_cons (pv 11) (pa_cons (pv 12) pa_nil)))) pa_nil)) (nomark _)) (pss_one (ps_ret pe_bl)) pss_nil)))))))))))))))))))
      (pss_cons (ps_if (pt_cmpR op_ne (pe_callB (r := rRepr K) (call_reprD gd (room66 hr)) (by rfl) T.n_repr (by decide +kernel) (pa_cons (pe_call g_all_addresses (hr.mono (by omega)) rfl T.m_all_addresses T.F_all_addresses.kp T.b_all_addresses .nil pass0 (pa_cons (pe_tup (pa_cons pe_str (pa_cons (pe_op op_powW pe_int pe_int) (pa_cons (pe_tup (pa_cons pe_str (pa_cons pe_int (pa_cons pe_int pa_nil)))) pa_nil)))) pa_nil)) pa_nil)) pe_str (nomark _)) (pss_one (ps_ret pe_bl)) pss_nil)
      (pss_cons (ps_if (pt_cmpR (r := rNeD K) (op_neD hr.units) (pe_call g_all_addresses (hr.mono (by omega)) rfl T.m_all_addresses T.F_all_addresses.kp T.b_all_addresses .nil pass0 (pa_cons (pe_tup (pa_cons pe_str (pa_cons pe_int (pa_cons pe_int pa_nil)))) pa_nil)) (pe_callTy (r := rTupS K) call_tupS (by rfl) T.n_tuple (by decide +kernel) (pa_cons (pe_lc (own := [("_law_at", 13)]) (g := (gName 13)) (by rfl) sc_law.nd (pi_range1 rfl T.n_range (pa_cons pe_int pa_nil)) (blkOk_by (N := N_law) (sc := (defScope s_law)) (by decide +kernel)) (fun _ _ _ _ _ => (pg_name (i := 13) sc_law.nd rfl (Or.inl rfl))) (fun _ _ _ _ _ => pts_nil) (fun _ _ _ _ _ => (pe_tup (pa_cons (pv 13) pa_nil)))) pa_nil)) (nomark _)) (pss_one (ps_ret pe_bl)) pss_nil)
      (pss_one (ps_ret (pe_and (pe_cmpR op_eq (pe_glob (v := .int 400) rfl T.g_MAX_SMALL ⟨_, rfl⟩) pe_int (nomark _)) (pe_one (pe_cmpR (r := rEqD K) (op_eqD hr.units) (pe_call g_all_addresses (hr.mono (by omega)) rfl T.m_all_addresses T.F_all_addresses.kp T.b_all_addresses .nil pass0 (pa_cons (pe_un un_neg pe_int) pa_nil)) (pe_tup (pa_cons (pe_tup pa_nil) pa_nil)) (nomark _))))))))), ?_⟩
  refine ⟨_, rfl, a, _, rfl, .inl hsc.sq, _, _, rfl, _, _, rfl, _, rfl, ?_, ?_, ?_⟩
  · show -(2 ^ 62) ≤ (if (if (((ns.map V.int).length : Nat) : Int) < 4 then (((ns.map V.int).length : Nat) : Int) else 4) > 1 then (if (((ns.map V.int).length : Nat) : Int) < 4 then (((ns.map V.int).length : Nat) : Int) else 4) else 1)
    split <;> (try split) <;> omega
  · show (if (if (((ns.map V.int).length : Nat) : Int) < 4 then (((ns.map V.int).length : Nat) : Int) else 4) > 1 then (if (((ns.map V.int).length : Nat) : Int) < 4 then (((ns.map V.int).length : Nat) : Int) else 4) else 1) < 2 ^ 62
    split <;> (try split) <;> omega
  have hturns : (if (if (((ns.map V.int).length : Nat) : Int) < 4 then (((ns.map V.int).length : Nat) : Int) else 4) > 1 then (if (((ns.map V.int).length : Nat) : Int) < 4 then (((ns.map V.int).length : Nat) : Int) else 4) else 1).toNat ≤ 4 := by
    split <;> (try split) <;> omega
  generalize (if (if (((ns.map V.int).length : Nat) : Int) < 4 then (((ns.map V.int).length : Nat) : Int) else 4) > 1 then (if (((ns.map V.int).length : Nat) : Int) < 4 then (((ns.map V.int).length : Nat) : Int) else 4) else 1) = turns at hturns ⊢
  refine for_range (lo := 0) (n := turns.toNat) (fun i σ H' => ∃ y1 y2 y3 y4 y5 y6 y7 y8 y9 y10 y11 y12 : Option V, σ = [some (.ref a), y1, y2, y3, y4, y5, y6, y7, y8, y9, y10, y11, y12, none] ∧ Same H H') ⟨none, none, none, none, none, none, none, none, none, none, none, none, rfl, Same.refl _⟩ ?_ ?_
  · rintro i σ H' hi ⟨y1, y2, y3, y4, y5, y6, y7, y8, y9, y10, y11, y12, rfl, t⟩
    refine ⟨_, rfl, _, rfl, a, ns, 0 + (i : Int), rfl, (hsc.same t).sq, by omega, by omega, by omega, fun G1 p s1 hpn hp => ?_⟩
    refine ⟨_, rfl, p, 0, 5, 24, rfl, hp, by decide, by decide, by decide, by decide, fun G2 v j s2 hp2 dj sj => ?_⟩
    have hpH : H p = none := t.free hpn
    have t2 : Same H G2 := Same.sx_free (t.trans s1) hpH s2
    have eTB : 0 + 4 * TB 5 ≤ 400000 := by decide
    have hp2 : Pot G2 p 400000 := hp2.mono eTB
    have gj := sj.good
    have d20 : j.deep ≤ 20 := Nat.le_trans gj.2.2 (by decide)
    have d8 : j.deep ≤ 8 := by have := sj.deep; omega
    have st24 := sj.most
    have j400 : j.steps ≤ 400 := by omega
    -- the addresses of a small job
    refine ⟨_, rfl, v, j, rfl, dj, d8, sj.stb, by omega, sj.rounded, fun G3 ls as s3 _ els das => ?_⟩
    have dj3 := dp_same s3 dj
    obtain ⟨f1, f2, f3⟩ := adT_repr gj j400
    refine ⟨_, rfl, v, j, rfl, dj3, gj.isSome, j400, fun G4 r s4 dr => ?_⟩
    refine ⟨_, _, rfl, dr, f1, f2, f3, ?_⟩
    refine ⟨_, rfl, ls, as, rfl, .inl ⟨SqL.of (s4 _ _ els), fun tt htt => ?_⟩⟩
    have s5 : Same G4 (upd G4 tt (.tup as)) := same_new htt
    have dtt : Dp K (upd G4 tt (.tup as)) (.ref tt) (.tuple (adDs j.adr)) := .tup (SqT.of upd_same) (dpAll_same (s4.trans s5) das)
    generalize (upd G4 tt (.tup as)) = G5 at s5 dtt ⊢
    refine ⟨_, _, rfl, dtt, f1, f2, f3, rfl, _, rfl, ?_⟩
    refine iteNS rfl ?_
    have s35 := s3.trans (s4.trans s5)
    have das5 := dpAll_same (s4.trans s5) das
    have els5 := (s4.trans s5) _ _ els
    refine ⟨_, rfl, ls, as, j.adr, rfl, SqL.of els5, keys_of das5 fun k hk => adr_ne sj.two hk, J.adr_ord j, fun pp hpp => ?_⟩
    have s6 : Same G5 (upd G5 pp (.lst as)) := same_new hpp
    have dpp : Dp K (upd G5 pp (.lst as)) (.ref pp) (.list (adDs j.adr)) := .lst (SqL.of upd_same) (dpAll_same s6 das5)
    have els6 := s6 _ _ els5
    have das6 := dpAll_same s6 das5
    have dj6 := dp_same s6 (dp_same s35 dj)
    have hp6 := hp2.same (s35.trans s6)
    have t6 := t2.trans (s35.trans s6)
    generalize (upd G5 pp (.lst as)) = G6 at s6 dpp els6 das6 dj6 hp6 t6 ⊢
    refine ⟨_, rfl, _, _, dpp, .lst (SqL.of els6) das6, adL_shaped _, adL_shaped _, _, rfl, ?_⟩
    rw [adL_self]
    refine iteF ?_
    refine ⟨_, rfl, ls, rfl, ⟨_, SqL.of els6⟩, ?_⟩
    refine for_list (K := K) (a := ls) (xs := as) (fun k σ F => ∃ y5 y6 : Option V, σ = [some (.ref a), some (.int (0 + (i : Int))), some (.ref p), some v, some (.ref ls), y5, y6, y7, y8, y9, y10, y11, y12, none] ∧ Same G6 F) ⟨_, _, rfl, Same.refl _⟩ ?_ ?_ ?_
    · rintro k σ F _ ⟨_, _, _, sF⟩
      exact SqL.of (sF _ _ els6)
    · rintro k x σ F hk ⟨z5, z6, rfl, sF⟩
      obtain ⟨d1, ed1, hx⟩ := dpAll_get das6 hk
      rw [adDs, List.getElem?_map] at ed1
      obtain ⟨o1, eo1, rfl⟩ := Option.map_eq_some_iff.mp ed1
      obtain ⟨ta, xa, rfl, hta, hxa⟩ := dp_tup_inv hx
      obtain rfl := Lw.ints_vals hxa
      refine ⟨_, rfl, ls, rfl, ⟨_, SqL.of (sF _ _ els6)⟩, ?_⟩
      refine for_list (K := K) (a := ls) (xs := as) (fun k σ F => ∃ y6 : Option V, σ = [some (.ref a), some (.int (0 + (i : Int))), some (.ref p), some v, some (.ref ls), some (.ref ta), y6, y7, y8, y9, y10, y11, y12, none] ∧ Same G6 F) ⟨_, rfl, sF⟩ ?_ ?_ ?_
      · rintro k σ F _ ⟨_, _, sF⟩
        exact SqL.of (sF _ _ els6)
      · rintro m x σ F hm ⟨z6, rfl, sF⟩
        obtain ⟨d2, ed2, hx2⟩ := dpAll_get das6 hm
        rw [adDs, List.getElem?_map] at ed2
        obtain ⟨o2, eo2, rfl⟩ := Option.map_eq_some_iff.mp ed2
        obtain ⟨tb, xb, rfl, htb, hxb⟩ := dp_tup_inv hx2
        obtain rfl := Lw.ints_vals hxb
        refine ⟨_, rfl, _, rfl, _, rfl, v, j, ta, tb, o1, o2, rfl, dp_same sF dj6, gj.isSome, same_sqT sF hta, same_sqT sF htb, List.mem_of_getElem? eo1, List.mem_of_getElem? eo2, fun F1 u1 => ?_⟩
        have v1 := sF.trans u1
        refine ⟨.bl _, .bool _, rfl, .bl _, trivial, by simp [PyData.depth], by simp [PyData.bulk], ?_⟩
        refine ⟨_, rfl, _, rfl, _, rfl, v, j, ta, tb, o1, o2, rfl, dp_same v1 dj6, same_sqT v1 hta, same_sqT v1 htb, List.mem_of_getElem? eo1, List.mem_of_getElem? eo2, d8, fun F2 u2 => ?_⟩
        refine ⟨.bl _, .bool _, rfl, .bl _, trivial, by simp [PyData.depth], by simp [PyData.bulk], rfl, _, rfl, ?_⟩
        refine iteNS rfl ?_
        exact ⟨_, rfl, v1.trans u2⟩
      · rintro σ F ⟨z6, rfl, sF⟩
        exact ⟨_, _, rfl, sF⟩
    rintro σ F ⟨z5, z6, rfl, sF⟩
    have hp7 := hp6.same sF
    have t7 := t6.trans sF
    clear dj dj3 dj6 das das5 das6 els els5 els6 dpp dtt
    -- the wide job
    refine ⟨_, rfl, p, _, rfl, hp7, by decide, fun W1 vw jw sw1 hpw djw hw => ?_⟩
    obtain ⟨gw, rw_, dw8, sw400, sw0⟩ := hw.all
    have tw1 : Same H W1 := Same.sx_free t7 hpH sw1
    refine ⟨_, rfl, vw, jw, rfl, djw, dw8, J.stb_ok jw gw.1, by omega, rw_, fun W2 lw aw sw2 hlw0 elw daw => ?_⟩
    have djw2 := dp_same sw2 djw
    obtain ⟨f4, f5, f6⟩ := adT_repr gw sw400
    refine ⟨_, rfl, vw, jw, rfl, djw2, gw.isSome, sw400, fun W3 rw2 sw3 drw => ?_⟩
    refine ⟨_, _, rfl, drw, f4, f5, f6, ?_⟩
    refine ⟨_, rfl, lw, aw, rfl, .inl ⟨SqL.of (sw3 _ _ elw), fun tt htt => ?_⟩⟩
    have sw4 : Same W3 (upd W3 tt (.tup aw)) := same_new htt
    have dtt : Dp K (upd W3 tt (.tup aw)) (.ref tt) (.tuple (adDs jw.adr)) := .tup (SqT.of upd_same) (dpAll_same (sw3.trans sw4) daw)
    generalize (upd W3 tt (.tup aw)) = W4 at sw4 dtt ⊢
    refine ⟨_, _, rfl, dtt, f4, f5, f6, rfl, _, rfl, ?_⟩
    refine iteNS rfl ?_
    have sw14 := sw2.trans (sw3.trans sw4)
    have hpw4 := hpw.same sw14
    have tw4 := tw1.trans sw14
    have djw4 := dp_same sw14 djw
    have daw4 := dpAll_same (sw3.trans sw4) daw
    have elw4 := (sw3.trans sw4) _ _ elw
    have nlw : lw ≠ p := fun z => by
      obtain ⟨_, y2⟩ := hpw.lst
      rw [z, y2] at hlw0
      cases hlw0
    obtain ⟨lpw, hlpw⟩ := hpw4.lst
    have awl : (aw.length : Int) = jw.steps := by
      rw [dpAll_length daw, adDs, List.length_map]
      exact J.adr_len jw (J.stb_ok jw gw.1)
    clear djw djw2 drw dtt daw elw sw2 sw3 sw4 hpw sw14
    refine ⟨_, rfl, by decide, by decide, ?_⟩
    refine for_range (lo := 0) (n := (30 : Int).toNat) (fun k σ F => ∃ y5 y6 y9 : Option V, σ = [some (.ref a), some (.int (0 + (i : Int))), some (.ref p), some v, some (.ref ls), y5, y6, some vw, some (.ref lw), y9, y10, y11, y12, none] ∧ Sx p W4 F ∧ Pot F p (400100 + 2 * k)) ⟨_, _, _, rfl, Sx.refl, hpw4⟩ ?_ ?_
    · rintro k σ F hk ⟨z5, z6, z9, rfl, sF, hpF⟩
      have hk30 : k < 30 := hk
      refine ⟨_, rfl, _, rfl, _, rfl, lw, aw, rfl, .inl (SqL.of (sF _ _ nlw elw4)), p, _, _, rfl, hpF, by omega, by omega, Nat.lt_of_le_of_lt (show ((aw.length : Int)).natAbs ≤ 400 by omega) (by decide), fun F1 r1 s1 hp1 r10 r11 => ?_⟩
      obtain ⟨x1, ex1, at1⟩ := pickA (vs := aw) r10 r11
      have sF1 := sF.trans s1
      refine ⟨_, _, _, _, rfl, rfl, SqL.of (sF1 _ _ nlw elw4), at1, ?_⟩
      refine ⟨_, rfl, _, rfl, _, rfl, lw, aw, rfl, .inl (SqL.of (sF1 _ _ nlw elw4)), p, _, _, rfl, hp1, by omega, by omega, Nat.lt_of_le_of_lt (show ((aw.length : Int)).natAbs ≤ 400 by omega) (by decide), fun F2 r2 s2 hp2 r20 r21 => ?_⟩
      obtain ⟨x2, ex2, at2⟩ := pickA (vs := aw) r20 r21
      have sF2 := sF1.trans s2
      refine ⟨_, _, _, _, rfl, rfl, SqL.of (sF2 _ _ nlw elw4), at2, ?_⟩
      refine ⟨_, _, rfl, ?_⟩
      have kk : ∀ b xs, SqT K W4 b xs → SqT K F2 b xs := fun b xs h => sF2.sqT hlpw h
      have djF := dp_keep kk jw.noL djw4
      obtain ⟨d1, ed1, hx⟩ := dpAll_get daw4 ex1
      rw [adDs, List.getElem?_map] at ed1
      obtain ⟨o1, eo1, rfl⟩ := Option.map_eq_some_iff.mp ed1
      obtain ⟨ta, xa, rfl, hta, hxa⟩ := dp_tup_inv hx
      obtain rfl := Lw.ints_vals hxa
      obtain ⟨d2, ed2, hx2⟩ := dpAll_get daw4 ex2
      rw [adDs, List.getElem?_map] at ed2
      obtain ⟨o2, eo2, rfl⟩ := Option.map_eq_some_iff.mp ed2
      obtain ⟨tb, xb, rfl, htb, hxb⟩ := dp_tup_inv hx2
      obtain rfl := Lw.ints_vals hxb
      have hta := kk _ _ hta
      have htb := kk _ _ htb
      refine ⟨_, rfl, _, rfl, _, rfl, vw, jw, ta, tb, o1, o2, rfl, djF, gw.isSome, hta, htb, List.mem_of_getElem? eo1, List.mem_of_getElem? eo2, fun F3 u3 => ?_⟩
      refine ⟨.bl _, .bool _, rfl, .bl _, trivial, by simp [PyData.depth], by simp [PyData.bulk], ?_⟩
      refine ⟨_, rfl, _, rfl, _, rfl, vw, jw, ta, tb, o1, o2, rfl, dp_same u3 djF, same_sqT u3 hta, same_sqT u3 htb, List.mem_of_getElem? eo1, List.mem_of_getElem? eo2, dw8, fun F4 u4 => ?_⟩
      refine ⟨.bl _, .bool _, rfl, .bl _, trivial, by simp [PyData.depth], by simp [PyData.bulk], rfl, _, rfl, ?_⟩
      refine iteNS rfl ?_
      exact ⟨_, _, _, rfl, sF2.trans (Same.sx (u3.trans u4)), (hp2.same (u3.trans u4)).mono (by omega)⟩
    rintro σ F ⟨z5, z6, z9, rfl, sF, hpF⟩
    have hpF : Pot F p 500000 := hpF.mono (by decide)
    have tF : Same H F := Same.sx_free tw4 hpH sF
    clear hlpw hpw4 tw4 djw4 daw4 elw4 awl sF tw1
    -- a great job
    refine ⟨_, rfl, _, _, rfl, rfl, powW_of 4 (by decide) (by decide) (by decide), ?_⟩
    dsimp only
    rw [e12]
    refine ⟨(by show 5 ≤ sizeLine; decide), fun l hl => ?_⟩
    obtain ⟨lp, hlp⟩ := hpF.lst
    have nlp : l ≠ p := fun z => by rw [z, hlp] at hl; cases hl
    refine ⟨p, l, 500000, [1, 2, 3, 1000000000000, 7], rfl, hpF.same (same_new hl), by decide, upd_same, nlp, by decide, by decide, ?_, fun M vg jg sM hpM djg gg => ?_⟩
    · simp only [List.mem_cons, List.not_mem_nil, or_false, M30]
      rintro c (rfl | rfl | rfl | rfl | rfl) <;> omega
    have tM : Same H M := Same.sx_free (tF.trans (same_new hl)) hpH sM
    have hpM : Pot M p 700000 := hpM.mono (by decide)
    have gdeep := gg.deep
    have g20 : jg.deep ≤ 20 := by omega
    refine ⟨fun σ' H'' => ∃ (vh : V) (jh : J) (z5 z6 z9 : Option V), σ' = [some (.ref a), some (.int (0 + (i : Int))), some (.ref p), some v, some (.ref ls), z5, z6, some vw, some (.ref lw), z9, some vh, y11, y12, none] ∧ Same H H'' ∧ Pot H'' p 700000 ∧ Dp K H'' vh jh.toD ∧ Good jh ∧ 0 < jh.steps ∧ jh.deep ≤ 8, ?_, ?_⟩
    · refine ⟨_, rfl, vg, jg, rfl, djg, g20, fun M1 m1 => ?_⟩
      refine ⟨_, rfl, ?_⟩
      cases ej : (szJ jg 400 13).isSome with
      | false =>
        refine iteT ?_
        refine ⟨_, _, rfl, rfl, powW_of 4 (by decide) (by decide) (by decide), ?_⟩
        dsimp only
        rw [e12]
        refine ⟨_, _, rfl, rfl, powW_of 4 (by decide) (by decide) (by decide), ?_⟩
        dsimp only
        rw [e9]
        refine ⟨_, rfl, (by show 2 ≤ sizeLine; decide), fun q3 hq3 => ?_⟩
        obtain ⟨u3, d3⟩ := tup_fresh (K := K) (ds := [.int 2, .int (-3)]) hq3 (.cons (.int _) (.cons (.int _) .nil))
        generalize (upd M1 q3 (.tup [.int 2, .int (-3)])) = E3 at u3 d3 ⊢
        refine ⟨(by show 2 ≤ sizeLine; decide), fun q4 hq4 => ?_⟩
        obtain ⟨u4, d4⟩ := tup_fresh (K := K) (ds := [.str "seq", .tuple [.int 2, .int (-3)]]) hq4 (.cons (.str _) (.cons d3 .nil))
        generalize (upd E3 q4 (.tup [.str "seq", .ref q3])) = E4 at u4 d4 ⊢
        refine ⟨(by show 3 ≤ sizeLine; decide), fun q5 hq5 => ?_⟩
        obtain ⟨u5, d5⟩ := tup_fresh (K := K) (ds := [.str "copies", .int 1000000000, .tuple [.str "seq", .tuple [.int 2, .int (-3)]]]) hq5 (.cons (.str _) (.cons (.int _) (.cons d4 .nil)))
        generalize (upd E4 q5 (.tup [.str "copies", .int 1000000000, .ref q4])) = E5 at u5 d5 ⊢
        refine ⟨_, rfl, (by show 2 ≤ sizeLine; decide), fun q6 hq6 => ?_⟩
        obtain ⟨u6, d6⟩ := tup_fresh (K := K) (ds := [.tuple [.str "copies", .int 1000000000, .tuple [.str "seq", .tuple [.int 2, .int (-3)]]], .int (-1)]) hq6 (.cons d5 (.cons (.int _) .nil))
        generalize (upd E5 q6 (.tup [.ref q5, .int (-1)])) = E6 at u6 d6 ⊢
        refine ⟨(by show 2 ≤ sizeLine; decide), fun q7 hq7 => ?_⟩
        obtain ⟨u7, d7⟩ := tup_fresh (K := K) (ds := [.str "par", .tuple [.tuple [.str "copies", .int 1000000000, .tuple [.str "seq", .tuple [.int 2, .int (-3)]]], .int (-1)]]) hq7 (.cons (.str _) (.cons d6 .nil))
        generalize (upd E6 q7 (.tup [.str "par", .ref q6])) = E7 at u7 d7 ⊢
        refine ⟨(by show 3 ≤ sizeLine; decide), fun q8 hq8 => ?_⟩
        obtain ⟨u8, d8'⟩ := tup_fresh (K := K) (ds := [.str "repeat", .int 1000000000000, .tuple [.str "par", .tuple [.tuple [.str "copies", .int 1000000000, .tuple [.str "seq", .tuple [.int 2, .int (-3)]]], .int (-1)]]]) hq8 (.cons (.str _) (.cons (.int _) (.cons d7 .nil)))
        have uu := m1.trans (u3.trans (u4.trans (u5.trans (u6.trans (u7.trans u8)))))
        exact ⟨.ref q8, jD8, z5, z6, z9, rfl, tM.trans uu, hpM.same uu, d8', good_D8.1, good_D8.2.1, good_D8.2.2⟩
      | true =>
        refine iteF ?_
        have gj' := good_of ej
        refine ⟨_, rfl, vg, jg, rfl, dp_same m1 djg, g20, J.stb_ok jg gj'.1, fun M2 m2 => ?_⟩
        have m12 := m1.trans m2
        refine ⟨rfl, _, rfl, ?_⟩
        refine ite2 (fun z => ?_) (fun z => ?_)
        · 
          refine ⟨_, _, rfl, rfl, powW_of 4 (by decide) (by decide) (by decide), ?_⟩
          dsimp only
          rw [e12]
          refine ⟨_, _, rfl, rfl, powW_of 4 (by decide) (by decide) (by decide), ?_⟩
          dsimp only
          rw [e9]
          refine ⟨_, rfl, (by show 2 ≤ sizeLine; decide), fun q3 hq3 => ?_⟩
          obtain ⟨u3, d3⟩ := tup_fresh (K := K) (ds := [.int 2, .int (-3)]) hq3 (.cons (.int _) (.cons (.int _) .nil))
          generalize (upd M2 q3 (.tup [.int 2, .int (-3)])) = E3 at u3 d3 ⊢
          refine ⟨(by show 2 ≤ sizeLine; decide), fun q4 hq4 => ?_⟩
          obtain ⟨u4, d4⟩ := tup_fresh (K := K) (ds := [.str "seq", .tuple [.int 2, .int (-3)]]) hq4 (.cons (.str _) (.cons d3 .nil))
          generalize (upd E3 q4 (.tup [.str "seq", .ref q3])) = E4 at u4 d4 ⊢
          refine ⟨(by show 3 ≤ sizeLine; decide), fun q5 hq5 => ?_⟩
          obtain ⟨u5, d5⟩ := tup_fresh (K := K) (ds := [.str "copies", .int 1000000000, .tuple [.str "seq", .tuple [.int 2, .int (-3)]]]) hq5 (.cons (.str _) (.cons (.int _) (.cons d4 .nil)))
          generalize (upd E4 q5 (.tup [.str "copies", .int 1000000000, .ref q4])) = E5 at u5 d5 ⊢
          refine ⟨_, rfl, (by show 2 ≤ sizeLine; decide), fun q6 hq6 => ?_⟩
          obtain ⟨u6, d6⟩ := tup_fresh (K := K) (ds := [.tuple [.str "copies", .int 1000000000, .tuple [.str "seq", .tuple [.int 2, .int (-3)]]], .int (-1)]) hq6 (.cons d5 (.cons (.int _) .nil))
          generalize (upd E5 q6 (.tup [.ref q5, .int (-1)])) = E6 at u6 d6 ⊢
          refine ⟨(by show 2 ≤ sizeLine; decide), fun q7 hq7 => ?_⟩
          obtain ⟨u7, d7⟩ := tup_fresh (K := K) (ds := [.str "par", .tuple [.tuple [.str "copies", .int 1000000000, .tuple [.str "seq", .tuple [.int 2, .int (-3)]]], .int (-1)]]) hq7 (.cons (.str _) (.cons d6 .nil))
          generalize (upd E6 q7 (.tup [.str "par", .ref q6])) = E7 at u7 d7 ⊢
          refine ⟨(by show 3 ≤ sizeLine; decide), fun q8 hq8 => ?_⟩
          obtain ⟨u8, d8'⟩ := tup_fresh (K := K) (ds := [.str "repeat", .int 1000000000000, .tuple [.str "par", .tuple [.tuple [.str "copies", .int 1000000000, .tuple [.str "seq", .tuple [.int 2, .int (-3)]]], .int (-1)]]]) hq8 (.cons (.str _) (.cons (.int _) (.cons d7 .nil)))
          have uu := m12.trans (u3.trans (u4.trans (u5.trans (u6.trans (u7.trans u8)))))
          exact ⟨.ref q8, jD8, z5, z6, z9, rfl, tM.trans uu, hpM.same uu, d8', good_D8.1, good_D8.2.1, good_D8.2.2⟩
        · have hns : jg.steps ≠ 0 := fun e => z (by rw [e]; rfl)
          have h0 := J.steps_nn jg gj'.1
          exact ⟨vg, jg, z5, z6, z9, rfl, tM.trans m12, hpM.same m12, dp_same m12 djg, gj', by omega, by omega⟩
    rintro σ M1 ⟨vh, jh, w5, w6, w9, rfl, tM1, hpM1, djh, gh, h0, h8⟩
    clear tM hpM djg sM tF hpF hlp
    refine ⟨_, rfl, by decide, by decide, ?_⟩
    refine for_range (lo := 0) (n := (6 : Int).toNat) (fun k σ F => ∃ y5 y6 y9 y11 y12 : Option V, σ = [some (.ref a), some (.int (0 + (i : Int))), some (.ref p), some v, some (.ref ls), y5, y6, some vw, some (.ref lw), y9, some vh, y11, y12, none] ∧ Same H F ∧ Pot F p (700000 + 32 * k) ∧ Dp K F vh jh.toD) ⟨_, _, _, _, _, rfl, tM1, hpM1, djh⟩ ?_ ?_
    · rintro k σ F hk ⟨z5, z6, z9, z11, z12, rfl, tF, hpF, djF⟩
      have hk6 : k < 6 := hk
      obtain ⟨l3, hl3⟩ := hpF.lst
      refine ⟨_, rfl, _, rfl, p, _, vh, jh, rfl, hpF, by omega, djF, gh.1, h0, gh.d20, fun F1 ta ad i1 s1 hp1 hta lta bta eta => ?_⟩
      have djF1 := dp_keep (fun a xs h => s1.sqT hl3 h) jh.noL djF
      obtain ⟨l4, hl4⟩ := hp1.lst
      refine ⟨_, rfl, _, rfl, p, _, vh, jh, rfl, hp1, by omega, djF1, gh.1, h0, gh.d20, fun F2 tb bd i2 s2 hp2 htb ltb btb etb => ?_⟩
      have djF2 := dp_keep (fun a xs h => s2.sqT hl4 h) jh.noL djF1
      have hta2 := s2.sqT hl4 hta
      have tF2 : Same H F2 := Same.sx_free tF hpH (s1.trans s2)
      have ha := find_adr (J.stb_ok jh gh.1) eta
      have hb := find_adr (J.stb_ok jh gh.1) etb
      refine ⟨_, _, rfl, ?_⟩
      refine ⟨_, rfl, _, rfl, (by show 2 ≤ sizeLine; decide), fun q1 hq1 => ?_⟩
      have u1 : Same F2 (upd F2 q1 (.tup [.ref ta, .ref tb])) := same_new hq1
      have k1 : SqT K (upd F2 q1 (.tup [.ref ta, .ref tb])) q1 [.ref ta, .ref tb] := SqT.of upd_same
      generalize (upd F2 q1 (.tup [.ref ta, .ref tb])) = F3 at u1 k1 ⊢
      refine ⟨_, rfl, _, rfl, (by show 2 ≤ sizeLine; decide), fun q2 hq2 => ?_⟩
      have u2 : Same F3 (upd F3 q2 (.tup [.ref tb, .ref ta])) := same_new hq2
      have k2 : SqT K (upd F3 q2 (.tup [.ref tb, .ref ta])) q2 [.ref tb, .ref ta] := SqT.of upd_same
      generalize (upd F3 q2 (.tup [.ref tb, .ref ta])) = F4 at u2 k2 ⊢
      refine ⟨_, rfl, _, rfl, (by show 2 ≤ sizeLine; decide), fun q3 hq3 => ?_⟩
      have u3 : Same F4 (upd F4 q3 (.tup [.ref ta, .ref ta])) := same_new hq3
      have k3 : SqT K (upd F4 q3 (.tup [.ref ta, .ref ta])) q3 [.ref ta, .ref ta] := SqT.of upd_same
      generalize (upd F4 q3 (.tup [.ref ta, .ref ta])) = F5 at u3 k3 ⊢
      refine ⟨(by show 3 ≤ sizeLine; decide), fun q4 hq4 => ?_⟩
      have u4 : Same F5 (upd F5 q4 (.tup [.ref q1, .ref q2, .ref q3])) := same_new hq4
      have k4 : SqT K (upd F5 q4 (.tup [.ref q1, .ref q2, .ref q3])) q4 [.ref q1, .ref q2, .ref q3] := SqT.of upd_same
      generalize (upd F5 q4 (.tup [.ref q1, .ref q2, .ref q3])) = F6 at u4 k4 ⊢
      have u26 := u1.trans (u2.trans (u3.trans u4))
      have pairs : ∀ (m : Nat) (x : V), [V.ref q1, .ref q2, .ref q3][m]? = some x → ∃ (q tc td : Addr) (c d : List Int), x = .ref q ∧ SqT K F6 q [.ref tc, .ref td] ∧ SqT K F6 tc (c.map V.int) ∧ SqT K F6 td (d.map V.int) ∧ c ∈ jh.adr ∧ d ∈ jh.adr := by
        intro m x hx
        have fa := same_sqT u26 hta2
        have fb := same_sqT u26 htb
        match m, hx with
        | 0, hx =>
          cases hx
          exact ⟨q1, ta, tb, ad, bd, rfl, same_sqT (u2.trans (u3.trans u4)) k1, fa, fb, ha, hb⟩
        | 1, hx =>
          cases hx
          exact ⟨q2, tb, ta, bd, ad, rfl, same_sqT (u3.trans u4) k2, fb, fa, hb, ha⟩
        | 2, hx =>
          cases hx
          exact ⟨q3, ta, ta, ad, ad, rfl, same_sqT u4 k3, fa, fa, ha, ha⟩
        | m + 3, hx => simp at hx
      have djF6 := dp_same u26 djF2
      have hp6 := hp2.same u26
      have tF6 := tF2.trans u26
      clear djF djF1 djF2 hta hta2 htb hp1 hp2 s1 s2 hpF tF tF2 u1 u2 u3 u4 u26 k1 k2 k3
      refine ⟨q4, rfl, ⟨_, k4⟩, ?_⟩
      refine for_tup (K := K) (a := q4) (xs := [.ref q1, .ref q2, .ref q3]) (fun m σ G => ∃ y11 y12 : Option V, σ = [some (.ref a), some (.int (0 + (i : Int))), some (.ref p), some v, some (.ref ls), some (.ref ta), some (.ref tb), some vw, some (.ref lw), some (.int (0 + (k : Int))), some vh, y11, y12, none] ∧ Same F6 G) ⟨_, _, rfl, Same.refl _⟩ ?_ ?_ ?_
      · rintro m σ G _ ⟨_, _, _, sG⟩
        exact same_sqT sG k4
      · rintro m x σ G hm ⟨z11, z12, rfl, sG⟩
        obtain ⟨q, tc, td, c, d, rfl, kq, kc, kd, hc, hd⟩ := pairs m x hm
        refine ⟨q, _, rfl, same_sqT sG kq, rfl, _, _, rfl, _, _, rfl, rfl, ?_⟩
        have djG := dp_same sG djF6
        have kc := same_sqT sG kc
        have kd := same_sqT sG kd
        refine ⟨_, rfl, _, rfl, _, rfl, vh, jh, tc, td, c, d, rfl, djG, gh.isSome, kc, kd, hc, hd, fun G1 u1 => ?_⟩
        refine ⟨.bl _, .bool _, rfl, .bl _, trivial, by simp [PyData.depth], by simp [PyData.bulk], ?_⟩
        refine ⟨_, rfl, _, rfl, _, rfl, vh, jh, tc, td, c, d, rfl, dp_same u1 djG, same_sqT u1 kc, same_sqT u1 kd, hc, hd, h8, fun G2 u2 => ?_⟩
        refine ⟨.bl _, .bool _, rfl, .bl _, trivial, by simp [PyData.depth], by simp [PyData.bulk], rfl, _, rfl, ?_⟩
        refine iteNS rfl ?_
        exact ⟨_, _, rfl, sG.trans (u1.trans u2)⟩
      · rintro σ G ⟨z11, z12, rfl, sG⟩
        exact ⟨_, _, _, _, _, rfl, tF6.trans sG, (hp6.same sG).mono (by omega), dp_same sG djF6⟩
    rintro σ F ⟨z5, z6, z9, z11, z12, rfl, tF, hpF, djF⟩
    exact ⟨_, _, _, _, _, _, _, _, _, _, _, _, rfl, tF⟩
  · rintro σ H' ⟨y1, y2, y3, y4, y5, y6, y7, y8, y9, y10, y11, y12, rfl, t⟩
    clear t hsc hS hO
    have e30 : (10 : Int) ^ (30 : Int).toNat = 1000000000000000000000000000000 := by decide
    refine ⟨_, _, rfl, rfl, powW_of 4 (by decide) (by decide) (by decide), ?_⟩
    dsimp only
    rw [e30]
    refine ⟨(by show 3 ≤ sizeLine; decide), fun q1 hq1 => ?_⟩
    obtain ⟨u1, d1⟩ := tup_fresh (K := K) (ds := [.str "repeat", .int 0, .int 5]) hq1 (.cons (.str _) (.cons (.int _) (.cons (.int _) .nil)))
    generalize (upd H' q1 (.tup [.str "repeat", .int 0, .int 5])) = F1 at u1 d1 ⊢
    refine ⟨(by show 3 ≤ sizeLine; decide), fun q2 hq2 => ?_⟩
    obtain ⟨u2, d2⟩ := tup_fresh (K := K) (ds := [.str "copies", .int 1000000000000000000000000000000, .tuple [.str "repeat", .int 0, .int 5]]) hq2 (.cons (.str _) (.cons (.int _) (.cons d1 .nil)))
    generalize (upd F1 q2 (.tup [.str "copies", .int 1000000000000000000000000000000, .ref q1])) = F2 at u2 d2 ⊢
    have dF : Dp K F2 (.ref q2) jF8.toD := d2
    obtain ⟨f1, f2, f3⟩ := adT_repr good_F8.1 good_F8.2
    refine ⟨.ref q2, jF8, rfl, dF, good_F8.1.isSome, good_F8.2, fun F3 r u3 dr => ?_⟩
    refine ⟨_, _, rfl, dr, f1, f2, f3, ?_⟩
    rw [adr_F8]
    refine ⟨rfl, _, rfl, ?_⟩
    refine iteNS rfl ?_
    -- 400 copies
    refine ⟨(by show 3 ≤ sizeLine; decide), fun q4 hq4 => ?_⟩
    obtain ⟨u4, d4⟩ := tup_fresh (K := K) (ds := [.str "copies", .int 400, .int 1]) hq4 (.cons (.str _) (.cons (.int _) (.cons (.int _) .nil)))
    generalize (upd F3 q4 (.tup [.str "copies", .int 400, .int 1])) = F4 at u4 d4 ⊢
    have dG : Dp K F4 (.ref q4) jG8.toD := d4
    refine ⟨.ref q4, jG8, rfl, dG, good_G8.1.isSome, good_G8.2, fun F5 rg u5 drg => ?_⟩
    rw [adr_G8] at drg
    refine ⟨_, rfl, by decide, by decide, fun D hD => ?_⟩
    refine lc_range (lo := 0) (n := (400 : Int).toNat) (fun k G => Same F5 G ∧ ∃ ts, G D = some (.lst ts) ∧ DpAll K G ts (adDs (ones k))) ?_ ?_ ?_
    · exact ⟨same_new hD, [], upd_same, .nil⟩
    · rintro k G hk ⟨sG, ts, eD, dts⟩
      have hk4 : k < 400 := hk
      have tl : ts.length = k := by
        rw [dpAll_length dts, adDs, List.length_map, ones, List.length_map, List.length_range]
      refine ⟨rfl, ?_⟩
      unfold tYes
      refine iteT ?_
      refine ⟨_, rfl, (by show 1 ≤ sizeLine; decide), fun q5 hq5 => ?_⟩
      have sq : Same G (upd G q5 (.tup [.int (0 + (k : Int))])) := same_new hq5
      have dq5 : Dp K (upd G q5 (.tup [.int (0 + (k : Int))])) (.ref q5) (adD [(k : Int)]) := by
        rw [show 0 + (k : Int) = (k : Int) by omega]
        exact .tup (SqT.of upd_same) (.cons (.int _) .nil)
      generalize (upd G q5 (.tup [.int (0 + (k : Int))])) = G1 at sq dq5 ⊢
      have eD1 := sq _ _ eD
      refine ⟨ts, eD1, small1000 (by omega), ?_, ts ++ [.ref q5], upd_same, ?_⟩
      · intro c2 o hc
        rw [upd_ne (ne_of_none hc hD)]
        exact sq _ _ (sG _ _ hc)
      · have k2 : ∀ b xs, SqT K G1 b xs → SqT K (upd G1 D (.lst (ts ++ [.ref q5]))) b xs := fun b xs h => (sx_upd (p := D)).sqT eD1 h
        have e1 : adDs (ones (k + 1)) = adDs (ones k) ++ [adD [(k : Int)]] := by
          rw [ones_succ, adDs, List.map_append]
          rfl
        rw [e1]
        exact dpAll_append (dpAll_keep k2 (noLs_ad _) (dpAll_same sq dts)) (.cons (dp_keep k2 (noL_ad _) dq5) .nil)
    rintro G ⟨sG, ts, eD, dts⟩
    have dts : DpAll K G ts (adDs (ones 400)) := dts
    refine ⟨D, ts, rfl, .inl ⟨SqL.of eD, fun tt htt => ?_⟩⟩
    have s7 : Same G (upd G tt (.tup ts)) := same_new htt
    have dtt : Dp K (upd G tt (.tup ts)) (.ref tt) (.tuple (adDs (ones 400))) := .tup (SqT.of upd_same) (dpAll_same s7 dts)
    generalize (upd G tt (.tup ts)) = G2 at s7 dtt ⊢
    refine ⟨_, _, dp_same (sG.trans s7) drg, dtt, adT_shaped _, adT_shaped _, _, rfl, ?_⟩
    rw [adT_self]
    refine iteF ?_
    clear drg dtt dts eD
    refine ⟨rfl, _, rfl, ?_⟩
    refine iteT ?_
    refine ⟨_, rfl, .int (-4), .st (-4), rfl, .int _, good_m4.1.isSome, good_m4.2, fun F7 r7 u7 dr7 => ?_⟩
    refine ⟨(by show 0 ≤ sizeLine; decide), fun q6 hq6 => ?_⟩
    obtain ⟨u8, d8⟩ := tup_fresh (K := K) (ds := []) hq6 .nil
    generalize (upd F7 q6 (.tup [])) = F8 at u8 d8 ⊢
    refine ⟨(by show 1 ≤ sizeLine; decide), fun q7 hq7 => ?_⟩
    obtain ⟨u9, d9⟩ := tup_fresh (K := K) (ds := adDs (J.st (-4)).adr) hq7 (.cons d8 .nil)
    refine ⟨_, _, dp_same (u8.trans u9) dr7, d9, adT_shaped _, adT_shaped _, ?_⟩
    rw [adT_self]
    exact q _
end
theorem all_mk {l : PySem.W.OpenLaw} {w : World} {K : PySem.W.Frag} {h : Heap} {mg : Str → Option Value} {fa : Addr} (X : K.In h) (G : h.Ns mainGlobals mg) (hfa : mg "law" = some (.ref fa))
    {od0 an0 : Option Addr} {sl0 : Array (Option Value)} {oc0 kV0 dc0 pm0 cd0 ct0 : Value} {f0 : Addr}
    {od1 an1 : Option Addr} {sl1 : Array (Option Value)} {oc1 kV1 dc1 pm1 cd1 ct1 : Value} {f1 : Addr}
    {od2 an2 : Option Addr} {sl2 : Array (Option Value)} {oc2 kV2 dc2 pm2 cd2 ct2 : Value} {f2 : Addr}
    {od3 an3 : Option Addr} {sl3 : Array (Option Value)} {oc3 kV3 dc3 pm3 cd3 ct3 : Value} {f3 : Addr}
    {od4 an4 : Option Addr} {sl4 : Array (Option Value)} {oc4 kV4 dc4 pm4 cd4 ct4 : Value} {f4 : Addr}
    {od5 an5 : Option Addr} {sl5 : Array (Option Value)} {oc5 kV5 dc5 pm5 cd5 ct5 : Value} {f5 : Addr}
    {od6 an6 : Option Addr} {sl6 : Array (Option Value)} {oc6 kV6 dc6 pm6 cd6 ct6 : Value} {f6 : Addr}
    {od7 an7 : Option Addr} {sl7 : Array (Option Value)} {oc7 kV7 dc7 pm7 cd7 ct7 : Value} {f7 : Addr}
    {od8 an8 : Option Addr} {sl8 : Array (Option Value)} {oc8 kV8 dc8 pm8 cd8 ct8 : Value} {f8 : Addr}
    {od9 an9 : Option Addr} {sl9 : Array (Option Value)} {oc9 kV9 dc9 pm9 cd9 ct9 : Value} {f9 : Addr}
    {od10 an10 : Option Addr} {sl10 : Array (Option Value)} {oc10 kV10 dc10 pm10 cd10 ct10 : Value} {f10 : Addr}
    {od11 an11 : Option Addr} {sl11 : Array (Option Value)} {oc11 kV11 dc11 pm11 cd11 ct11 : Value} {f11 : Addr}
    {od12 an12 : Option Addr} {sl12 : Array (Option Value)} {oc12 kV12 dc12 pm12 cd12 ct12 : Value} {f12 : Addr}
    {od13 an13 : Option Addr} {sl13 : Array (Option Value)} {oc13 kV13 dc13 pm13 cd13 ct13 : Value} {f13 : Addr}
    {od14 an14 : Option Addr} {sl14 : Array (Option Value)} {oc14 kV14 dc14 pm14 cd14 ct14 : Value} {f14 : Addr}
    {od15 an15 : Option Addr} {sl15 : Array (Option Value)} {oc15 kV15 dc15 pm15 cd15 ct15 : Value} {f15 : Addr}
    {od16 an16 : Option Addr} {sl16 : Array (Option Value)} {oc16 kV16 dc16 pm16 cd16 ct16 : Value} {f16 : Addr}
    {od17 an17 : Option Addr} {sl17 : Array (Option Value)} {oc17 kV17 dc17 pm17 cd17 ct17 : Value} {f17 : Addr}
    {od18 an18 : Option Addr} {sl18 : Array (Option Value)} {oc18 kV18 dc18 pm18 cd18 ct18 : Value} {f18 : Addr}
    {od19 an19 : Option Addr} {sl19 : Array (Option Value)} {oc19 kV19 dc19 pm19 cd19 ct19 : Value} {f19 : Addr}
    {od20 an20 : Option Addr} {sl20 : Array (Option Value)} {oc20 kV20 dc20 pm20 cd20 ct20 : Value} {f20 : Addr}
    {od21 an21 : Option Addr} {sl21 : Array (Option Value)} {oc21 kV21 dc21 pm21 cd21 ct21 : Value} {f21 : Addr}
    {od22 an22 : Option Addr} {sl22 : Array (Option Value)} {oc22 kV22 dc22 pm22 cd22 ct22 : Value} {f22 : Addr}
    {od23 an23 : Option Addr} {sl23 : Array (Option Value)} {oc23 kV23 dc23 pm23 cd23 ct23 : Value} {f23 : Addr}
    {od24 an24 : Option Addr} {sl24 : Array (Option Value)} {oc24 kV24 dc24 pm24 cd24 ct24 : Value} {f24 : Addr}
    {od25 an25 : Option Addr} {sl25 : Array (Option Value)} {oc25 kV25 dc25 pm25 cd25 ct25 : Value} {f25 : Addr}
    {od26 an26 : Option Addr} {sl26 : Array (Option Value)} {oc26 kV26 dc26 pm26 cd26 ct26 : Value} {f26 : Addr}
    {od27 an27 : Option Addr} {sl27 : Array (Option Value)} {oc27 kV27 dc27 pm27 cd27 ct27 : Value} {f27 : Addr}
    {od28 an28 : Option Addr} {sl28 : Array (Option Value)} {oc28 kV28 dc28 pm28 cd28 ct28 : Value} {f28 : Addr}
    {od29 an29 : Option Addr} {sl29 : Array (Option Value)} {oc29 kV29 dc29 pm29 cd29 ct29 : Value} {f29 : Addr}
    {od30 an30 : Option Addr} {sl30 : Array (Option Value)} {oc30 kV30 dc30 pm30 cd30 ct30 : Value} {f30 : Addr}
    {tk0 : Tok}
    {tk1 : Tok}
    {tk2 : Tok}
    {tk3 : Tok}
    {tk4 : Tok}
    {tk5 : Tok}
    (a0 : PySem.W.nsIn K mainGlobals "is_integer" = some (some (.ref f0)))
    (l0 : K.lookup f0 = some ⟨oc0, od0, .func (PySem.W.fnOf "is_integer" "is_integer" (defArgs s_is_integer) (defBody s_is_integer) (defScope s_is_integer) .none kV0 dc0 pm0 an0 cd0 ct0), sl0⟩)
    (c0 : PySem.W.codeIn K cd0 "is_integer" = true) (k0 : PySem.W.keepIn K (.ref f0) = true)
    (a1 : PySem.W.nsIn K mainGlobals "is_within" = some (some (.ref f1)))
    (l1 : K.lookup f1 = some ⟨oc1, od1, .func (PySem.W.fnOf "is_within" "is_within" (defArgs s_is_within) (defBody s_is_within) (defScope s_is_within) .none kV1 dc1 pm1 an1 cd1 ct1), sl1⟩)
    (c1 : PySem.W.codeIn K cd1 "is_within" = true) (k1 : PySem.W.keepIn K (.ref f1) = true)
    (a2 : PySem.W.nsIn K mainGlobals "is_job" = some (some (.ref f2)))
    (l2 : K.lookup f2 = some ⟨oc2, od2, .func (PySem.W.fnOf "is_job" "is_job" (defArgs s_is_job) (defBody s_is_job) (defScope s_is_job) .none kV2 dc2 pm2 an2 cd2 ct2), sl2⟩)
    (c2 : PySem.W.codeIn K cd2 "is_job" = true) (k2 : PySem.W.keepIn K (.ref f2) = true)
    (a3 : PySem.W.nsIn K mainGlobals "checked_sizes" = some (some (.ref f3)))
    (l3 : K.lookup f3 = some ⟨oc3, od3, .func (PySem.W.fnOf "checked_sizes" "checked_sizes" (defArgs s_checked_sizes) (defBody s_checked_sizes) (defScope s_checked_sizes) .none kV3 dc3 pm3 an3 cd3 ct3), sl3⟩)
    (c3 : PySem.W.codeIn K cd3 "checked_sizes" = true) (k3 : PySem.W.keepIn K (.ref f3) = true)
    (a4 : PySem.W.nsIn K mainGlobals "steps_of_leaf" = some (some (.ref f4)))
    (l4 : K.lookup f4 = some ⟨oc4, od4, .func (PySem.W.fnOf "steps_of_leaf" "steps_of_leaf" (defArgs s_steps_of_leaf) (defBody s_steps_of_leaf) (defScope s_steps_of_leaf) .none kV4 dc4 pm4 an4 cd4 ct4), sl4⟩)
    (c4 : PySem.W.codeIn K cd4 "steps_of_leaf" = true) (k4 : PySem.W.keepIn K (.ref f4) = true)
    (a5 : PySem.W.nsIn K mainGlobals "sizes_of" = some (some (.ref f5)))
    (l5 : K.lookup f5 = some ⟨oc5, od5, .func (PySem.W.fnOf "sizes_of" "sizes_of" (defArgs s_sizes_of) (defBody s_sizes_of) (defScope s_sizes_of) .none kV5 dc5 pm5 an5 cd5 ct5), sl5⟩)
    (c5 : PySem.W.codeIn K cd5 "sizes_of" = true) (k5 : PySem.W.keepIn K (.ref f5) = true)
    (a6 : PySem.W.nsIn K mainGlobals "_sizes" = some (some (.ref f6)))
    (l6 : K.lookup f6 = some ⟨oc6, od6, .func (PySem.W.fnOf "_sizes" "_sizes" (defArgs s__sizes) (defBody s__sizes) (defScope s__sizes) .none kV6 dc6 pm6 an6 cd6 ct6), sl6⟩)
    (c6 : PySem.W.codeIn K cd6 "_sizes" = true) (k6 : PySem.W.keepIn K (.ref f6) = true)
    (a7 : PySem.W.nsIn K mainGlobals "_sizes_of_parts" = some (some (.ref f7)))
    (l7 : K.lookup f7 = some ⟨oc7, od7, .func (PySem.W.fnOf "_sizes_of_parts" "_sizes_of_parts" (defArgs s__sizes_of_parts) (defBody s__sizes_of_parts) (defScope s__sizes_of_parts) .none kV7 dc7 pm7 an7 cd7 ct7), sl7⟩)
    (c7 : PySem.W.codeIn K cd7 "_sizes_of_parts" = true) (k7 : PySem.W.keepIn K (.ref f7) = true)
    (a8 : PySem.W.nsIn K mainGlobals "_sizes_of_rounds" = some (some (.ref f8)))
    (l8 : K.lookup f8 = some ⟨oc8, od8, .func (PySem.W.fnOf "_sizes_of_rounds" "_sizes_of_rounds" (defArgs s__sizes_of_rounds) (defBody s__sizes_of_rounds) (defScope s__sizes_of_rounds) .none kV8 dc8 pm8 an8 cd8 ct8), sl8⟩)
    (c8 : PySem.W.codeIn K cd8 "_sizes_of_rounds" = true) (k8 : PySem.W.keepIn K (.ref f8) = true)
    (a9 : PySem.W.nsIn K mainGlobals "_within_count" = some (some (.ref f9)))
    (l9 : K.lookup f9 = some ⟨oc9, od9, .func (PySem.W.fnOf "_within_count" "_within_count" (defArgs s__within_count) (defBody s__within_count) (defScope s__within_count) .none kV9 dc9 pm9 an9 cd9 ct9), sl9⟩)
    (c9 : PySem.W.codeIn K cd9 "_within_count" = true) (k9 : PySem.W.keepIn K (.ref f9) = true)
    (a10 : PySem.W.nsIn K mainGlobals "precedes" = some (some (.ref f10)))
    (l10 : K.lookup f10 = some ⟨oc10, od10, .func (PySem.W.fnOf "precedes" "precedes" (defArgs s_precedes) (defBody s_precedes) (defScope s_precedes) .none kV10 dc10 pm10 an10 cd10 ct10), sl10⟩)
    (c10 : PySem.W.codeIn K cd10 "precedes" = true) (k10 : PySem.W.keepIn K (.ref f10) = true)
    (a11 : PySem.W.nsIn K mainGlobals "all_addresses" = some (some (.ref f11)))
    (l11 : K.lookup f11 = some ⟨oc11, od11, .func (PySem.W.fnOf "all_addresses" "all_addresses" (defArgs s_all_addresses) (defBody s_all_addresses) (defScope s_all_addresses) .none kV11 dc11 pm11 an11 cd11 ct11), sl11⟩)
    (c11 : PySem.W.codeIn K cd11 "all_addresses" = true) (k11 : PySem.W.keepIn K (.ref f11) = true)
    (a12 : PySem.W.nsIn K mainGlobals "check_small" = some (some (.ref f12)))
    (l12 : K.lookup f12 = some ⟨oc12, od12, .func (PySem.W.fnOf "check_small" "check_small" (defArgs s_check_small) (defBody s_check_small) (defScope s_check_small) .none kV12 dc12 pm12 an12 cd12 ct12), sl12⟩)
    (c12 : PySem.W.codeIn K cd12 "check_small" = true) (k12 : PySem.W.keepIn K (.ref f12) = true)
    (a13 : PySem.W.nsIn K mainGlobals "is_index_tuple" = some (some (.ref f13)))
    (l13 : K.lookup f13 = some ⟨oc13, od13, .func (PySem.W.fnOf "is_index_tuple" "is_index_tuple" (defArgs s_is_index_tuple) (defBody s_is_index_tuple) (defScope s_is_index_tuple) .none kV13 dc13 pm13 an13 cd13 ct13), sl13⟩)
    (c13 : PySem.W.codeIn K cd13 "is_index_tuple" = true) (k13 : PySem.W.keepIn K (.ref f13) = true)
    (a14 : PySem.W.nsIn K mainGlobals "find_step" = some (some (.ref f14)))
    (l14 : K.lookup f14 = some ⟨oc14, od14, .func (PySem.W.fnOf "find_step" "find_step" (defArgs s_find_step) (defBody s_find_step) (defScope s_find_step) .none kV14 dc14 pm14 an14 cd14 ct14), sl14⟩)
    (c14 : PySem.W.codeIn K cd14 "find_step" = true) (k14 : PySem.W.keepIn K (.ref f14) = true)
    (a15 : PySem.W.nsIn K mainGlobals "_checked_step" = some (some (.ref f15)))
    (l15 : K.lookup f15 = some ⟨oc15, od15, .func (PySem.W.fnOf "_checked_step" "_checked_step" (defArgs s__checked_step) (defBody s__checked_step) (defScope s__checked_step) .none kV15 dc15 pm15 an15 cd15 ct15), sl15⟩)
    (c15 : PySem.W.codeIn K cd15 "_checked_step" = true) (k15 : PySem.W.keepIn K (.ref f15) = true)
    (a16 : PySem.W.nsIn K mainGlobals "_part_at" = some (some (.ref f16)))
    (l16 : K.lookup f16 = some ⟨oc16, od16, .func (PySem.W.fnOf "_part_at" "_part_at" (defArgs s__part_at) (defBody s__part_at) (defScope s__part_at) .none kV16 dc16 pm16 an16 cd16 ct16), sl16⟩)
    (c16 : PySem.W.codeIn K cd16 "_part_at" = true) (k16 : PySem.W.keepIn K (.ref f16) = true)
    (a17 : PySem.W.nsIn K mainGlobals "step_rows" = some (some (.ref f17)))
    (l17 : K.lookup f17 = some ⟨oc17, od17, .func (PySem.W.fnOf "step_rows" "step_rows" (defArgs s_step_rows) (defBody s_step_rows) (defScope s_step_rows) .none kV17 dc17 pm17 an17 cd17 ct17), sl17⟩)
    (c17 : PySem.W.codeIn K cd17 "step_rows" = true) (k17 : PySem.W.keepIn K (.ref f17) = true)
    (a18 : PySem.W.nsIn K mainGlobals "_rows_by_index" = some (some (.ref f18)))
    (l18 : K.lookup f18 = some ⟨oc18, od18, .func (PySem.W.fnOf "_rows_by_index" "_rows_by_index" (defArgs s__rows_by_index) (defBody s__rows_by_index) (defScope s__rows_by_index) .none kV18 dc18 pm18 an18 cd18 ct18), sl18⟩)
    (c18 : PySem.W.codeIn K cd18 "_rows_by_index" = true) (k18 : PySem.W.keepIn K (.ref f18) = true)
    (a19 : PySem.W.nsIn K mainGlobals "_row_within" = some (some (.ref f19)))
    (l19 : K.lookup f19 = some ⟨oc19, od19, .func (PySem.W.fnOf "_row_within" "_row_within" (defArgs s__row_within) (defBody s__row_within) (defScope s__row_within) .none kV19 dc19 pm19 an19 cd19 ct19), sl19⟩)
    (c19 : PySem.W.codeIn K cd19 "_row_within" = true) (k19 : PySem.W.keepIn K (.ref f19) = true)
    (a20 : PySem.W.nsIn K mainGlobals "_law_pot" = some (some (.ref f20)))
    (l20 : K.lookup f20 = some ⟨oc20, od20, .func (PySem.W.fnOf "_law_pot" "_law_pot" (defArgs s__law_pot) (defBody s__law_pot) (defScope s__law_pot) .none kV20 dc20 pm20 an20 cd20 ct20), sl20⟩)
    (c20 : PySem.W.codeIn K cd20 "_law_pot" = true) (k20 : PySem.W.keepIn K (.ref f20) = true)
    (a21 : PySem.W.nsIn K mainGlobals "_law_take" = some (some (.ref f21)))
    (l21 : K.lookup f21 = some ⟨oc21, od21, .func (PySem.W.fnOf "_law_take" "_law_take" (defArgs s__law_take) (defBody s__law_take) (defScope s__law_take) .none kV21 dc21 pm21 an21 cd21 ct21), sl21⟩)
    (c21 : PySem.W.codeIn K cd21 "_law_take" = true) (k21 : PySem.W.keepIn K (.ref f21) = true)
    (a22 : PySem.W.nsIn K mainGlobals "_law_step" = some (some (.ref f22)))
    (l22 : K.lookup f22 = some ⟨oc22, od22, .func (PySem.W.fnOf "_law_step" "_law_step" (defArgs s__law_step) (defBody s__law_step) (defScope s__law_step) .none kV22 dc22 pm22 an22 cd22 ct22), sl22⟩)
    (c22 : PySem.W.codeIn K cd22 "_law_step" = true) (k22 : PySem.W.keepIn K (.ref f22) = true)
    (a23 : PySem.W.nsIn K mainGlobals "_law_job" = some (some (.ref f23)))
    (l23 : K.lookup f23 = some ⟨oc23, od23, .func (PySem.W.fnOf "_law_job" "_law_job" (defArgs s__law_job) (defBody s__law_job) (defScope s__law_job) .none kV23 dc23 pm23 an23 cd23 ct23), sl23⟩)
    (c23 : PySem.W.codeIn K cd23 "_law_job" = true) (k23 : PySem.W.keepIn K (.ref f23) = true)
    (a24 : PySem.W.nsIn K mainGlobals "_law_steps" = some (some (.ref f24)))
    (l24 : K.lookup f24 = some ⟨oc24, od24, .func (PySem.W.fnOf "_law_steps" "_law_steps" (defArgs s__law_steps) (defBody s__law_steps) (defScope s__law_steps) .none kV24 dc24 pm24 an24 cd24 ct24), sl24⟩)
    (c24 : PySem.W.codeIn K cd24 "_law_steps" = true) (k24 : PySem.W.keepIn K (.ref f24) = true)
    (a25 : PySem.W.nsIn K mainGlobals "_law_small" = some (some (.ref f25)))
    (l25 : K.lookup f25 = some ⟨oc25, od25, .func (PySem.W.fnOf "_law_small" "_law_small" (defArgs s__law_small) (defBody s__law_small) (defScope s__law_small) .none kV25 dc25 pm25 an25 cd25 ct25), sl25⟩)
    (c25 : PySem.W.codeIn K cd25 "_law_small" = true) (k25 : PySem.W.keepIn K (.ref f25) = true)
    (a26 : PySem.W.nsIn K mainGlobals "_law_addresses" = some (some (.ref f26)))
    (l26 : K.lookup f26 = some ⟨oc26, od26, .func (PySem.W.fnOf "_law_addresses" "_law_addresses" (defArgs s__law_addresses) (defBody s__law_addresses) (defScope s__law_addresses) .none kV26 dc26 pm26 an26 cd26 ct26), sl26⟩)
    (c26 : PySem.W.codeIn K cd26 "_law_addresses" = true) (k26 : PySem.W.keepIn K (.ref f26) = true)
    (a27 : PySem.W.nsIn K mainGlobals "_law_ahead" = some (some (.ref f27)))
    (l27 : K.lookup f27 = some ⟨oc27, od27, .func (PySem.W.fnOf "_law_ahead" "_law_ahead" (defArgs s__law_ahead) (defBody s__law_ahead) (defScope s__law_ahead) .none kV27 dc27 pm27 an27 cd27 ct27), sl27⟩)
    (c27 : PySem.W.codeIn K cd27 "_law_ahead" = true) (k27 : PySem.W.keepIn K (.ref f27) = true)
    (a28 : PySem.W.nsIn K mainGlobals "_law_wide" = some (some (.ref f28)))
    (l28 : K.lookup f28 = some ⟨oc28, od28, .func (PySem.W.fnOf "_law_wide" "_law_wide" (defArgs s__law_wide) (defBody s__law_wide) (defScope s__law_wide) .none kV28 dc28 pm28 an28 cd28 ct28), sl28⟩)
    (c28 : PySem.W.codeIn K cd28 "_law_wide" = true) (k28 : PySem.W.keepIn K (.ref f28) = true)
    (a29 : PySem.W.nsIn K mainGlobals "_law_drawn" = some (some (.ref f29)))
    (l29 : K.lookup f29 = some ⟨oc29, od29, .func (PySem.W.fnOf "_law_drawn" "_law_drawn" (defArgs s__law_drawn) (defBody s__law_drawn) (defScope s__law_drawn) .none kV29 dc29 pm29 an29 cd29 ct29), sl29⟩)
    (c29 : PySem.W.codeIn K cd29 "_law_drawn" = true) (k29 : PySem.W.keepIn K (.ref f29) = true)
    (a30 : PySem.W.nsIn K mainGlobals "law" = some (some (.ref f30)))
    (l30 : K.lookup f30 = some ⟨oc30, od30, .func (PySem.W.fnOf "law" "law" (defArgs s_law) (defBody s_law) (defScope s_law) .none kV30 dc30 pm30 an30 cd30 ct30), sl30⟩)
    (c30 : PySem.W.codeIn K cd30 "law" = true) (k30 : PySem.W.keepIn K (.ref f30) = true)
    (gc0 : PySem.W.nsIn K mainGlobals "MAX_STEP" = some (some (.int 1000000000000000000000000000000 tk0)))
    (gc1 : PySem.W.nsIn K mainGlobals "MAX_COUNT" = some (some (.int 1000000000000000000000000000000 tk1)))
    (gc2 : PySem.W.nsIn K mainGlobals "MAX_PARTS" = some (some (.int 400 tk2)))
    (gc3 : PySem.W.nsIn K mainGlobals "MAX_NODES" = some (some (.int 400 tk3)))
    (gc4 : PySem.W.nsIn K mainGlobals "MAX_DEPTH" = some (some (.int 13 tk4)))
    (gc5 : PySem.W.nsIn K mainGlobals "MAX_SMALL" = some (some (.int 400 tk5)))
    (z0 : PySem.W.nsIn K mainGlobals "abs" = some none)
    (z1 : PySem.W.nsIn K mainGlobals "all" = some none)
    (z2 : PySem.W.nsIn K mainGlobals "bool" = some none)
    (z3 : PySem.W.nsIn K mainGlobals "enumerate" = some none)
    (z4 : PySem.W.nsIn K mainGlobals "int" = some none)
    (z5 : PySem.W.nsIn K mainGlobals "isinstance" = some none)
    (z6 : PySem.W.nsIn K mainGlobals "len" = some none)
    (z7 : PySem.W.nsIn K mainGlobals "list" = some none)
    (z8 : PySem.W.nsIn K mainGlobals "max" = some none)
    (z9 : PySem.W.nsIn K mainGlobals "min" = some none)
    (z10 : PySem.W.nsIn K mainGlobals "range" = some none)
    (z11 : PySem.W.nsIn K mainGlobals "repr" = some none)
    (z12 : PySem.W.nsIn K mainGlobals "sorted" = some none)
    (z13 : PySem.W.nsIn K mainGlobals "sum" = some none)
    (z14 : PySem.W.nsIn K mainGlobals "tuple" = some none)
    (z15 : PySem.W.nsIn K mainGlobals "zip" = some none) :
    ∃ fd : FuncData, (∀ (s : Shared) (v : Value), BindsTo s fd ⟨[v], []⟩ [("_law_script", v)]) ∧ ∀ base : Heap, K.In base → base.Ns mainGlobals mg → FnG l.prog w K mg base CX0 60 fa fd ["_law_script"] (spLaw K) := by
  have e := hfa.symm.trans (PySem.W.mg_of X G a30)
  cases e
  have T : Txt K mg := by
    have F0 := fun_mk (st := s_is_integer) l0 c0 k0
    have F1 := fun_mk (st := s_is_within) l1 c1 k1
    have F2 := fun_mk (st := s_is_job) l2 c2 k2
    have F3 := fun_mk (st := s_checked_sizes) l3 c3 k3
    have F4 := fun_mk (st := s_steps_of_leaf) l4 c4 k4
    have F5 := fun_mk (st := s_sizes_of) l5 c5 k5
    have F6 := fun_mk (st := s__sizes) l6 c6 k6
    have F7 := fun_mk (st := s__sizes_of_parts) l7 c7 k7
    have F8 := fun_mk (st := s__sizes_of_rounds) l8 c8 k8
    have F9 := fun_mk (st := s__within_count) l9 c9 k9
    have F10 := fun_mk (st := s_precedes) l10 c10 k10
    have F11 := fun_mk (st := s_all_addresses) l11 c11 k11
    have F12 := fun_mk (st := s_check_small) l12 c12 k12
    have F13 := fun_mk (st := s_is_index_tuple) l13 c13 k13
    have F14 := fun_mk (st := s_find_step) l14 c14 k14
    have F15 := fun_mk (st := s__checked_step) l15 c15 k15
    have F16 := fun_mk (st := s__part_at) l16 c16 k16
    have F17 := fun_mk (st := s_step_rows) l17 c17 k17
    have F18 := fun_mk (st := s__rows_by_index) l18 c18 k18
    have F19 := fun_mk (st := s__row_within) l19 c19 k19
    have F20 := fun_mk (st := s__law_pot) l20 c20 k20
    have F21 := fun_mk (st := s__law_take) l21 c21 k21
    have F22 := fun_mk (st := s__law_step) l22 c22 k22
    have F23 := fun_mk (st := s__law_job) l23 c23 k23
    have F24 := fun_mk (st := s__law_steps) l24 c24 k24
    have F25 := fun_mk (st := s__law_small) l25 c25 k25
    have F26 := fun_mk (st := s__law_addresses) l26 c26 k26
    have F27 := fun_mk (st := s__law_ahead) l27 c27 k27
    have F28 := fun_mk (st := s__law_wide) l28 c28 k28
    have F29 := fun_mk (st := s__law_drawn) l29 c29 k29
    have B0 := F0.binds (ps := ["value"]) fun _ _ _ _ _ _ us hl => match us, hl with | [_], _ => rfl
    have B1 := F1.binds (ps := ["value", "least", "greatest"]) fun _ _ _ _ _ _ us hl => match us, hl with | [_, _, _], _ => rfl
    have B2 := F2.binds (ps := ["value"]) fun _ _ _ _ _ _ us hl => match us, hl with | [_], _ => rfl
    have B3 := F3.binds (ps := ["job"]) fun _ _ _ _ _ _ us hl => match us, hl with | [_], _ => rfl
    have B4 := F4.binds (ps := ["value"]) fun _ _ _ _ _ _ us hl => match us, hl with | [_], _ => rfl
    have B5 := F5.binds (ps := ["value", "leaf_steps"]) fun _ _ _ _ _ _ us hl => match us, hl with | [_, _], _ => rfl
    have B6 := F6.binds (ps := ["value", "leaf_steps", "room", "levels"]) fun _ _ _ _ _ _ us hl => match us, hl with | [_, _, _, _], _ => rfl
    have B7 := F7.binds (ps := ["parts", "leaf_steps", "room", "levels"]) fun _ _ _ _ _ _ us hl => match us, hl with | [_, _, _, _], _ => rfl
    have B8 := F8.binds (ps := ["n", "inner", "leaf_steps", "room", "levels"]) fun _ _ _ _ _ _ us hl => match us, hl with | [_, _, _, _, _], _ => rfl
    have B9 := F9.binds (ps := ["nodes", "steps"]) fun _ _ _ _ _ _ us hl => match us, hl with | [_, _], _ => rfl
    have B10 := F10.binds (ps := ["job", "first", "second"]) fun _ _ _ _ _ _ us hl => match us, hl with | [_, _, _], _ => rfl
    have B11 := F11.binds (ps := ["job"]) fun _ _ _ _ _ _ us hl => match us, hl with | [_], _ => rfl
    have B12 := F12.binds (ps := ["job"]) fun _ _ _ _ _ _ us hl => match us, hl with | [_], _ => rfl
    have B13 := F13.binds (ps := ["value"]) fun _ _ _ _ _ _ us hl => match us, hl with | [_], _ => rfl
    have B14 := F14.binds (ps := ["job", "value"]) fun _ _ _ _ _ _ us hl => match us, hl with | [_, _], _ => rfl
    have B15 := F15.binds (ps := ["job", "address"]) fun _ _ _ _ _ _ us hl => match us, hl with | [_, _], _ => rfl
    have B16 := F16.binds (ps := ["job", "index"]) fun _ _ _ _ _ _ us hl => match us, hl with | [_, _], _ => rfl
    have B17 := F17.binds (ps := ["job"]) fun _ _ _ _ _ _ us hl => match us, hl with | [_], _ => rfl
    have B18 := F18.binds (ps := ["job"]) fun _ _ _ _ _ _ us hl => match us, hl with | [_], _ => rfl
    have B19 := F19.binds (ps := ["index", "outer_gates", "row"]) fun _ _ _ _ _ _ us hl => match us, hl with | [_, _, _], _ => rfl
    have B20 := F20.binds (ps := ["_law_script", "_law_k"]) fun _ _ _ _ _ _ us hl => match us, hl with | [_, _], _ => rfl
    have B21 := F21.binds (ps := ["_law_pot_here", "_law_many"]) fun _ _ _ _ _ _ us hl => match us, hl with | [_, _], _ => rfl
    have B22 := F22.binds (ps := ["_law_pot_here"]) fun _ _ _ _ _ _ us hl => match us, hl with | [_], _ => rfl
    have B23 := F23.binds (ps := ["_law_pot_here", "_law_deep", "_law_counts"]) fun _ _ _ _ _ _ us hl => match us, hl with | [_, _, _], _ => rfl
    have B24 := F24.binds (ps := ["_law_job_here"]) fun _ _ _ _ _ _ us hl => match us, hl with | [_], _ => rfl
    have B25 := F25.binds (ps := ["_law_pot_here", "_law_deep", "_law_size"]) fun _ _ _ _ _ _ us hl => match us, hl with | [_, _, _], _ => rfl
    have B26 := F26.binds (ps := ["_law_job_here"]) fun _ _ _ _ _ _ us hl => match us, hl with | [_], _ => rfl
    have B27 := F27.binds (ps := ["_law_job_here", "_law_one", "_law_other"]) fun _ _ _ _ _ _ us hl => match us, hl with | [_, _, _], _ => rfl
    have B28 := F28.binds (ps := ["_law_pot_here"]) fun _ _ _ _ _ _ us hl => match us, hl with | [_], _ => rfl
    have B29 := F29.binds (ps := ["_law_pot_here", "_law_job_here"]) fun _ _ _ _ _ _ us hl => match us, hl with | [_, _], _ => rfl
    exact {
      f_is_integer := f0, d_is_integer := _, F_is_integer := F0, b_is_integer := B0, m_is_integer := PySem.W.mg_of X G a0,
      f_is_within := f1, d_is_within := _, F_is_within := F1, b_is_within := B1, m_is_within := PySem.W.mg_of X G a1,
      f_is_job := f2, d_is_job := _, F_is_job := F2, b_is_job := B2, m_is_job := PySem.W.mg_of X G a2,
      f_checked_sizes := f3, d_checked_sizes := _, F_checked_sizes := F3, b_checked_sizes := B3, m_checked_sizes := PySem.W.mg_of X G a3,
      f_steps_of_leaf := f4, d_steps_of_leaf := _, F_steps_of_leaf := F4, b_steps_of_leaf := B4, m_steps_of_leaf := PySem.W.mg_of X G a4,
      f_sizes_of := f5, d_sizes_of := _, F_sizes_of := F5, b_sizes_of := B5, m_sizes_of := PySem.W.mg_of X G a5,
      f__sizes := f6, d__sizes := _, F__sizes := F6, b__sizes := B6, m__sizes := PySem.W.mg_of X G a6,
      f__sizes_of_parts := f7, d__sizes_of_parts := _, F__sizes_of_parts := F7, b__sizes_of_parts := B7, m__sizes_of_parts := PySem.W.mg_of X G a7,
      f__sizes_of_rounds := f8, d__sizes_of_rounds := _, F__sizes_of_rounds := F8, b__sizes_of_rounds := B8, m__sizes_of_rounds := PySem.W.mg_of X G a8,
      f__within_count := f9, d__within_count := _, F__within_count := F9, b__within_count := B9, m__within_count := PySem.W.mg_of X G a9,
      f_precedes := f10, d_precedes := _, F_precedes := F10, b_precedes := B10, m_precedes := PySem.W.mg_of X G a10,
      f_all_addresses := f11, d_all_addresses := _, F_all_addresses := F11, b_all_addresses := B11, m_all_addresses := PySem.W.mg_of X G a11,
      f_check_small := f12, d_check_small := _, F_check_small := F12, b_check_small := B12, m_check_small := PySem.W.mg_of X G a12,
      f_is_index_tuple := f13, d_is_index_tuple := _, F_is_index_tuple := F13, b_is_index_tuple := B13, m_is_index_tuple := PySem.W.mg_of X G a13,
      f_find_step := f14, d_find_step := _, F_find_step := F14, b_find_step := B14, m_find_step := PySem.W.mg_of X G a14,
      f__checked_step := f15, d__checked_step := _, F__checked_step := F15, b__checked_step := B15, m__checked_step := PySem.W.mg_of X G a15,
      f__part_at := f16, d__part_at := _, F__part_at := F16, b__part_at := B16, m__part_at := PySem.W.mg_of X G a16,
      f_step_rows := f17, d_step_rows := _, F_step_rows := F17, b_step_rows := B17, m_step_rows := PySem.W.mg_of X G a17,
      f__rows_by_index := f18, d__rows_by_index := _, F__rows_by_index := F18, b__rows_by_index := B18, m__rows_by_index := PySem.W.mg_of X G a18,
      f__row_within := f19, d__row_within := _, F__row_within := F19, b__row_within := B19, m__row_within := PySem.W.mg_of X G a19,
      f__law_pot := f20, d__law_pot := _, F__law_pot := F20, b__law_pot := B20, m__law_pot := PySem.W.mg_of X G a20,
      f__law_take := f21, d__law_take := _, F__law_take := F21, b__law_take := B21, m__law_take := PySem.W.mg_of X G a21,
      f__law_step := f22, d__law_step := _, F__law_step := F22, b__law_step := B22, m__law_step := PySem.W.mg_of X G a22,
      f__law_job := f23, d__law_job := _, F__law_job := F23, b__law_job := B23, m__law_job := PySem.W.mg_of X G a23,
      f__law_steps := f24, d__law_steps := _, F__law_steps := F24, b__law_steps := B24, m__law_steps := PySem.W.mg_of X G a24,
      f__law_small := f25, d__law_small := _, F__law_small := F25, b__law_small := B25, m__law_small := PySem.W.mg_of X G a25,
      f__law_addresses := f26, d__law_addresses := _, F__law_addresses := F26, b__law_addresses := B26, m__law_addresses := PySem.W.mg_of X G a26,
      f__law_ahead := f27, d__law_ahead := _, F__law_ahead := F27, b__law_ahead := B27, m__law_ahead := PySem.W.mg_of X G a27,
      f__law_wide := f28, d__law_wide := _, F__law_wide := F28, b__law_wide := B28, m__law_wide := PySem.W.mg_of X G a28,
      f__law_drawn := f29, d__law_drawn := _, F__law_drawn := F29, b__law_drawn := B29, m__law_drawn := PySem.W.mg_of X G a29,
      t_MAX_STEP := tk0, g_MAX_STEP := PySem.W.mg_of X G gc0,
      t_MAX_COUNT := tk1, g_MAX_COUNT := PySem.W.mg_of X G gc1,
      t_MAX_PARTS := tk2, g_MAX_PARTS := PySem.W.mg_of X G gc2,
      t_MAX_NODES := tk3, g_MAX_NODES := PySem.W.mg_of X G gc3,
      t_MAX_DEPTH := tk4, g_MAX_DEPTH := PySem.W.mg_of X G gc4,
      t_MAX_SMALL := tk5, g_MAX_SMALL := PySem.W.mg_of X G gc5,
      n_abs := PySem.W.mg_none_of X G z0,
      n_all := PySem.W.mg_none_of X G z1,
      n_bool := PySem.W.mg_none_of X G z2,
      n_enumerate := PySem.W.mg_none_of X G z3,
      n_int := PySem.W.mg_none_of X G z4,
      n_isinstance := PySem.W.mg_none_of X G z5,
      n_len := PySem.W.mg_none_of X G z6,
      n_list := PySem.W.mg_none_of X G z7,
      n_max := PySem.W.mg_none_of X G z8,
      n_min := PySem.W.mg_none_of X G z9,
      n_range := PySem.W.mg_none_of X G z10,
      n_repr := PySem.W.mg_none_of X G z11,
      n_sorted := PySem.W.mg_none_of X G z12,
      n_sum := PySem.W.mg_none_of X G z13,
      n_tuple := PySem.W.mg_none_of X G z14,
      n_zip := PySem.W.mg_none_of X G z15 }
  exact ⟨PySem.W.fnOf "law" "law" (defArgs s_law) (defBody s_law) (defScope s_law) .none kV30 dc30 pm30 an30 cd30 ct30, fun s v => .of_eq rfl, fun base _ _ => ok_law (fun_mk (st := s_law) l30 c30 k30) T⟩
end Lw

open PySem PySem.W PyProof.Rows
set_option maxRecDepth 100000 in
set_option maxHeartbeats 0 in
theorem PySem.Challenge.cw_roomprofile_k08_order_of_addresses_holds : PySem.Challenge.rw_roomprofile_k08_order_of_addresses.Holds := by
  w_on; o_law; k_head; (case hw => w_witness2)
  k_fill
  refine Rp.law_end (l := PySem.Challenge.rw_roomprofile_k08_order_of_addresses) (n := 63) (k := 60) (x := "_law_script") (sp := Lw.spLaw) rfl (by decide) rfl ⟨rfl, by decide, by decide⟩ (fun w h Y => PySem.W.kIn_of Y) ?F (fun K H a ns hl hO hS => ⟨a, ns, rfl, hO, hS, hl, fun _ => rfl⟩)
  case F =>
    intro w mg fa h KX G hmg
    refine' Lw.all_mk KX G hmg ?a0 ?l0 ?c0 ?k0 ?a1 ?l1 ?c1 ?k1 ?a2 ?l2 ?c2 ?k2 ?a3 ?l3 ?c3 ?k3 ?a4 ?l4 ?c4 ?k4 ?a5 ?l5 ?c5 ?k5 ?a6 ?l6 ?c6 ?k6 ?a7 ?l7 ?c7 ?k7 ?a8 ?l8 ?c8 ?k8 ?a9 ?l9 ?c9 ?k9 ?a10 ?l10 ?c10 ?k10 ?a11 ?l11 ?c11 ?k11 ?a12 ?l12 ?c12 ?k12 ?a13 ?l13 ?c13 ?k13 ?a14 ?l14 ?c14 ?k14 ?a15 ?l15 ?c15 ?k15 ?a16 ?l16 ?c16 ?k16 ?a17 ?l17 ?c17 ?k17 ?a18 ?l18 ?c18 ?k18 ?a19 ?l19 ?c19 ?k19 ?a20 ?l20 ?c20 ?k20 ?a21 ?l21 ?c21 ?k21 ?a22 ?l22 ?c22 ?k22 ?a23 ?l23 ?c23 ?k23 ?a24 ?l24 ?c24 ?k24 ?a25 ?l25 ?c25 ?k25 ?a26 ?l26 ?c26 ?k26 ?a27 ?l27 ?c27 ?k27 ?a28 ?l28 ?c28 ?k28 ?a29 ?l29 ?c29 ?k29 ?a30 ?l30 ?c30 ?k30 ?gc0 ?gc1 ?gc2 ?gc3 ?gc4 ?gc5 ?z0 ?z1 ?z2 ?z3 ?z4 ?z5 ?z6 ?z7 ?z8 ?z9 ?z10 ?z11 ?z12 ?z13 ?z14 ?z15
    (case a0 => k_is)
    (case l0 => k_is)
    (case c0 => k_is)
    (case k0 => k_is)
    (case a1 => k_is)
    (case l1 => k_is)
    (case c1 => k_is)
    (case k1 => k_is)
    (case a2 => k_is)
    (case l2 => k_is)
    (case c2 => k_is)
    (case k2 => k_is)
    (case a3 => k_is)
    (case l3 => k_is)
    (case c3 => k_is)
    (case k3 => k_is)
    (case a4 => k_is)
    (case l4 => k_is)
    (case c4 => k_is)
    (case k4 => k_is)
    (case a5 => k_is)
    (case l5 => k_is)
    (case c5 => k_is)
    (case k5 => k_is)
    (case a6 => k_is)
    (case l6 => k_is)
    (case c6 => k_is)
    (case k6 => k_is)
    (case a7 => k_is)
    (case l7 => k_is)
    (case c7 => k_is)
    (case k7 => k_is)
    (case a8 => k_is)
    (case l8 => k_is)
    (case c8 => k_is)
    (case k8 => k_is)
    (case a9 => k_is)
    (case l9 => k_is)
    (case c9 => k_is)
    (case k9 => k_is)
    (case a10 => k_is)
    (case l10 => k_is)
    (case c10 => k_is)
    (case k10 => k_is)
    (case a11 => k_is)
    (case l11 => k_is)
    (case c11 => k_is)
    (case k11 => k_is)
    (case a12 => k_is)
    (case l12 => k_is)
    (case c12 => k_is)
    (case k12 => k_is)
    (case a13 => k_is)
    (case l13 => k_is)
    (case c13 => k_is)
    (case k13 => k_is)
    (case a14 => k_is)
    (case l14 => k_is)
    (case c14 => k_is)
    (case k14 => k_is)
    (case a15 => k_is)
    (case l15 => k_is)
    (case c15 => k_is)
    (case k15 => k_is)
    (case a16 => k_is)
    (case l16 => k_is)
    (case c16 => k_is)
    (case k16 => k_is)
    (case a17 => k_is)
    (case l17 => k_is)
    (case c17 => k_is)
    (case k17 => k_is)
    (case a18 => k_is)
    (case l18 => k_is)
    (case c18 => k_is)
    (case k18 => k_is)
    (case a19 => k_is)
    (case l19 => k_is)
    (case c19 => k_is)
    (case k19 => k_is)
    (case a20 => k_is)
    (case l20 => k_is)
    (case c20 => k_is)
    (case k20 => k_is)
    (case a21 => k_is)
    (case l21 => k_is)
    (case c21 => k_is)
    (case k21 => k_is)
    (case a22 => k_is)
    (case l22 => k_is)
    (case c22 => k_is)
    (case k22 => k_is)
    (case a23 => k_is)
    (case l23 => k_is)
    (case c23 => k_is)
    (case k23 => k_is)
    (case a24 => k_is)
    (case l24 => k_is)
    (case c24 => k_is)
    (case k24 => k_is)
    (case a25 => k_is)
    (case l25 => k_is)
    (case c25 => k_is)
    (case k25 => k_is)
    (case a26 => k_is)
    (case l26 => k_is)
    (case c26 => k_is)
    (case k26 => k_is)
    (case a27 => k_is)
    (case l27 => k_is)
    (case c27 => k_is)
    (case k27 => k_is)
    (case a28 => k_is)
    (case l28 => k_is)
    (case c28 => k_is)
    (case k28 => k_is)
    (case a29 => k_is)
    (case l29 => k_is)
    (case c29 => k_is)
    (case k29 => k_is)
    (case a30 => k_is)
    (case l30 => k_is)
    (case c30 => k_is)
    (case k30 => k_is)
    (case gc0 => k_is)
    (case gc1 => k_is)
    (case gc2 => k_is)
    (case gc3 => k_is)
    (case gc4 => k_is)
    (case gc5 => k_is)
    (case z0 => k_is)
    (case z1 => k_is)
    (case z2 => k_is)
    (case z3 => k_is)
    (case z4 => k_is)
    (case z5 => k_is)
    (case z6 => k_is)
    (case z7 => k_is)
    (case z8 => k_is)
    (case z9 => k_is)
    (case z10 => k_is)
    (case z11 => k_is)
    (case z12 => k_is)
    (case z13 => k_is)
    (case z14 => k_is)
    (case z15 => k_is)
