import PyProof.Rows.All
import Wide.All
import OpenK.AllK
import Wide.FinOn
import HandS.ForMost
import HandS.IsInst
import HandS.TupAny
import HandS.Wide
import HandS.Codes
import HandS.Style
import PyProof.ReprRoads
import PyProof.ReprLen
import PyProof.ReprBulk
import PyProof.FitsInt
import HandS.TryOnly
import HandS.ForExc
import HandS.TryMany
import HandS.Deep
import HandS.Zip
import HandS.Walk
import HandS.CallLocal
import PySem.Challenge.RW_roomprofile_k07_addresses_known
set_option Elab.async false
set_option linter.all false
set_option maxRecDepth 100000
set_option maxHeartbeats 4000000
/-! Rp: what the proofs of the laws over roomprofile share: powers, data, repr, isinstance, heaps. -/
namespace Rp
open PySem L2

/-! ### powers of great ints -/
def CPowW (i j : Int) : Prop := 0 ≤ j ∧ (Builtin.Int.intBits i : Int) * j ≤ 2 ^ 27
theorem bits_le {i : Int} {b : Nat} (hi : i.natAbs < 2 ^ b) : Builtin.Int.intBits i ≤ b := by
  unfold Builtin.Int.intBits
  split
  · exact Nat.zero_le _
  · rename_i hne
    have h0 : i.natAbs ≠ 0 := by
      intro z
      apply hne
      have : i = 0 := by omega
      subst this
      rfl
    have := (Nat.log2_lt h0).mpr hi
    omega
theorem powW_of {i j : Int} (b : Nat) (h0 : 0 ≤ j) (hi : i.natAbs < 2 ^ b) (hb : (b : Int) * j ≤ 2 ^ 27) : CPowW i j := by
  refine ⟨h0, Int.le_trans ?_ hb⟩
  have := bits_le hi
  exact Int.mul_le_mul_of_nonneg_right (by omega) h0
section
variable {X : Cx}
theorem op_powW : OpR X (binaryOp .Pow) (rI CPowW fun i j => .int (i ^ j.toNat)) := opI fun _ _ _ _ _ _ _ hc q => PyProof.Rows.pow_int hc.1 hc.2 q
end

/-! ### data -/
def tyN : PyData → String
  | .none => "NoneType"
  | .bool _ => "bool"
  | .int _ => "int"
  | .str _ => "str"
  | .list _ => "list"
  | .tuple _ => "tuple"
  | .dict _ => "dict"
theorem dp_ty {K : PySem.W.Frag} {H : Hp} {v : V} {d : PyData} (h : Dp K H v d) : TyX K H v (.type (tyN d)) := by
  cases h with
  | non => exact .base .non
  | bl b => exact .base (.bl b)
  | int i => exact .base (.int i)
  | str x => exact .base (.str x)
  | lst hs ha =>
    rcases hs with (e | ⟨o, e⟩) | ⟨o, its, n, hk, hc, _⟩
    · exact .base (.lst e)
    · exact .base (.frz e)
    · exact .kList hk hc
  | tup hs ha =>
    rcases hs with (e | ⟨o, e⟩) | ⟨o, its, n, hk, hc, _⟩
    · exact .base (.tup e)
    · exact .fTuple e
    · exact .kTuple hk hc
def isInt : PyData → Bool
  | .int _ => true
  | .bool _ => true
  | _ => false
def isBoo : PyData → Bool
  | .bool _ => true
  | _ => false
def isTup : PyData → Bool
  | .tuple _ => true
  | _ => false
def isStr : PyData → Bool
  | .str _ => true
  | _ => false
def isLst : PyData → Bool
  | .list _ => true
  | _ => false
theorem kit_int (d : PyData) : kitB (tyN d) "int" = some (isInt d) := by cases d <;> (simp only [tyN, isInt]; decide +kernel)
theorem kit_bool (d : PyData) : kitB (tyN d) "bool" = some (isBoo d) := by cases d <;> (simp only [tyN, isBoo]; decide +kernel)
theorem kit_tuple (d : PyData) : kitB (tyN d) "tuple" = some (isTup d) := by cases d <;> (simp only [tyN, isTup]; decide +kernel)
theorem kit_str (d : PyData) : kitB (tyN d) "str" = some (isStr d) := by cases d <;> (simp only [tyN, isStr]; decide +kernel)
theorem kit_list (d : PyData) : kitB (tyN d) "list" = some (isLst d) := by cases d <;> (simp only [tyN, isLst]; decide +kernel)
section
variable {X : Cx}
def rIsD (K : PySem.W.Frag) : List V → Hp → VK → Prop := fun xs H Q => ∃ (v : V) (n : String) (d : PyData) (b : Bool), xs = [v, .ty n] ∧ Dp K H v d ∧ kitB (tyN d) n = some b ∧ Q (.bl b) H
theorem call_isD : CallR X (.builtin "isinstance") (rIsD X.K) := by
  intro pins s σ H xs us Q I r h
  obtain ⟨v, n, d, b, e, hd, hk, q⟩ := h
  exact call_isi pins s σ H xs us Q I r ⟨v, .ty n, _, _, _, e, .ty n, dp_ty hd, kit_ty hk, q⟩
end

/-! ### len, list(..), tuple(..) by names -/
section
variable {X : Cx}
def rLenS (K : PySem.W.Frag) : List V → Hp → VK → Prop := fun xs H Q => ∃ (p : Addr) (ys : List V), xs = [.ref p] ∧ (SqL K H p ys ∨ SqT K H p ys) ∧ Q (.int ys.length) H
theorem call_lenS : CallR X (.builtin "len") (rLenS X.K) := call_len_seq
def rListS (K : PySem.W.Frag) : List V → Hp → VK → Prop := fun xs H Q => ∃ (p : Addr) (ys : List V), xs = [.ref p] ∧ (SqL K H p ys ∨ SqT K H p ys) ∧ ∀ l, H l = none → Q (.ref l) (upd H l (.lst ys))
theorem call_listS : CallR X (.type "list") (rListS X.K) := call_list_of
def rTupS (K : PySem.W.Frag) : List V → Hp → VK → Prop := fun xs H Q => ∃ (p : Addr) (ys : List V), xs = [.ref p] ∧ ((SqL K H p ys ∧ ∀ l, H l = none → Q (.ref l) (upd H l (.tup ys))) ∨ (SqT K H p ys ∧ Q (.ref p) H))
theorem call_tupS : CallR X (.type "tuple") (rTupS X.K) := call_tuple_of
end

/-! ### repr of data -/
mutual
/-- data whose text is made without trouble: no dicts, ints of at most 180 digits, signs below 16 ^ 8 -/
def fine : PyData → Prop
  | .int i => i.natAbs < 10 ^ 180
  | .str x => (x.cps.toList.all fun c => decide (c < 16 ^ 8)) = true
  | .list xs => fines xs
  | .tuple xs => fines xs
  | .dict _ => False
  | _ => True
def fines : List PyData → Prop
  | [] => True
  | x :: xs => fine x ∧ fines xs
end
theorem int_log {i : Int} (h : i.natAbs < 10 ^ 180) : i.natAbs.log2 < 1920 := by
  by_cases z : i.natAbs = 0
  · rw [z]
    decide
  · exact (Nat.log2_lt z).mpr (Nat.lt_trans h (by decide +kernel))
theorem shown_int {i : Int} (h : i.natAbs < 10 ^ 180) : (PyData.shown (.int i)).length ≤ 200 := by
  have e := int_text_length_le10 (k := 180) (by decide) h
  show (Str.ofString (toString i)).length ≤ 200
  rw [ofString_length]
  omega
mutual
theorem fine_ok : ∀ d : PyData, fine d → d.showable = true ∧ d.leavesShort 200 = true ∧ d.hasDict = false
  | .none, _ => by simp [PyData.showable, PyData.leavesShort, PyData.hasDict]
  | .bool _, _ => by simp [PyData.showable, PyData.leavesShort, PyData.hasDict]
  | .int i, h => by
    simp only [fine] at h
    simp only [PyData.showable, PyData.leavesShort, PyData.hasDict, decide_eq_true_eq, and_true]
    exact ⟨int_log h, shown_int h⟩
  | .str x, h => by
    simp only [fine] at h
    simp only [PyData.showable, PyData.leavesShort, PyData.hasDict, and_true, true_and]
    exact h
  | .list xs, h => by
    simp only [fine] at h
    simp only [PyData.showable, PyData.leavesShort, PyData.hasDict]
    exact fines_ok xs h
  | .tuple xs, h => by
    simp only [fine] at h
    simp only [PyData.showable, PyData.leavesShort, PyData.hasDict]
    exact fines_ok xs h
  | .dict _, h => by simp only [fine] at h
theorem fines_ok : ∀ xs : List PyData, fines xs → PyData.showableAll xs = true ∧ PyData.leavesShortAll 200 xs = true ∧ PyData.hasDictAll xs = false
  | [], _ => by simp [PyData.showableAll, PyData.leavesShortAll, PyData.hasDictAll]
  | x :: xs, h => by
    simp only [fines] at h
    obtain ⟨a1, a2, a3⟩ := fine_ok x h.1
    obtain ⟨b1, b2, b3⟩ := fines_ok xs h.2
    simp only [PyData.showableAll, PyData.leavesShortAll, PyData.hasDictAll, a1, a2, a3, b1, b2, b3, Bool.and_self, Bool.or_self, and_self]
end
section
variable {X : Cx}
def rRepr (K : PySem.W.Frag) : List V → Hp → VK → Prop := fun xs H Q => ∃ (v : V) (d : PyData), xs = [v] ∧ Dp K H v d ∧ fine d ∧ d.depth ≤ 64 ∧ d.bulk ≤ 80000 ∧ Q (.str d.shown) H
theorem call_reprD (hg : X.A.guards = some []) (hu : X.A.units + 66 < cLine) : CallR X (.builtin "repr") (rRepr X.K) := by
  intro pins s σ H xs us Q I r h
  obtain ⟨v, d, rfl, hd, hf, hdep, hw, q⟩ := h
  obtain ⟨hs, hl, hnd⟩ := fine_ok d hf
  have hz : d.shown.length ≤ sizeLine := by
    have := PyData.shown_le_bulk 200 (by decide) d hl
    rw [sizeLine_eq]
    omega
  obtain ⟨u, rfl, ru⟩ := vals1 r
  have hsm : ∀ as : List Addr, d.hasDict = true → sysModules ∉ as := fun as => PyData.noDict_hsm hnd
  obtain ⟨as, hr⟩ := Dp.reads I d v u hd ru
  cases hr with
  | none => exact P.repr_of_none ⟨.str _, H, I.tok _, ⟨_, rfl⟩, q⟩
  | bool b => exact P.repr_of_bool ⟨.str _, H, I.tok _, ⟨_, rfl⟩, q⟩
  | int i t => exact P.repr_of_int (by simpa [PyData.showable] using hs) ⟨.str _, H, I.tok _, ⟨_, rfl⟩, q⟩
  | str x t => exact P.repr_of_str ⟨.str _, H, I.tok _, ⟨_, rfl⟩, q⟩ (by simpa only [PyData.shown] using hz)
  | list h1 h2 h3 h4 =>
    refine repr_of_reads' (h₀ := s.heap) (.list h1 h2 h3 h4) hs (hsm _) hg (by omega) (fun _ _ e => e) (fun h' u' tk hk => ?_) hz
    exact ⟨.str _, H, I.kept hk, ⟨_, rfl⟩, q⟩
  | tuple h1 h2 h3 h4 =>
    refine repr_of_reads' (h₀ := s.heap) (.tuple h1 h2 h3 h4) hs (hsm _) hg (by omega) (fun _ _ e => e) (fun h' u' tk hk => ?_) hz
    exact ⟨.str _, H, I.kept hk, ⟨_, rfl⟩, q⟩
  | dict _ _ _ _ _ => exact absurd hnd (by simp [PyData.hasDict])
end

/-! ### what stays of the heap -/
theorem same_sqT {K : PySem.W.Frag} {H H' : Hp} {a : Addr} {xs : List V} (s : Same H H') (h : SqT K H a xs) : SqT K H' a xs := by
  rcases h with (h | ⟨o, h⟩) | h
  · exact .inl (.inl (s _ _ h))
  · exact .inl (.inr ⟨o, s _ _ h⟩)
  · exact .inr h
theorem same_new {H : Hp} {p : Addr} {o : HO} (h : H p = none) : Same H (upd H p o) := fun b u q => by rw [upd_ne (ne_of_none q h)]; exact q
mutual
theorem dp_same {K : PySem.W.Frag} {H H' : Hp} (s : Same H H') : ∀ {d : PyData} {v : V}, Dp K H v d → Dp K H' v d
  | .none, _, h => by cases h; exact .non
  | .bool _, _, h => by cases h; exact .bl _
  | .int _, _, h => by cases h; exact .int _
  | .str _, _, h => by cases h; exact .str _
  | .list ds, _, h => by
    cases h with
    | lst hs ha => exact .lst (s.seq hs) (dpAll_same s ha)
  | .tuple ds, _, h => by
    cases h with
    | tup hs ha => exact .tup (same_sqT s hs) (dpAll_same s ha)
  | .dict _, _, h => by cases h
theorem dpAll_same {K : PySem.W.Frag} {H H' : Hp} (s : Same H H') : ∀ {ds : List PyData} {vs : List V}, DpAll K H vs ds → DpAll K H' vs ds
  | [], _, h => by cases h; exact .nil
  | d :: ds, _, h => by
    cases h with
    | cons h1 h2 => exact .cons (dp_same s h1) (dpAll_same s h2)
end
/-- all but p stays -/
def Sx (p : Addr) (H H' : Hp) : Prop := ∀ b o, b ≠ p → H b = some o → H' b = some o
theorem Sx.refl {p : Addr} {H : Hp} : Sx p H H := fun _ _ _ h => h
theorem Sx.trans {p : Addr} {H H1 H2 : Hp} (a : Sx p H H1) (b : Sx p H1 H2) : Sx p H H2 := fun c o n h => b c o n (a c o n h)
theorem Same.sx {p : Addr} {H H' : Hp} (s : Same H H') : Sx p H H' := fun b o _ h => s b o h
theorem sx_upd {p : Addr} {H : Hp} {o : HO} : Sx p H (upd H p o) := fun b u n h => by rw [upd_ne n]; exact h
theorem sx_new {p q : Addr} {H : Hp} {o : HO} (h : H q = none) : Sx p H (upd H q o) := fun b u _ q => same_new h b u q
/-! data without lists and dicts -/
mutual
def noL : PyData → Bool
  | .list _ => false
  | .dict _ => false
  | .tuple ds => noLs ds
  | _ => true
def noLs : List PyData → Bool
  | [] => true
  | d :: ds => noL d && noLs ds
end
theorem Sx.sqT {K : PySem.W.Frag} {p a : Addr} {H H' : Hp} {l xs : List V} (s : Sx p H H') (hp : H p = some (.lst l)) (h : SqT K H a xs) : SqT K H' a xs := by
  rcases h with (h | ⟨o, h⟩) | h
  · exact .inl (.inl (s _ _ (ne_of h hp (by intro z; cases z)) h))
  · exact .inl (.inr ⟨o, s _ _ (ne_of h hp (by intro z; cases z)) h⟩)
  · exact .inr h
mutual
theorem dp_keep {K : PySem.W.Frag} {H H' : Hp} (s : ∀ a xs, SqT K H a xs → SqT K H' a xs) : ∀ {d : PyData} {v : V}, noL d = true → Dp K H v d → Dp K H' v d
  | .none, _, _, h => by cases h; exact .non
  | .bool _, _, _, h => by cases h; exact .bl _
  | .int _, _, _, h => by cases h; exact .int _
  | .str _, _, _, h => by cases h; exact .str _
  | .list ds, _, n, h => by simp [noL] at n
  | .tuple ds, _, n, h => by
    cases h with
    | tup hs ha => exact .tup (s _ _ hs) (dpAll_keep s (by simpa [noL] using n) ha)
  | .dict _, _, _, h => by cases h
theorem dpAll_keep {K : PySem.W.Frag} {H H' : Hp} (s : ∀ a xs, SqT K H a xs → SqT K H' a xs) : ∀ {ds : List PyData} {vs : List V}, noLs ds = true → DpAll K H vs ds → DpAll K H' vs ds
  | [], _, _, h => by cases h; exact .nil
  | d :: ds, _, n, h => by
    cases h with
    | cons h1 h2 =>
      have n' : noL d = true ∧ noLs ds = true := by simpa [noLs] using n
      exact .cons (dp_keep s n'.1 h1) (dpAll_keep s n'.2 h2)
end
theorem Sx.dp {K : PySem.W.Frag} {p : Addr} {H H' : Hp} {l : List V} {d : PyData} {v : V} (s : Sx p H H') (hp : H p = some (.lst l)) (n : noL d = true) (h : Dp K H v d) : Dp K H' v d :=
  dp_keep (fun _ _ z => s.sqT hp z) n h
theorem dpAll_length {K : PySem.W.Frag} {H : Hp} : ∀ {vs : List V} {ds : List PyData}, DpAll K H vs ds → vs.length = ds.length
  | _, _, .nil => rfl
  | _, _, .cons _ h => congrArg (· + 1) (dpAll_length h)
theorem dpAll_get {K : PySem.W.Frag} {H : Hp} : ∀ {vs : List V} {ds : List PyData} {i : Nat} {v : V}, DpAll K H vs ds → vs[i]? = some v → ∃ d, ds[i]? = some d ∧ Dp K H v d
  | _, _, _, _, .nil, e => by simp at e
  | _, _, 0, _, .cons h _, e => by
    simp at e
    subst e
    exact ⟨_, rfl, h⟩
  | _, _, i + 1, _, .cons _ t, e => by
    obtain ⟨d, e1, e2⟩ := dpAll_get (i := i) t (by simpa using e)
    exact ⟨d, by simpa using e1, e2⟩
theorem dpAll_append {K : PySem.W.Frag} {H : Hp} : ∀ {vs ws : List V} {ds es : List PyData}, DpAll K H vs ds → DpAll K H ws es → DpAll K H (vs ++ ws) (ds ++ es)
  | _, _, _, _, .nil, h => h
  | _, _, _, _, .cons h t, h' => .cons h (dpAll_append t h')
theorem dpAll_one {K : PySem.W.Frag} {H : Hp} {v : V} {d : PyData} (h : Dp K H v d) : DpAll K H [v] [d] := .cons h .nil
theorem dpAll_rev {K : PySem.W.Frag} {H : Hp} : ∀ {vs : List V} {ds : List PyData}, DpAll K H vs ds → DpAll K H vs.reverse ds.reverse
  | _, _, .nil => .nil
  | _, _, .cons h t => by
    rw [List.reverse_cons, List.reverse_cons]
    exact dpAll_append (dpAll_rev t) (.cons h .nil)
theorem dp_int_inv {K : PySem.W.Frag} {H : Hp} {v : V} {i : Int} (h : Dp K H v (.int i)) : v = .int i := by cases h; rfl
theorem dp_str_inv {K : PySem.W.Frag} {H : Hp} {v : V} {x : Str} (h : Dp K H v (.str x)) : v = .str x := by cases h; rfl
theorem dp_none_inv {K : PySem.W.Frag} {H : Hp} {v : V} (h : Dp K H v .none) : v = .non := by cases h; rfl
theorem dp_bool_inv {K : PySem.W.Frag} {H : Hp} {v : V} {b : Bool} (h : Dp K H v (.bool b)) : v = .bl b := by cases h; rfl
theorem dp_tup_inv {K : PySem.W.Frag} {H : Hp} {v : V} {ds : List PyData} (h : Dp K H v (.tuple ds)) : ∃ a xs, v = .ref a ∧ SqT K H a xs ∧ DpAll K H xs ds := by
  cases h with
  | tup h1 h2 => exact ⟨_, _, rfl, h1, h2⟩
theorem dp_lst_inv {K : PySem.W.Frag} {H : Hp} {v : V} {ds : List PyData} (h : Dp K H v (.list ds)) : ∃ a xs, v = .ref a ∧ SqL K H a xs ∧ DpAll K H xs ds := by
  cases h with
  | lst h1 h2 => exact ⟨_, _, rfl, h1, h2⟩
theorem tup_fresh {K : PySem.W.Frag} {H : Hp} {p : Addr} {xs : List V} {ds : List PyData} (hp : H p = none) (h : DpAll K H xs ds) : Same H (upd H p (.tup xs)) ∧ Dp K (upd H p (.tup xs)) (.ref p) (.tuple ds) :=
  ⟨same_new hp, .tup (.inl (.inl upd_same)) (dpAll_same (same_new hp) h)⟩
theorem lst_fresh {K : PySem.W.Frag} {H : Hp} {p : Addr} {xs : List V} {ds : List PyData} (hp : H p = none) (h : DpAll K H xs ds) : Same H (upd H p (.lst xs)) ∧ Dp K (upd H p (.lst xs)) (.ref p) (.list ds) :=
  ⟨same_new hp, .lst (.inl (.inl upd_same)) (dpAll_same (same_new hp) h)⟩
theorem Same.sx_free {H H1 H2 : Hp} {p : Addr} (s : Same H H1) (h : H p = none) (t : Sx p H1 H2) : Same H H2 := fun b o e =>
  t b o (ne_of_none e h) (s b o e)
theorem small {n : Nat} (h : n ≤ 1000) : n ≤ sizeLine := Nat.le_of_lt (small1000 h)
theorem small' {n : Nat} (h : n ≤ 1000000) : n ≤ sizeLine := by rw [sizeLine_eq]; omega

theorem atI_at {α : Type} {xs : List α} {k : Int} {j : Nat} {v : α} (e : k = (j : Int)) (h : xs[j]? = some v) : atI xs k = some v := by
  subst e
  exact atI_nat h
theorem atI_int {ns : List Int} {k : Int} (h0 : 0 ≤ k) (h : k < (ns.length : Int)) : ∃ z, z ∈ ns ∧ atI (ns.map V.int) k = some (.int z) := by
  have hk : k.toNat < ns.length := by omega
  refine ⟨ns[k.toNat], List.getElem_mem hk, atI_at (j := k.toNat) (by omega) ?_⟩
  rw [List.getElem?_map, List.getElem?_eq_getElem hk]
  rfl

/-! ### the script as the law gets it: it never changes -/
def Scr (K : PySem.W.Frag) (H : Hp) (a : Addr) (ns : List Int) : Prop := (∃ o, H a = some (.frz o (.lst (ns.map V.int)))) ∨
  ∃ (o : Obj) (its : Array Value) (n : Nat), K.lookup a = some o ∧ o.cls = .type "list" ∧ o.dict = none ∧ o.data = .seq its n ∧ its.size ≤ sizeLine ∧ Vals (ns.map V.int) its.toList
theorem Scr.sq {K : PySem.W.Frag} {H : Hp} {a : Addr} {ns : List Int} (h : Scr K H a ns) : SqL K H a (ns.map V.int) := by
  rcases h with ⟨o, h⟩ | h
  · exact .inl (.inr ⟨o, h⟩)
  · exact .inr h
theorem Scr.of {K : PySem.W.Frag} {H : Hp} {a : Addr} {ns : List Int} (hO : Only H) (h : SqL K H a (ns.map V.int)) : Scr K H a ns := by
  rcases h with (h | h) | h
  · rcases hO a with z | ⟨o, xs, z⟩
    · rw [h] at z; cases z
    · rw [h] at z; cases z
  · exact .inl h
  · exact .inr h
theorem Scr.same {K : PySem.W.Frag} {H H' : Hp} {a : Addr} {ns : List Int} (s : Same H H') (h : Scr K H a ns) : Scr K H' a ns := by
  rcases h with ⟨o, h⟩ | h
  · exact .inl ⟨o, s _ _ h⟩
  · exact .inr h
theorem Scr.sx {K : PySem.W.Frag} {H H' : Hp} {a p : Addr} {ns : List Int} {l : List V} (s : Sx p H H') (hp : H p = some (.lst l)) (h : Scr K H a ns) : Scr K H' a ns := by
  rcases h with ⟨o, h⟩ | h
  · exact .inl ⟨o, s _ _ (ne_of h hp (by intro z; cases z)) h⟩
  · exact .inr h
end Rp
/-! RpG: defs that say repr of made data: the layer's judgements where no repr is under way (guards known), and the law's end over them. -/
namespace Rp
open PySem L2 PyProof.Rows

structure FnG (P : Program) (w : World) (K : PySem.W.Frag) (mg : Str → Option Value) (base : Heap) (CX : CXT) (k : Nat) (f : Addr) (fd : FuncData) (ps : List Str) (sp : Sp) : Prop where
  len : ∀ vs H Q E, sp vs H Q E → vs.length = ps.length
  run : ∀ (A : Around) (outer : List Env) (s : Shared) (H : Hp) (args : Args) (us : List Value) (vs : List V) (Q : VK) (E : XK), Room k A → A.guards = some [] →
    Env0 P w K mg base A outer s H → BindsTo s fd args (ps.zip us) → Vals vs us → sp vs H Q E → codeAny (model P w) A (.call (.ref f) args) (CR CX outer P w H s Q E) s

theorem room66 {k : Nat} {A : Around} (hr : Room k A) : A.units + 66 < cLine := by
  have := hr.un
  omega
section
variable {P : Program} {w : World} {K : PySem.W.Frag} {mg : Str → Option Value} {base : Heap}
theorem okG {name qual : Str} {st : Stmt} {f : Addr} {fd : FuncData} {N ps : List Str} {k : Nat} {sp : Sp} (F : Fun K name qual st f fd) (S : FnScope N ps (defScope st))
    (hlen : ∀ vs H Q E, sp vs H Q E → vs.length = ps.length)
    (hb : ∀ (cdv : Value) (A : Around) (outer : List Env) (s : Shared) (H : Hp) (vs : List V) (Q : VK) (E : XK),
      Room k (A.deeper (envOfC qual (defScope st) s.heap.objs.size f cdv)) → A.guards = some [] → sp vs H Q E →
      ∃ t, PSs (cxOf CX0 P w K mg base N qual (defScope st) f cdv A outer s H E).nox (defBody st) t ∧
        t { nx := fun _ H' => Q .non H', rt := Q } (start N vs) H) : FnG P w K mg base CX0 (k + 1) f fd ps sp := by
  obtain ⟨oc, od, kV, doc, pm, an, cdv, ct, osl, rfl, lk, hcd⟩ := F.ex
  refine ⟨hlen, fun A outer s H args us vs Q E room gd en bd rv want => ?_⟩
  have kin : K.In s.heap := en.mod.kin.keeps fun b o z => (en.bs b o z).1
  have nolim : s.heap.NoLimit := en.mod.nolimit.keeps fun b o z => (en.bs b o z).1
  have hl := hlen _ _ _ _ want
  refine Att.call_fn kin nolim lk hcd room.depth bd ?_ (fun s1 ic => ?_) S.co S.gen S.kind
  · refine List.all_eq_true.mpr fun y hy => ?_
    obtain ⟨a, b⟩ := y
    rcases S.par a (List.of_mem_zip hy).1 with z | z
    · simp [z]
    · simp [z]
  · obtain ⟨t, ht, hq⟩ := hb cdv A outer s H vs Q E (room.deeper _) gd want
    have I := inv_start (CX := CX0) (P := P) (w := w) (K := K) (mg := mg) (base := base) (E := E) S room.hd en hl rv ic
    refine wpAny_mono (ht.nox.run [] s1 (start N vs) H _ I hq) (fun fl s' hs => ?_) (fun e s' hs => hs)
    cases fl with
    | ret u =>
      obtain ⟨v, σ', H', J, rr, q⟩ := hs
      exact ⟨v, H', J.os, J.bare, J.base, J.hok, rr, q⟩
    | next =>
      obtain ⟨σ', H', J, q⟩ := hs
      exact ⟨V.non, H', J.os, J.bare, J.base, J.hok, rfl, q⟩
    | brk =>
      obtain ⟨_, _, _, q⟩ := hs
      exact False.elim q
    | cont =>
      obtain ⟨_, _, _, q⟩ := hs
      exact False.elim q
end
section
variable {X : Cx} {k : Nat} {f : Addr} {fd : FuncData} {ps : List Str} {sp : Sp} {dvs : List V} {ds : List Value} {x : Str} {p pos : Pos} {e : Expr} {es : List Expr} {t : TA}
theorem runG {pins : List (Addr × Obj)} {σ : L2.St} {H : Hp} {s : Shared} {Q : VK} {us : List Value} {vs : List V} (F : FnG X.prog X.w X.K X.mg X.base CX0 k f fd ps sp) (room : Room k X.A) (gd : X.A.guards = some [])
    (bd : Binds X.K fd ps ds) (dv : Vals dvs ds) (I : Inv X pins σ H s) (rv : Vals vs us) (want : sp (vs ++ dvs) H Q E0) : wpAny (model X.prog X.w) X.A (call (.ref f) us) (EP X pins σ Q) X.xe s := by
  have rv2 : Vals (vs ++ dvs) (us ++ ds) := rv.append dv
  have hl : (us ++ ds).length = ps.length := by
    rw [← rv2.length]
    exact F.len _ _ _ _ want
  refine wpAny_call (codeAny_mono (F.run X.A X.stack s H ⟨us, []⟩ (us ++ ds) (vs ++ dvs) Q E0 room gd I.env0 (bd s us I.kIn hl) rv2 want) fun r s' hq => ?_)
  cases r with
  | error e => exact False.elim hq
  | ok fl =>
    cases fl with
    | ret u => exact I.after hq
    | next => exact False.elim hq
    | brk => exact False.elim hq
    | cont => exact False.elim hq
theorem pe_callG (F : FnG X.prog X.w X.K X.mg X.base CX0 k f fd ps sp) (room : Room k X.A) (gd : X.A.guards = some []) (gl : Gl X x) (hm : X.mg x = some (.ref f)) (kp : PySem.W.keepIn X.K (.ref f) = true)
    (bd : Binds X.K fd ps ds) (dv : Vals dvs ds) (ha : PA X (e :: es) t) (nodbg : (x == ("__debug__" : Str)) = false := by decide)
    (he : starEach (e :: es) X.env = (false, eval e X.env) :: starEach es X.env := by rfl) (hpl : (backTo pos (starEach es X.env)).any (·.1) = false := by rfl) :
    PE X (.Call (.Name x p) (e :: es) [] pos) (tCall sp dvs E0 t) := by
  constructor
  intro pins s σ H Q I want
  refine wpAny_Call_Name_kw (ld_glob I gl hm (PySem.W.callWith_K (h₀ := X.base) I.ok.mod.kin kp (thn (ha.run pos pins s σ H _ I want) ?_) he hpl) nodbg)
  rintro us s1 ⟨vs, H1, I1, rv, q⟩
  exact ⟨I1.kIn, runG F room gd bd dv I1 rv q⟩
theorem pe_callG0 (F : FnG X.prog X.w X.K X.mg X.base CX0 k f fd ps sp) (room : Room k X.A) (gd : X.A.guards = some []) (gl : Gl X x) (hm : X.mg x = some (.ref f)) (kp : PySem.W.keepIn X.K (.ref f) = true)
    (bd : Binds X.K fd ps ds) (dv : Vals dvs ds) (nodbg : (x == ("__debug__" : Str)) = false := by decide) : PE X (.Call (.Name x p) [] [] pos) (tCall sp dvs E0 tNil) := by
  constructor
  intro pins s σ H Q I want
  exact wpAny_Call_Name_kw (ld_glob I gl hm (PySem.W.callWith_K0 I.kIn kp (runG (us := []) F room gd bd dv I .nil want)) nodbg)
end

/-! ### the law's end -/
/-- a heap that tells of the script alone -/
theorem script_heap {P : Program} {w : World} {K : PySem.W.Frag} {h : Heap} {a : Addr} {vs : List Value} {ns : List Int} (kin : K.In h) (ha : h.get? a = some { cls := .type "list", data := .seq vs.toArray })
    (hi : IntsAre vs ns) (hl : ns.length ≤ sizeLine) :
    ∃ H : Hp, Only H ∧ SqL K H a (ns.map V.int) ∧ HOk P w H h ∧ (∀ b, H b ≠ none → b = a) ∧ (∀ b o, K.lookup b = some o → H b = none) := by
  have rv := vals_ints hi
  have len := hi.length
  cases hk : K.lookup a with
  | some o =>
    have eo := kin a o hk
    rw [ha] at eo
    cases eo
    refine ⟨fun _ => none, fun _ => .inl rfl, .inr ⟨_, vs.toArray, _, hk, rfl, rfl, rfl, ?_, by simpa using rv⟩, (fun b u z => nomatch z), (fun b z => absurd rfl z), fun _ _ _ => rfl⟩
    rw [List.size_toArray, len]
    exact hl
  | none =>
    let H : Hp := fun b => if b = a then some (.frz { cls := .type "list", data := .seq vs.toArray } (.lst (ns.map V.int))) else none
    have at_a : H a = some (.frz { cls := .type "list", data := .seq vs.toArray } (.lst (ns.map V.int))) := if_pos rfl
    have off : ∀ b, b ≠ a → H b = none := fun b z => if_neg z
    refine ⟨H, fun b => ?_, .inl (.inr ⟨_, at_a⟩), fun b u z => ?_, fun b z => ?_, fun b o z => off b ?_⟩
    · by_cases c : b = a
      · exact .inr ⟨_, _, c ▸ at_a⟩
      · exact .inl (off b c)
    · by_cases c : b = a
      · subst c
        rw [at_a] at z
        cases z
        refine ⟨ha, ?_, vs, _, rv, ha⟩
        rw [List.length_map]
        exact hl
      · rw [off b c] at z
        cases z
    · by_cases c : b = a
      · exact c
      · exact absurd (off b c) z
    · intro c
      rw [c, hk] at z
      cases z

theorem law_end {l : PySem.W.OpenLaw} {n k : Nat} {q : Program} {loose : List Str} {XP : (Str → Option Value) → Heap → Prop} {YP : World → Heap → Prop} {d : DefRec} {K : Params → PySem.W.Frag} {sp : PySem.W.Frag → Sp} {x : Str}
    (hn : l.most = some n) (hn2 : n ≤ sizeLine) (hdf : d.params.defaults = []) (hr : Room k callerA)
    (hY : ∀ (w : World) (h : Heap), YP w h → (K w.params).In h)
    (F : ∀ (w : World) (mg : Str → Option Value) (fa : Addr) (h : Heap), (K w.params).In h → h.Ns mainGlobals mg → mg d.name = some (.ref fa) →
      ∃ fd : FuncData, (∀ (s : Shared) (u : Value), BindsTo s fd ⟨[u], []⟩ [(x, u)]) ∧
        ∀ base : Heap, (K w.params).In base → base.Ns mainGlobals mg → FnG l.prog w (K w.params) mg base CX0 k fa fd [x] (sp (K w.params)))
    (hsp : ∀ (K : PySem.W.Frag) (H : Hp) (a : Addr) (ns : List Int), ns.length ≤ n → Only H → SqL K H a (ns.map V.int) → sp K [.ref a] H (fun v _ => v = .bl true) fun _ _ _ => False) :
    PySem.W.WalkO q loose XP YP l.row.toRowW d [] (fun f vs => PySem.call f vs) := by
  refine Att.attach_call hn hdf fun w s₀ s₁ mg mb fa o pm cd doc a vs ns G Y ho hd hcd hmg hobj hints hlen hgens => ?_
  have kin := hY w _ Y
  obtain ⟨fd, bd, FF⟩ := F w mg fa _ kin G.T.g hmg
  obtain ⟨H, hO, hS, hok, only, notK⟩ := script_heap (P := l.prog) (w := w) kin hobj hints (Nat.le_trans hlen hn2)
  have free : ∀ {b : Addr} {ob : Obj} {es : Array DictEntry} {ep : Nat}, s₁.heap.get? b = some ob → ob.data = .dict es ep → H b = none := by
    intro b ob es ep h1 h2
    cases c : H b with
    | none => rfl
    | some u =>
      have e : b = a := only b (by rw [c]; exact fun z => nomatch z)
      rw [e, hobj] at h1
      have h3 := congrArg Obj.data (Option.some.inj h1)
      rw [h2] at h3
      exact nomatch h3
  have ns' : ∀ {b : Addr} {m : Str → Option Value}, s₁.heap.Ns b m → (hidT s₁.heap H).Ns b m := by
    rintro b m ⟨ob, es, ep, h1, h2, h3⟩
    exact ⟨ob, es, ep, hidT_get h1 (free h1 h2), h2, h3⟩
  have kinB : (K w.params).In (hidT s₁.heap H) := fun b ob e => hidT_get (kin b ob e) (notK b ob e)
  have lim : (hidT s₁.heap H).NoLimit := by
    obtain ⟨mc, h1, h2⟩ := G.T.nolimit
    exact ⟨mc, ns' h1, h2⟩
  have en : Env0 l.prog w (K w.params) mg (hidT s₁.heap H) callerA [] s₁ H :=
    ⟨rfl, ⟨kinB, ns' G.T.g, ⟨mb, ns' G.T.b, G.T.builtins⟩, lim⟩, fun b ob e => of_hidT e, Nat.le_of_eq (hidT_size _ _), trivial, (fun b z => nomatch z), hok, .of_eq hgens⟩
  refine codeAny_mono ((FF _ kinB (ns' G.T.g)).run callerA [] s₁ H ⟨[.ref a], []⟩ [.ref a] [.ref a] _ _ hr rfl en (bd s₁ (.ref a)) (.cons rfl .nil) (hsp _ H a ns hlen hO hS)) fun r s' z => ?_
  cases r with
  | error e => exact False.elim z
  | ok fl =>
    cases fl with
    | next => exact False.elim z
    | brk => exact False.elim z
    | cont => exact False.elim z
    | ret u =>
      obtain ⟨v, H', os, bare, un, hok', rr, e⟩ := z
      have e' : v = .bl true := e
      subst e'
      obtain rfl : u = Value.bool true := rr
      refine ⟨rfl, OldK.of_keep fun b ob hb => ?_, os, bare⟩
      cases c : H b with
      | none => exact un.keep b ob hb c (fun z => nomatch z) (fun z => nomatch z)
      | some u =>
        rcases hO b with z | ⟨ox, xs, z⟩
        · rw [c] at z
          cases z
        · obtain ⟨e1, _⟩ := hok b _ z
          obtain ⟨e2, _⟩ := hok' b _ (un.frzs b ox _ z)
          rw [hb] at e1
          cases e1
          exact e2
end Rp
/-! Jm: jobs as a type of trees, their data, sizes; what the pot holds. No Python here. -/
namespace Lw
open PySem L2 Rp

abbrev M30 : Int := 1000000000000000000000000000000
inductive J where
  | st (i : Int)
  | ps (par : Bool) (xs : List J)
  | rn (cop : Bool) (n : Int) (x : J)
def kwP (b : Bool) : Str := if b then "par" else "seq"
def kwR (b : Bool) : Str := if b then "copies" else "repeat"
mutual
def J.toD : J → PyData
  | .st i => .int i
  | .ps k xs => .tuple [.str (kwP k), .tuple (J.toDs xs)]
  | .rn k n x => .tuple [.str (kwR k), .int n, x.toD]
def J.toDs : List J → List PyData
  | [] => []
  | x :: xs => x.toD :: J.toDs xs
end
mutual
theorem J.noL : ∀ j : J, noL j.toD = true
  | .st _ => rfl
  | .ps _ xs => by
    have h := J.noLs xs
    simp [J.toD, Rp.noL, Rp.noLs, h]
  | .rn _ _ x => by
    have h := J.noL x
    simp [J.toD, Rp.noL, Rp.noLs, h]
theorem J.noLs : ∀ js : List J, noLs (J.toDs js) = true
  | [] => rfl
  | x :: xs => by
    have h1 := J.noL x
    have h2 := J.noLs xs
    simp [J.toDs, Rp.noLs, h1, h2]
end
theorem J.toDs_eq : ∀ xs : List J, J.toDs xs = xs.map J.toD
  | [] => rfl
  | x :: xs => by rw [J.toDs, J.toDs_eq xs]; rfl

/-! sizes as the program finds them -/
def within (nodes steps : Int) : Option (Int × Int) := if steps ≤ M30 then some (nodes, steps) else none
mutual
def szJ : J → Int → Int → Option (Int × Int)
  | .st i, room, lv => if room < 1 ∨ lv < 1 then none else if -M30 ≤ i ∧ i ≤ M30 then some (1, 1) else none
  | .ps _ xs, room, lv => if room < 1 ∨ lv < 1 then none else if (xs.length : Int) > 400 then none else szJs xs 1 0 room lv
  | .rn _ n x, room, lv => if room < 1 ∨ lv < 1 then none else if ¬ (0 ≤ n ∧ n ≤ M30) then none else
      match szJ x (room - 1) (lv - 1) with
      | none => none
      | some (a, b) => within (a + 1) (b * n)
def szJs : List J → Int → Int → Int → Int → Option (Int × Int)
  | [], nodes, steps, _, _ => within nodes steps
  | x :: xs, nodes, steps, room, lv =>
      match szJ x (room - nodes) (lv - 1) with
      | none => none
      | some (a, b) => szJs xs (nodes + a) (steps + b) room lv
end
mutual
def J.nodes : J → Int
  | .st _ => 1
  | .ps _ xs => 1 + J.nodesL xs
  | .rn _ _ x => x.nodes + 1
def J.nodesL : List J → Int
  | [] => 0
  | x :: xs => x.nodes + J.nodesL xs
end
mutual
def J.steps : J → Int
  | .st _ => 1
  | .ps _ xs => J.stepsL xs
  | .rn _ n x => x.steps * n
def J.stepsL : List J → Int
  | [] => 0
  | x :: xs => x.steps + J.stepsL xs
end
mutual
def J.deep : J → Nat
  | .st _ => 1
  | .ps _ xs => J.deepL xs + 1
  | .rn _ _ x => x.deep + 1
def J.deepL : List J → Nat
  | [] => 0
  | x :: xs => max x.deep (J.deepL xs)
end
mutual
/-- a job but for nodes and nesting -/
def J.ok : J → Prop
  | .st i => -M30 ≤ i ∧ i ≤ M30
  | .ps _ xs => (xs.length : Int) ≤ 400 ∧ J.okL xs ∧ J.stepsL xs ≤ M30
  | .rn _ n x => (0 ≤ n ∧ n ≤ M30) ∧ x.ok ∧ x.steps * n ≤ M30
def J.okL : List J → Prop
  | [] => True
  | x :: xs => x.ok ∧ J.okL xs
end
mutual
theorem J.nodes_pos : ∀ j : J, 1 ≤ j.nodes
  | .st _ => by simp [J.nodes]
  | .ps _ xs => by have := J.nodesL_pos xs; simp only [J.nodes]; omega
  | .rn _ _ x => by have := J.nodes_pos x; simp only [J.nodes]; omega
theorem J.nodesL_pos : ∀ xs : List J, 0 ≤ J.nodesL xs
  | [] => by simp [J.nodesL]
  | x :: xs => by have := J.nodes_pos x; have := J.nodesL_pos xs; simp only [J.nodesL]; omega
end
theorem J.deep_pos : ∀ j : J, 1 ≤ j.deep
  | .st _ => by simp [J.deep]
  | .ps _ xs => by simp only [J.deep]; omega
  | .rn _ _ x => by simp only [J.deep]; omega
mutual
theorem J.steps_nn : ∀ j : J, j.ok → 0 ≤ j.steps
  | .st _, _ => by simp [J.steps]
  | .ps _ xs, h => by
    simp only [J.ok] at h
    simp only [J.steps]
    exact J.stepsL_nn xs h.2.1
  | .rn _ n x, h => by
    simp only [J.ok] at h
    simp only [J.steps]
    exact Int.mul_nonneg (J.steps_nn x h.2.1) h.1.1
theorem J.stepsL_nn : ∀ xs : List J, J.okL xs → 0 ≤ J.stepsL xs
  | [], _ => by simp [J.stepsL]
  | x :: xs, h => by
    simp only [J.okL] at h
    have := J.steps_nn x h.1
    have := J.stepsL_nn xs h.2
    simp only [J.stepsL]
    omega
end
theorem J.steps_le (j : J) (h : j.ok) : j.steps ≤ M30 := by
  cases j with
  | st i => simp only [J.steps]; decide
  | ps k xs => simp only [J.ok] at h; simp only [J.steps]; exact h.2.2
  | rn k n x => simp only [J.ok] at h; simp only [J.steps]; exact h.2.2
/-! the closed form: is a job within room and levels, and then its sizes -/
mutual
theorem szJ_some : ∀ (j : J) (room lv : Int), j.ok → j.nodes ≤ room → (j.deep : Int) ≤ lv → szJ j room lv = some (j.nodes, j.steps)
  | .st i, room, lv, h, h1, h2 => by
    simp only [J.ok] at h
    simp only [J.nodes, J.deep] at h1 h2
    simp only [szJ, J.nodes, J.steps]
    rw [if_neg (by omega), if_pos h]
  | .ps k xs, room, lv, h, h1, h2 => by
    simp only [J.ok] at h
    simp only [J.nodes, J.deep] at h1 h2
    have hn := J.nodesL_pos xs
    simp only [szJ, J.nodes, J.steps]
    rw [if_neg (by omega), if_neg (by omega)]
    have := szJs_some xs 1 0 room lv h.2.1 (by omega) (by omega) (by omega) (by omega)
    rw [this, Int.zero_add]
  | .rn k n x, room, lv, h, h1, h2 => by
    simp only [J.ok] at h
    simp only [J.nodes, J.deep] at h1 h2
    have hn := J.nodes_pos x
    simp only [szJ, J.nodes, J.steps]
    rw [if_neg (by omega), if_neg (by omega), szJ_some x (room - 1) (lv - 1) h.2.1 (by omega) (by omega)]
    simp only [within]
    rw [if_pos h.2.2]
theorem szJs_some : ∀ (xs : List J) (nodes steps room lv : Int), J.okL xs → 1 ≤ nodes → nodes + J.nodesL xs ≤ room → (J.deepL xs : Int) ≤ lv - 1 → steps + J.stepsL xs ≤ M30 → szJs xs nodes steps room lv = some (nodes + J.nodesL xs, steps + J.stepsL xs)
  | [], nodes, steps, room, lv, _, _, _, _, h => by
    simp only [J.nodesL, J.stepsL, szJs, within, Int.add_zero] at *
    rw [if_pos h]
  | x :: xs, nodes, steps, room, lv, h, h0, h1, h2, h3 => by
    simp only [J.okL] at h
    simp only [J.nodesL, J.stepsL, J.deepL] at *
    have p1 := J.nodes_pos x
    have p2 := J.nodesL_pos xs
    have p3 := J.stepsL_nn xs h.2
    simp only [szJs]
    rw [szJ_some x (room - nodes) (lv - 1) h.1 (by omega) (by omega)]
    simp only
    rw [szJs_some xs (nodes + x.nodes) (steps + x.steps) room lv h.2 (by omega) (by omega) (by omega) (by omega)]
    rw [Int.add_assoc, Int.add_assoc]
end
mutual
theorem szJ_inv : ∀ (j : J) (room lv a b : Int), szJ j room lv = some (a, b) → j.ok ∧ j.nodes ≤ room ∧ (j.deep : Int) ≤ lv ∧ a = j.nodes ∧ b = j.steps
  | .st i, room, lv, a, b, h => by
    simp only [szJ] at h
    split at h
    · cases h
    · split at h
      · rename_i h1 h2
        cases h
        simp only [J.ok, J.nodes, J.deep, J.steps]
        refine ⟨h2, by omega, by omega, ?_, ?_⟩ <;> trivial
      · cases h
  | .ps k xs, room, lv, a, b, h => by
    simp only [szJ] at h
    split at h
    · cases h
    · split at h
      · cases h
      · rename_i h1 h2
        obtain ⟨q1, q2, q3, q4, q5, q6⟩ := szJs_inv xs 1 0 room lv a b h (by omega)
        simp only [J.ok, J.nodes, J.deep, J.steps]
        have q3' : (J.deepL xs : Int) ≤ lv - 1 := by
          rcases q3 with q3 | q3
          · exact q3
          · subst q3
            simp only [J.deepL]
            omega
        refine ⟨⟨by omega, q1, by omega⟩, by omega, by omega, by omega, by omega⟩
  | .rn k n x, room, lv, a, b, h => by
    simp only [szJ] at h
    split at h
    · cases h
    · split at h
      · cases h
      · rename_i h1 h2
        split at h
        · cases h
        · rename_i a1 b1 h3
          obtain ⟨q1, q2, q3, q4, q5⟩ := szJ_inv x (room - 1) (lv - 1) a1 b1 h3
          simp only [within] at h
          split at h
          · rename_i h4
            cases h
            subst q4 q5
            simp only [J.ok, J.nodes, J.deep, J.steps]
            refine ⟨⟨Decidable.not_not.mp h2, q1, h4⟩, by omega, by omega, ?_, ?_⟩ <;> trivial
          · cases h
theorem szJs_inv : ∀ (xs : List J) (nodes steps room lv a b : Int), szJs xs nodes steps room lv = some (a, b) → nodes ≤ room → J.okL xs ∧ nodes + J.nodesL xs ≤ room ∧ ((J.deepL xs : Int) ≤ lv - 1 ∨ xs = []) ∧ steps + J.stepsL xs ≤ M30 ∧ a = nodes + J.nodesL xs ∧ b = steps + J.stepsL xs
  | [], nodes, steps, room, lv, a, b, h, h0 => by
    simp only [szJs, within] at h
    split at h
    · rename_i h1
      cases h
      simp only [J.okL, J.nodesL, J.stepsL, Int.add_zero]
      refine ⟨trivial, h0, .inr ?_, h1, ?_, ?_⟩ <;> trivial
    · cases h
  | x :: xs, nodes, steps, room, lv, a, b, h, h0 => by
    simp only [szJs] at h
    split at h
    · cases h
    · rename_i a1 b1 h3
      obtain ⟨q1, q2, q3, q4, q5⟩ := szJ_inv x (room - nodes) (lv - 1) a1 b1 h3
      subst q4 q5
      obtain ⟨r1, r2, r3, r4, r5, r6⟩ := szJs_inv xs (nodes + x.nodes) (steps + x.steps) room lv a b h (by omega)
      have dp := J.deep_pos x
      simp only [J.okL, J.nodesL, J.stepsL, J.deepL]
      refine ⟨⟨q1, r1⟩, by omega, .inl ?_, by omega, by omega, by omega⟩
      rcases r3 with r3 | r3
      · omega
      · subst r3
        simp only [J.deepL]
        omega
end
end Lw
/-! Jn: nets, lowest usages and mirrors of jobs. No Python here. -/
namespace Lw
open PySem L2 Rp
mutual
def J.net : J → Int
  | .st i => i
  | .ps _ xs => J.netL xs
  | .rn _ n x => n * x.net
def J.netL : List J → Int
  | [] => 0
  | x :: xs => x.net + J.netL xs
end
mutual
def J.low : J → Int
  | .st i => min 0 i
  | .ps false xs => J.lowS xs
  | .ps true xs => J.lowL xs
  | .rn true n x => n * x.low
  | .rn false n x => if n = 0 then 0 else x.low + (n - 1) * min 0 x.net
/-- in sequence -/
def J.lowS : List J → Int
  | [] => 0
  | x :: xs => min x.low (x.net + J.lowS xs)
/-- side by side -/
def J.lowL : List J → Int
  | [] => 0
  | x :: xs => x.low + J.lowL xs
end
theorem mul_min_nonneg {a b : Int} (h : 0 ≤ a) : a * min 0 b ≤ 0 ∧ a * min 0 b ≤ a * b := by
  constructor
  · have : 0 ≤ a * (- min 0 b) := Int.mul_nonneg h (by omega)
    rw [Int.mul_neg] at this
    omega
  · exact Int.mul_le_mul_of_nonneg_left (by omega) h
mutual
/-- the lowest usage is at most 0 and at most the net -/
theorem J.low_le : ∀ j : J, j.ok → j.low ≤ 0 ∧ j.low ≤ j.net
  | .st i, _ => by simp only [J.low, J.net]; omega
  | .ps false xs, h => by
    simp only [J.ok] at h
    simp only [J.low, J.net]
    exact J.lowS_le xs h.2.1
  | .ps true xs, h => by
    simp only [J.ok] at h
    simp only [J.low, J.net]
    exact J.lowL_le xs h.2.1
  | .rn true n x, h => by
    simp only [J.ok] at h
    have ih := J.low_le x h.2.1
    simp only [J.low, J.net]
    constructor
    · have : 0 ≤ n * (- x.low) := Int.mul_nonneg h.1.1 (by omega)
      rw [Int.mul_neg] at this
      omega
    · exact Int.mul_le_mul_of_nonneg_left ih.2 h.1.1
  | .rn false n x, h => by
    simp only [J.ok] at h
    have ih := J.low_le x h.2.1
    simp only [J.low, J.net]
    split
    · rename_i e
      subst e
      omega
    · have p := mul_min_nonneg (a := n - 1) (b := x.net) (by omega)
      have e : n * x.net = (n - 1) * x.net + x.net := by rw [Int.sub_mul, Int.one_mul]; omega
      omega
theorem J.lowS_le : ∀ xs : List J, J.okL xs → J.lowS xs ≤ 0 ∧ J.lowS xs ≤ J.netL xs
  | [], _ => by simp only [J.lowS, J.netL]; omega
  | x :: xs, h => by
    simp only [J.okL] at h
    have h1 := J.low_le x h.1
    have h2 := J.lowS_le xs h.2
    simp only [J.lowS, J.netL]
    omega
theorem J.lowL_le : ∀ xs : List J, J.okL xs → J.lowL xs ≤ 0 ∧ J.lowL xs ≤ J.netL xs
  | [], _ => by simp only [J.lowL, J.netL]; omega
  | x :: xs, h => by
    simp only [J.okL] at h
    have h1 := J.low_le x h.1
    have h2 := J.lowL_le xs h.2
    simp only [J.lowL, J.netL]
    omega
end
/-! sizes: at most the steps times a step's greatest -/
theorem mul_natAbs_le {n b c : Int} (h0 : 0 ≤ n) (h : b.natAbs ≤ c.natAbs) : (n * b).natAbs ≤ (n * c).natAbs := by
  rw [Int.natAbs_mul, Int.natAbs_mul]
  exact Nat.mul_le_mul_left _ h
mutual
theorem J.net_big : ∀ j : J, j.ok → -(j.steps * M30) ≤ j.net ∧ j.net ≤ j.steps * M30
  | .st i, h => by
    simp only [J.ok, M30] at h
    simp only [J.net, J.steps, M30]
    omega
  | .ps _ xs, h => by
    simp only [J.ok] at h
    simp only [J.net, J.steps]
    exact J.netL_big xs h.2.1
  | .rn _ n x, h => by
    simp only [J.ok] at h
    have ih := J.net_big x h.2.1
    simp only [J.net, J.steps]
    have e : x.steps * n * M30 = n * (x.steps * M30) := by rw [Int.mul_comm x.steps n, Int.mul_assoc]
    rw [e]
    constructor
    · rw [← Int.mul_neg]
      exact Int.mul_le_mul_of_nonneg_left ih.1 h.1.1
    · exact Int.mul_le_mul_of_nonneg_left ih.2 h.1.1
theorem J.netL_big : ∀ xs : List J, J.okL xs → -(J.stepsL xs * M30) ≤ J.netL xs ∧ J.netL xs ≤ J.stepsL xs * M30
  | [], _ => by simp only [J.netL, J.stepsL]; omega
  | x :: xs, h => by
    simp only [J.okL] at h
    have h1 := J.net_big x h.1
    have h2 := J.netL_big xs h.2
    simp only [J.netL, J.stepsL, M30] at *
    omega
end
mutual
theorem J.low_big : ∀ j : J, j.ok → -(j.steps * M30) ≤ j.low
  | .st i, h => by
    simp only [J.ok, M30] at h
    simp only [J.low, J.steps, M30]
    omega
  | .ps false xs, h => by
    simp only [J.ok] at h
    simp only [J.low, J.steps]
    exact J.lowS_big xs h.2.1
  | .ps true xs, h => by
    simp only [J.ok] at h
    simp only [J.low, J.steps]
    exact J.lowL_big xs h.2.1
  | .rn true n x, h => by
    simp only [J.ok] at h
    have ih := J.low_big x h.2.1
    simp only [J.low, J.steps]
    have e : x.steps * n * M30 = n * (x.steps * M30) := by rw [Int.mul_comm x.steps n, Int.mul_assoc]
    rw [e, ← Int.mul_neg]
    exact Int.mul_le_mul_of_nonneg_left ih h.1.1
  | .rn false n x, h => by
    simp only [J.ok] at h
    have ih := J.low_big x h.2.1
    have ih2 := J.net_big x h.2.1
    have nn := J.steps_nn x h.2.1
    simp only [J.low, J.steps]
    have e : x.steps * n * M30 = n * (x.steps * M30) := by rw [Int.mul_comm x.steps n, Int.mul_assoc]
    rw [e]
    split
    · rename_i z
      subst z
      omega
    · have hm : -(x.steps * M30) ≤ min 0 x.net := by
        have : 0 ≤ x.steps * M30 := Int.mul_nonneg nn (by decide)
        omega
      have p : (n - 1) * (-(x.steps * M30)) ≤ (n - 1) * min 0 x.net := Int.mul_le_mul_of_nonneg_left hm (by omega)
      have e2 : (n - 1) * (-(x.steps * M30)) = -(n * (x.steps * M30)) + x.steps * M30 := by rw [Int.mul_neg, Int.sub_mul, Int.one_mul]; omega
      omega
theorem J.lowS_big : ∀ xs : List J, J.okL xs → -(J.stepsL xs * M30) ≤ J.lowS xs
  | [], _ => by simp only [J.lowS, J.stepsL]; omega
  | x :: xs, h => by
    simp only [J.okL] at h
    have h1 := J.low_big x h.1
    have h2 := J.lowS_big xs h.2
    have h3 := J.net_big x h.1
    have n1 := J.steps_nn x h.1
    have n2 := J.stepsL_nn xs h.2
    simp only [J.lowS, J.stepsL, M30] at *
    omega
theorem J.lowL_big : ∀ xs : List J, J.okL xs → -(J.stepsL xs * M30) ≤ J.lowL xs
  | [], _ => by simp only [J.lowL, J.stepsL]; omega
  | x :: xs, h => by
    simp only [J.okL] at h
    have h1 := J.low_big x h.1
    have h2 := J.lowL_big xs h.2
    simp only [J.lowL, J.stepsL, M30] at *
    omega
end
abbrev M60 : Int := 1000000000000000000000000000000000000000000000000000000000000
theorem J.net_60 (j : J) (h : j.ok) : -M60 ≤ j.net ∧ j.net ≤ M60 := by
  have h1 := J.net_big j h
  have h2 := J.steps_le j h
  simp only [M30, M60] at *
  omega
theorem J.low_60 (j : J) (h : j.ok) : -M60 ≤ j.low ∧ j.low ≤ 0 := by
  have h1 := J.low_big j h
  have h2 := J.steps_le j h
  have h3 := (J.low_le j h).1
  simp only [M30, M60] at *
  omega
/-! the mirror -/
mutual
def J.mir : J → J
  | .st i => .st (-i)
  | .ps false xs => .ps false (J.mirL xs).reverse
  | .ps true xs => .ps true (J.mirL xs)
  | .rn k n x => .rn k n x.mir
def J.mirL : List J → List J
  | [] => []
  | x :: xs => x.mir :: J.mirL xs
end
theorem J.mirL_eq : ∀ xs : List J, J.mirL xs = xs.map J.mir
  | [] => rfl
  | x :: xs => by rw [J.mirL, J.mirL_eq xs]; rfl
theorem J.mirL_rev (xs : List J) : J.mirL xs.reverse = (J.mirL xs).reverse := by rw [J.mirL_eq, J.mirL_eq, List.map_reverse]
mutual
theorem J.mir_mir : ∀ j : J, j.mir.mir = j
  | .st i => by simp [J.mir]
  | .ps false xs => by simp only [J.mir, J.mirL_rev, List.reverse_reverse, J.mirL_mirL xs]
  | .ps true xs => by simp only [J.mir, J.mirL_mirL xs]
  | .rn k n x => by simp only [J.mir, J.mir_mir x]
theorem J.mirL_mirL : ∀ xs : List J, J.mirL (J.mirL xs) = xs
  | [] => rfl
  | x :: xs => by simp only [J.mirL, J.mir_mir x, J.mirL_mirL xs]
end
theorem J.nodesL_rev (xs : List J) : J.nodesL xs.reverse = J.nodesL xs := by
  induction xs with
  | nil => rfl
  | cons x xs ih =>
    have app : ∀ xs ys : List J, J.nodesL (xs ++ ys) = J.nodesL xs + J.nodesL ys := by
      intro xs ys
      induction xs with
      | nil => simp [J.nodesL]
      | cons a l ih => simp only [List.cons_append, J.nodesL, ih]; omega
    rw [List.reverse_cons, app, ih]
    simp only [J.nodesL]
    omega
theorem J.stepsL_app (xs ys : List J) : J.stepsL (xs ++ ys) = J.stepsL xs + J.stepsL ys := by
  induction xs with
  | nil => simp [J.stepsL]
  | cons a l ih => simp only [List.cons_append, J.stepsL, ih]; omega
theorem J.stepsL_rev (xs : List J) : J.stepsL xs.reverse = J.stepsL xs := by
  induction xs with
  | nil => rfl
  | cons x xs ih =>
    rw [List.reverse_cons, J.stepsL_app, ih]
    simp only [J.stepsL]
    omega
theorem J.netL_app (xs ys : List J) : J.netL (xs ++ ys) = J.netL xs + J.netL ys := by
  induction xs with
  | nil => simp [J.netL]
  | cons a l ih => simp only [List.cons_append, J.netL, ih]; omega
theorem J.netL_rev (xs : List J) : J.netL xs.reverse = J.netL xs := by
  induction xs with
  | nil => rfl
  | cons x xs ih =>
    rw [List.reverse_cons, J.netL_app, ih]
    simp only [J.netL]
    omega
theorem J.deepL_rev (xs : List J) : J.deepL xs.reverse = J.deepL xs := by
  induction xs with
  | nil => rfl
  | cons x xs ih =>
    have app : ∀ xs ys : List J, J.deepL (xs ++ ys) = max (J.deepL xs) (J.deepL ys) := by
      intro xs ys
      induction xs with
      | nil => simp [J.deepL]
      | cons a l ih => simp only [List.cons_append, J.deepL, ih]; omega
    rw [List.reverse_cons, app, ih]
    simp only [J.deepL]
    omega
theorem J.okL_iff : ∀ xs : List J, J.okL xs ↔ ∀ x ∈ xs, x.ok
  | [] => by simp [J.okL]
  | x :: xs => by simp only [J.okL, J.okL_iff xs, List.forall_mem_cons]
theorem J.okL_rev (xs : List J) : J.okL xs.reverse ↔ J.okL xs := by
  rw [J.okL_iff, J.okL_iff]
  simp
theorem J.mirL_len (xs : List J) : (J.mirL xs).length = xs.length := by rw [J.mirL_eq, List.length_map]
mutual
theorem J.mir_same : ∀ j : J, j.mir.nodes = j.nodes ∧ j.mir.steps = j.steps ∧ j.mir.deep = j.deep ∧ j.mir.net = -j.net ∧ (j.ok → j.mir.ok)
  | .st i => by
    simp only [J.mir, J.nodes, J.steps, J.deep, J.net, J.ok, true_and]
    omega
  | .ps false xs => by
    obtain ⟨h1, h2, h3, h4, h5⟩ := J.mirL_same xs
    simp only [J.mir, J.nodes, J.steps, J.deep, J.net, J.ok, J.nodesL_rev, J.stepsL_rev, J.deepL_rev, J.netL_rev, J.okL_rev, List.length_reverse, J.mirL_len, h1, h2, h3, h4, true_and]
    exact fun z => ⟨z.1, h5 z.2.1, z.2.2⟩
  | .ps true xs => by
    obtain ⟨h1, h2, h3, h4, h5⟩ := J.mirL_same xs
    simp only [J.mir, J.nodes, J.steps, J.deep, J.net, J.ok, J.mirL_len, h1, h2, h3, h4, true_and]
    exact fun z => ⟨z.1, h5 z.2.1, z.2.2⟩
  | .rn k n x => by
    obtain ⟨h1, h2, h3, h4, h5⟩ := J.mir_same x
    simp only [J.mir, J.nodes, J.steps, J.deep, J.net, J.ok, h1, h2, h3, h4, true_and, Int.mul_neg]
    exact fun z => ⟨z.1, h5 z.2.1, z.2.2⟩
theorem J.mirL_same : ∀ xs : List J, J.nodesL (J.mirL xs) = J.nodesL xs ∧ J.stepsL (J.mirL xs) = J.stepsL xs ∧ J.deepL (J.mirL xs) = J.deepL xs ∧ J.netL (J.mirL xs) = -J.netL xs ∧ (J.okL xs → J.okL (J.mirL xs))
  | [] => by simp [J.mirL, J.nodesL, J.stepsL, J.deepL, J.netL, J.okL]
  | x :: xs => by
    obtain ⟨h1, h2, h3, h4, h5⟩ := J.mir_same x
    obtain ⟨k1, k2, k3, k4, k5⟩ := J.mirL_same xs
    simp only [J.mirL, J.nodesL, J.stepsL, J.deepL, J.netL, J.okL, h1, h2, h3, h4, k1, k2, k3, k4, true_and]
    refine ⟨by omega, fun z => ⟨h5 z.1, k5 z.2⟩⟩
end
theorem J.lowS_app (xs : List J) (y : J) (hy : y.ok) (hx : J.okL xs) : J.lowS (xs ++ [y]) = min (J.lowS xs) (J.netL xs + y.low) := by
  induction xs with
  | nil =>
    have := J.low_le y hy
    simp only [List.nil_append, J.lowS, J.netL]
    omega
  | cons x xs ih =>
    simp only [J.okL] at hx
    simp only [List.cons_append, J.lowS, J.netL, ih hx.2]
    omega
mutual
theorem J.mir_low : ∀ j : J, j.ok → j.mir.low = j.low - j.net
  | .st i, _ => by simp only [J.mir, J.low, J.net]; omega
  | .ps false xs, h => by
    simp only [J.ok] at h
    simp only [J.mir, J.low, J.net]
    exact J.mirL_lowS xs h.2.1
  | .ps true xs, h => by
    simp only [J.ok] at h
    simp only [J.mir, J.low, J.net]
    exact J.mirL_lowL xs h.2.1
  | .rn true n x, h => by
    simp only [J.ok] at h
    simp only [J.mir, J.low, J.net, J.mir_low x h.2.1, Int.mul_sub]
  | .rn false n x, h => by
    simp only [J.ok] at h
    obtain ⟨_, _, _, hn, _⟩ := J.mir_same x
    simp only [J.mir, J.low, J.net, J.mir_low x h.2.1, hn]
    split
    · rename_i e
      subst e
      omega
    · have e : min 0 (-x.net) = min 0 x.net - x.net := by omega
      have e1 : (n - 1) * (min 0 x.net - x.net) = (n - 1) * min 0 x.net - (n - 1) * x.net := Int.mul_sub _ _ _
      have e2 : (n - 1) * x.net = n * x.net - x.net := by rw [Int.sub_mul, Int.one_mul]
      rw [e, e1]
      omega
theorem J.mirL_lowS : ∀ xs : List J, J.okL xs → J.lowS (J.mirL xs).reverse = J.lowS xs - J.netL xs
  | [], _ => by simp only [J.mirL, List.reverse_nil, J.lowS, J.netL]; omega
  | x :: xs, h => by
    simp only [J.okL] at h
    obtain ⟨_, _, _, _, ho⟩ := J.mir_same x
    obtain ⟨_, _, _, hn, hos⟩ := J.mirL_same xs
    simp only [J.mirL, List.reverse_cons]
    rw [J.lowS_app _ _ (ho h.1) ((J.okL_rev _).mpr (hos h.2)), J.mirL_lowS xs h.2, J.mir_low x h.1, J.netL_rev, hn]
    simp only [J.lowS, J.netL]
    omega
theorem J.mirL_lowL : ∀ xs : List J, J.okL xs → J.lowL (J.mirL xs) = J.lowL xs - J.netL xs
  | [], _ => by simp only [J.mirL, J.lowL, J.netL]; omega
  | x :: xs, h => by
    simp only [J.okL] at h
    simp only [J.mirL, J.lowL, J.netL, J.mirL_lowL xs h.2, J.mir_low x h.1]
    omega
end
/-! a job's data at hand -/
theorem ps_inv {K : PySem.W.Frag} {H : Hp} {v : V} {k : Bool} {xs : List J} (h : Dp K H v (J.ps k xs).toD) : ∃ a b vs, v = .ref a ∧ SqT K H a [.str (kwP k), .ref b] ∧ SqT K H b vs ∧ DpAll K H vs (J.toDs xs) := by
  rw [J.toD] at h
  obtain ⟨a, ys, rfl, hys, hall⟩ := dp_tup_inv h
  cases hall with
  | cons e1 hall =>
    obtain rfl := dp_str_inv e1
    cases hall with
    | cons e2 hall =>
      cases hall
      obtain ⟨b, vs, rfl, hvs, hall2⟩ := dp_tup_inv e2
      exact ⟨a, b, vs, rfl, hys, hvs, hall2⟩
theorem rn_inv {K : PySem.W.Frag} {H : Hp} {v : V} {k : Bool} {n : Int} {x : J} (h : Dp K H v (J.rn k n x).toD) : ∃ a w, v = .ref a ∧ SqT K H a [.str (kwR k), .int n, w] ∧ Dp K H w x.toD := by
  rw [J.toD] at h
  obtain ⟨a, ys, rfl, hys, hall⟩ := dp_tup_inv h
  cases hall with
  | cons e1 hall =>
    obtain rfl := dp_str_inv e1
    cases hall with
    | cons e2 hall =>
      obtain rfl := dp_int_inv e2
      cases hall with
      | cons e3 hall =>
        cases hall
        exact ⟨a, _, rfl, hys, e3⟩
theorem parts_at {K : PySem.W.Frag} {H : Hp} {xs : List J} {vs : List V} {i : Nat} {x : V} (hall : DpAll K H vs (J.toDs xs)) (hi : vs[i]? = some x) : ∃ j, xs[i]? = some j ∧ j ∈ xs ∧ Dp K H x j.toD := by
  obtain ⟨d, ed, hd⟩ := dpAll_get hall hi
  rw [J.toDs_eq, List.getElem?_map] at ed
  cases e : xs[i]? with
  | none =>
    rw [e] at ed
    cases ed
  | some j =>
    rw [e] at ed
    obtain rfl := (Option.some.inj ed).symm
    exact ⟨j, rfl, List.mem_of_getElem? e, hd⟩
theorem parts_len {K : PySem.W.Frag} {H : Hp} {xs : List J} {vs : List V} (hall : DpAll K H vs (J.toDs xs)) : vs.length = xs.length := by
  rw [dpAll_length hall, J.toDs_eq, List.length_map]
theorem deep_mem : ∀ {l : List J} {y : J}, y ∈ l → y.deep ≤ J.deepL l
  | z :: r, y, h => by
    simp only [J.deepL]
    rcases List.mem_cons.mp h with rfl | h
    · omega
    · have := deep_mem h
      omega
theorem ok_mem {l : List J} {y : J} (o : J.okL l) (h : y ∈ l) : y.ok := (J.okL_iff l).mp o y h
theorem take_step {α β : Type} {xs : List α} {i : Nat} {j : α} (f : α → β) (e : xs[i]? = some j) : (xs.take (i + 1)).map f = (xs.take i).map f ++ [f j] := by
  rw [List.take_add_one, e, List.map_append]
  rfl
/-! words -/
theorem w_in_parts (k : Bool) : inV (.str (kwP k)) [.str "seq", .str "par"] = true := by cases k <;> decide +kernel
theorem w_in_parts_no (k : Bool) : inV (.str (kwR k)) [.str "seq", .str "par"] = false := by cases k <;> decide +kernel
theorem w_in_rounds (k : Bool) : inV (.str (kwR k)) [.str "repeat", .str "copies"] = true := by cases k <;> decide +kernel
theorem w_in_rounds_no (k : Bool) : inV (.str (kwP k)) [.str "repeat", .str "copies"] = false := by cases k <;> decide +kernel
theorem w_seq (k : Bool) : decide (V.str (kwP k) = V.str "seq") = !k := by cases k <;> decide +kernel
theorem w_par (k : Bool) : decide (V.str (kwP k) = V.str "par") = k := by cases k <;> decide +kernel
theorem w_seq_no (k : Bool) : decide (V.str (kwR k) = V.str "seq") = false := by cases k <;> decide +kernel
theorem w_par_no (k : Bool) : decide (V.str (kwR k) = V.str "par") = false := by cases k <;> decide +kernel
theorem w_copies (k : Bool) : decide (V.str (kwR k) = V.str "copies") = k := by cases k <;> decide +kernel
theorem w_dec_int {a b : Int} : decide (V.int a = V.int b) = decide (a = b) := by
  by_cases h : a = b
  · subst h
    simp
  · rw [decide_eq_false h, decide_eq_false (fun z => h (V.int.inj z))]
/-! the data of a job: fine to be shown, comparable -/
theorem kwP_fine (k : Bool) : fine (.str (kwP k)) := by cases k <;> (simp only [fine]; decide +kernel)
theorem kwR_fine (k : Bool) : fine (.str (kwR k)) := by cases k <;> (simp only [fine]; decide +kernel)
theorem kwP_bulk (k : Bool) : (PyData.str (kwP k)).bulk ≤ 10 := by cases k <;> (simp only [PyData.bulk]; decide +kernel)
theorem kwR_bulk (k : Bool) : (PyData.str (kwR k)).bulk ≤ 10 := by cases k <;> (simp only [PyData.bulk]; decide +kernel)
theorem lt180 {i : Int} (h0 : -M60 ≤ i) (h : i ≤ M60) : i.natAbs < 10 ^ 180 := by
  simp only [M60] at h0 h
  exact Nat.lt_of_le_of_lt (show i.natAbs ≤ 1000000000000000000000000000000000000000000000000000000000000 by omega) (by decide +kernel)
mutual
theorem J.fine : ∀ j : J, j.ok → fine j.toD
  | .st i, h => by
    simp only [J.ok, M30] at h
    simp only [J.toD, Rp.fine]
    exact lt180 (by simp only [M60]; omega) (by simp only [M60]; omega)
  | .ps k xs, h => by
    simp only [J.ok] at h
    have h1 := J.fines xs h.2.1
    have h2 := kwP_fine k
    simp only [J.toD, Rp.fine, fines] at *
    exact ⟨h2, h1, trivial⟩
  | .rn k n x, h => by
    simp only [J.ok, M30] at h
    have h1 := J.fine x h.2.1
    have h2 := kwR_fine k
    simp only [J.toD, Rp.fine, fines] at *
    exact ⟨h2, lt180 (by simp only [M60]; omega) (by simp only [M60]; omega), h1, trivial⟩
theorem J.fines : ∀ xs : List J, J.okL xs → fines (J.toDs xs)
  | [], _ => by simp [J.toDs, Rp.fines]
  | x :: xs, h => by
    simp only [J.okL] at h
    simp only [J.toDs, Rp.fines]
    exact ⟨J.fine x h.1, J.fines xs h.2⟩
end
mutual
theorem J.bulk : ∀ j : J, (j.toD.bulk : Int) ≤ 20 * j.nodes - 5
  | .st i => by simp only [J.toD, PyData.bulk, J.nodes]; omega
  | .ps k xs => by
    have h1 := J.bulks xs
    have h2 := kwP_bulk k
    simp only [J.toD, PyData.bulk, PyData.bulkAll, J.nodes] at *
    omega
  | .rn k n x => by
    have h1 := J.bulk x
    have h2 := kwR_bulk k
    simp only [J.toD, PyData.bulk, PyData.bulkAll, J.nodes] at *
    omega
theorem J.bulks : ∀ xs : List J, (PyData.bulkAll (J.toDs xs) : Int) ≤ 20 * J.nodesL xs
  | [] => by simp [J.toDs, PyData.bulkAll, J.nodesL]
  | x :: xs => by
    have h1 := J.bulk x
    have h2 := J.bulks xs
    simp only [J.toDs, PyData.bulkAll, J.nodesL, List.length_cons] at *
    omega
end
mutual
theorem J.depth : ∀ j : J, j.toD.depth ≤ 2 * j.deep
  | .st i => by simp [J.toD, PyData.depth]
  | .ps k xs => by
    have h1 := J.depths xs
    simp only [J.toD, PyData.depth, PyData.depthAll, J.deep]
    omega
  | .rn k n x => by
    have h1 := J.depth x
    simp only [J.toD, PyData.depth, PyData.depthAll, J.deep]
    omega
theorem J.depths : ∀ xs : List J, PyData.depthAll (J.toDs xs) ≤ 2 * J.deepL xs
  | [] => by simp [J.toDs, PyData.depthAll, J.deepL]
  | x :: xs => by
    have h1 := J.depth x
    have h2 := J.depths xs
    simp only [J.toDs, PyData.depthAll, J.deepL]
    omega
end
theorem kwP_strOk (k : Bool) : PyData.canLay0 (.str (kwP k)) = true := by cases k <;> (simp only [PyData.canLay0]; decide +kernel)
theorem kwR_strOk (k : Bool) : PyData.canLay0 (.str (kwR k)) = true := by cases k <;> (simp only [PyData.canLay0]; decide +kernel)
mutual
theorem J.canLay : ∀ j : J, j.toD.canLay0 = true
  | .st i => by simp [J.toD, PyData.canLay0]
  | .ps k xs => by
    have h1 := J.canLays xs
    have h2 := kwP_strOk k
    simp only [J.toD, PyData.canLay0, PyData.canLayAll0, h1, Bool.and_true, Bool.true_and] at *
    exact h2
  | .rn k n x => by
    have h1 := J.canLay x
    have h2 := kwR_strOk k
    simp only [J.toD, PyData.canLay0, PyData.canLayAll0, h1, Bool.and_true, Bool.true_and] at *
    exact h2
theorem J.canLays : ∀ xs : List J, PyData.canLayAll0 (J.toDs xs) = true
  | [] => rfl
  | x :: xs => by
    have h1 := J.canLay x
    have h2 := J.canLays xs
    simp only [J.toDs, PyData.canLayAll0, h1, h2, Bool.and_self]
end
theorem J.shaped (j : J) (h : j.deep ≤ 30) : SeqAt.shaped j.toD = true := by
  have h1 := J.canLay j
  have h2 := J.depth j
  unfold SeqAt.shaped
  rw [h1, decide_eq_true (by omega)]
  rfl
theorem J.eqv (j : J) : PyData.eqv j.toD j.toD = true := SeqAt.eqv_refl _ (J.canLay j)
end Lw
/-! Rq: data of any kind (lists that nobody changes, dicts), beside a pot at p: isinstance, in, repr. -/
namespace Rp
open PySem L2 PyProof.Rows

theorem str_eq_dict (b : Str) (u : Tok) (a : Addr) : Meets (Builtin.«str.__eq__» { pos := [Value.str b u, Value.ref a] }) fun _ R s => (∃ o es n, s.heap.get? a = some o ∧ o.data = Data.dict es n) ∧ R (.ok (.ret Value.notImplemented)) s := by
  rintro prog w A R s ⟨⟨o, es, n, h, hd⟩, q⟩
  have e : Builtin.«str.__eq__» { pos := [Value.str b u, Value.ref a] } = (do
      let o ← asStr? (Value.ref a)
      match o with
      | some o => ret (Value.bool (b.cps.toList == o.cps.toList))
      | none => do
          rule (toString "str." ++ toString "__eq__" ++ toString ".not-a-str")
          ret Value.notImplemented) := rfl
  rw [e]
  refine wpAny_bind ?_
  unfold asStr?
  refine wpAny_bind (wpAny_load h ?_)
  rw [hd]
  refine wpAny_pure ?_
  refine wpAny_bind (wpAny_rule ?_)
  exact wpAny_pure q
theorem dict_eq_str (b : Str) (u : Tok) (a : Addr) : Meets (Builtin.«dict.__eq__» { pos := [Value.ref a, Value.str b u] }) fun _ R s => R (.ok (.ret Value.notImplemented)) s := by
  rintro prog w A R s q
  have e : Builtin.«dict.__eq__» { pos := [Value.ref a, Value.str b u] } = (do
      let x ← isInstance (Value.str b u) (Value.type "dict")
      if (!x) = true then do
          rule (toString "dict." ++ toString "__eq__" ++ toString ".not-a-dict")
          ret Value.notImplemented
        else do
          let p ← Builtin.Dict.addrOf (Value.ref a)
          let q ← Builtin.Dict.addrOf (Value.str b u)
          let z ← Builtin.Dict.samePairs (toString "dict." ++ toString "__eq__") p q
          ret (Value.bool (z == true))) := rfl
  rw [e]
  refine wpAny_bind (wpAny_isInstance_val (b := false) (T := "str") rfl (by rfl) ?_)
  refine wpAny_bind (wpAny_rule ?_)
  exact wpAny_pure q
theorem rc_str_dict {A : Around} {s : Shared} {a : Addr} {o : Obj} {es : Array DictEntry} {n : Nat} (b : Str) (u : Tok) (h : s.heap.get? a = some o) (hc : o.cls = .type "dict") (hd : o.data = .dict es n) (room : A.units < cLine) : SeqAt.RcAt A s (.str b u) (.ref a) false := by
  intro prog w E Q q
  have ta : s.TypeIs (.str b u) "str" := by rfl
  have tb : s.TypeIs (.ref a) "dict" := ⟨o, h, hc⟩
  have e1 : ∀ Q' : Value → Shared → Prop, Q' Value.notImplemented s → wpAny (model prog w) A (call (Value.builtin "str.__eq__") [.str b u, .ref a]) Q' E s := fun Q' z =>
    call_meets PyProof.Rows.slot_str_eq ta F.entry_str_eq (F.args_str_eq_2 _ _) (str_eq_dict b u a) ⟨⟨o, es, n, h, hd⟩, z⟩
  have e2 : ∀ Q' : Value → Shared → Prop, Q' Value.notImplemented s → wpAny (model prog w) A (call (Value.builtin "dict.__eq__") [.ref a, .str b u]) Q' E s := fun Q' z =>
    call_meets F.slot_dict_eq tb F.entry_dict_eq (F.args_dict_eq_2 _ _) (dict_eq_str b u a) z
  exact SeqAt.rc_eq_decline_or (Ta := "str") (Tb := "dict") (k := false) ta tb (by decide) (by rfl) PyProof.Rows.slot_str_eq F.slot_dict_eq_refl e1 e2 (fun Q' z => wpAny_pure z) (.inr room) q
theorem eq_str_dict {A : Around} {s : Shared} {a : Addr} {o : Obj} {es : Array DictEntry} {n : Nat} (b : Str) (u : Tok) (h : s.heap.get? a = some o) (hc : o.cls = .type "dict") (hd : o.data = .dict es n) (room : A.units < cLine) : SeqAt.EqAt A s (.str b u) (.ref a) false := by
  intro prog w E Q q
  unfold eqBool
  refine wpAny_holding ?_
  have e : (Value.str b u == Value.ref a) = false := rfl
  simp only [e, Bool.false_eq_true, if_false]
  refine wpAny_bind (rc_str_dict b u h hc hd room prog w E _ ?_)
  exact wpAny_truthy_bool q

mutual
inductive Dq (K : PySem.W.Frag) (p : Addr) (H : Hp) : V → PyData → Prop
  | non : Dq K p H .non .none
  | bl (b : Bool) : Dq K p H (.bl b) (.bool b)
  | int (i : Int) : Dq K p H (.int i) (.int i)
  | str (x : Str) : Dq K p H (.str x) (.str x)
  | lst {a : Addr} {xs : List V} {ds : List PyData} : a ≠ p → H a = some (.lst xs) → DqAll K p H xs ds → Dq K p H (.ref a) (.list ds)
  | tup {a : Addr} {xs : List V} {ds : List PyData} : SqT K H a xs → DqAll K p H xs ds → Dq K p H (.ref a) (.tuple ds)
  | dct {a : Addr} {kvs : List (Key × V)} {ds : List (PyData × PyData)} : a ≠ p → H a = some (.dK kvs) → (ds = [] → kvs = []) → Dq K p H (.ref a) (.dict ds)
inductive DqAll (K : PySem.W.Frag) (p : Addr) (H : Hp) : List V → List PyData → Prop
  | nil : DqAll K p H [] []
  | cons {v : V} {d : PyData} {vs : List V} {ds : List PyData} : Dq K p H v d → DqAll K p H vs ds → DqAll K p H (v :: vs) (d :: ds)
end
mutual
theorem dq_of {K : PySem.W.Frag} {p : Addr} {H : Hp} : ∀ {d : PyData} {v : V}, noL d = true → Dp K H v d → Dq K p H v d
  | .none, _, _, h => by cases h; exact .non
  | .bool _, _, _, h => by cases h; exact .bl _
  | .int _, _, _, h => by cases h; exact .int _
  | .str _, _, _, h => by cases h; exact .str _
  | .list _, _, n, _ => by simp [noL] at n
  | .tuple ds, _, n, h => by
    cases h with
    | tup hs ha => exact .tup hs (dqAll_of (by simpa [noL] using n) ha)
  | .dict _, _, _, h => by cases h
theorem dqAll_of {K : PySem.W.Frag} {p : Addr} {H : Hp} : ∀ {ds : List PyData} {vs : List V}, noLs ds = true → DpAll K H vs ds → DqAll K p H vs ds
  | [], _, _, h => by cases h; exact .nil
  | d :: ds, _, n, h => by
    cases h with
    | cons h1 h2 =>
      have n' : noL d = true ∧ noLs ds = true := by simpa [noLs] using n
      exact .cons (dq_of n'.1 h1) (dqAll_of n'.2 h2)
end
/-- what keeps such data: tuples, and all but p -/
structure Kp (K : PySem.W.Frag) (p : Addr) (H H' : Hp) : Prop where
  sx : Sx p H H'
  tp : ∀ a xs, SqT K H a xs → SqT K H' a xs
theorem Kp.refl {K : PySem.W.Frag} {p : Addr} {H : Hp} : Kp K p H H := ⟨Sx.refl, fun _ _ h => h⟩
theorem Kp.trans {K : PySem.W.Frag} {p : Addr} {H H1 H2 : Hp} (a : Kp K p H H1) (b : Kp K p H1 H2) : Kp K p H H2 := ⟨a.sx.trans b.sx, fun x xs h => b.tp x xs (a.tp x xs h)⟩
theorem Same.kp {K : PySem.W.Frag} {p : Addr} {H H' : Hp} (s : Same H H') : Kp K p H H' := ⟨Same.sx s, fun _ _ h => same_sqT s h⟩
theorem Sx.kp {K : PySem.W.Frag} {p : Addr} {H H' : Hp} {l : List V} (s : Sx p H H') (hp : H p = some (.lst l)) : Kp K p H H' := ⟨s, fun _ _ h => s.sqT hp h⟩
mutual
theorem Dq.keep {K : PySem.W.Frag} {p : Addr} {H H' : Hp} (s : Kp K p H H') : ∀ {d : PyData} {v : V}, Dq K p H v d → Dq K p H' v d
  | .none, _, h => by cases h; exact .non
  | .bool _, _, h => by cases h; exact .bl _
  | .int _, _, h => by cases h; exact .int _
  | .str _, _, h => by cases h; exact .str _
  | .list ds, _, h => by
    cases h with
    | lst n e ha => exact .lst n (s.sx _ _ n e) (DqAll.keep s ha)
  | .tuple ds, _, h => by
    cases h with
    | tup hs ha => exact .tup (s.tp _ _ hs) (DqAll.keep s ha)
  | .dict _, _, h => by
    cases h with
    | dct n e z => exact .dct n (s.sx _ _ n e) z
theorem DqAll.keep {K : PySem.W.Frag} {p : Addr} {H H' : Hp} (s : Kp K p H H') : ∀ {ds : List PyData} {vs : List V}, DqAll K p H vs ds → DqAll K p H' vs ds
  | [], _, h => by cases h; exact .nil
  | d :: ds, _, h => by
    cases h with
    | cons h1 h2 => exact .cons (Dq.keep s h1) (DqAll.keep s h2)
end
theorem dqAll_length {K : PySem.W.Frag} {p : Addr} {H : Hp} : ∀ {vs : List V} {ds : List PyData}, DqAll K p H vs ds → vs.length = ds.length
  | _, _, .nil => rfl
  | _, _, .cons _ h => congrArg (· + 1) (dqAll_length h)
theorem dqAll_get {K : PySem.W.Frag} {p : Addr} {H : Hp} : ∀ {vs : List V} {ds : List PyData} {i : Nat} {v : V}, DqAll K p H vs ds → vs[i]? = some v → ∃ d, ds[i]? = some d ∧ Dq K p H v d
  | _, _, _, _, .nil, e => by simp at e
  | _, _, 0, _, .cons h _, e => by
    simp at e
    subst e
    exact ⟨_, rfl, h⟩
  | _, _, i + 1, _, .cons _ t, e => by
    obtain ⟨d, e1, e2⟩ := dqAll_get (i := i) t (by simpa using e)
    exact ⟨d, by simpa using e1, e2⟩
theorem dqAll_append {K : PySem.W.Frag} {p : Addr} {H : Hp} : ∀ {vs ws : List V} {ds es : List PyData}, DqAll K p H vs ds → DqAll K p H ws es → DqAll K p H (vs ++ ws) (ds ++ es)
  | _, _, _, _, .nil, h => h
  | _, _, _, _, .cons h t, h' => .cons h (dqAll_append t h')
theorem dqAll_take {K : PySem.W.Frag} {p : Addr} {H : Hp} : ∀ (n : Nat) {vs : List V} {ds : List PyData}, DqAll K p H vs ds → DqAll K p H (vs.take n) (ds.take n)
  | 0, _, _, _ => by simpa using .nil
  | n + 1, _, _, .nil => by simpa using .nil
  | n + 1, _, _, .cons h t => by simpa using .cons h (dqAll_take n t)
theorem dqAll_drop {K : PySem.W.Frag} {p : Addr} {H : Hp} : ∀ (n : Nat) {vs : List V} {ds : List PyData}, DqAll K p H vs ds → DqAll K p H (vs.drop n) (ds.drop n)
  | 0, _, _, h => by simpa using h
  | n + 1, _, _, .nil => by simpa using .nil
  | n + 1, _, _, .cons h t => by simpa using dqAll_drop n t
theorem dq_int_inv {K : PySem.W.Frag} {p : Addr} {H : Hp} {v : V} {i : Int} (h : Dq K p H v (.int i)) : v = .int i := by cases h; rfl
theorem dq_str_inv {K : PySem.W.Frag} {p : Addr} {H : Hp} {v : V} {x : Str} (h : Dq K p H v (.str x)) : v = .str x := by cases h; rfl
theorem dq_bool_inv {K : PySem.W.Frag} {p : Addr} {H : Hp} {v : V} {b : Bool} (h : Dq K p H v (.bool b)) : v = .bl b := by cases h; rfl
theorem dq_tup_inv {K : PySem.W.Frag} {p : Addr} {H : Hp} {v : V} {ds : List PyData} (h : Dq K p H v (.tuple ds)) : ∃ a xs, v = .ref a ∧ SqT K H a xs ∧ DqAll K p H xs ds := by
  cases h with
  | tup h1 h2 => exact ⟨_, _, rfl, h1, h2⟩
theorem tupq {K : PySem.W.Frag} {p q : Addr} {H : Hp} {xs : List V} {ds : List PyData} (hq : H q = none) (h : DqAll K p H xs ds) : Same H (upd H q (.tup xs)) ∧ Dq K p (upd H q (.tup xs)) (.ref q) (.tuple ds) :=
  ⟨same_new hq, .tup (.inl (.inl upd_same)) (h.keep (Same.kp (same_new hq)))⟩
theorem lstq {K : PySem.W.Frag} {p q : Addr} {H : Hp} {xs : List V} {ds : List PyData} (n : q ≠ p) (hq : H q = none) (h : DqAll K p H xs ds) : Same H (upd H q (.lst xs)) ∧ Dq K p (upd H q (.lst xs)) (.ref q) (.list ds) :=
  ⟨same_new hq, .lst n upd_same (h.keep (Same.kp (same_new hq)))⟩

mutual
def noD : PyData → Bool
  | .list ds => noDs ds
  | .tuple ds => noDs ds
  | .dict _ => false
  | _ => true
def noDs : List PyData → Bool
  | [] => true
  | d :: ds => noD d && noDs ds
end
mutual
theorem Dq.dp {K : PySem.W.Frag} {p : Addr} {H : Hp} : ∀ {d : PyData} {v : V}, noD d = true → Dq K p H v d → Dp K H v d
  | .none, _, _, h => by cases h; exact .non
  | .bool _, _, _, h => by cases h; exact .bl _
  | .int _, _, _, h => by cases h; exact .int _
  | .str _, _, _, h => by cases h; exact .str _
  | .list ds, _, n, h => by
    cases h with
    | lst _ e ha => exact .lst (SqL.of e) (DqAll.dp (by simpa [noD] using n) ha)
  | .tuple ds, _, n, h => by
    cases h with
    | tup hs ha => exact .tup hs (DqAll.dp (by simpa [noD] using n) ha)
  | .dict _, _, n, _ => by simp [noD] at n
theorem DqAll.dp {K : PySem.W.Frag} {p : Addr} {H : Hp} : ∀ {ds : List PyData} {vs : List V}, noDs ds = true → DqAll K p H vs ds → DpAll K H vs ds
  | [], _, _, h => by cases h; exact .nil
  | d :: ds, _, n, h => by
    cases h with
    | cons h1 h2 =>
      have n' : noD d = true ∧ noDs ds = true := by simpa [noDs] using n
      exact .cons (Dq.dp n'.1 h1) (DqAll.dp n'.2 h2)
end
theorem dq_ty {K : PySem.W.Frag} {p : Addr} {H : Hp} {v : V} {d : PyData} (h : Dq K p H v d) : TyX K H v (.type (tyN d)) := by
  cases h with
  | non => exact .base .non
  | bl b => exact .base (.bl b)
  | int i => exact .base (.int i)
  | str x => exact .base (.str x)
  | lst n hs ha => exact .base (.lst hs)
  | tup hs ha =>
    rcases hs with (e | ⟨o, e⟩) | ⟨o, its, n, hk, hc, _⟩
    · exact .base (.tup e)
    · exact .fTuple e
    · exact .kTuple hk hc
  | dct n e z => exact .base (.dK e)
section
variable {X : Cx}
def rIsQ (K : PySem.W.Frag) : List V → Hp → VK → Prop := fun xs H Q => ∃ (v : V) (n : String) (p : Addr) (d : PyData) (b : Bool), xs = [v, .ty n] ∧ Dq K p H v d ∧ kitB (tyN d) n = some b ∧ Q (.bl b) H
theorem call_isQ : CallR X (.builtin "isinstance") (rIsQ X.K) := by
  intro pins s σ H xs us Q I r h
  obtain ⟨v, n, p, d, b, e, hd, hk, q⟩ := h
  exact call_isi pins s σ H xs us Q I r ⟨v, .ty n, _, _, _, e, .ty n, dq_ty hd, kit_ty hk, q⟩
/-- is the data one of these texts -/
def inS (d : PyData) (ss : List Str) : Bool := match d with
  | .str x => ss.any (· == x)
  | _ => false
theorem isTuple_of {pins : List (Addr × Obj)} {σ : L2.St} {H : Hp} {s : Shared} {a : Addr} {xs : List V} (I : Inv X pins σ H s) (h : SqT X.K H a xs) : ∃ its : Array Value, Vals xs its.toList ∧ s.heap.IsTuple a its := by
  rcases h with h | ⟨o, its, n, hk, hc, hd, hz, hv⟩
  · obtain ⟨_, its, hv, ht⟩ := h.ok I.hok
    exact ⟨its.toArray, by simpa using hv, ht⟩
  · exact ⟨its, hv, o, I.kIn _ _ hk, hc, n, hd⟩
theorem vals_strs : ∀ {ss : List Str} {us : List Value}, Vals (ss.map V.str) us → ∃ ts : List (Str × Tok), us = ts.map (fun z => .str z.1 z.2) ∧ ts.map (·.1) = ss
  | [], us, h => by
    generalize e : ([] : List Str).map V.str = vs at h
    cases h with
    | nil => exact ⟨[], rfl, rfl⟩
    | cons r h => cases e
  | x :: ss, us, h => by
    generalize e : (x :: ss).map V.str = vs at h
    cases h with
    | nil => cases e
    | cons r h =>
      obtain ⟨rfl, rfl⟩ := List.cons.inj e
      obtain ⟨ts, rfl, rfl⟩ := vals_strs h
      obtain ⟨t, rfl⟩ := r
      exact ⟨(x, t) :: ts, rfl, rfl⟩
def rInQ (K : PySem.W.Frag) : R2 := fun x y H Q => ∃ (p a : Addr) (ss : List Str) (d : PyData), y = .ref a ∧ SqT K H a (ss.map V.str) ∧ Dq K p H x d ∧ Q (.bl (inS d ss)) H
theorem op_inQ (hu : X.A.units + 66 < cLine) : OpR X (compareOp .In) (rInQ X.K) := by
  rintro pins s σ H x y v u Q I rv ru ⟨p, a, ss, d, rfl, ht, hd, q⟩
  obtain rfl : u = .ref a := ru
  obtain ⟨its, hv, hit⟩ := isTuple_of I ht
  obtain ⟨ts, e1, e2⟩ := vals_strs hv
  have room : X.A.in1.units < cLine := by
    show X.A.units + 1 < cLine
    omega
  refine SeqAt.in_tupleAt (fun y => match y with | .str w _ => inS d [w] | _ => false) hit (fun y hy => ?_) ?_
  · have hy' : y ∈ its.toList := by simpa using hy
    rw [e1] at hy'
    obtain ⟨⟨w, t⟩, _, rfl⟩ := List.mem_map.mp hy'
    show SeqAt.EqAt X.A.in1 s (.str w t) v (inS d [w])
    cases hd with
    | non =>
      obtain rfl : v = .none := rv
      exact SeqAt.EqAt.str_none _ _
    | bl b =>
      obtain rfl : v = .bool b := rv
      exact SeqAt.EqAt.str_bool _ _ _
    | int i =>
      obtain ⟨t', rfl⟩ := rv
      exact SeqAt.EqAt.str_int _ _ _ _
    | str x =>
      obtain ⟨t', rfl⟩ := rv
      have e : inS (.str x) [w] = (w == x) := by simp [inS]
      rw [e]
      exact SeqAt.EqAt.str_str _ _ _ _
    | lst n e ha =>
      rename_i l xs ds
      obtain rfl : v = .ref l := rv
      obtain ⟨_, its', n', hv', ho⟩ := I.hok _ _ e
      exact SeqAt.EqAt.str_list (items := its'.toArray) _ _ ⟨_, ho, rfl, n', rfl⟩ room
    | tup hs ha =>
      rename_i l xs ds
      obtain rfl : v = .ref l := rv
      obtain ⟨its', hv', ho⟩ := isTuple_of I hs
      exact SeqAt.EqAt.str_tuple (items := its') _ _ ho room
    | dct n e z =>
      rename_i l kvs ds
      obtain rfl : v = .ref l := rv
      obtain ⟨_, _, vs, _, o, es, ep, h1, h2, h3, _⟩ := I.hok _ _ e
      exact eq_str_dict _ _ h1 h2.1 h3 room
  · refine ⟨.bl (inS d ss), H, I, ?_, q⟩
    show Value.bool _ = Value.bool _
    congr 1
    rw [← Array.any_toList, e1, ← e2, List.any_map]
    cases d <;> simp [inS, Function.comp_def]

mutual
/-- data whose text is made without trouble: only empty dicts -/
def fineQ : PyData → Prop
  | .int i => i.natAbs < 10 ^ 180
  | .str x => (x.cps.toList.all fun c => decide (c < 16 ^ 8)) = true
  | .list xs => finesQ xs
  | .tuple xs => finesQ xs
  | .dict ds => ds = []
  | _ => True
def finesQ : List PyData → Prop
  | [] => True
  | x :: xs => fineQ x ∧ finesQ xs
end
mutual
theorem fineQ_ok : ∀ d : PyData, fineQ d → d.showable = true ∧ d.leavesShort 200 = true
  | .none, _ => by simp [PyData.showable, PyData.leavesShort]
  | .bool _, _ => by simp [PyData.showable, PyData.leavesShort]
  | .int i, h => by
    simp only [fineQ] at h
    simp only [PyData.showable, PyData.leavesShort, decide_eq_true_eq]
    exact ⟨int_log h, shown_int h⟩
  | .str x, h => by
    simp only [fineQ] at h
    simp only [PyData.showable, PyData.leavesShort, true_and]
    exact h
  | .list xs, h => by
    simp only [fineQ] at h
    simp only [PyData.showable, PyData.leavesShort]
    exact finesQ_ok xs h
  | .tuple xs, h => by
    simp only [fineQ] at h
    simp only [PyData.showable, PyData.leavesShort]
    exact finesQ_ok xs h
  | .dict ds, h => by
    simp only [fineQ] at h
    subst h
    simp [PyData.showable, PyData.showableKv, PyData.leavesShort, PyData.leavesShortKv]
theorem finesQ_ok : ∀ xs : List PyData, finesQ xs → PyData.showableAll xs = true ∧ PyData.leavesShortAll 200 xs = true
  | [], _ => by simp [PyData.showableAll, PyData.leavesShortAll]
  | x :: xs, h => by
    simp only [finesQ] at h
    obtain ⟨a1, a2⟩ := fineQ_ok x h.1
    obtain ⟨b1, b2⟩ := finesQ_ok xs h.2
    simp only [PyData.showableAll, PyData.leavesShortAll, a1, a2, b1, b2, Bool.and_self, and_self]
end
mutual
theorem Dq.reads {p : Addr} {pins : List (Addr × Obj)} {σ : L2.St} {H : Hp} {s : Shared} (I : Inv X pins σ H s) (hs : H sysModules = none) : ∀ (d : PyData) (v : V) (u : Value), fineQ d → Dq X.K p H v d → RelV v u → ∃ as, Reads s.heap u d as ∧ sysModules ∉ as
  | .none, _, u, _, h, r => by
    cases h
    obtain rfl : u = .none := r
    exact ⟨_, .none, by simp⟩
  | .bool b, _, u, _, h, r => by
    cases h
    obtain rfl : u = .bool b := r
    exact ⟨_, .bool b, by simp⟩
  | .int i, _, u, _, h, r => by
    cases h
    obtain ⟨t, rfl⟩ := r
    exact ⟨_, .int i t, by simp⟩
  | .str x, _, u, _, h, r => by
    cases h
    obtain ⟨t, rfl⟩ := r
    exact ⟨_, .str x t, by simp⟩
  | .list ds, _, u, f, h, r => by
    cases h with
    | lst n e ha =>
      rename_i l xs
      obtain rfl : u = .ref l := r
      obtain ⟨_, its', n', hv', ho⟩ := I.hok _ _ e
      obtain ⟨as, ra, na⟩ := DqAll.reads I hs ds xs its' (by simpa only [fineQ] using f) ha hv'
      refine ⟨_, .list ho rfl rfl (by simpa using ra), ?_⟩
      intro z
      rcases List.mem_cons.mp z with z | z
      · rw [z, e] at hs
        cases hs
      · exact na z
  | .tuple ds, _, u, f, h, r => by
    cases h with
    | tup ht ha =>
      rename_i l xs
      obtain rfl : u = .ref l := r
      obtain ⟨its', hv', o, h1, h2, n, h3⟩ := isTuple_of I ht
      obtain ⟨as, ra, na⟩ := DqAll.reads I hs ds xs its'.toList (by simpa only [fineQ] using f) ha hv'
      exact ⟨_, .tuple h1 h2 h3 ra, na⟩
  | .dict ds, _, u, f, h, r => by
    cases h with
    | dct n e z =>
      rename_i l kvs
      obtain rfl : u = .ref l := r
      simp only [fineQ] at f
      subst f
      obtain rfl := z rfl
      obtain ⟨_, _, vs, kv, o, es, ep, h1, h2, h3, _, h4, _⟩ := I.hok _ _ e
      generalize ek : ([] : List (Key × V)) = kk at kv
      cases kv with
      | cons _ _ => cases ek
      | nil =>
        generalize ee : es.toList = el at h4
        cases h4
        have e0 : es = #[] := by
          apply Array.ext'
          simpa using ee
        subst e0
        refine ⟨_, .dict (as := []) (bs := []) h1 h2.1 h3 (by simpa using .nil) (by simpa using .nil), ?_⟩
        intro y
        have y' : sysModules = l := by simpa using y
        rw [y', e] at hs
        cases hs
theorem DqAll.reads {p : Addr} {pins : List (Addr × Obj)} {σ : L2.St} {H : Hp} {s : Shared} (I : Inv X pins σ H s) (hs : H sysModules = none) : ∀ (ds : List PyData) (vs : List V) (us : List Value), finesQ ds → DqAll X.K p H vs ds → Vals vs us → ∃ as, ReadsAll s.heap us ds as ∧ sysModules ∉ as
  | [], _, us, _, h, r => by
    cases h
    generalize e : ([] : List V) = l at r
    cases r with
    | nil => exact ⟨_, .nil, by simp⟩
    | cons _ _ => cases e
  | d :: ds, _, us, f, h, r => by
    cases h with
    | cons h1 h2 =>
      rename_i v vs
      generalize e : v :: vs = l at r
      cases r with
      | nil => cases e
      | cons r1 r2 =>
        obtain ⟨rfl, rfl⟩ := List.cons.inj e
        simp only [finesQ] at f
        obtain ⟨as, ra, na⟩ := Dq.reads I hs d _ _ f.1 h1 r1
        obtain ⟨bs, rb, nb⟩ := DqAll.reads I hs ds _ _ f.2 h2 r2
        exact ⟨_, .cons ra rb, by simp [na, nb]⟩
end
/-- the written part holds the table of modules -/
def Sys (base : Heap) : Prop := ∃ o, base.get? sysModules = some o
theorem Inv.nosys {pins : List (Addr × Obj)} {σ : L2.St} {H : Hp} {s : Shared} (I : Inv X pins σ H s) (hb : Sys X.base) : H sysModules = none := by
  obtain ⟨o, hb⟩ := hb
  obtain ⟨h1, h2⟩ := I.ok.bs _ _ hb
  exact I.base.free _ _ h1 h2 (I.ok.noex _ _ hb)
def rReprQ (K : PySem.W.Frag) : List V → Hp → VK → Prop := fun xs H Q => ∃ (p : Addr) (v : V) (d : PyData), xs = [v] ∧ Dq K p H v d ∧ fineQ d ∧ d.depth ≤ 64 ∧ d.bulk ≤ 80000 ∧ Q (.str d.shown) H
theorem call_reprQ (hb : Sys X.base) (hg : X.A.guards = some []) (hu : X.A.units + 66 < cLine) : CallR X (.builtin "repr") (rReprQ X.K) := by
  intro pins s σ H xs us Q I r h
  obtain ⟨p, v, d, rfl, hd, hf, hdep, hw, q⟩ := h
  obtain ⟨hs, hl⟩ := fineQ_ok d hf
  have hz : d.shown.length ≤ sizeLine := by
    have := PyData.shown_le_bulk 200 (by decide) d hl
    rw [sizeLine_eq]
    omega
  obtain ⟨u, rfl, ru⟩ := vals1 r
  obtain ⟨as, hr, hsm⟩ := Dq.reads I (Inv.nosys I hb) d v u hf hd ru
  cases hr with
  | none => exact P.repr_of_none ⟨.str _, H, I.tok _, ⟨_, rfl⟩, q⟩
  | bool b => exact P.repr_of_bool ⟨.str _, H, I.tok _, ⟨_, rfl⟩, q⟩
  | int i t => exact P.repr_of_int (by simpa [PyData.showable] using hs) ⟨.str _, H, I.tok _, ⟨_, rfl⟩, q⟩
  | str x t => exact P.repr_of_str ⟨.str _, H, I.tok _, ⟨_, rfl⟩, q⟩ (by simpa only [PyData.shown] using hz)
  | list h1 h2 h3 h4 =>
    refine repr_of_reads' (h₀ := s.heap) (.list h1 h2 h3 h4) hs (fun _ => hsm) hg (by omega) (fun _ _ e => e) (fun h' u' tk hk => ?_) hz
    exact ⟨.str _, H, I.kept hk, ⟨_, rfl⟩, q⟩
  | tuple h1 h2 h3 h4 =>
    refine repr_of_reads' (h₀ := s.heap) (.tuple h1 h2 h3 h4) hs (fun _ => hsm) hg (by omega) (fun _ _ e => e) (fun h' u' tk hk => ?_) hz
    exact ⟨.str _, H, I.kept hk, ⟨_, rfl⟩, q⟩
  | dict h1 h2 h3 h4 h5 =>
    refine repr_of_reads' (h₀ := s.heap) (.dict h1 h2 h3 h4 h5) hs (fun _ => hsm) hg (by omega) (fun _ _ e => e) (fun h' u' tk hk => ?_) hz
    exact ⟨.str _, H, I.kept hk, ⟨_, rfl⟩, q⟩

def rInLD (K : PySem.W.Frag) : R2 := fun x y H Q => ∃ (ds : List PyData) (d : PyData), Dp K H y (.list ds) ∧ Dp K H x d ∧ PyData.canLayAll0 ds = true ∧ d.canLay0 = true ∧ d.depth ≤ 60 ∧ Q (.bl (ds.any fun e => e.eqv d)) H
theorem op_inLD (hu : X.A.units + 66 < cLine) : OpR X (compareOp .In) (rInLD X.K) := by
  rintro pins s σ H x y v u Q I rv ru ⟨ds, d, hy, hx, c1, c2, c3, q⟩
  obtain ⟨as, r1⟩ := Dp.reads I _ _ _ hy ru
  obtain ⟨bs, r2⟩ := Dp.reads I _ _ _ hx rv
  refine SeqAt.in_list_reads r1 r2 c1 c2 ?_ ⟨.bl _, H, I, rfl, q⟩
  have : min (PyData.depthAll ds) d.depth ≤ 60 := Nat.le_trans (Nat.min_le_right _ _) c3
  omega

end
end Rp

namespace Rp
open PySem L2 PyProof.Rows
theorem law_endS {l : PySem.W.OpenLaw} {n k : Nat} {q : Program} {loose : List Str} {XP : (Str → Option Value) → Heap → Prop} {YP : World → Heap → Prop} {d : DefRec} {K : Params → PySem.W.Frag} {sp : PySem.W.Frag → Sp} {x : Str}
    (hn : l.most = some n) (hn2 : n ≤ sizeLine) (hdf : d.params.defaults = []) (hr : Room k callerA) (himp : importsNone q = true)
    (hY : ∀ (w : World) (h : Heap), YP w h → (K w.params).In h)
    (F : ∀ (w : World) (mg : Str → Option Value) (fa : Addr) (h : Heap), (K w.params).In h → h.Ns mainGlobals mg → mg d.name = some (.ref fa) →
      ∃ fd : FuncData, (∀ (s : Shared) (u : Value), BindsTo s fd ⟨[u], []⟩ [(x, u)]) ∧
        ∀ base : Heap, (K w.params).In base → base.Ns mainGlobals mg → Sys base → FnG l.prog w (K w.params) mg base CX0 k fa fd [x] (sp (K w.params)))
    (hsp : ∀ (K : PySem.W.Frag) (H : Hp) (a : Addr) (ns : List Int), ns.length ≤ n → Only H → SqL K H a (ns.map V.int) → sp K [.ref a] H (fun v _ => v = .bl true) fun _ _ _ => False) :
    PySem.W.WalkO q loose XP YP l.row.toRowW d [] (fun f vs => PySem.call f vs) := by
  refine Att.attach_call hn hdf fun w s₀ s₁ mg mb fa o pm cd doc a vs ns G Y ho hd hcd hmg hobj hints hlen hgens => ?_
  have kin := hY w _ Y
  obtain ⟨fd, bd, FF⟩ := F w mg fa _ kin G.T.g hmg
  obtain ⟨H, hO, hS, hok, only, notK⟩ := script_heap (P := l.prog) (w := w) kin hobj hints (Nat.le_trans hlen hn2)
  have free : ∀ {b : Addr} {ob : Obj} {es : Array DictEntry} {ep : Nat}, s₁.heap.get? b = some ob → ob.data = .dict es ep → H b = none := by
    intro b ob es ep h1 h2
    cases c : H b with
    | none => rfl
    | some u =>
      have e : b = a := only b (by rw [c]; exact fun z => nomatch z)
      rw [e, hobj] at h1
      have h3 := congrArg Obj.data (Option.some.inj h1)
      rw [h2] at h3
      exact nomatch h3
  have ns' : ∀ {b : Addr} {m : Str → Option Value}, s₁.heap.Ns b m → (hidT s₁.heap H).Ns b m := by
    rintro b m ⟨ob, es, ep, h1, h2, h3⟩
    exact ⟨ob, es, ep, hidT_get h1 (free h1 h2), h2, h3⟩
  have kinB : (K w.params).In (hidT s₁.heap H) := fun b ob e => hidT_get (kin b ob e) (notK b ob e)
  have lim : (hidT s₁.heap H).NoLimit := by
    obtain ⟨mc, h1, h2⟩ := G.T.nolimit
    exact ⟨mc, ns' h1, h2⟩
  have sys : Sys (hidT s₁.heap H) := by
    obtain ⟨mm, hm, _⟩ := (G.T.seer himp).mods
    obtain ⟨ob, es, ep, h1, _⟩ := ns' hm
    exact ⟨ob, h1⟩
  have en : Env0 l.prog w (K w.params) mg (hidT s₁.heap H) callerA [] s₁ H :=
    ⟨rfl, ⟨kinB, ns' G.T.g, ⟨mb, ns' G.T.b, G.T.builtins⟩, lim⟩, fun b ob e => of_hidT e, Nat.le_of_eq (hidT_size _ _), trivial, (fun b z => nomatch z), hok, .of_eq hgens⟩
  refine codeAny_mono ((FF _ kinB (ns' G.T.g) sys).run callerA [] s₁ H ⟨[.ref a], []⟩ [.ref a] [.ref a] _ _ hr rfl en (bd s₁ (.ref a)) (.cons rfl .nil) (hsp _ H a ns hlen hO hS)) fun r s' z => ?_
  cases r with
  | error e => exact False.elim z
  | ok fl =>
    cases fl with
    | next => exact False.elim z
    | brk => exact False.elim z
    | cont => exact False.elim z
    | ret u =>
      obtain ⟨v, H', os, bare, un, hok', rr, e⟩ := z
      have e' : v = .bl true := e
      subst e'
      obtain rfl : u = Value.bool true := rr
      refine ⟨rfl, OldK.of_keep fun b ob hb => ?_, os, bare⟩
      cases c : H b with
      | none => exact un.keep b ob hb c (fun z => nomatch z) (fun z => nomatch z)
      | some u =>
        rcases hO b with z | ⟨ox, xs, z⟩
        · rw [c] at z
          cases z
        · obtain ⟨e1, _⟩ := hok b _ z
          obtain ⟨e2, _⟩ := hok' b _ (un.frzs b ox _ z)
          rw [hb] at e1
          cases e1
          exact e2
end Rp
/-! Ex: errors: what a clause names, calls that raise nothing after all. -/
namespace Rp
open PySem L2 PyProof.Rows
/-- an error of the class S is what «except T» names, when S stands below T -/
theorem exm_sub {K : PySem.W.Frag} {S T : Addr} {b : Bool} (h1 : PySem.W.subIn K (.ref T) (.type "BaseException") = some true) (h2 : PySem.W.isClsIn K T = true) (h3 : PySem.W.typeIn K (.ref T) = some (.type "type")) (h4 : PySem.W.subIn K (.ref S) (.ref T) = some b) :
    PySem.W.exmOne K (.ref S) (.ref T) = some b := by
  have e1 : (PySem.W.subIn K (.ref T) (.type "BaseException") == some true) = true := by rw [h1] <;> rfl
  have e2 : ((PySem.W.clsIn K T).isSome && PySem.W.typeIn K (.ref T) == some (.type "type")) = true := by
    have h2' : (PySem.W.clsIn K T).isSome = true := h2
    rw [h2', h3] <;> rfl
  show (if (PySem.W.subIn K (.ref T) (.type "BaseException") == some true) = true then (if ((PySem.W.clsIn K T).isSome && PySem.W.typeIn K (.ref T) == some (.type "type")) = true then PySem.W.subIn K (.ref S) (.ref T) else none) else none) = some b
  rw [if_pos e1, if_pos e2]
  exact h4
/-- a def that may raise, called where it does not -/
theorem passN {X : Cx} : Passes (L2.CX X.prog X.w) X E0 := by
  rintro pins σ H s e s' _ ⟨_, _, _, _, _, _, _, _, _, _, _, _, h⟩
  exact h.elim
/-- the heap without what stands at L -/
def mask (H : Hp) (L : Addr) : Hp := fun b => if b = L then none else H b
theorem same_mask (H : Hp) (L : Addr) : Same (mask H L) H := fun b o h => by
  unfold mask at h
  split at h
  · cases h
  · exact h
theorem mask_new {H : Hp} {L : Addr} {o : HO} (h : H L = none) : Same H (mask (upd H L o) L) := fun b u e => by
  have n : b ≠ L := fun z => by rw [z, h] at e; cases e
  show (if b = L then none else upd H L o b) = some u
  rw [if_neg n, upd_ne n]
  exact e
theorem mask_upd {H : Hp} {L : Addr} {o : HO} : mask (upd H L o) L = mask H L := by
  funext b
  unfold mask
  split
  · rfl
  · rename_i n
    exact upd_ne n
theorem mask_mono {H H' : Hp} {L : Addr} (s : Same H H') : Same (mask H L) (mask H' L) := fun b o h => by
  unfold mask at h ⊢
  split at h
  · cases h
  · rename_i n
    rw [if_neg n]
    exact s b o h
theorem mask_at {H : Hp} {L b : Addr} {o : HO} (n : b ≠ L) (h : H b = some o) : mask H L b = some o := by
  unfold mask
  rw [if_neg n]
  exact h
theorem mask_none {H : Hp} {L : Addr} : mask H L L = none := by
  unfold mask
  rw [if_pos rfl]
theorem sx_mask {H : Hp} {L : Addr} : Sx L H (mask H L) := fun b o n h => mask_at n h
end Rp
/-! Rv: a tuple read from its end, t[::-1]. -/
namespace Rp
open PySem L2 PyProof.Rows
theorem adjust_back (n : Nat) : Builtin.Slice.sliceAdjust none none (-1) (n : Int) = ((n : Int) - 1, -1) := by
  unfold Builtin.Slice.sliceAdjust
  simp
theorem places_back (n : Nat) : Builtin.Slice.slicePlaces ((n : Int) - 1) (-1) (-1) = n := by
  unfold Builtin.Slice.slicePlaces
  rw [if_neg (by decide)]
  by_cases h : (n : Int) - 1 > -1
  · rw [if_pos h]
    have : (- -1 : Int) = 1 := by decide
    rw [this, Int.ediv_one]
    omega
  · rw [if_neg h]
    omega
theorem sliceApplied_back {prog : Program} {w : World} {A : Around} {E : Value → Shared → Prop} {s : Shared} {sl : Addr} {vs : Value} {n : Nat} {Q : Int × Int × Nat → Shared → Prop}
    (hs : s.heap.IsSliceOf sl .none .none vs) (hv : IsPart vs (some (-1))) (h : Q ((n : Int) - 1, -1, n) s) : wpAny (model prog w) A (Builtin.Slice.sliceApplied (.ref sl) (pure (n : Int))) Q E s := by
  obtain ⟨os, hos, hcs, hds⟩ := hs
  unfold Builtin.Slice.sliceApplied Builtin.Slice.sliceFields
  refine wpAny_bind (wpAny_bind (wpAny_field hos hds rfl (wpAny_bind (wpAny_field hos hds rfl (wpAny_bind (wpAny_field hos hds rfl (wpAny_pure ?_)))))))
  refine wpAny_bind (HT.slicePart_ (o := some (-1)) hv ?_)
  refine wpAny_bind (HT.slicePart_ (o := none) .none ?_)
  refine wpAny_bind (HT.slicePart_ (o := none) .none ?_)
  refine wpAny_bind (wpAny_pure ?_)
  show wpAny _ _ (match Builtin.Slice.sliceAdjust none none (-1) (n : Int) with | (lo, hi) => pure (lo, -1, Builtin.Slice.slicePlaces lo hi (-1))) Q E s
  rw [adjust_back]
  show wpAny _ _ (pure ((n : Int) - 1, -1, Builtin.Slice.slicePlaces ((n : Int) - 1) (-1) (-1))) Q E s
  rw [places_back]
  exact wpAny_pure h
theorem filterMap_at {α : Type} (l : List α) : ∀ k : Nat, (List.range k).filterMap (fun m => l[m]?) = l.take k
  | 0 => by simp
  | k + 1 => by
    rw [List.range_succ, List.filterMap_append, filterMap_at l k, List.take_add_one]
    cases h : l[k]? <;> simp [h]
theorem filterMap_same {α β : Type} {f g : α → Option β} : ∀ {l : List α}, (∀ x ∈ l, f x = g x) → l.filterMap f = l.filterMap g
  | [], _ => rfl
  | x :: l, h => by
    rw [List.filterMap_cons, List.filterMap_cons, h x (List.mem_cons_self ..), filterMap_same fun y hy => h y (List.mem_cons_of_mem _ hy)]
theorem pick_back (xs : Array Value) : (List.filterMap (fun m : Nat => xs[(((xs.size : Int) - 1) + (m : Int) * (-1)).toNat]?) (List.range xs.size)).toArray = xs.toList.reverse.toArray := by
  congr 1
  have e : ∀ m ∈ List.range xs.size, xs[(((xs.size : Int) - 1) + (m : Int) * (-1)).toNat]? = xs.toList.reverse[m]? := by
    intro m hm
    have hm' := List.mem_range.mp hm
    have e1 : (((xs.size : Int) - 1) + (m : Int) * (-1)).toNat = xs.toList.length - 1 - m := by
      rw [Array.length_toList]
      omega
    rw [List.getElem?_reverse (by rw [Array.length_toList]; exact hm'), e1, Array.getElem?_toList]
  rw [filterMap_same e, filterMap_at, List.take_of_length_le]
  rw [List.length_reverse, Array.length_toList]
  exact Nat.le_refl _
theorem getItem_tuple_back {prog : Program} {w : World} {A : Around} {E : Value → Shared → Prop} {s : Shared} {t sl : Addr} {items : Array Value} {vs : Value} {Q : Value → Shared → Prop} (ht : IsTup s.heap t items) (hs : s.heap.IsSliceOf sl .none .none vs) (hv : IsPart vs (some (-1)))
    (h : Q (.ref s.heap.objs.size) { s with heap := s.heap.push { cls := .type "tuple", data := .seq items.toList.reverse.toArray } }) (hz : items.size ≤ sizeLine) : wpAny (model prog w) A (getItem (.ref t) (.ref sl)) Q E s := by
  obtain ⟨os, hos, hcs, hds⟩ := id hs
  have hTs : s.TypeIs (.ref sl) "slice" := ⟨os, hos, hcs⟩
  unfold getItem
  refine wpAny_holding ?_
  refine wpAny_bind (wpAny_sequenceKey ht.typeIs (by decide) ?_)
  refine wpAny_bind (wpAny_callSpecial?_slot ht.typeIs slot_tuple_getitem ?_)
  refine wpAny_call_entry slot_tuple_getitem ht.typeIs entry_tuple_getitem ?_ (args_tuple_getitem _ _)
  show wpAny _ _ (do
      let xs ← Builtin.Tuple.tupleItemsOf (.ref t)
      let __do_lift ← typeOf (.ref sl)
      if (__do_lift == Value.type "slice") = true then do
          let __x ← Builtin.Slice.sliceApplied (.ref sl) (pure ↑xs.size)
          match __x with
            | (lo, step, n) =>
              have __do_jp := fun __r => do
                let __do_lift ←
                  Builtin.Tuple.tupleExact
                      (List.filterMap (fun k => xs[(lo + ↑k * step).toNat]?) (List.range n)).toArray
                ret __do_lift;
              if (lo == 0 && step == 1 && n == xs.size) = true then do
                let __do_lift ← Builtin.Tuple.tupleIsExact (.ref t)
                if __do_lift = true then do
                    rule "tuple.getitem.whole"
                    ret (.ref t)
                  else __do_jp ()
              else __do_jp ()
        else _) _ _ _
  refine wpAny_bind (tupleItemsOf_ ht ?_)
  refine wpAny_bind (wpAny_typeOf hTs ?_)
  rw [if_pos (by decide)]
  refine wpAny_bind (sliceApplied_back hs hv ?_)
  have hno : ¬ ((((items.size : Int) - 1 == 0) && ((-1 : Int) == 1) && (items.size == items.size)) = true) := by
    rw [show ((-1 : Int) == 1) = false by decide, Bool.and_false, Bool.false_and]
    decide
  show wpAny _ _ (if (((items.size : Int) - 1 == 0) && ((-1 : Int) == 1) && (items.size == items.size)) = true then _ else _) _ _ _
  rw [if_neg hno]
  refine wpAny_bind ?_
  unfold Builtin.Tuple.tupleExact
  rw [pick_back]
  refine wpAny_newObj_type ?_ ?_
  · exact wpAny_pure ⟨_, rfl, wpAny_pure h⟩
  · show _ ≤ sizeLine
    rw [List.size_toArray, List.length_reverse, Array.length_toList]
    exact hz
section
variable {X : Cx}
def tRevT (K : PySem.W.Frag) (te : TE) : TE := fun σ H Q => te σ H fun x H1 => ∃ a xs, x = V.ref a ∧ SqT K H1 a xs ∧ ∀ p, H1 p = none → Q (.ref p) (upd H1 p (.tup xs.reverse))
theorem pe_revT {e : Expr} {te : TE} {k : Nat} {p1 p2 p3 pos : Pos} (he : PE X e te) : PE X (.Subscript e (.Slice none none (some (.UnaryOp .USub (.Constant (.int 1) k p1) p2)) p3) pos) (tRevT X.K te) := by
  refine ⟨fun pins s σ H Q I h => ?_⟩
  refine Subscript_ (thn (he.run pins s σ H _ I h) fun v s1 x => ?_)
  obtain ⟨x1, H1, I1, r1, a, xs, rfl, hx, q⟩ := x
  cases r1
  have hst : PO X (some (.UnaryOp .USub (.Constant (.int 1) k p1) p2)) _ := po_some (pe_un un_neg pe_int)
  refine wpAny_Slice (thn ((po_none (X := X)).run pins s1 σ H1 (fun o H2 => o = none ∧ H2 = H1) I1 ⟨rfl, rfl⟩) fun vl s2 x => ?_)
  obtain ⟨l, H2, I2, pl, rfl, rfl⟩ := x
  refine thn ((po_none (X := X)).run pins s2 σ H2 (fun o H3 => o = none ∧ H3 = H2) I2 ⟨rfl, rfl⟩) fun vu s3 x => ?_
  obtain ⟨u, H3, I3, pu, rfl, rfl⟩ := x
  refine thn (hst.run pins s3 σ H3 (fun o H4 => o = some (-1) ∧ H4 = H3) I3 ?_) fun vs s4 x => ?_
  · exact ⟨1, rfl, -1, rfl, rfl, rfl⟩
  obtain ⟨st, H4, I4, pst, rfl, rfl⟩ := x
  cases pl
  cases pu
  have I5 := I4.kept (h' := s4.heap.push { cls := Value.type "slice", data := Data.fields #[Value.none, Value.none, vs] }) (t' := s4.toks) (fun b u h => Heap.get?_push_of_some _ h)
  obtain ⟨its, hvals, ht, hz⟩ := I5.tuple hx
  have hlen : xs.length = its.length := hvals.length
  refine tail_any ht.typeIs slot_tuple_getitem.lookup (getItem_tuple_back ht (Heap.IsSliceOf.new ..) pst ?_ (by rw [List.size_toArray, ← hlen]; exact hz)) rfl
  refine ⟨.ref _, upd H4 _ (.tup xs.reverse), I5.laid (fun b u h => Heap.get?_push_of_some _ h) (Nat.le_refl _) ?_, rfl, q _ (I5.hok.fresh (Nat.le_refl _))⟩
  unfold ObjOk
  exact ⟨by rw [List.length_reverse]; exact hz, its.reverse, hvals.reverse, _, Heap.get?_push_size _ (o := { cls := Value.type "tuple", data := Data.seq its.toArray.toList.reverse.toArray }) rfl, rfl, _, rfl⟩
end
end Rp
namespace Lw
open PySem L2 Rp
local macro_rules | `(tactic| walk_at "rd") => `(tactic| repeat (first | refine ⟨_, rfl, ?_⟩ | refine ⟨_, _, rfl, rfl, ?_⟩))
def top (i : Nat) : Stmt := PySem.Challenge.pw_roomprofile_k07_addresses_known.main.body.getD i (.Pass ⟨0, 0, 0, 0⟩)
abbrev s_is_integer : Stmt := top 5
abbrev N_is_integer : List Str := ["value"]
theorem sc_is_integer : FnScope N_is_integer ["value"] (defScope s_is_integer) := ⟨rfl, rfl, rfl, by decide +kernel, rfl, by decide +kernel, by decide +kernel⟩
abbrev s_is_within : Stmt := top 6
abbrev N_is_within : List Str := ["value", "least", "greatest"]
theorem sc_is_within : FnScope N_is_within ["value", "least", "greatest"] (defScope s_is_within) := ⟨rfl, rfl, rfl, by decide +kernel, rfl, by decide +kernel, by decide +kernel⟩
abbrev s_is_job : Stmt := top 13
abbrev N_is_job : List Str := ["value"]
theorem sc_is_job : FnScope N_is_job ["value"] (defScope s_is_job) := ⟨rfl, rfl, rfl, by decide +kernel, rfl, by decide +kernel, by decide +kernel⟩
abbrev s_checked_sizes : Stmt := top 14
abbrev N_checked_sizes : List Str := ["job", "sizes"]
theorem sc_checked_sizes : FnScope N_checked_sizes ["job"] (defScope s_checked_sizes) := ⟨rfl, rfl, rfl, by decide +kernel, rfl, by decide +kernel, by decide +kernel⟩
abbrev s_steps_of_leaf : Stmt := top 15
abbrev N_steps_of_leaf : List Str := ["value"]
theorem sc_steps_of_leaf : FnScope N_steps_of_leaf ["value"] (defScope s_steps_of_leaf) := ⟨rfl, rfl, rfl, by decide +kernel, rfl, by decide +kernel, by decide +kernel⟩
abbrev s_sizes_of : Stmt := top 16
abbrev N_sizes_of : List Str := ["value", "leaf_steps"]
theorem sc_sizes_of : FnScope N_sizes_of ["value", "leaf_steps"] (defScope s_sizes_of) := ⟨rfl, rfl, rfl, by decide +kernel, rfl, by decide +kernel, by decide +kernel⟩
abbrev s__sizes : Stmt := top 17
abbrev N__sizes : List Str := ["value", "leaf_steps", "room", "levels", "steps"]
theorem sc__sizes : FnScope N__sizes ["value", "leaf_steps", "room", "levels"] (defScope s__sizes) := ⟨rfl, rfl, rfl, by decide +kernel, rfl, by decide +kernel, by decide +kernel⟩
abbrev s__sizes_of_parts : Stmt := top 18
abbrev N__sizes_of_parts : List Str := ["parts", "leaf_steps", "room", "levels", "nodes", "steps", "part", "sizes"]
theorem sc__sizes_of_parts : FnScope N__sizes_of_parts ["parts", "leaf_steps", "room", "levels"] (defScope s__sizes_of_parts) := ⟨rfl, rfl, rfl, by decide +kernel, rfl, by decide +kernel, by decide +kernel⟩
abbrev s__sizes_of_rounds : Stmt := top 19
abbrev N__sizes_of_rounds : List Str := ["n", "inner", "leaf_steps", "room", "levels", "sizes"]
theorem sc__sizes_of_rounds : FnScope N__sizes_of_rounds ["n", "inner", "leaf_steps", "room", "levels"] (defScope s__sizes_of_rounds) := ⟨rfl, rfl, rfl, by decide +kernel, rfl, by decide +kernel, by decide +kernel⟩
abbrev s__within_count : Stmt := top 20
abbrev N__within_count : List Str := ["nodes", "steps"]
theorem sc__within_count : FnScope N__within_count ["nodes", "steps"] (defScope s__within_count) := ⟨rfl, rfl, rfl, by decide +kernel, rfl, by decide +kernel, by decide +kernel⟩
abbrev s_is_address : Stmt := top 22
abbrev N_is_address : List Str := ["job", "value"]
theorem sc_is_address : FnScope N_is_address ["job", "value"] (defScope s_is_address) := ⟨rfl, rfl, rfl, by decide +kernel, rfl, by decide +kernel, by decide +kernel⟩
abbrev s_step_value : Stmt := top 23
abbrev N_step_value : List Str := ["job", "address"]
theorem sc_step_value : FnScope N_step_value ["job", "address"] (defScope s_step_value) := ⟨rfl, rfl, rfl, by decide +kernel, rfl, by decide +kernel, by decide +kernel⟩
abbrev s_is_index_tuple : Stmt := top 24
abbrev N_is_index_tuple : List Str := ["value", "index"]
theorem sc_is_index_tuple : FnScope N_is_index_tuple ["value"] (defScope s_is_index_tuple) := ⟨rfl, rfl, rfl, by decide +kernel, rfl, by decide +kernel, by decide +kernel⟩
abbrev s_find_step : Stmt := top 25
abbrev N_find_step : List Str := ["job", "value", "inner", "index"]
theorem sc_find_step : FnScope N_find_step ["job", "value"] (defScope s_find_step) := ⟨rfl, rfl, rfl, by decide +kernel, rfl, by decide +kernel, by decide +kernel⟩
abbrev s__checked_step : Stmt := top 26
abbrev N__checked_step : List Str := ["job", "address", "step"]
theorem sc__checked_step : FnScope N__checked_step ["job", "address"] (defScope s__checked_step) := ⟨rfl, rfl, rfl, by decide +kernel, rfl, by decide +kernel, by decide +kernel⟩
abbrev s__part_at : Stmt := top 27
abbrev N__part_at : List Str := ["job", "index"]
theorem sc__part_at : FnScope N__part_at ["job", "index"] (defScope s__part_at) := ⟨rfl, rfl, rfl, by decide +kernel, rfl, by decide +kernel, by decide +kernel⟩
abbrev s__law_pot : Stmt := top 29
abbrev N__law_pot : List Str := ["_law_script", "_law_k", "_law_cell", "_law_mixed"]
theorem sc__law_pot : FnScope N__law_pot ["_law_script", "_law_k"] (defScope s__law_pot) := ⟨rfl, rfl, rfl, by decide +kernel, rfl, by decide +kernel, by decide +kernel⟩
abbrev s__law_take : Stmt := top 30
abbrev N__law_take : List Str := ["_law_pot_here", "_law_many", "_law_found", "_law_one", "_law_other"]
theorem sc__law_take : FnScope N__law_take ["_law_pot_here", "_law_many"] (defScope s__law_take) := ⟨rfl, rfl, rfl, by decide +kernel, rfl, by decide +kernel, by decide +kernel⟩
abbrev s__law_step : Stmt := top 31
abbrev N__law_step : List Str := ["_law_pot_here", "_law_way", "_law_great"]
theorem sc__law_step : FnScope N__law_step ["_law_pot_here"] (defScope s__law_step) := ⟨rfl, rfl, rfl, by decide +kernel, rfl, by decide +kernel, by decide +kernel⟩
abbrev s__law_job : Stmt := top 32
abbrev N__law_job : List Str := ["_law_pot_here", "_law_deep", "_law_counts", "_law_way", "_law_many", "_law_turn"]
theorem sc__law_job : FnScope N__law_job ["_law_pot_here", "_law_deep", "_law_counts"] (defScope s__law_job) := ⟨rfl, rfl, rfl, by decide +kernel, rfl, by decide +kernel, by decide +kernel⟩
abbrev s__law_steps : Stmt := top 33
abbrev N__law_steps : List Str := ["_law_job_here", "_law_part"]
theorem sc__law_steps : FnScope N__law_steps ["_law_job_here"] (defScope s__law_steps) := ⟨rfl, rfl, rfl, by decide +kernel, rfl, by decide +kernel, by decide +kernel⟩
abbrev s__law_drawn : Stmt := top 34
abbrev N__law_drawn : List Str := ["_law_pot_here", "_law_job_here", "_law_found", "_law_sizes", "_law_some", "_law_index", "_law_part"]
theorem sc__law_drawn : FnScope N__law_drawn ["_law_pot_here", "_law_job_here"] (defScope s__law_drawn) := ⟨rfl, rfl, rfl, by decide +kernel, rfl, by decide +kernel, by decide +kernel⟩
abbrev s__law_value : Stmt := top 35
abbrev N__law_value : List Str := ["_law_job_here", "_law_address", "_law_index"]
theorem sc__law_value : FnScope N__law_value ["_law_job_here", "_law_address"] (defScope s__law_value) := ⟨rfl, rfl, rfl, by decide +kernel, rfl, by decide +kernel, by decide +kernel⟩
abbrev s__law_near : Stmt := top 36
abbrev N__law_near : List Str := ["_law_pot_here", "_law_address", "_law_at", "_law_some", "_law_index"]
theorem sc__law_near : FnScope N__law_near ["_law_pot_here", "_law_address"] (defScope s__law_near) := ⟨rfl, rfl, rfl, by decide +kernel, rfl, by decide +kernel, by decide +kernel⟩
abbrev s__law_refused : Stmt := top 37
abbrev N__law_refused : List Str := ["_law_job_here", "_law_address"]
theorem sc__law_refused : FnScope N__law_refused ["_law_job_here", "_law_address"] (defScope s__law_refused) := ⟨rfl, rfl, rfl, by decide +kernel, rfl, by decide +kernel, by decide +kernel⟩
abbrev s_law : Stmt := top 38
abbrev N_law : List Str := ["_law_script", "_law_k", "_law_pot_here", "_law_job_here", "_law_turn", "_law_address", "_law_kept", "_law_due"]
theorem sc_law : FnScope N_law ["_law_script"] (defScope s_law) := ⟨rfl, rfl, rfl, by decide +kernel, rfl, by decide +kernel, by decide +kernel⟩
structure Txt (K : PySem.W.Frag) (mg : Str → Option Value) where
  f_is_integer : Addr
  d_is_integer : FuncData
  F_is_integer : Fun K "is_integer" "is_integer" s_is_integer f_is_integer d_is_integer
  b_is_integer : Binds K d_is_integer ["value"] []
  m_is_integer : mg "is_integer" = some (.ref f_is_integer)
  f_is_within : Addr
  d_is_within : FuncData
  F_is_within : Fun K "is_within" "is_within" s_is_within f_is_within d_is_within
  b_is_within : Binds K d_is_within ["value", "least", "greatest"] []
  m_is_within : mg "is_within" = some (.ref f_is_within)
  f_is_job : Addr
  d_is_job : FuncData
  F_is_job : Fun K "is_job" "is_job" s_is_job f_is_job d_is_job
  b_is_job : Binds K d_is_job ["value"] []
  m_is_job : mg "is_job" = some (.ref f_is_job)
  f_checked_sizes : Addr
  d_checked_sizes : FuncData
  F_checked_sizes : Fun K "checked_sizes" "checked_sizes" s_checked_sizes f_checked_sizes d_checked_sizes
  b_checked_sizes : Binds K d_checked_sizes ["job"] []
  m_checked_sizes : mg "checked_sizes" = some (.ref f_checked_sizes)
  f_steps_of_leaf : Addr
  d_steps_of_leaf : FuncData
  F_steps_of_leaf : Fun K "steps_of_leaf" "steps_of_leaf" s_steps_of_leaf f_steps_of_leaf d_steps_of_leaf
  b_steps_of_leaf : Binds K d_steps_of_leaf ["value"] []
  m_steps_of_leaf : mg "steps_of_leaf" = some (.ref f_steps_of_leaf)
  f_sizes_of : Addr
  d_sizes_of : FuncData
  F_sizes_of : Fun K "sizes_of" "sizes_of" s_sizes_of f_sizes_of d_sizes_of
  b_sizes_of : Binds K d_sizes_of ["value", "leaf_steps"] []
  m_sizes_of : mg "sizes_of" = some (.ref f_sizes_of)
  f__sizes : Addr
  d__sizes : FuncData
  F__sizes : Fun K "_sizes" "_sizes" s__sizes f__sizes d__sizes
  b__sizes : Binds K d__sizes ["value", "leaf_steps", "room", "levels"] []
  m__sizes : mg "_sizes" = some (.ref f__sizes)
  f__sizes_of_parts : Addr
  d__sizes_of_parts : FuncData
  F__sizes_of_parts : Fun K "_sizes_of_parts" "_sizes_of_parts" s__sizes_of_parts f__sizes_of_parts d__sizes_of_parts
  b__sizes_of_parts : Binds K d__sizes_of_parts ["parts", "leaf_steps", "room", "levels"] []
  m__sizes_of_parts : mg "_sizes_of_parts" = some (.ref f__sizes_of_parts)
  f__sizes_of_rounds : Addr
  d__sizes_of_rounds : FuncData
  F__sizes_of_rounds : Fun K "_sizes_of_rounds" "_sizes_of_rounds" s__sizes_of_rounds f__sizes_of_rounds d__sizes_of_rounds
  b__sizes_of_rounds : Binds K d__sizes_of_rounds ["n", "inner", "leaf_steps", "room", "levels"] []
  m__sizes_of_rounds : mg "_sizes_of_rounds" = some (.ref f__sizes_of_rounds)
  f__within_count : Addr
  d__within_count : FuncData
  F__within_count : Fun K "_within_count" "_within_count" s__within_count f__within_count d__within_count
  b__within_count : Binds K d__within_count ["nodes", "steps"] []
  m__within_count : mg "_within_count" = some (.ref f__within_count)
  f_is_address : Addr
  d_is_address : FuncData
  F_is_address : Fun K "is_address" "is_address" s_is_address f_is_address d_is_address
  b_is_address : Binds K d_is_address ["job", "value"] []
  m_is_address : mg "is_address" = some (.ref f_is_address)
  f_step_value : Addr
  d_step_value : FuncData
  F_step_value : Fun K "step_value" "step_value" s_step_value f_step_value d_step_value
  b_step_value : Binds K d_step_value ["job", "address"] []
  m_step_value : mg "step_value" = some (.ref f_step_value)
  f_is_index_tuple : Addr
  d_is_index_tuple : FuncData
  F_is_index_tuple : Fun K "is_index_tuple" "is_index_tuple" s_is_index_tuple f_is_index_tuple d_is_index_tuple
  b_is_index_tuple : Binds K d_is_index_tuple ["value"] []
  m_is_index_tuple : mg "is_index_tuple" = some (.ref f_is_index_tuple)
  f_find_step : Addr
  d_find_step : FuncData
  F_find_step : Fun K "find_step" "find_step" s_find_step f_find_step d_find_step
  b_find_step : Binds K d_find_step ["job", "value"] []
  m_find_step : mg "find_step" = some (.ref f_find_step)
  f__checked_step : Addr
  d__checked_step : FuncData
  F__checked_step : Fun K "_checked_step" "_checked_step" s__checked_step f__checked_step d__checked_step
  b__checked_step : Binds K d__checked_step ["job", "address"] []
  m__checked_step : mg "_checked_step" = some (.ref f__checked_step)
  f__part_at : Addr
  d__part_at : FuncData
  F__part_at : Fun K "_part_at" "_part_at" s__part_at f__part_at d__part_at
  b__part_at : Binds K d__part_at ["job", "index"] []
  m__part_at : mg "_part_at" = some (.ref f__part_at)
  f__law_pot : Addr
  d__law_pot : FuncData
  F__law_pot : Fun K "_law_pot" "_law_pot" s__law_pot f__law_pot d__law_pot
  b__law_pot : Binds K d__law_pot ["_law_script", "_law_k"] []
  m__law_pot : mg "_law_pot" = some (.ref f__law_pot)
  f__law_take : Addr
  d__law_take : FuncData
  F__law_take : Fun K "_law_take" "_law_take" s__law_take f__law_take d__law_take
  b__law_take : Binds K d__law_take ["_law_pot_here", "_law_many"] []
  m__law_take : mg "_law_take" = some (.ref f__law_take)
  f__law_step : Addr
  d__law_step : FuncData
  F__law_step : Fun K "_law_step" "_law_step" s__law_step f__law_step d__law_step
  b__law_step : Binds K d__law_step ["_law_pot_here"] []
  m__law_step : mg "_law_step" = some (.ref f__law_step)
  f__law_job : Addr
  d__law_job : FuncData
  F__law_job : Fun K "_law_job" "_law_job" s__law_job f__law_job d__law_job
  b__law_job : Binds K d__law_job ["_law_pot_here", "_law_deep", "_law_counts"] []
  m__law_job : mg "_law_job" = some (.ref f__law_job)
  f__law_steps : Addr
  d__law_steps : FuncData
  F__law_steps : Fun K "_law_steps" "_law_steps" s__law_steps f__law_steps d__law_steps
  b__law_steps : Binds K d__law_steps ["_law_job_here"] []
  m__law_steps : mg "_law_steps" = some (.ref f__law_steps)
  f__law_drawn : Addr
  d__law_drawn : FuncData
  F__law_drawn : Fun K "_law_drawn" "_law_drawn" s__law_drawn f__law_drawn d__law_drawn
  b__law_drawn : Binds K d__law_drawn ["_law_pot_here", "_law_job_here"] []
  m__law_drawn : mg "_law_drawn" = some (.ref f__law_drawn)
  f__law_value : Addr
  d__law_value : FuncData
  F__law_value : Fun K "_law_value" "_law_value" s__law_value f__law_value d__law_value
  b__law_value : Binds K d__law_value ["_law_job_here", "_law_address"] []
  m__law_value : mg "_law_value" = some (.ref f__law_value)
  f__law_near : Addr
  d__law_near : FuncData
  F__law_near : Fun K "_law_near" "_law_near" s__law_near f__law_near d__law_near
  b__law_near : Binds K d__law_near ["_law_pot_here", "_law_address"] []
  m__law_near : mg "_law_near" = some (.ref f__law_near)
  f__law_refused : Addr
  d__law_refused : FuncData
  F__law_refused : Fun K "_law_refused" "_law_refused" s__law_refused f__law_refused d__law_refused
  b__law_refused : Binds K d__law_refused ["_law_job_here", "_law_address"] []
  m__law_refused : mg "_law_refused" = some (.ref f__law_refused)
  t_MAX_STEP : Tok
  g_MAX_STEP : mg "MAX_STEP" = some (.int 1000000000000000000000000000000 t_MAX_STEP)
  t_MAX_COUNT : Tok
  g_MAX_COUNT : mg "MAX_COUNT" = some (.int 1000000000000000000000000000000 t_MAX_COUNT)
  t_MAX_PARTS : Tok
  g_MAX_PARTS : mg "MAX_PARTS" = some (.int 400 t_MAX_PARTS)
  t_MAX_NODES : Tok
  g_MAX_NODES : mg "MAX_NODES" = some (.int 400 t_MAX_NODES)
  t_MAX_DEPTH : Tok
  g_MAX_DEPTH : mg "MAX_DEPTH" = some (.int 13 t_MAX_DEPTH)
  c_InvalidAddress : Addr
  g_InvalidAddress : mg "InvalidAddress" = some (.ref c_InvalidAddress)
  x_InvalidAddress : PySem.W.excIn K c_InvalidAddress [.type "ValueError", .type "Exception", .type "BaseException", .type "object"] "ValueError.__new__" = true
  k_InvalidAddress : PySem.W.keepIn K (.ref c_InvalidAddress) = true
  bb_InvalidAddress : PySem.W.subIn K (.ref c_InvalidAddress) (.type "BaseException") = some true
  tt_InvalidAddress : PySem.W.typeIn K (.ref c_InvalidAddress) = some (.type "type")
  e_InvalidAddress_InvalidAddress : PySem.W.exmOne K (.ref c_InvalidAddress) (.ref c_InvalidAddress) = some true
  n_abs : mg "abs" = none
  n_all : mg "all" = none
  n_bool : mg "bool" = none
  n_int : mg "int" = none
  n_isinstance : mg "isinstance" = none
  n_len : mg "len" = none
  n_list : mg "list" = none
  n_max : mg "max" = none
  n_min : mg "min" = none
  n_range : mg "range" = none
  n_repr : mg "repr" = none
  n_sum : mg "sum" = none
  n_tuple : mg "tuple" = none
/-! block SizesN (of the later code): is_integer, is_within, steps_of_leaf, sizes_of, _within_count, _sizes and its two helpers, is_job, checked_sizes -/
def spIsInt (K : PySem.W.Frag) : Sp := fun vs H Q _ => ∃ (v : V) (d : PyData), vs = [v] ∧ Dp K H v d ∧ Q (.bl (isInt d && !isBoo d)) H
/-- a pair of ints, or None -/
def RepSz (H : Hp) (r : V) : Option (Int × Int) → Prop
  | none => r = .non
  | some (a, b) => ∃ t, r = .ref t ∧ H t = some (.tup [.int a, .int b])
def spWithin : Sp := fun vs H Q _ => ∃ a b : Int, vs = [.int a, .int b] ∧ ∀ (H' : Hp) (r : V), Same H H' → RepSz H' r (within a b) → Q r H'
def inW : PyData → Int → Int → Bool
  | .int i, a, b => decide (a ≤ i) && decide (i ≤ b)
  | _, _, _ => false
theorem inW_int {i a b : Int} : inW (.int i) a b = (decide (a ≤ i) && decide (i ≤ b)) := rfl
def spWi (K : PySem.W.Frag) : Sp := fun vs H Q _ => ∃ (v : V) (d : PyData) (a b : Int), vs = [v, .int a, .int b] ∧ Dp K H v d ∧ Q (.bl (inW d a b)) H
def spLeaf (K : PySem.W.Frag) : Sp := fun vs H Q _ => ∃ (v : V) (d : PyData), vs = [v] ∧ Dp K H v d ∧ Q (if inW d (-M30) M30 = true then .int 1 else .non) H
def spSz (K : PySem.W.Frag) (L : Addr) (n : Nat) : Sp := fun vs H Q _ => ∃ (v : V) (j : J) (room lv : Int), vs = [v, .ref L, .int room, .int lv] ∧ Dp K H v j.toD ∧ 0 ≤ lv ∧ lv < (n : Int) ∧
  ∀ (H' : Hp) (r : V), Same H H' → RepSz H' r (szJ j room lv) → Q r H'
def spSzs (K : PySem.W.Frag) (L : Addr) (n : Nat) : Sp := fun vs H Q _ => ∃ (v : V) (js : List J) (room lv : Int), vs = [v, .ref L, .int room, .int lv] ∧ Dp K H v (.tuple (J.toDs js)) ∧ 1 ≤ lv ∧ lv ≤ (n : Int) ∧
  ∀ (H' : Hp) (r : V), Same H H' → RepSz H' r (if (js.length : Int) > 400 then none else szJs js 1 0 room lv) → Q r H'
def spSzr (K : PySem.W.Frag) (L : Addr) (n : Nat) : Sp := fun vs H Q _ => ∃ (v : V) (c : Int) (j : J) (room lv : Int), vs = [.int c, v, .ref L, .int room, .int lv] ∧ Dp K H v j.toD ∧ 1 ≤ lv ∧ lv ≤ (n : Int) ∧
  ∀ (H' : Hp) (r : V), Same H H' → RepSz H' r (if ¬ (0 ≤ c ∧ c ≤ M30) then none else match szJ j (room - 1) (lv - 1) with | none => none | some (a, b) => within (a + 1) (b * c)) → Q r H'
section
variable {P : Program} {w : World} {K : PySem.W.Frag} {mg : Str → Option Value} {base : Heap}
theorem ok_isint (T : Txt K mg) : FnOk P w K mg base CX0 1 T.f_is_integer T.d_is_integer ["value"] (spIsInt K) := by
  refine T.F_is_integer.ok sc_is_integer (fun vs H Q E h => ?_) (fun cdv A outer s H vs Q E hr h => ?_)
  · obtain ⟨v, d, rfl, _⟩ := h
    rfl
  obtain ⟨v, d, rfl, hd, q⟩ := h
  refine ⟨_, (pss_one (ps_ret (pe_and (pe_callB (r := rIsD K) call_isD (by rfl) T.n_isinstance (by decide +kernel) (pa_cons (pv 0) (pa_cons (pe_bltn (v := .ty "int") (by rfl) T.n_int (by decide +kernel) rfl) pa_nil))) (pe_one (pe_not (pe_callB (r := rIsD K) call_isD (by rfl) T.n_isinstance (by decide +kernel) (pa_cons (pv 0) (pa_cons (pe_bltn (v := .ty "bool") (by rfl) T.n_bool (by decide +kernel) rfl) pa_nil)))))))), ?_⟩
  refine ⟨_, rfl, v, _, d, _, rfl, hd, kit_int d, _, rfl, ?_⟩
  cases e : isInt d with
  | false =>
    refine iteF ?_
    rw [e] at q
    exact q
  | true =>
    refine iteT ⟨_, rfl, v, _, d, _, rfl, hd, kit_bool d, _, rfl, ?_⟩
    rw [e] at q
    exact q
theorem ok_wi (T : Txt K mg) : FnOk P w K mg base CX0 2 T.f_is_within T.d_is_within ["value", "least", "greatest"] (spWi K) := by
  have g_is_integer : FnOk P w K mg base CX0 1 T.f_is_integer T.d_is_integer ["value"] (spIsInt K) := ok_isint T
  refine T.F_is_within.ok sc_is_within (fun vs H Q E h => ?_) (fun cdv A outer s H vs Q E hr h => ?_)
  · obtain ⟨v, d, a, b, rfl, _⟩ := h
    rfl
  obtain ⟨v, d, a, b, rfl, hd, q⟩ := h
  refine ⟨_, (pss_one (ps_ret (pe_and (pe_call g_is_integer (hr.mono (by omega)) rfl T.m_is_integer T.F_is_integer.kp T.b_is_integer .nil pass0 (pa_cons (pv 0) pa_nil)) (pe_one (pe_chain op_le op_le (pv 1) (pv 0) (pv 2)))))), ?_⟩
  refine ⟨_, rfl, v, d, rfl, hd, _, rfl, ?_⟩
  by_cases e : ∃ i, d = .int i
  · obtain ⟨i, rfl⟩ := e
    obtain rfl := dp_int_inv hd
    refine iteT ?_
    refine ⟨_, rfl, _, rfl, _, _, rfl, rfl, _, rfl, ?_⟩
    rw [inW_int] at q
    cases e1 : decide (a ≤ i) with
    | true =>
      refine iteT ?_
      rw [e1, Bool.true_and] at q
      exact ⟨_, rfl, _, _, rfl, rfl, q⟩
    | false =>
      refine iteF ?_
      rw [e1, Bool.false_and] at q
      exact q
  · have e1 : (isInt d && !isBoo d) = false ∧ inW d a b = false := by
      cases d <;> first | exact absurd ⟨_, rfl⟩ e | exact ⟨rfl, rfl⟩
    rw [e1.1]
    rw [e1.2] at q
    refine iteF ?_
    exact q
theorem ok_leaf (T : Txt K mg) : FnOk P w K mg base CX0 3 T.f_steps_of_leaf T.d_steps_of_leaf ["value"] (spLeaf K) := by
  have g_is_within := ok_wi (P := P) (w := w) (base := base) T
  refine T.F_steps_of_leaf.ok sc_steps_of_leaf (fun vs H Q E h => ?_) (fun cdv A outer s H vs Q E hr h => ?_)
  · obtain ⟨v, d, rfl, _⟩ := h
    rfl
  obtain ⟨v, d, rfl, hd, q⟩ := h
  refine ⟨_, (pss_one (ps_ret (pe_ifExp (pt_val (pe_call g_is_within (hr.mono (by omega)) rfl T.m_is_within T.F_is_within.kp T.b_is_within .nil pass0 (pa_cons (pv 0) (pa_cons (pe_un un_neg (pe_glob (v := .int 1000000000000000000000000000000) rfl T.g_MAX_STEP ⟨_, rfl⟩)) (pa_cons (pe_glob (v := .int 1000000000000000000000000000000) rfl T.g_MAX_STEP ⟨_, rfl⟩) pa_nil))))) pe_int pe_non))), ?_⟩
  refine ⟨_, rfl, _, rfl, v, d, -M30, M30, rfl, hd, _, rfl, ?_⟩
  cases e : inW d (-M30) M30 with
  | true =>
    rw [e] at q
    refine iteT ?_
    exact q
  | false =>
    rw [e] at q
    refine iteF ?_
    exact q
theorem ok_within (T : Txt K mg) : FnOk P w K mg base CX0 1 T.f__within_count T.d__within_count ["nodes", "steps"] spWithin := by
  refine T.F__within_count.ok sc__within_count (fun vs H Q E h => ?_) (fun cdv A outer s H vs Q E hr h => ?_)
  · obtain ⟨a, b, rfl, _⟩ := h
    rfl
  obtain ⟨a, b, rfl, q⟩ := h
  refine ⟨_, (pss_one (ps_ret (pe_ifExp (pt_cmpR op_le (pv 1) (pe_glob (v := .int 1000000000000000000000000000000) rfl T.g_MAX_COUNT ⟨_, rfl⟩) (nomark _)) (pe_tup (pa_cons (pv 0) (pa_cons (pv 1) pa_nil))) pe_non))), ?_⟩
  refine ⟨_, rfl, _, _, rfl, rfl, _, rfl, ?_⟩
  unfold within at q
  refine ite2 (fun g => ?_) (fun g => ?_)
  · rw [if_pos (of_decide_eq_true g)] at q
    refine ⟨_, rfl, _, rfl, (by show 2 ≤ sizeLine; decide), fun t ht => ?_⟩
    exact q _ _ (same_new ht) ⟨t, rfl, upd_same⟩
  · rw [if_neg (fun z => g (decide_eq_true z))] at q
    exact q _ _ (Same.refl _) rfl
theorem ok_szs (T : Txt K mg) {n : Nat} (g__sizes : FnOk P w K mg base CX0 (2 * n + 2) T.f__sizes T.d__sizes ["value", "leaf_steps", "room", "levels"] (spSz K T.f_steps_of_leaf n)) :
    FnOk P w K mg base CX0 (2 * n + 3) T.f__sizes_of_parts T.d__sizes_of_parts ["parts", "leaf_steps", "room", "levels"] (spSzs K T.f_steps_of_leaf n) := by
  have g__within_count : FnOk P w K mg base CX0 1 T.f__within_count T.d__within_count ["nodes", "steps"] spWithin := ok_within T
  refine T.F__sizes_of_parts.ok sc__sizes_of_parts (fun vs H Q E h => ?_) (fun cdv A outer s H vs Q E hr h => ?_)
  · obtain ⟨v, js, room, lv, rfl, _⟩ := h
    rfl
  obtain ⟨v, js, room, lv, rfl, hd, hn1, hn, q⟩ := h
  refine ⟨_, (pss_cons (ps_if (PW.pt (pw_or (pt_not (pt_val (pe_callB (r := rIsD K) call_isD (by rfl) T.n_isinstance (by decide +kernel) (pa_cons (pv 0) (pa_cons (pe_bltn (v := .ty "tuple") (by rfl) T.n_tuple (by decide +kernel) rfl) pa_nil))))) (pw_or1 (pt_cmpR op_gt (pe_callB (r := rLenS K) call_lenS (by rfl) T.n_len (by decide +kernel) (pa_cons (pv 0) pa_nil)) (pe_glob (v := .int 400) rfl T.g_MAX_PARTS ⟨_, rfl⟩) (nomark _))))) (pss_one (ps_ret pe_non)) pss_nil)
      (pss_cons (ps_set (i := 4) sc__sizes_of_parts.nd rfl (Or.inl rfl) pe_int)
      (pss_cons (ps_set (i := 5) sc__sizes_of_parts.nd rfl (Or.inl rfl) pe_int)
      (pss_cons (ps_for PassesOwn.never rfl (pi_tup (pv 0)) (pg_name (i := 6) sc__sizes_of_parts.nd rfl (Or.inl rfl))
        (pss_cons (ps_set (i := 7) sc__sizes_of_parts.nd rfl (Or.inl rfl) (pe_call g__sizes (hr.mono (by omega)) rfl T.m__sizes T.F__sizes.kp T.b__sizes .nil pass0 (pa_cons (pv 6) (pa_cons (pv 1) (pa_cons (pe_op op_sub (pv 2) (pv 4)) (pa_cons (pe_op op_sub (pv 3) pe_int) pa_nil))))))
        (pss_cons (ps_if (pt_cmpR op_isN (pv 7) pe_non (nomark _)) (pss_one (ps_ret pe_non)) pss_nil)
        (pss_cons (ps_aug (i := 4) sc__sizes_of_parts.nd rfl (Or.inl rfl) (pe_ix (r := rIxT K) ix_tup (pv 7) pe_int (fun _ _ => rfl)) ip_add)
        (pss_one (ps_aug (i := 5) sc__sizes_of_parts.nd rfl (Or.inl rfl) (pe_ix (r := rIxT K) ix_tup (pv 7) pe_int (fun _ _ => rfl)) ip_add))))))
      (pss_one (ps_ret (pe_call g__within_count (hr.mono (by omega)) rfl T.m__within_count T.F__within_count.kp T.b__within_count .nil pass0 (pa_cons (pv 4) (pa_cons (pv 5) pa_nil))))))))), ?_⟩
  obtain ⟨a, xs, rfl, hxs, hall⟩ := dp_tup_inv hd
  have hlen : xs.length = js.length := by rw [dpAll_length hall, J.toDs_eq, List.length_map]
  refine ⟨_, rfl, _, _, _, _, rfl, hd, kit_tuple _, _, rfl, ?_⟩
  refine iteF ?_
  refine ⟨_, rfl, a, xs, rfl, .inr hxs, _, _, rfl, rfl, _, rfl, ?_⟩
  refine ite2 (fun g => ?_) (fun g => ?_)
  · have g' : (400 : Int) < (xs.length : Int) := of_decide_eq_true g
    rw [if_pos (by omega)] at q
    exact q _ _ (Same.refl _) rfl
  have g' : ¬ (400 : Int) < (xs.length : Int) := fun z => g (decide_eq_true z)
  rw [if_neg (by omega)] at q
  refine ⟨_, rfl, a, rfl, ⟨xs, hxs⟩, ?_⟩
  -- the loop: what is left of the parts gives what is left of the sizes
  refine for_tup (K := K) (a := a) (xs := xs) (fun i σ H' => ∃ (nodes steps : Int) (y5 y6 : Option V), σ = [some (.ref a), some (.ref T.f_steps_of_leaf), some (.int room), some (.int lv), some (.int nodes), some (.int steps), y5, y6] ∧ Same H H' ∧
    szJs js 1 0 room lv = szJs (js.drop i) nodes steps room lv) ⟨1, 0, none, none, rfl, Same.refl _, rfl⟩ (fun i σ H' _ ⟨_, _, _, _, _, s1, _⟩ => same_sqT s1 hxs) ?_ ?_
  · rintro i x σ H' hi ⟨nodes, steps, y5, y6, rfl, s1, es⟩
    obtain ⟨d, ed, hd'⟩ := dpAll_get hall hi
    have hij : i < js.length := by
      rw [← hlen]
      exact (List.getElem?_eq_some_iff.mp hi).1
    have ej : d = (js[i]).toD := by
      rw [J.toDs_eq, List.getElem?_map, List.getElem?_eq_getElem hij] at ed
      exact (Option.some.inj ed).symm
    subst ej
    have hdrop : js.drop i = js[i] :: js.drop (i + 1) := List.drop_eq_getElem_cons hij
    rw [hdrop] at es
    refine ⟨_, rfl, _, rfl, _, rfl, _, rfl, _, _, rfl, rfl, _, rfl, _, _, rfl, rfl, x, js[i], room - nodes, lv - 1, rfl, dp_same s1 hd', by omega, by omega, fun H2 r2 s2 h2 => ?_⟩
    simp only [szJs] at es
    cases ez : szJ js[i] (room - nodes) (lv - 1) with
    | none =>
      rw [ez] at h2 es
      obtain rfl : r2 = .non := h2
      refine ⟨_, rfl, rfl, _, rfl, ?_⟩
      refine iteT ?_
      rw [es] at q
      exact q _ _ (s1.trans s2) rfl
    | some ab =>
      obtain ⟨a1, b1⟩ := ab
      rw [ez] at h2 es
      obtain ⟨t, rfl, ht⟩ := h2
      refine ⟨_, rfl, rfl, _, rfl, ?_⟩
      refine iteF ?_
      refine ⟨_, rfl, _, rfl, _, _, _, _, rfl, rfl, SqT.of ht, rfl, _, _, rfl, rfl, ?_⟩
      refine ⟨_, rfl, _, rfl, _, _, _, _, rfl, rfl, SqT.of ht, rfl, _, _, rfl, rfl, ?_⟩
      exact ⟨_, _, _, _, rfl, s1.trans s2, es⟩
  · rintro σ H' ⟨nodes, steps, y5, y6, rfl, s1, es⟩
    rw [hlen, List.drop_length] at es
    simp only [szJs] at es
    refine ⟨_, rfl, _, rfl, nodes, steps, rfl, fun H2 r2 s2 h2 => ?_⟩
    rw [es] at q
    exact q _ _ (s1.trans s2) h2
theorem ok_szr (T : Txt K mg) {n : Nat} (g__sizes : FnOk P w K mg base CX0 (2 * n + 2) T.f__sizes T.d__sizes ["value", "leaf_steps", "room", "levels"] (spSz K T.f_steps_of_leaf n)) :
    FnOk P w K mg base CX0 (2 * n + 3) T.f__sizes_of_rounds T.d__sizes_of_rounds ["n", "inner", "leaf_steps", "room", "levels"] (spSzr K T.f_steps_of_leaf n) := by
  have g__within_count : FnOk P w K mg base CX0 1 T.f__within_count T.d__within_count ["nodes", "steps"] spWithin := ok_within T
  have g_is_within := ok_wi (P := P) (w := w) (base := base) T
  refine T.F__sizes_of_rounds.ok sc__sizes_of_rounds (fun vs H Q E h => ?_) (fun cdv A outer s H vs Q E hr h => ?_)
  · obtain ⟨v, c, j, room, lv, rfl, _⟩ := h
    rfl
  obtain ⟨v, c, j, room, lv, rfl, hd, hn1, hn, q⟩ := h
  refine ⟨_, (pss_cons (ps_if (pt_not (pt_val (pe_call g_is_within (hr.mono (by omega)) rfl T.m_is_within T.F_is_within.kp T.b_is_within .nil pass0 (pa_cons (pv 0) (pa_cons pe_int (pa_cons (pe_glob (v := .int 1000000000000000000000000000000) rfl T.g_MAX_COUNT ⟨_, rfl⟩) pa_nil)))))) (pss_one (ps_ret pe_non)) pss_nil)
      (pss_cons (ps_set (i := 5) sc__sizes_of_rounds.nd rfl (Or.inl rfl) (pe_call g__sizes (hr.mono (by omega)) rfl T.m__sizes T.F__sizes.kp T.b__sizes .nil pass0 (pa_cons (pv 1) (pa_cons (pv 2) (pa_cons (pe_op op_sub (pv 3) pe_int) (pa_cons (pe_op op_sub (pv 4) pe_int) pa_nil))))))
      (pss_cons (ps_if (pt_cmpR op_isN (pv 5) pe_non (nomark _)) (pss_one (ps_ret pe_non)) pss_nil)
      (pss_one (ps_ret (pe_call g__within_count (hr.mono (by omega)) rfl T.m__within_count T.F__within_count.kp T.b__within_count .nil pass0 (pa_cons (pe_op op_add (pe_ix (r := rIxT K) ix_tup (pv 5) pe_int (fun _ _ => rfl)) pe_int) (pa_cons (pe_op op_mulW (pe_ix (r := rIxT K) ix_tup (pv 5) pe_int (fun _ _ => rfl)) (pv 0)) pa_nil)))))))), ?_⟩
  refine ⟨_, rfl, .int c, .int c, 0, M30, rfl, .int c, _, rfl, ?_⟩
  show if (!(decide (0 ≤ c) && decide (c ≤ M30))) = true then _ else _
  refine ite2 (fun g => ?_) (fun g => ?_)
  · rw [if_pos (fun z => by rw [decide_eq_true z.1, decide_eq_true z.2] at g; cases g)] at q
    exact q _ _ (Same.refl _) rfl
  obtain ⟨g0, g1⟩ : 0 ≤ c ∧ c ≤ M30 := by
    by_cases z : 0 ≤ c ∧ c ≤ M30
    · exact z
    · exfalso
      apply g
      rw [Bool.not_eq_true', Bool.and_eq_false_iff]
      by_cases z0 : 0 ≤ c
      · exact .inr (decide_eq_false fun y => z ⟨z0, y⟩)
      · exact .inl (decide_eq_false z0)
  rw [if_neg (fun z => z ⟨g0, g1⟩)] at q
  refine ⟨_, rfl, _, rfl, _, rfl, _, _, rfl, rfl, _, rfl, _, _, rfl, rfl, v, j, room - 1, lv - 1, rfl, hd, by omega, by omega, fun H2 r2 s2 h2 => ?_⟩
  cases ez : szJ j (room - 1) (lv - 1) with
  | none =>
    rw [ez] at h2 q
    obtain rfl : r2 = .non := h2
    refine ⟨_, rfl, rfl, _, rfl, ?_⟩
    refine iteT ?_
    exact q _ _ s2 rfl
  | some ab =>
    obtain ⟨a1, b1⟩ := ab
    rw [ez] at h2 q
    obtain ⟨t, rfl, ht⟩ := h2
    refine ⟨_, rfl, rfl, _, rfl, ?_⟩
    refine iteF ?_
    obtain ⟨jo, _, _, ea, eb⟩ := szJ_inv j _ _ _ _ ez
    have hb0 := J.steps_nn j jo
    have hb1 := J.steps_le j jo
    rw [← eb] at hb0 hb1
    refine ⟨_, rfl, _, _, _, _, rfl, rfl, SqT.of ht, rfl, _, _, rfl, rfl, _, rfl, _, _, _, _, rfl, rfl, SqT.of ht, rfl, _, rfl, _, _, rfl, rfl, ?_, ?_⟩
    · have e1 : b1.natAbs < 2 ^ 128 := Nat.lt_of_le_of_lt (show b1.natAbs ≤ 1000000000000000000000000000000 by simp only [M30] at hb1; omega) (by decide)
      have e2 : c.natAbs < 2 ^ 128 := Nat.lt_of_le_of_lt (show c.natAbs ≤ 1000000000000000000000000000000 by simp only [M30] at g1; omega) (by decide)
      exact wide_mul (a := 128) (b := 128) e1 e2 (by decide) (by decide) (by decide)
    refine ⟨_, _, rfl, fun H3 r3 s3 h3 => ?_⟩
    exact q _ _ (s2.trans s3) h3
theorem in_parts (k : Bool) : inV (.str (kwP k)) [.str "seq", .str "par"] = true := by cases k <;> decide +kernel
theorem in_parts_no (k : Bool) : inV (.str (kwR k)) [.str "seq", .str "par"] = false := by cases k <;> decide +kernel
theorem in_rounds (k : Bool) : inV (.str (kwR k)) [.str "repeat", .str "copies"] = true := by cases k <;> decide +kernel
theorem ok_sz (T : Txt K mg) {n : Nat} (g__sizes_of_parts : FnOk P w K mg base CX0 (2 * n + 3) T.f__sizes_of_parts T.d__sizes_of_parts ["parts", "leaf_steps", "room", "levels"] (spSzs K T.f_steps_of_leaf n))
    (g__sizes_of_rounds : FnOk P w K mg base CX0 (2 * n + 3) T.f__sizes_of_rounds T.d__sizes_of_rounds ["n", "inner", "leaf_steps", "room", "levels"] (spSzr K T.f_steps_of_leaf n)) :
    FnOk P w K mg base CX0 (2 * (n + 1) + 2) T.f__sizes T.d__sizes ["value", "leaf_steps", "room", "levels"] (spSz K T.f_steps_of_leaf (n + 1)) := by
  have g_steps_of_leaf := ok_leaf (P := P) (w := w) (base := base) T
  refine T.F__sizes.ok sc__sizes (fun vs H Q E h => ?_) (fun cdv A outer s H vs Q E hr h => ?_)
  · obtain ⟨v, j, room, lv, rfl, _⟩ := h
    rfl
  obtain ⟨v, j, room, lv, rfl, hd, hn1, hn, q⟩ := h
  refine ⟨_, (pss_cons (ps_if (PW.pt (pw_or (pt_cmpR op_lt (pv 2) pe_int (nomark _)) (pw_or1 (pt_cmpR op_lt (pv 3) pe_int (nomark _))))) (pss_one (ps_ret pe_non)) pss_nil)
      (pss_cons (ps_set (i := 4) sc__sizes.nd rfl (Or.inl rfl) (pe_callL (i := 1) g_steps_of_leaf (hr.mono (by omega)) rfl (.inl rfl) T.F_steps_of_leaf.kp T.b_steps_of_leaf .nil pass0 (pa_cons (pv 0) pa_nil)))
      (pss_cons (ps_if (pt_cmpR op_notN (pv 4) pe_non (nomark _)) (pss_one (ps_ret (pe_tup (pa_cons pe_int (pa_cons (pv 4) pa_nil))))) pss_nil)
      (pss_cons (ps_if (pt_not (pt_val (pe_callB (r := rIsD K) call_isD (by rfl) T.n_isinstance (by decide +kernel) (pa_cons (pv 0) (pa_cons (pe_bltn (v := .ty "tuple") (by rfl) T.n_tuple (by decide +kernel) rfl) pa_nil))))) (pss_one (ps_ret pe_non)) pss_nil)
      (pss_cons (ps_if (PW.pt (pw_and (pt_cmpR op_eq (pe_callB (r := rLenS K) call_lenS (by rfl) T.n_len (by decide +kernel) (pa_cons (pv 0) pa_nil)) pe_int (nomark _)) (pw_and1 (pt_cmpR (r := rIn K false) op_in_seq (pe_ix (r := rIxT K) ix_tup (pv 0) pe_int (fun _ _ => rfl)) (pe_tup (pa_cons pe_str (pa_cons pe_str pa_nil))) (by rfl))))) (pss_one (ps_ret (pe_call g__sizes_of_parts (hr.mono (by omega)) rfl T.m__sizes_of_parts T.F__sizes_of_parts.kp T.b__sizes_of_parts .nil pass0 (pa_cons (pe_ix (r := rIxT K) ix_tup (pv 0) pe_int (fun _ _ => rfl)) (pa_cons (pv 1) (pa_cons (pv 2) (pa_cons (pv 3) pa_nil))))))) pss_nil)
      (pss_cons (ps_if (PW.pt (pw_and (pt_cmpR op_eq (pe_callB (r := rLenS K) call_lenS (by rfl) T.n_len (by decide +kernel) (pa_cons (pv 0) pa_nil)) pe_int (nomark _)) (pw_and1 (pt_cmpR (r := rIn K false) op_in_seq (pe_ix (r := rIxT K) ix_tup (pv 0) pe_int (fun _ _ => rfl)) (pe_tup (pa_cons pe_str (pa_cons pe_str pa_nil))) (by rfl))))) (pss_one (ps_ret (pe_call g__sizes_of_rounds (hr.mono (by omega)) rfl T.m__sizes_of_rounds T.F__sizes_of_rounds.kp T.b__sizes_of_rounds .nil pass0 (pa_cons (pe_ix (r := rIxT K) ix_tup (pv 0) pe_int (fun _ _ => rfl)) (pa_cons (pe_ix (r := rIxT K) ix_tup (pv 0) pe_int (fun _ _ => rfl)) (pa_cons (pv 1) (pa_cons (pv 2) (pa_cons (pv 3) pa_nil)))))))) pss_nil)
      (pss_one (ps_ret pe_non)))))))), ?_⟩
  -- room < 1 or levels < 1
  have no : ∀ R : V → Hp → Prop, R = Q → (room < 1 ∨ lv < 1) → R .non H := by
    rintro R rfl z
    have e : szJ j room lv = none := by cases j <;> simp only [szJ] <;> rw [if_pos z]
    rw [e] at q
    exact q _ _ (Same.refl _) rfl
  refine ⟨_, rfl, _, _, rfl, rfl, _, rfl, ?_⟩
  refine ite2 (fun g => ?_) (fun g => ?_)
  · refine iteT ?_
    exact no _ rfl (.inl (of_decide_eq_true g))
  refine ⟨_, rfl, _, _, rfl, rfl, _, rfl, ?_⟩
  refine ite2 (fun g2 => ?_) (fun g2 => ?_)
  · exact no _ rfl (.inr (of_decide_eq_true g2))
  have g' : ¬ (room < 1 ∨ lv < 1) := fun z => z.elim (fun y => g (decide_eq_true y)) (fun y => g2 (decide_eq_true y))
  clear no
  cases j with
  | st i =>
    obtain rfl := dp_int_inv hd
    simp only [szJ] at q
    rw [if_neg g'] at q
    refine ⟨rfl, _, rfl, .int i, .int i, rfl, .int i, ?_⟩
    by_cases z : -M30 ≤ i ∧ i ≤ M30
    · rw [if_pos z] at q
      have e : inW (.int i) (-M30) M30 = true := by
        rw [inW_int, decide_eq_true z.1, decide_eq_true z.2] <;> rfl
      rw [if_pos e]
      refine ⟨_, rfl, rfl, _, rfl, ?_⟩
      refine iteT ?_
      refine ⟨_, rfl, (by show 2 ≤ sizeLine; decide), fun t ht => ?_⟩
      exact q _ _ (same_new ht) ⟨t, rfl, upd_same⟩
    · rw [if_neg z] at q
      have e : ¬ inW (.int i) (-M30) M30 = true := by
        rw [inW_int, Bool.and_eq_true, decide_eq_true_eq, decide_eq_true_eq]
        exact z
      rw [if_neg e]
      refine ⟨_, rfl, rfl, _, rfl, ?_⟩
      refine iteF ?_
      refine ⟨_, rfl, _, _, _, _, rfl, .int i, kit_tuple _, _, rfl, ?_⟩
      refine iteT ?_
      exact q _ _ (Same.refl _) rfl
  | ps k xs =>
    simp only [szJ] at q
    rw [if_neg g'] at q
    have hd0 := hd
    rw [J.toD] at hd
    obtain ⟨a, ys, rfl, hys, hall⟩ := dp_tup_inv hd
    cases hall with
    | cons e1 hall =>
      obtain rfl := dp_str_inv e1
      cases hall with
      | cons e2 hall =>
        cases hall
        rename_i vp
        refine ⟨rfl, _, rfl, .ref a, _, rfl, hd, ?_⟩
        refine ⟨_, rfl, rfl, _, rfl, ?_⟩
        refine iteF ?_
        refine ⟨_, rfl, _, _, _, _, rfl, hd, kit_tuple _, _, rfl, ?_⟩
        refine iteF ?_
        refine ⟨_, rfl, a, _, rfl, .inr hys, rfl, _, rfl, ?_⟩
        refine iteT ?_
        refine ⟨_, rfl, _, _, _, _, rfl, rfl, hys, rfl, (by show 2 ≤ sizeLine; decide), fun t ht => ?_⟩
        refine ⟨t, _, rfl, .inr (SqT.of upd_same), rfl, rfl, _, rfl, ?_⟩
        have s1 : Same H (upd H t (.tup [.str "seq", .str "par"])) := same_new ht
        show if inV (.str (kwP k)) [.str "seq", .str "par"] = true then _ else _
        rw [in_parts]
        refine iteT ?_
        refine ⟨_, rfl, _, _, _, _, rfl, rfl, same_sqT s1 hys, rfl, _, rfl, _, rfl, _, rfl, vp, xs, room, lv, rfl, dp_same s1 e2, by omega, by omega, fun H2 r2 s2 h2 => ?_⟩
        exact q _ _ (s1.trans s2) h2
  | rn k c x =>
    simp only [szJ] at q
    rw [if_neg g'] at q
    rw [J.toD] at hd
    obtain ⟨a, ys, rfl, hys, hall⟩ := dp_tup_inv hd
    cases hall with
    | cons e1 hall =>
      obtain rfl := dp_str_inv e1
      cases hall with
      | cons e2 hall =>
        obtain rfl := dp_int_inv e2
        cases hall with
        | cons e3 hall =>
          cases hall
          rename_i vx
          refine ⟨rfl, _, rfl, .ref a, _, rfl, hd, ?_⟩
          refine ⟨_, rfl, rfl, _, rfl, ?_⟩
          refine iteF ?_
          refine ⟨_, rfl, _, _, _, _, rfl, hd, kit_tuple _, _, rfl, ?_⟩
          refine iteF ?_
          refine ⟨_, rfl, a, _, rfl, .inr hys, rfl, _, rfl, ?_⟩
          refine iteF ?_
          refine ⟨_, rfl, a, _, rfl, .inr hys, rfl, _, rfl, ?_⟩
          refine iteT ?_
          refine ⟨_, rfl, _, _, _, _, rfl, rfl, hys, rfl, (by show 2 ≤ sizeLine; decide), fun t ht => ?_⟩
          refine ⟨t, _, rfl, .inr (SqT.of upd_same), rfl, rfl, _, rfl, ?_⟩
          have s1 : Same H (upd H t (.tup [.str "repeat", .str "copies"])) := same_new ht
          show if inV (.str (kwR k)) [.str "repeat", .str "copies"] = true then _ else _
          rw [in_rounds]
          refine iteT ?_
          refine ⟨_, rfl, _, _, _, _, rfl, rfl, same_sqT s1 hys, rfl, _, rfl, _, _, _, _, rfl, rfl, same_sqT s1 hys, rfl, _, rfl, _, rfl, _, rfl, vx, c, x, room, lv, rfl, dp_same s1 e3, by omega, by omega, fun H2 r2 s2 h2 => ?_⟩
          exact q _ _ (s1.trans s2) h2
theorem ok_sizes (T : Txt K mg) : ∀ n : Nat, FnOk P w K mg base CX0 (2 * n + 2) T.f__sizes T.d__sizes ["value", "leaf_steps", "room", "levels"] (spSz K T.f_steps_of_leaf n)
  | 0 => by
    have no : ∀ vs H Q E, ¬ spSz K T.f_steps_of_leaf 0 vs H Q E := by
      rintro vs H Q E ⟨v, j, room, lv, _, _, h1, h2, _⟩
      omega
    exact ⟨fun vs H Q E h => absurd h (no vs H Q E), fun A outer s H args us vs Q E _ _ _ _ h => absurd h (no vs H Q E)⟩
  | n + 1 => ok_sz T (ok_szs T (ok_sizes T n)) (ok_szr T (ok_sizes T n))
/-- jobs of at most thirteen levels -/
def spIsJob (K : PySem.W.Frag) : Sp := fun vs H Q _ => ∃ (v : V) (j : J), vs = [v] ∧ Dp K H v j.toD ∧ j.deep ≤ 20 ∧ ∀ H', Same H H' → Q (.bl (szJ j 400 13).isSome) H'
def spChecked (K : PySem.W.Frag) : Sp := fun vs H Q _ => ∃ (v : V) (j : J) (a b : Int), vs = [v] ∧ Dp K H v j.toD ∧ j.deep ≤ 20 ∧ szJ j 400 13 = some (a, b) ∧
  ∀ (H' : Hp) (t : Addr), Same H H' → H' t = some (.tup [.int a, .int b]) → Q (.ref t) H'
def spSzOf (K : PySem.W.Frag) (L : Addr) : Sp := fun vs H Q _ => ∃ (v : V) (j : J), vs = [v, .ref L] ∧ Dp K H v j.toD ∧ ∀ (H' : Hp) (r : V), Same H H' → RepSz H' r (szJ j 400 13) → Q r H'
theorem ok_szof (T : Txt K mg) : FnOk P w K mg base CX0 31 T.f_sizes_of T.d_sizes_of ["value", "leaf_steps"] (spSzOf K T.f_steps_of_leaf) := by
  have g__sizes := ok_sizes (P := P) (w := w) (base := base) T 14
  refine T.F_sizes_of.ok sc_sizes_of (fun vs H Q E h => ?_) (fun cdv A outer s H vs Q E hr h => ?_)
  · obtain ⟨v, j, rfl, _⟩ := h
    rfl
  obtain ⟨v, j, rfl, hd, q⟩ := h
  refine ⟨_, (pss_one (ps_ret (pe_call g__sizes (hr.mono (by omega)) rfl T.m__sizes T.F__sizes.kp T.b__sizes .nil pass0 (pa_cons (pv 0) (pa_cons (pv 1) (pa_cons (pe_glob (v := .int 400) rfl T.g_MAX_NODES ⟨_, rfl⟩) (pa_cons (pe_glob (v := .int 13) rfl T.g_MAX_DEPTH ⟨_, rfl⟩) pa_nil))))))), ?_⟩
  exact ⟨_, rfl, _, rfl, v, j, 400, 13, rfl, hd, by decide, by decide, q⟩
theorem ok_isjob (T : Txt K mg) : FnOk P w K mg base CX0 43 T.f_is_job T.d_is_job ["value"] (spIsJob K) := by
  have g_sizes_of := ok_szof (P := P) (w := w) (base := base) T
  refine T.F_is_job.ok sc_is_job (fun vs H Q E h => ?_) (fun cdv A outer s H vs Q E hr h => ?_)
  · obtain ⟨v, j, rfl, _⟩ := h
    rfl
  obtain ⟨v, j, rfl, hd, hn, q⟩ := h
  refine ⟨_, (pss_one (ps_ret (pe_cmpR op_notN (pe_call g_sizes_of (hr.mono (by omega)) rfl T.m_sizes_of T.F_sizes_of.kp T.b_sizes_of .nil pass0 (pa_cons (pv 0) (pa_cons (pe_glob (v := .ref T.f_steps_of_leaf) rfl T.m_steps_of_leaf rfl) pa_nil))) pe_non (nomark _)))), ?_⟩
  refine ⟨_, rfl, v, j, rfl, hd, fun H2 r2 s2 h2 => ?_⟩
  cases ez : szJ j 400 13 with
  | none =>
    rw [ez] at h2 q
    obtain rfl : r2 = .non := h2
    exact ⟨rfl, q _ s2⟩
  | some ab =>
    obtain ⟨a, b⟩ := ab
    rw [ez] at h2 q
    obtain ⟨t, rfl, ht⟩ := h2
    exact ⟨rfl, q _ s2⟩
theorem ok_checked (T : Txt K mg) : FnOk P w K mg base CX0 43 T.f_checked_sizes T.d_checked_sizes ["job"] (spChecked K) := by
  have g_sizes_of := ok_szof (P := P) (w := w) (base := base) T
  refine T.F_checked_sizes.ok sc_checked_sizes (fun vs H Q E h => ?_) (fun cdv A outer s H vs Q E hr h => ?_)
  · obtain ⟨v, j, a, b, rfl, _⟩ := h
    rfl
  obtain ⟨v, j, a, b, rfl, hd, hn, ez, q⟩ := h
  refine ⟨_, (pss_cons (ps_set (i := 1) sc_checked_sizes.nd rfl (Or.inl rfl) (pe_call g_sizes_of (hr.mono (by omega)) rfl T.m_sizes_of T.F_sizes_of.kp T.b_sizes_of .nil pass0 (pa_cons (pv 0) (pa_cons (pe_glob (v := .ref T.f_steps_of_leaf) rfl T.m_steps_of_leaf rfl) pa_nil))))
      (pss_cons (ps_if (pt_cmpR op_isN (pv 1) pe_non (nomark _)) (pss_one ps_never) pss_nil)
      (pss_one (ps_ret (pv 1))))), ?_⟩
  refine ⟨_, rfl, v, j, rfl, hd, fun H2 r2 s2 h2 => ?_⟩
  rw [ez] at h2
  obtain ⟨t, rfl, ht⟩ := h2
  refine ⟨_, rfl, rfl, _, rfl, ?_⟩
  refine iteF ?_
  exact ⟨_, rfl, q _ t s2 ht⟩
end
/-! block Find: is_index_tuple, find_step, _part_at over data of any kind (behind bSizes, Rq) -/
def isI : PyData → Bool
  | .int _ => true
  | _ => false
theorem isI_eq (d : PyData) : (isInt d && !isBoo d) = isI d := by cases d <;> rfl
def spIsIntQ (K : PySem.W.Frag) : Sp := fun vs H Q _ => ∃ (v : V) (p : Addr) (d : PyData), vs = [v] ∧ Dq K p H v d ∧ Q (.bl (isI d)) H
def isIdx : PyData → Bool
  | .tuple ds => ds.all isI
  | _ => false
def spIdx (K : PySem.W.Frag) : Sp := fun vs H Q _ => ∃ (v : V) (p : Addr) (d : PyData), vs = [v] ∧ Dq K p H v d ∧ d.bulk ≤ 80000 ∧ ∀ H', Same H H' → Q (.bl (isIdx d)) H'
def J.part : J → Int → Option J
  | .st _, _ => none
  | .ps _ xs, k => if k < 0 then none else xs[k.toNat]?
  | .rn _ n x, k => if k < 0 then none else if k < n then some x else none
def J.find : J → List PyData → Option Int
  | .st i, [] => some i
  | .ps _ _, [] => none
  | .rn _ _ _, [] => none
  | j, .int k :: r => match j.part k with
    | none => none
    | some y => y.find r
  | _, _ :: _ => none
def fdD (j : J) : PyData → Option Int
  | .tuple ds => j.find ds
  | _ => none
def opV : Option Int → V
  | none => .non
  | some i => .int i
def PartR (K : PySem.W.Frag) (H : Hp) (r : V) : Option J → Prop
  | none => r = .non
  | some y => Dp K H r y.toD
def spPart (K : PySem.W.Frag) : Sp := fun vs H Q _ => ∃ (v : V) (j : J) (k : Int), vs = [v, .int k] ∧ Dp K H v j.toD ∧ ∀ (H' : Hp) (r : V), Same H H' → PartR K H' r (j.part k) → Q r H'
def spFind (K : PySem.W.Frag) : Sp := fun vs H Q _ => ∃ (v u : V) (j : J) (p : Addr) (d : PyData), vs = [v, u] ∧ Dp K H v j.toD ∧ Dq K p H u d ∧ d.bulk ≤ 80000 ∧ ∀ H', Same H H' → Q (opV (fdD j d)) H'
theorem idx_ints : ∀ {ds : List PyData}, ds.all isI = true → ∃ a : List Int, ds = a.map .int
  | [], _ => ⟨[], rfl⟩
  | d :: ds, h => by
    rw [List.all_cons, Bool.and_eq_true] at h
    obtain ⟨a, rfl⟩ := idx_ints h.2
    cases d with
    | int i => exact ⟨i :: a, rfl⟩
    | _ => cases h.1
theorem find_not : ∀ {ds : List PyData} (j : J), ds.all isI = false → j.find ds = none
  | [], _, h => by cases h
  | d :: ds, j, h => by
    cases d with
    | int k =>
      have h' : ds.all isI = false := by simpa [isI] using h
      have e : j.find (.int k :: ds) = match j.part k with
        | none => none
        | some y => y.find ds := by cases j <;> rfl
      rw [e]
      cases j.part k with
      | none => rfl
      | some y => exact find_not y h'
    | _ => cases j <;> rfl
theorem find_int (j : J) (k : Int) (ds : List PyData) : j.find (.int k :: ds) = match j.part k with
    | none => none
    | some y => y.find ds := by cases j <;> rfl
theorem atI_exF {vs : List V} {r : Int} (h0 : 0 ≤ r) (h1 : r < (vs.length : Int)) : ∃ v, vs[r.toNat]? = some v ∧ atI vs r = some v := by
  have hk : r.toNat < vs.length := by omega
  exact ⟨vs[r.toNat], List.getElem?_eq_getElem hk, atI_at (j := r.toNat) (by omega) (List.getElem?_eq_getElem hk)⟩
theorem dq_len_bulk : ∀ ds : List PyData, ds.length ≤ PyData.bulkAll ds
  | [] => by simp [PyData.bulkAll]
  | d :: ds => by
    have := dq_len_bulk ds
    simp only [PyData.bulkAll, List.length_cons]
    omega
section
variable {P : Program} {w : World} {K : PySem.W.Frag} {mg : Str → Option Value} {base : Heap}
theorem ok_isintQ (T : Txt K mg) : FnOk P w K mg base CX0 1 T.f_is_integer T.d_is_integer ["value"] (spIsIntQ K) := by
  refine T.F_is_integer.ok sc_is_integer (fun vs H Q E h => ?_) (fun cdv A outer s H vs Q E hr h => ?_)
  · obtain ⟨v, p, d, rfl, _⟩ := h
    rfl
  obtain ⟨v, p, d, rfl, hd, q⟩ := h
  refine ⟨_, (pss_one (ps_ret (pe_and (pe_callB (r := rIsQ K) call_isQ (by rfl) T.n_isinstance (by decide +kernel) (pa_cons (pv 0) (pa_cons (pe_bltn (v := .ty "int") (by rfl) T.n_int (by decide +kernel) rfl) pa_nil))) (pe_one (pe_not (pe_callB (r := rIsQ K) call_isQ (by rfl) T.n_isinstance (by decide +kernel) (pa_cons (pv 0) (pa_cons (pe_bltn (v := .ty "bool") (by rfl) T.n_bool (by decide +kernel) rfl) pa_nil)))))))), ?_⟩
  rw [← isI_eq] at q
  refine ⟨_, rfl, v, _, p, d, _, rfl, hd, kit_int d, _, rfl, ?_⟩
  cases e : isInt d with
  | false =>
    refine iteF ?_
    rw [e] at q
    exact q
  | true =>
    refine iteT ⟨_, rfl, v, _, p, d, _, rfl, hd, kit_bool d, _, rfl, ?_⟩
    rw [e] at q
    exact q
theorem ok_idx (T : Txt K mg) : FnOk P w K mg base CX0 2 T.f_is_index_tuple T.d_is_index_tuple ["value"] (spIdx K) := by
  have g_is_integer := ok_isintQ (P := P) (w := w) (base := base) T
  refine T.F_is_index_tuple.ok sc_is_index_tuple (fun vs H Q E h => ?_) (fun cdv A outer s H vs Q E hr h => ?_)
  · obtain ⟨v, p, d, rfl, _⟩ := h
    rfl
  obtain ⟨v, p, d, rfl, hd, hb, q⟩ := h
  refine ⟨_, (pss_one (ps_ret (pe_and (pe_callB (r := rIsQ K) call_isQ (by rfl) T.n_isinstance (by decide +kernel) (pa_cons (pv 0) (pa_cons (pe_bltn (v := .ty "tuple") (by rfl) T.n_tuple (by decide +kernel) rfl) pa_nil))) (pe_one (pe_callB (r := rAll K) (cr_all rfl) (by rfl) T.n_all (by decide +kernel) (pa_cons (pe_lc (own := [("index", 1)]) (g := (gName 1)) (by rfl) sc_is_index_tuple.nd (pi_tup (pv 0)) (blkOk_by (N := N_is_index_tuple) (sc := (defScope s_is_index_tuple)) (by decide +kernel)) (fun _ _ _ _ _ => (pg_name (i := 1) sc_is_index_tuple.nd rfl (Or.inl rfl))) (fun _ _ _ _ _ => pts_nil) (fun _ _ _ _ _ => (pe_call g_is_integer (hr.mono (by omega)) rfl T.m_is_integer T.F_is_integer.kp T.b_is_integer .nil pass0 (pa_cons (pv 1) pa_nil)))) pa_nil)))))), ?_⟩
  refine ⟨_, rfl, v, _, p, d, _, rfl, hd, kit_tuple d, _, rfl, ?_⟩
  cases et : isTup d with
  | false =>
    refine iteF ?_
    have e : isIdx d = false := by cases d <;> first | rfl | cases et
    rw [e] at q
    exact q _ (Same.refl _)
  | true =>
  obtain ⟨ds, rfl⟩ : ∃ ds, d = .tuple ds := by
    cases d <;> first | exact ⟨_, rfl⟩ | cases et
  obtain ⟨a, xs, rfl, hxs, hall⟩ := dq_tup_inv hd
  have hlen : xs.length = ds.length := dqAll_length hall
  have hbl : ds.length ≤ 80000 := by
    have := dq_len_bulk ds
    simp only [PyData.bulk] at hb
    omega
  refine iteT ?_
  refine ⟨_, rfl, a, rfl, ⟨xs, hxs⟩, fun D hD => ?_⟩
  refine lc_tup (K := K) (a := a) (xs := xs) (fun i H' => Same H H' ∧ H' D = some (.lst (((ds.take i).map isI).map V.bl))) ?_ ?_ ?_ ?_
  · exact ⟨same_new hD, by simpa using upd_same⟩
  · rintro i H' _ ⟨s1, _⟩
    exact same_sqT s1 hxs
  · rintro i x H' hi ⟨s1, eD⟩
    obtain ⟨d, ed, hd'⟩ := dqAll_get hall hi
    refine ⟨rfl, ?_⟩
    unfold tYes
    refine iteT ?_
    refine ⟨_, rfl, x, p, d, rfl, hd'.keep (Same.kp s1), _, eD, ?_, ?_, ?_⟩
    · rw [List.length_map, List.length_map, List.length_take, sizeLine_eq]
      omega
    · intro c o hc
      rw [upd_ne (ne_of_none hc hD)]
      exact s1 _ _ hc
    · rw [upd_same, take_step isI ed, List.map_append]
      rfl
  · rintro H' ⟨s1, eD⟩
    rw [hlen, List.take_length] at eD
    refine ⟨D, _, rfl, SqL.of eD, ?_⟩
    have e : ((ds.map isI).all id) = isIdx (.tuple ds) := by simp [isIdx, List.all_map, Function.comp_def]
    rw [e]
    exact q _ s1
theorem ok_part (T : Txt K mg) : FnOk P w K mg base CX0 2 T.f__part_at T.d__part_at ["job", "index"] (spPart K) := by
  have g_is_integer := ok_isint (P := P) (w := w) (base := base) T
  refine T.F__part_at.ok sc__part_at (fun vs H Q E h => ?_) (fun cdv A outer s H vs Q E hr h => ?_)
  · obtain ⟨v, j, k, rfl, _⟩ := h
    rfl
  obtain ⟨v, j, k, rfl, hd, q⟩ := h
  refine ⟨_, (pss_cons (ps_if (PW.pt (pw_or (pt_val (pe_call g_is_integer (hr.mono (by omega)) rfl T.m_is_integer T.F_is_integer.kp T.b_is_integer .nil pass0 (pa_cons (pv 0) pa_nil))) (pw_or1 (pt_cmpR op_lt (pv 1) pe_int (nomark _))))) (pss_one (ps_ret pe_non)) pss_nil)
      (pss_cons (ps_if (pt_cmpR (r := rIn K false) op_in_seq (pe_ix (r := rIxT K) ix_tup (pv 0) pe_int (fun _ _ => rfl)) (pe_tup (pa_cons pe_str (pa_cons pe_str pa_nil))) (by rfl)) (pss_one (ps_ret (pe_ifExp (pt_cmpR op_lt (pv 1) (pe_callB (r := rLenS K) call_lenS (by rfl) T.n_len (by decide +kernel) (pa_cons (pe_ix (r := rIxT K) ix_tup (pv 0) pe_int (fun _ _ => rfl)) pa_nil)) (nomark _)) (pe_ix (r := rIxT K) ix_tup (pe_ix (r := rIxT K) ix_tup (pv 0) pe_int (fun _ _ => rfl)) (pv 1) (fun _ _ => rfl)) pe_non))) pss_nil)
      (pss_one (ps_ret (pe_ifExp (pt_cmpR op_lt (pv 1) (pe_ix (r := rIxT K) ix_tup (pv 0) pe_int (fun _ _ => rfl)) (nomark _)) (pe_ix (r := rIxT K) ix_tup (pv 0) pe_int (fun _ _ => rfl)) pe_non))))), ?_⟩
  refine ⟨_, rfl, v, _, rfl, hd, _, rfl, ?_⟩
  cases j with
  | st i =>
    refine iteT ?_
    exact q _ _ (Same.refl _) rfl
  | ps b xs =>
    refine iteF ?_
    refine ⟨_, rfl, _, _, rfl, rfl, _, rfl, ?_⟩
    refine ite2 (fun z => ?_) (fun z => ?_)
    · refine q _ _ (Same.refl _) ?_
      simp only [J.part]
      rw [if_pos (of_decide_eq_true z)]
      rfl
    have z' : ¬ k < 0 := fun y => z (decide_eq_true y)
    have hk0 : 0 ≤ k := by omega
    obtain ⟨c, d, vs, rfl, hys, hvs, hall⟩ := ps_inv hd
    have len : vs.length = xs.length := parts_len hall
    refine ⟨_, rfl, _, _, _, _, rfl, rfl, hys, rfl, (by show 2 ≤ sizeLine; decide), fun t ht => ?_⟩
    refine ⟨t, _, rfl, .inr (SqT.of upd_same), rfl, rfl, _, rfl, ?_⟩
    have s2 : Same H (upd H t (.tup [.str "seq", .str "par"])) := same_new ht
    show if inV (.str (kwP b)) [.str "seq", .str "par"] = true then _ else _
    rw [w_in_parts]
    refine iteT ?_
    generalize (upd H t (.tup [.str "seq", .str "par"])) = H2 at s2 ⊢
    refine ⟨_, rfl, _, rfl, _, _, _, _, rfl, rfl, same_sqT s2 hys, rfl, d, vs, rfl, .inr (same_sqT s2 hvs), _, _, rfl, rfl, _, rfl, ?_⟩
    refine ite2 (fun y => ?_) (fun y => ?_)
    · have y' : k < (vs.length : Int) := of_decide_eq_true y
      obtain ⟨z, ez, eat⟩ := atI_exF (vs := vs) hk0 y'
      obtain ⟨j', ej', _, dj'⟩ := parts_at hall ez
      refine ⟨_, rfl, _, _, _, _, rfl, rfl, same_sqT s2 hys, rfl, _, rfl, _, _, _, _, rfl, rfl, same_sqT s2 hvs, eat, ?_⟩
      refine q _ _ s2 ?_
      simp only [J.part]
      rw [if_neg z', ej']
      exact dp_same s2 dj'
    · have y' : ¬ k < (vs.length : Int) := fun z => y (decide_eq_true z)
      refine q _ _ s2 ?_
      simp only [J.part]
      rw [if_neg z', List.getElem?_eq_none (by omega)]
      rfl
  | rn b n x =>
    refine iteF ?_
    refine ⟨_, rfl, _, _, rfl, rfl, _, rfl, ?_⟩
    refine ite2 (fun z => ?_) (fun z => ?_)
    · refine q _ _ (Same.refl _) ?_
      simp only [J.part]
      rw [if_pos (of_decide_eq_true z)]
      rfl
    have z' : ¬ k < 0 := fun y => z (decide_eq_true y)
    obtain ⟨c, y, rfl, hys, hx⟩ := rn_inv hd
    refine ⟨_, rfl, _, _, _, _, rfl, rfl, hys, rfl, (by show 2 ≤ sizeLine; decide), fun t ht => ?_⟩
    refine ⟨t, _, rfl, .inr (SqT.of upd_same), rfl, rfl, _, rfl, ?_⟩
    have s2 : Same H (upd H t (.tup [.str "seq", .str "par"])) := same_new ht
    show if inV (.str (kwR b)) [.str "seq", .str "par"] = true then _ else _
    rw [w_in_parts_no]
    refine iteF ?_
    generalize (upd H t (.tup [.str "seq", .str "par"])) = H2 at s2 ⊢
    refine ⟨_, rfl, _, rfl, _, _, _, _, rfl, rfl, same_sqT s2 hys, rfl, _, _, rfl, rfl, _, rfl, ?_⟩
    refine ite2 (fun y => ?_) (fun y => ?_)
    · refine ⟨_, rfl, _, _, _, _, rfl, rfl, same_sqT s2 hys, rfl, ?_⟩
      refine q _ _ s2 ?_
      simp only [J.part]
      rw [if_neg z', if_pos (of_decide_eq_true y)]
      exact dp_same s2 hx
    · refine q _ _ s2 ?_
      simp only [J.part]
      rw [if_neg z', if_neg (fun z => y (decide_eq_true z))]
      rfl
theorem ok_find (T : Txt K mg) : FnOk P w K mg base CX0 3 T.f_find_step T.d_find_step ["job", "value"] (spFind K) := by
  have g_is_integer := ok_isint (P := P) (w := w) (base := base) T
  have g_is_index_tuple := ok_idx (P := P) (w := w) (base := base) T
  have g__part_at := ok_part (P := P) (w := w) (base := base) T
  refine T.F_find_step.ok sc_find_step (fun vs H Q E h => ?_) (fun cdv A outer s H vs Q E hr h => ?_)
  · obtain ⟨v, u, j, p, d, rfl, _⟩ := h
    rfl
  obtain ⟨v, u, j, p, d, rfl, hd, hu, hb, q⟩ := h
  refine ⟨_, (pss_cons (ps_if (pt_not (pt_val (pe_call g_is_index_tuple (hr.mono (by omega)) rfl T.m_is_index_tuple T.F_is_index_tuple.kp T.b_is_index_tuple .nil pass0 (pa_cons (pv 1) pa_nil)))) (pss_one (ps_ret pe_non)) pss_nil)
      (pss_cons (ps_set (i := 2) sc_find_step.nd rfl (Or.inl rfl) (pv 0))
      (pss_cons (ps_for PassesOwn.never rfl (pi_tup (pv 1)) (pg_name (i := 3) sc_find_step.nd rfl (Or.inl rfl))
        (pss_cons (ps_set (i := 2) sc_find_step.nd rfl (Or.inl rfl) (pe_call g__part_at (hr.mono (by omega)) rfl T.m__part_at T.F__part_at.kp T.b__part_at .nil pass0 (pa_cons (pv 2) (pa_cons (pv 3) pa_nil))))
        (pss_one (ps_if (pt_cmpR op_isN (pv 2) pe_non (nomark _)) (pss_one (ps_ret pe_non)) pss_nil))))
      (pss_one (ps_ret (pe_ifExp (pt_val (pe_call g_is_integer (hr.mono (by omega)) rfl T.m_is_integer T.F_is_integer.kp T.b_is_integer .nil pass0 (pa_cons (pv 2) pa_nil))) (pv 2) pe_non)))))), ?_⟩
  refine ⟨_, rfl, u, p, d, rfl, hu, hb, fun H1 s1 => ?_⟩
  refine ⟨_, rfl, ?_⟩
  cases ei : isIdx d with
  | false =>
    refine iteT ?_
    have e : fdD j d = none := by
      cases d with
      | tuple ds => exact find_not j ei
      | _ => rfl
    rw [e] at q
    exact q _ s1
  | true =>
  refine iteF ?_
  obtain ⟨ds, rfl⟩ : ∃ ds, d = .tuple ds := by
    cases d <;> first | exact ⟨_, rfl⟩ | cases ei
  obtain ⟨a, rfl⟩ := idx_ints ei
  obtain ⟨t, xs, rfl, hxs, hall⟩ := dq_tup_inv hu
  have hlen : xs.length = a.length := by rw [dqAll_length hall, List.length_map]
  simp only [fdD] at q
  refine ⟨_, rfl, _, rfl, t, rfl, ⟨xs, same_sqT s1 hxs⟩, ?_⟩
  refine for_tup (K := K) (a := t) (xs := xs) (fun i σ H' => ∃ (z : V) (y : J) (y3 : Option V), σ = [some v, some (.ref t), some z, y3] ∧ Same H H' ∧ Dp K H' z y.toD ∧ j.find (a.map .int) = y.find ((a.drop i).map .int))
    ⟨v, j, none, rfl, s1, dp_same s1 hd, rfl⟩ (fun i σ H' _ ⟨_, _, _, _, s2, _⟩ => same_sqT s2 hxs) ?_ ?_
  · rintro i x σ H' hi ⟨z, y, y3, rfl, s2, hz, ef⟩
    obtain ⟨d, ed, hd'⟩ := dqAll_get hall hi
    rw [List.getElem?_map] at ed
    obtain ⟨k, ek, rfl⟩ := Option.map_eq_some_iff.mp ed
    obtain rfl := dq_int_inv hd'
    obtain ⟨hlt, ek'⟩ := List.getElem?_eq_some_iff.mp ek
    have da : a.drop i = k :: a.drop (i + 1) := by rw [← ek']; exact List.drop_eq_getElem_cons hlt
    rw [da, List.map_cons, find_int] at ef
    refine ⟨_, rfl, _, rfl, z, y, k, rfl, hz, fun H3 r s3 hr3 => ?_⟩
    cases ep : y.part k with
    | none =>
      rw [ep] at hr3 ef
      obtain rfl : r = .non := hr3
      refine ⟨_, rfl, rfl, _, rfl, ?_⟩
      refine iteT ?_
      rw [ef] at q
      exact q _ (s2.trans s3)
    | some y' =>
      rw [ep] at hr3 ef
      have hr' : Dp K H3 r y'.toD := hr3
      have go : ∀ (z2 : V) (σ2 : L2.St), σ2 = [some v, some (.ref t), some r, some (.int k)] → ∃ (z : V) (y : J) (y3 : Option V), σ2 = [some v, some (.ref t), some z, y3] ∧ Same H H3 ∧ Dp K H3 z y.toD ∧ j.find (a.map .int) = y.find ((a.drop (i + 1)).map .int) := fun _ _ e => ⟨r, y', _, e, s2.trans s3, hr', ef⟩
      cases y' with
      | st i =>
        obtain rfl := dp_int_inv hr'
        refine ⟨_, rfl, rfl, _, rfl, ?_⟩
        refine iteF ?_
        exact go .non _ rfl
      | ps b xs =>
        obtain ⟨_, _, _, rfl, _⟩ := ps_inv hr'
        refine ⟨_, rfl, rfl, _, rfl, ?_⟩
        refine iteF ?_
        exact go .non _ rfl
      | rn b n x =>
        obtain ⟨_, _, rfl, _⟩ := rn_inv hr'
        refine ⟨_, rfl, rfl, _, rfl, ?_⟩
        refine iteF ?_
        exact go .non _ rfl
  · rintro σ H' ⟨z, y, y3, rfl, s2, hz, ef⟩
    rw [hlen, List.drop_length, List.map_nil] at ef
    refine ⟨_, rfl, z, _, rfl, hz, _, rfl, ?_⟩
    rw [ef] at q
    cases y with
    | st i =>
      obtain rfl := dp_int_inv hz
      refine iteT ?_
      exact ⟨_, rfl, q _ s2⟩
    | ps b xs =>
      refine iteF ?_
      exact q _ s2
    | rn b n x =>
      refine iteF ?_
      exact q _ s2
end
/-! block Pot: _law_pot, _law_take, _law_step -/
/-- a pot at p: what is left of the cell, the mixed number, how many were taken (at most n) -/
def Pot (H : Hp) (p : Addr) (n : Nat) : Prop := ∃ a b c : Int, H p = some (.lst [.int a, .int b, .int c]) ∧ (0 ≤ a ∧ a.natAbs < 2 ^ 3000) ∧ (0 ≤ b ∧ b < 2305843009213693951) ∧ (0 ≤ c ∧ c ≤ (n : Int))
theorem Pot.lst {H : Hp} {p : Addr} {n : Nat} (h : Pot H p n) : ∃ l, H p = some (.lst l) := by
  obtain ⟨a, b, c, h, _⟩ := h
  exact ⟨_, h⟩
theorem Pot.mono {H : Hp} {p : Addr} {n m : Nat} (h : Pot H p n) (e : n ≤ m) : Pot H p m := by
  obtain ⟨a, b, c, h1, h2, h3, h4⟩ := h
  exact ⟨a, b, c, h1, h2, h3, h4.1, by omega⟩
theorem Pot.same {H H' : Hp} {p : Addr} {n : Nat} (h : Pot H p n) (s : Same H H') : Pot H' p n := by
  obtain ⟨a, b, c, h1, h2⟩ := h
  exact ⟨a, b, c, s _ _ h1, h2⟩
def spPot (K : PySem.W.Frag) : Sp := fun vs H Q _ => ∃ (a : Addr) (ns : List Int) (k : Int), vs = [.ref a, .int k] ∧ SqL K H a (ns.map V.int) ∧ ns.length ≤ 1000 ∧ 0 ≤ k ∧ k ≤ 1000 ∧
  ∀ (H' : Hp) (p : Addr), Same H H' → H p = none → Pot H' p 0 → Q (.ref p) H'
def spTake : Sp := fun vs H Q _ => ∃ (p : Addr) (n : Nat) (m : Int), vs = [.ref p, .int m] ∧ Pot H p n ∧ n ≤ 1099511627776 ∧ 0 < m ∧ m.natAbs < 2 ^ 200 ∧
  ∀ (H' : Hp) (r : Int), Sx p H H' → Pot H' p (n + 1) → 0 ≤ r → r < m → Q (.int r) H'
def spStep : Sp := fun vs H Q _ => ∃ (p : Addr) (n : Nat), vs = [.ref p] ∧ Pot H p n ∧ n + 4 ≤ 1099511627776 ∧
  ∀ (H' : Hp) (r : Int), Sx p H H' → Pot H' p (n + 4) → -M30 ≤ r → r ≤ M30 → Q (.int r) H'
theorem natAbs_lt {i : Int} {B : Nat} (h0 : 0 ≤ i) (h : i < (B : Int)) : i.natAbs < B := by omega
theorem big14 : ((((10 : Int) ^ (60 : Int).toNat) ^ (14 : Int).toNat)).natAbs < 2 ^ 3000 := by decide +kernel
theorem pos14 : 0 < ((10 : Int) ^ (60 : Int).toNat) ^ (14 : Int).toNat := by decide +kernel
theorem mod_big {z m : Int} {B : Nat} (hm : 0 < m) (hB : m.natAbs < B) : 0 ≤ z % m ∧ (z % m).natAbs < B := by
  have h1 := Int.emod_nonneg z (Int.ne_of_gt hm)
  have h2 := Int.emod_lt_of_pos z hm
  exact ⟨h1, by omega⟩
section
variable {P : Program} {w : World} {K : PySem.W.Frag} {mg : Str → Option Value} {base : Heap}
theorem ok_pot (T : Txt K mg) : FnOk P w K mg base CX0 1 T.f__law_pot T.d__law_pot ["_law_script", "_law_k"] (spPot K) := by
  refine T.F__law_pot.ok sc__law_pot (fun vs H Q E h => ?_) (fun cdv A outer s H vs Q E hr h => ?_)
  · obtain ⟨a, ns, k, rfl, _⟩ := h
    rfl
  obtain ⟨a, ns, k, rfl, hS, hlen, hk0, hk1, q⟩ := h
  refine ⟨_, (pss_cons (ps_set (i := 2) sc__law_pot.nd rfl (Or.inl rfl) pe_int)
      (C8.pss_cut (ps_if (pt_cmpR op_lt (pv 1) (pe_callB (r := rLenS K) call_lenS (by rfl) T.n_len (by decide +kernel) (pa_cons (pv 0) pa_nil)) (nomark _)) (pss_one (ps_set (i := 2) sc__law_pot.nd rfl (Or.inl rfl) (pe_op op_mod (pe_callB call_abs (by rfl) T.n_abs (by decide +kernel) (pa_cons (pe_ix (r := rIxL K) ix_list (pv 0) (pv 1) (fun _ _ => rfl)) pa_nil)) (pe_op op_powW (pe_op op_powW pe_int pe_int) pe_int)))) pss_nil)
      (pss_cons (ps_set (i := 3) sc__law_pot.nd rfl (Or.inl rfl) (pe_op op_mod (pe_op op_powW (pe_op op_add (pe_op op_add (pe_op op_mod (pv 2) pe_int) (pe_op op_mulW pe_int (pv 1))) pe_int) pe_int) pe_int))
      (pss_one (ps_ret (pe_lst (pa_cons (pe_op op_mulW (pv 2) (pe_callTy call_int1 (by rfl) T.n_int (by decide +kernel) (pa_cons (pe_cmpR op_ge (pv 2) (pe_op op_powW pe_int pe_int) (nomark _)) pa_nil))) (pa_cons (pv 3) (pa_cons pe_int pa_nil))))))))), ?_⟩
  refine ⟨fun σ' H' => ∃ cell : Int, σ' = [some (.ref a), some (.int k), some (.int cell), none] ∧ H' = H ∧ 0 ≤ cell ∧ cell.natAbs < 2 ^ 3000, ?_, ?_⟩
  · refine ⟨_, rfl, _, rfl, a, _, rfl, .inl hS, _, _, rfl, rfl, _, rfl, ?_⟩
    refine ite2 (fun c => ?_) (fun c => ?_)
    · have c' := of_decide_eq_true c
      rw [List.length_map] at c'
      obtain ⟨z, _, hz⟩ := atI_int (ns := ns) hk0 c'
      refine ⟨_, rfl, _, rfl, _, _, _, _, rfl, rfl, hS, hz, _, rfl, _, _, rfl, rfl, powW_of 4 (by decide) (by decide) (by decide), _, _, rfl, rfl, powW_of 200 (by decide) (by decide +kernel) (by decide), _, _, rfl, rfl, pos14, ?_⟩
      have hb := mod_big (z := if z < 0 then -z else z) pos14 big14
      exact ⟨_, rfl, rfl, hb⟩
    · exact ⟨0, rfl, rfl, by decide, by decide⟩
  · rintro σ' H' ⟨cell, rfl, rfl, hc0, hc1⟩
    walk_at "rd"
    refine ⟨(by show (0 : Int) < 2147483587; decide), ?_⟩
    walk_at "rd"
    refine ⟨wide_mul (a := 64) (b := 64) (by decide) (by omega) (by decide) (by decide) (by decide), ?_⟩
    walk_at "rd"
    refine ⟨powW_of 64 (by decide) (by omega) (by decide), ?_⟩
    walk_at "rd"
    refine ⟨(by show (0 : Int) < 2305843009213693951; decide), ?_⟩
    dsimp only
    generalize (cell % 2147483587 + 6151 * k + 3) ^ (5 : Int).toNat = pw
    have hm0 : 0 ≤ pw % 2305843009213693951 := by omega
    have hm1 : pw % 2305843009213693951 < 2305843009213693951 := by omega
    generalize pw % 2305843009213693951 = mixed at hm0 hm1 ⊢
    walk_at "rd"
    refine ⟨powW_of 4 (by decide) (by decide) (by decide), ?_⟩
    walk_at "rd"
    refine .inr ⟨_, rfl, ?_⟩
    walk_at "rd"
    refine ⟨wide_mul (a := 3000) (b := 1) hc1 (by split <;> decide) (by decide) (by decide) (by decide), ?_⟩
    dsimp only
    have hk : 0 ≤ cell * (if decide ((10 : Int) ^ (18 : Int).toNat ≤ cell) = true then 1 else 0) ∧ (cell * (if decide ((10 : Int) ^ (18 : Int).toNat ≤ cell) = true then 1 else 0)).natAbs < 2 ^ 3000 := by
      split
      · rw [Int.mul_one]
        exact ⟨hc0, hc1⟩
      · rw [Int.mul_zero]
        exact ⟨Int.le_refl _, by decide⟩
    generalize cell * (if decide ((10 : Int) ^ (18 : Int).toNat ≤ cell) = true then 1 else 0) = c2 at hk ⊢
    walk_at "rd"
    refine ⟨(by show 3 ≤ sizeLine; decide), fun p hp => ?_⟩
    exact q _ p (same_new hp) hp ⟨_, _, _, upd_same, hk, ⟨hm0, hm1⟩, by decide, by decide⟩
theorem ok_take (T : Txt K mg) : FnOk P w K mg base CX0 1 T.f__law_take T.d__law_take ["_law_pot_here", "_law_many"] spTake := by
  refine T.F__law_take.ok sc__law_take (fun vs H Q E h => ?_) (fun cdv A outer s H vs Q E hr h => ?_)
  · obtain ⟨p, n, m, rfl, _⟩ := h
    rfl
  obtain ⟨p, n, m, rfl, ⟨a, b, c, hp, ⟨a0, a1⟩, ⟨b0, b1⟩, c0, c1⟩, hn, hm, hm2, q⟩ := h
  refine ⟨_, (pss_cons (ps_if (pt_cmpR op_gt (pe_ix (r := rIxL K) ix_list (pv 0) pe_int (fun _ _ => rfl)) pe_int (nomark _)) (pss_cons (ps_set (i := 2) sc__law_take.nd rfl (Or.inl rfl) (pe_op op_mod (pe_ix (r := rIxL K) ix_list (pv 0) pe_int (fun _ _ => rfl)) (pv 1)))
        (pss_cons (ps_asg (pe_op op_fdivW (pe_ix (r := rIxL K) ix_list (pv 0) pe_int (fun _ _ => rfl)) (pv 1)) (pg_sub (pv 0) pe_int set_list))
        (pss_one (ps_ret (pv 2))))) pss_nil)
      (pss_cons (ps_asg (pe_op op_add (pe_ix (r := rIxL K) ix_list (pv 0) pe_int (fun _ _ => rfl)) pe_int) (pg_sub (pv 0) pe_int set_list))
      (pss_cons (ps_set (i := 3) sc__law_take.nd rfl (Or.inl rfl) (pe_op op_mod (pe_op op_powW (pe_op op_add (pe_ix (r := rIxL K) ix_list (pv 0) pe_int (fun _ _ => rfl)) (pe_op op_mulW pe_int (pe_ix (r := rIxL K) ix_list (pv 0) pe_int (fun _ _ => rfl)))) pe_int) pe_int))
      (pss_cons (ps_set (i := 4) sc__law_take.nd rfl (Or.inl rfl) (pe_op op_mod (pe_op op_powW (pe_op op_add (pe_op op_add (pv 3) (pe_op op_mod (pe_ix (r := rIxL K) ix_list (pv 0) pe_int (fun _ _ => rfl)) pe_int)) (pe_op op_mulW pe_int (pe_ix (r := rIxL K) ix_list (pv 0) pe_int (fun _ _ => rfl)))) pe_int) pe_int))
      (pss_one (ps_ret (pe_op op_mod (pe_op op_fdivW (pv 4) pe_int) (pv 1)))))))), ?_⟩
  refine ⟨_, rfl, _, _, _, _, rfl, rfl, SqL.of hp, rfl, _, _, rfl, rfl, _, rfl, ?_⟩
  refine ite2 (fun g => ?_) (fun g => ?_)
  · refine ⟨_, rfl, _, _, _, _, rfl, rfl, SqL.of hp, rfl, _, rfl, _, _, rfl, rfl, hm, ?_⟩
    refine ⟨_, rfl, _, _, _, _, rfl, rfl, SqL.of hp, rfl, _, rfl, _, _, rfl, rfl, wide_div hm hm2 (by decide) (by decide), ?_⟩
    refine ⟨_, rfl, _, _, _, _, rfl, rfl, hp, rfl, ?_⟩
    refine ⟨_, rfl, ?_⟩
    have d0 : 0 ≤ a / m := Int.ediv_nonneg a0 (by omega)
    have d1 : a / m ≤ a := Int.ediv_le_self m a0
    exact q _ _ sx_upd ⟨_, _, _, upd_same, ⟨d0, Nat.lt_of_le_of_lt (by omega) a1⟩, ⟨b0, b1⟩, c0, by omega⟩ (Int.emod_nonneg _ (by omega)) (Int.emod_lt_of_pos _ hm)
  · refine ⟨_, rfl, _, _, _, _, rfl, rfl, SqL.of hp, rfl, _, _, rfl, rfl, ?_⟩
    refine ⟨_, rfl, _, _, _, _, rfl, rfl, hp, rfl, ?_⟩
    dsimp only
    have hq : (upd H p (.lst [.int a, .int b, .int (c + 1)])) p = some (.lst [.int a, .int b, .int (c + 1)]) := upd_same
    refine ⟨_, rfl, _, _, _, _, rfl, rfl, SqL.of hq, rfl, _, rfl, _, _, _, _, rfl, rfl, SqL.of hq, rfl, _, _, rfl, rfl, wide_mul (a := 64) (b := 64) (by decide) (by omega) (by decide) (by decide) (by decide), ?_⟩
    walk_at "rd"
    refine ⟨powW_of 64 (by decide) (by omega) (by decide), ?_⟩
    walk_at "rd"
    refine ⟨(by show (0 : Int) < 2305843009213693921; decide), ?_⟩
    dsimp only
    generalize (b + 98317 * (c + 1)) ^ (3 : Int).toNat = pw
    have o0 : 0 ≤ pw % 2305843009213693921 := by omega
    have o1 : pw % 2305843009213693921 < 2305843009213693921 := by omega
    generalize pw % 2305843009213693921 = one at o0 o1 ⊢
    refine ⟨_, rfl, _, rfl, _, _, _, _, rfl, rfl, SqL.of hq, rfl, _, _, rfl, rfl, (by show (0 : Int) < 65521; decide), _, _, rfl, rfl, _, rfl, _, _, _, _, rfl, rfl, SqL.of hq, rfl, _, _, rfl, rfl, wide_mul (a := 64) (b := 64) (by decide) (by omega) (by decide) (by decide) (by decide), ?_⟩
    walk_at "rd"
    refine ⟨powW_of 64 (by decide) (by omega) (by decide), ?_⟩
    walk_at "rd"
    refine ⟨(by show (0 : Int) < 2305843009213693907; decide), ?_⟩
    dsimp only
    generalize (one + b % 65521 + 37 * (c + 1)) ^ (5 : Int).toNat % 2305843009213693907 = two
    walk_at "rd"
    refine ⟨wide_div (b := 12) (by decide) (by decide) (by decide) (by decide), ?_⟩
    walk_at "rd"
    refine ⟨hm, ?_⟩
    exact q _ _ sx_upd ⟨_, _, _, upd_same, ⟨a0, a1⟩, ⟨b0, b1⟩, by omega, by omega⟩ (Int.emod_nonneg _ (by omega)) (Int.emod_lt_of_pos _ hm)
theorem ok_step (T : Txt K mg) : FnOk P w K mg base CX0 2 T.f__law_step T.d__law_step ["_law_pot_here"] spStep := by
  have g__law_take : FnOk P w K mg base CX0 1 T.f__law_take T.d__law_take ["_law_pot_here", "_law_many"] spTake := ok_take T
  refine T.F__law_step.ok sc__law_step (fun vs H Q E h => ?_) (fun cdv A outer s H vs Q E hr h => ?_)
  · obtain ⟨p, n, rfl, _⟩ := h
    rfl
  obtain ⟨p, n, rfl, hp, hn, q⟩ := h
  refine ⟨_, (pss_cons (ps_set (i := 1) sc__law_step.nd rfl (Or.inl rfl) (pe_call g__law_take (hr.mono (by omega)) rfl T.m__law_take T.F__law_take.kp T.b__law_take .nil pass0 (pa_cons (pv 0) (pa_cons pe_int pa_nil))))
      (pss_cons (ps_if (pt_cmpR op_eq (pv 1) pe_int (nomark _)) (pss_one (ps_ret pe_int)) pss_nil)
      (pss_cons (ps_if (pt_cmpR op_eq (pv 1) pe_int (nomark _)) (pss_cons (ps_set (i := 2) sc__law_step.nd rfl (Or.inl rfl) (pe_op op_add (pe_op op_mulW (pe_call g__law_take (hr.mono (by omega)) rfl T.m__law_take T.F__law_take.kp T.b__law_take .nil pass0 (pa_cons (pv 0) (pa_cons (pe_op op_powW pe_int pe_int) pa_nil))) (pe_op op_powW pe_int pe_int)) (pe_call g__law_take (hr.mono (by omega)) rfl T.m__law_take T.F__law_take.kp T.b__law_take .nil pass0 (pa_cons (pv 0) (pa_cons (pe_op op_powW pe_int pe_int) pa_nil)))))
        (pss_one (ps_ret (pe_ix (r := rIxL K) ix_list (pe_lst (pa_cons (pv 2) (pa_cons (pe_op op_sub pe_int (pv 2)) (pa_cons (pe_op op_powW pe_int pe_int) (pa_cons (pe_op op_sub pe_int (pe_op op_powW pe_int pe_int)) pa_nil))))) (pe_call g__law_take (hr.mono (by omega)) rfl T.m__law_take T.F__law_take.kp T.b__law_take .nil pass0 (pa_cons (pv 0) (pa_cons pe_int pa_nil))) (fun _ _ => rfl))))) pss_nil)
      (pss_one (ps_ret (pe_op op_sub (pe_call g__law_take (hr.mono (by omega)) rfl T.m__law_take T.F__law_take.kp T.b__law_take .nil pass0 (pa_cons (pv 0) (pa_cons pe_int pa_nil))) pe_int)))))), ?_⟩
  refine ⟨_, rfl, p, n, 14, rfl, hp, by omega, by decide, by decide, fun H1 r1 s1 hp1 h0 h1 => ?_⟩
  refine ⟨_, rfl, rfl, _, rfl, ?_⟩
  refine ite2 (fun g => ?_) (fun g => ?_)
  · exact q _ _ s1 (hp1.mono (by omega)) (by decide) (by decide)
  refine ⟨_, rfl, rfl, _, rfl, ?_⟩
  refine ite2 (fun g => ?_) (fun g => ?_)
  · refine ⟨_, rfl, _, _, rfl, rfl, powW_of 4 (by decide) (by decide) (by decide), p, n + 1, _, rfl, hp1, by omega, by decide, by decide, fun H2 r2 s2 hp2 k0 k1 => ?_⟩
    walk_at "rd"
    refine ⟨powW_of 4 (by decide) (by decide) (by decide), ?_⟩
    have k1' : r2 < 1000000000000000 := k1
    refine ⟨_, _, rfl, rfl, wide_mul (a := 64) (b := 64) (by omega) (by decide) (by decide) (by decide) (by decide), ?_⟩
    refine ⟨_, rfl, _, _, rfl, rfl, powW_of 4 (by decide) (by decide) (by decide), p, n + 2, _, rfl, hp2, by omega, by decide, by decide, fun H3 r3 s3 hp3 j0 j1 => ?_⟩
    have j1' : r3 < 1000000000000000 := j1
    walk_at "rd"
    dsimp only
    have e15 : (10 : Int) ^ (15 : Int).toNat = 1000000000000000 := by decide
    rw [e15]
    have b0 : 0 ≤ r2 * 1000000000000000 + r3 := by omega
    have b1 : r2 * 1000000000000000 + r3 < M30 := by
      show _ < (1000000000000000000000000000000 : Int)
      omega
    generalize r2 * 1000000000000000 + r3 = great at b0 b1 ⊢
    walk_at "rd"
    refine ⟨powW_of 4 (by decide) (by decide) (by decide), ?_⟩
    walk_at "rd"
    refine ⟨powW_of 4 (by decide) (by decide) (by decide), ?_⟩
    walk_at "rd"
    have e30 : (10 : Int) ^ (30 : Int).toNat = M30 := by decide
    dsimp only
    rw [e30]
    refine ⟨(by show 4 ≤ sizeLine; decide), fun l hl => ?_⟩
    have hp4 := hp3.same (same_new (o := .lst [.int great, .int (0 - great), .int M30, .int (0 - M30)]) hl)
    refine ⟨_, rfl, p, n + 3, _, rfl, hp4, by omega, by decide, by decide, fun H4 r4 s4 hp5 i0 i1 => ?_⟩
    obtain ⟨z, hz, ez⟩ := atI_int (ns := [great, 0 - great, M30, 0 - M30]) i0 i1
    obtain ⟨lp, hlp⟩ := hp3.lst
    have nlp : l ≠ p := fun e => by rw [e, hlp] at hl; cases hl
    refine ⟨_, _, _, _, rfl, rfl, SqL.of (s4 l _ nlp upd_same), ez, ?_⟩
    refine q _ _ (s1.trans (s2.trans (s3.trans ((sx_new hl).trans s4)))) hp5 ?_ ?_
    · simp only [List.mem_cons, List.not_mem_nil, or_false] at hz
      rcases hz with rfl | rfl | rfl | rfl <;> (try simp only [M30] at *) <;> omega
    · simp only [List.mem_cons, List.not_mem_nil, or_false] at hz
      rcases hz with rfl | rfl | rfl | rfl <;> (try simp only [M30] at *) <;> omega
  · refine ⟨_, rfl, p, n + 1, _, rfl, hp1, by omega, by decide, by decide, fun H2 r2 s2 hp2 k0 k1 => ?_⟩
    walk_at "rd"
    refine q _ _ (s1.trans s2) (hp2.mono (by omega)) ?_ ?_
    · show -(1000000000000000000000000000000 : Int) ≤ _
      omega
    · show _ ≤ (1000000000000000000000000000000 : Int)
      omega
end
/-! block Job: _law_job, the drawn jobs -/
def TB : Nat → Nat
  | 0 => 20
  | n + 1 => 20 + 3 * TB n
def NB : Nat → Int
  | 0 => 1
  | 1 => 1
  | 2 => 5
  | n + 3 => 1 + 3 * NB (n + 2)
mutual
/-- all numbers in bounds, few parts -/
def J.small : J → Prop
  | .st i => -M30 ≤ i ∧ i ≤ M30
  | .ps _ xs => xs.length ≤ 4 ∧ J.smallL xs
  | .rn _ n x => (0 ≤ n ∧ n ≤ M30) ∧ x.small
def J.smallL : List J → Prop
  | [] => True
  | x :: xs => x.small ∧ J.smallL xs
end
mutual
/-- all numbers of rounds and copies are among these -/
def J.cin (cs : List Int) : J → Prop
  | .st _ => True
  | .ps _ xs => J.cinL cs xs
  | .rn _ n x => n ∈ cs ∧ J.cin cs x
def J.cinL (cs : List Int) : List J → Prop
  | [] => True
  | x :: xs => J.cin cs x ∧ J.cinL cs xs
end
theorem J.cinL_app (cs : List Int) : ∀ xs ys : List J, J.cinL cs (xs ++ ys) ↔ J.cinL cs xs ∧ J.cinL cs ys
  | [], ys => by simp [J.cinL]
  | x :: xs, ys => by simp only [List.cons_append, J.cinL, J.cinL_app cs xs ys, and_assoc]
structure GenOk (cs : List Int) (n : Nat) (j : J) : Prop where
  cin : j.cin cs
  deep : j.deep ≤ max n 1
  nodes : j.nodes ≤ NB n
  small : j.small
structure GensOk (cs : List Int) (n : Nat) (js : List J) : Prop where
  cin : J.cinL cs js
  deep : J.deepL js ≤ max n 1
  nodes : J.nodesL js ≤ js.length * NB n
  small : J.smallL js
theorem NB_pos : ∀ n, 1 ≤ NB n
  | 0 => by decide
  | 1 => by decide
  | 2 => by decide
  | n + 3 => by
    have := NB_pos (n + 2)
    simp only [NB]
    omega
theorem J.deepL_app : ∀ xs ys : List J, J.deepL (xs ++ ys) = max (J.deepL xs) (J.deepL ys)
  | [], ys => by simp [J.deepL]
  | x :: xs, ys => by simp only [List.cons_append, J.deepL, J.deepL_app xs ys]; omega
theorem J.nodesL_app : ∀ xs ys : List J, J.nodesL (xs ++ ys) = J.nodesL xs + J.nodesL ys
  | [], ys => by simp [J.nodesL]
  | x :: xs, ys => by simp only [List.cons_append, J.nodesL, J.nodesL_app xs ys]; omega
theorem J.smallL_app : ∀ xs ys : List J, J.smallL (xs ++ ys) ↔ J.smallL xs ∧ J.smallL ys
  | [], ys => by simp [J.smallL]
  | x :: xs, ys => by simp only [List.cons_append, J.smallL, J.smallL_app xs ys, and_assoc]
theorem J.toDs_app : ∀ xs ys : List J, J.toDs (xs ++ ys) = J.toDs xs ++ J.toDs ys
  | [], ys => by simp [J.toDs]
  | x :: xs, ys => by simp only [List.cons_append, J.toDs, J.toDs_app xs ys]
theorem GensOk.nil {cs : List Int} {n : Nat} : GensOk cs n [] := ⟨trivial, by simp [J.deepL], by simp [J.nodesL], trivial⟩
theorem GensOk.snoc {cs : List Int} {n : Nat} {js : List J} {j : J} (h : GensOk cs n js) (g : GenOk cs n j) : GensOk cs n (js ++ [j]) := by
  refine ⟨(J.cinL_app _ _ _).mpr ⟨h.cin, g.cin, trivial⟩, ?_, ?_, ?_⟩
  · rw [J.deepL_app]
    have := h.deep
    have := g.deep
    simp only [J.deepL]
    omega
  · rw [J.nodesL_app, List.length_append, List.length_singleton]
    have h1 := h.nodes
    have h2 := g.nodes
    simp only [J.nodesL]
    have e : (((js.length + 1 : Nat) : Int)) * NB n = js.length * NB n + NB n := by
      rw [Int.natCast_add, Int.add_mul]
      simp
    rw [e]
    omega
  · rw [J.smallL_app]
    exact ⟨h.small, g.small, trivial⟩
theorem GenOk.step {cs : List Int} {n : Nat} {i : Int} (h1 : -M30 ≤ i) (h2 : i ≤ M30) : GenOk cs n (.st i) := by
  refine ⟨trivial, ?_, ?_, ?_⟩
  · simp only [J.deep]
    omega
  · simp only [J.nodes]
    exact NB_pos n
  · simp only [J.small]
    exact ⟨h1, h2⟩
/-- up to four steps in a row -/
theorem GenOk.row {cs : List Int} {n : Nat} {js : List J} (h : GensOk cs 1 js) (hl : js.length ≤ 4) : GenOk cs (n + 2) (.ps false js) := by
  have h1 := h.deep
  have h2 := h.nodes
  refine ⟨h.cin, ?_, ?_, ?_⟩
  · simp only [J.deep]
    omega
  · simp only [J.nodes]
    have e : NB 1 = 1 := rfl
    rw [e] at h2
    have : 5 ≤ NB (n + 2) := by
      cases n with
      | zero => decide
      | succ n =>
        have : ∀ n, 5 ≤ NB (n + 2) := by
          intro n
          induction n with
          | zero => decide
          | succ n ih => simp only [NB] at *; omega
        exact this _
    omega
  · simp only [J.small]
    exact ⟨hl, h.small⟩
theorem GenOk.parts {cs : List Int} {n : Nat} {k : Bool} {js : List J} (h : GensOk cs (n + 1) js) (hl : js.length ≤ 3) : GenOk cs (n + 2) (.ps k js) := by
  have h1 := h.deep
  have h2 := h.nodes
  refine ⟨h.cin, ?_, ?_, ?_⟩
  · simp only [J.deep]
    omega
  · simp only [J.nodes]
    have p := NB_pos (n + 1)
    have b : (js.length : Int) * NB (n + 1) ≤ 3 * NB (n + 1) := Int.mul_le_mul_of_nonneg_right (by omega) (by omega)
    cases n with
    | zero => simp only [NB] at *; omega
    | succ n =>
      have e : NB (n + 1 + 1) = NB (n + 2) := rfl
      rw [e] at *
      simp only [NB]
      omega
  · simp only [J.small]
    exact ⟨by omega, h.small⟩
theorem GenOk.rounds {cs : List Int} {n : Nat} {k : Bool} {c : Int} {x : J} (h : GenOk cs (n + 1) x) (h0 : 0 ≤ c) (h1 : c ≤ M30) (hc : c ∈ cs) : GenOk cs (n + 2) (.rn k c x) := by
  have h2 := h.deep
  have h3 := h.nodes
  refine ⟨⟨hc, h.cin⟩, ?_, ?_, ?_⟩
  · simp only [J.deep]
    omega
  · simp only [J.nodes]
    have p := NB_pos (n + 1)
    cases n with
    | zero => simp only [NB] at *; omega
    | succ n =>
      have e : NB (n + 1 + 1) = NB (n + 2) := rfl
      rw [e] at *
      simp only [NB]
      omega
  · simp only [J.small]
    exact ⟨⟨h0, h1⟩, h.small⟩
theorem pick2 {r : Int} (f : Bool → Str) (h0 : 0 ≤ r) (h1 : r < 2) : ∃ b : Bool, atI [V.str (f false), V.str (f true)] r = some (.str (f b)) := by
  have : r = 0 ∨ r = 1 := by omega
  rcases this with rfl | rfl
  · exact ⟨false, rfl⟩
  · exact ⟨true, rfl⟩
theorem dp_ps {K : PySem.W.Frag} {H : Hp} {t : Addr} {k : Bool} {v : V} {js : List J} (h : H t = some (.tup [.str (kwP k), v])) (d : Dp K H v (.tuple (J.toDs js))) : Dp K H (.ref t) (J.ps k js).toD := by
  rw [J.toD]
  exact .tup (.inl (.inl h)) (.cons (.str _) (.cons d .nil))
theorem dp_rn {K : PySem.W.Frag} {H : Hp} {t : Addr} {k : Bool} {n : Int} {v : V} {j : J} (h : H t = some (.tup [.str (kwR k), .int n, v])) (d : Dp K H v j.toD) : Dp K H (.ref t) (J.rn k n j).toD := by
  rw [J.toD]
  exact .tup (.inl (.inl h)) (.cons (.str _) (.cons (.int _) (.cons d .nil)))
def spJob (K : PySem.W.Frag) (n : Nat) : Sp := fun vs H Q _ => ∃ (p a : Addr) (m : Nat) (cs : List Int), vs = [.ref p, .int (n : Int), .ref a] ∧ Pot H p m ∧ m + TB n ≤ 1099511627776 ∧ H a = some (.lst (cs.map V.int)) ∧ a ≠ p ∧
  0 < cs.length ∧ cs.length ≤ 100 ∧ (∀ c ∈ cs, 0 ≤ c ∧ c ≤ M30) ∧
  ∀ (H' : Hp) (r : V) (j : J), Sx p H H' → Pot H' p (m + TB n) → Dp K H' r j.toD → GenOk cs n j → Q r H'
section
variable {P : Program} {w : World} {K : PySem.W.Frag} {mg : Str → Option Value} {base : Heap}
/-- the list that a comprehension fills beside a pot: what its turns keep -/
structure Row (K : PySem.W.Frag) (cs : List Int) (H0 : Hp) (p D : Addr) (n m : Nat) (js : List J) (H : Hp) : Prop where
  sx : Sx p H0 H
  pot : Pot H p m
  gen : GensOk cs n js
  lst : ∃ vs, H D = some (.lst vs) ∧ DpAll K H vs (J.toDs js)
theorem Row.snoc {cs : List Int} {H0 H H' : Hp} {p D : Addr} {n m m' : Nat} {js : List J} {r : V} {j : J} (R : Row K cs H0 p D n m js H) (d0 : H0 D = none) (nDp : D ≠ p) (s : Sx p H H') (hp : Pot H' p m') (hd : Dp K H' r j.toD) (g : GenOk cs n j) :
    ∃ acc, H' D = some (.lst acc) ∧ acc.length = js.length ∧ Row K cs H0 p D n m' (js ++ [j]) (upd H' D (.lst (acc ++ [r]))) := by
  obtain ⟨vs, h1, h2⟩ := R.lst
  obtain ⟨l, hl⟩ := R.pot.lst
  have h3 : H' D = some (.lst vs) := s D _ nDp h1
  refine ⟨vs, h3, ?_, ?_, ?_, R.gen.snoc g, _, upd_same, ?_⟩
  · rw [dpAll_length h2, J.toDs_eq, List.length_map]
  · intro b o nb hb
    have nbD : b ≠ D := fun e => by rw [e, d0] at hb; cases hb
    rw [upd_ne nbD]
    exact s b o nb (R.sx b o nb hb)
  · obtain ⟨a, b, c, z1, z2⟩ := hp
    exact ⟨a, b, c, by rw [upd_ne nDp.symm]; exact z1, z2⟩
  · have k1 : ∀ a xs, SqT K H a xs → SqT K H' a xs := fun a xs z => s.sqT hl z
    have k2 : ∀ a xs, SqT K H' a xs → SqT K (upd H' D (.lst (vs ++ [r]))) a xs := fun a xs z => (sx_upd (p := D)).sqT h3 z
    rw [J.toDs_app]
    exact dpAll_append (dpAll_keep k2 (J.noLs _) (dpAll_keep k1 (J.noLs _) h2)) (dpAll_one (dp_keep k2 j.noL hd))
/-- the jobs drawn with a smaller depth than n -/
def spJobs (K : PySem.W.Frag) (n : Nat) : Sp := fun vs H Q E => ∃ d, d < n ∧ spJob K d vs H Q E
theorem ok_job_next (T : Txt K mg) {n : Nat} (g__law_job : FnOk P w K mg base CX0 (n + 2) T.f__law_job T.d__law_job ["_law_pot_here", "_law_deep", "_law_counts"] (spJobs K n)) :
    FnOk P w K mg base CX0 (n + 3) T.f__law_job T.d__law_job ["_law_pot_here", "_law_deep", "_law_counts"] (spJobs K (n + 1)) := by
  have g__law_take : FnOk P w K mg base CX0 1 T.f__law_take T.d__law_take ["_law_pot_here", "_law_many"] spTake := ok_take T
  have g__law_step : FnOk P w K mg base CX0 2 T.f__law_step T.d__law_step ["_law_pot_here"] spStep := ok_step T
  refine T.F__law_job.ok sc__law_job (fun vs H Q E h => ?_) (fun cdv A outer s H vs Q E hr h => ?_)
  · obtain ⟨d, _, p, a, m, cs, rfl, _⟩ := h
    rfl
  obtain ⟨d, hd, p, a, m, cs, rfl, hp, hm, ha, nap, c0, c1, hcs, q⟩ := h
  refine ⟨_, (pss_cons (ps_set (i := 3) sc__law_job.nd rfl (Or.inl rfl) (pe_call g__law_take (hr.mono (by omega)) rfl T.m__law_take T.F__law_take.kp T.b__law_take .nil pass0 (pa_cons (pv 0) (pa_cons pe_int pa_nil))))
      (pss_cons (ps_if (PW.pt (pw_or (pt_cmpR op_lt (pv 1) pe_int (nomark _)) (pw_or1 (pt_cmpR op_eq (pv 3) pe_int (nomark _))))) (pss_one (ps_ret (pe_call g__law_step (hr.mono (by omega)) rfl T.m__law_step T.F__law_step.kp T.b__law_step .nil pass0 (pa_cons (pv 0) pa_nil)))) pss_nil)
      (pss_cons (ps_if (pt_cmpR op_lt (pv 3) pe_int (nomark _)) (pss_cons (ps_set (i := 4) sc__law_job.nd rfl (Or.inl rfl) (pe_ix (r := rIxL K) ix_list (pe_lst (pa_cons pe_int (pa_cons pe_int (pa_cons pe_int (pa_cons pe_int pa_nil))))) (pe_call g__law_take (hr.mono (by omega)) rfl T.m__law_take T.F__law_take.kp T.b__law_take .nil pass0 (pa_cons (pv 0) (pa_cons pe_int pa_nil))) (fun _ _ => rfl)))
        (pss_one (ps_ret (pe_tup (pa_cons pe_str (pa_cons (pe_callTy (r := rTupS K) call_tupS (by rfl) T.n_tuple (by decide +kernel) (pa_cons (pe_lc (own := [("_law_turn", 5)]) (g := (gName 5)) (by rfl) sc__law_job.nd (pi_range1 rfl T.n_range (pa_cons (pv 4) pa_nil)) (blkOk_by (N := N__law_job) (sc := (defScope s__law_job)) (by decide +kernel)) (fun _ _ _ _ _ => (pg_name (i := 5) sc__law_job.nd rfl (Or.inl rfl))) (fun _ _ _ _ _ => pts_nil) (fun _ _ _ _ _ => (pe_call g__law_step (hr.mono (by omega)) rfl T.m__law_step T.F__law_step.kp T.b__law_step .nil pass0 (pa_cons (pv 0) pa_nil)))) pa_nil)) pa_nil)))))) pss_nil)
      (pss_cons (ps_if (pt_cmpR op_lt (pv 3) pe_int (nomark _)) (pss_cons (ps_set (i := 4) sc__law_job.nd rfl (Or.inl rfl) (pe_ix (r := rIxL K) ix_list (pe_lst (pa_cons pe_int (pa_cons pe_int (pa_cons pe_int (pa_cons pe_int (pa_cons pe_int (pa_cons pe_int pa_nil))))))) (pe_call g__law_take (hr.mono (by omega)) rfl T.m__law_take T.F__law_take.kp T.b__law_take .nil pass0 (pa_cons (pv 0) (pa_cons pe_int pa_nil))) (fun _ _ => rfl)))
        (pss_one (ps_ret (pe_tup (pa_cons (pe_ix (r := rIxL K) ix_list (pe_lst (pa_cons pe_str (pa_cons pe_str pa_nil))) (pe_op op_mod (pv 3) pe_int) (fun _ _ => rfl)) (pa_cons (pe_callTy (r := rTupS K) call_tupS (by rfl) T.n_tuple (by decide +kernel) (pa_cons (pe_lc (own := [("_law_turn", 5)]) (g := (gName 5)) (by rfl) sc__law_job.nd (pi_range1 rfl T.n_range (pa_cons (pv 4) pa_nil)) (blkOk_by (N := N__law_job) (sc := (defScope s__law_job)) (by decide +kernel)) (fun _ _ _ _ _ => (pg_name (i := 5) sc__law_job.nd rfl (Or.inl rfl))) (fun _ _ _ _ _ => pts_nil) (fun _ _ _ _ _ => (pe_call g__law_job (hr.mono (by omega)) rfl T.m__law_job T.F__law_job.kp T.b__law_job .nil pass0 (pa_cons (pv 0) (pa_cons (pe_op op_sub (pv 1) pe_int) (pa_cons (pv 2) pa_nil)))))) pa_nil)) pa_nil)))))) pss_nil)
      (pss_one (ps_ret (pe_tup (pa_cons (pe_ix (r := rIxL K) ix_list (pe_lst (pa_cons pe_str (pa_cons pe_str pa_nil))) (pe_op op_mod (pv 3) pe_int) (fun _ _ => rfl)) (pa_cons (pe_ix (r := rIxL K) ix_list (pv 2) (pe_call g__law_take (hr.mono (by omega)) rfl T.m__law_take T.F__law_take.kp T.b__law_take .nil pass0 (pa_cons (pv 0) (pa_cons (pe_callB (r := rLenS K) call_lenS (by rfl) T.n_len (by decide +kernel) (pa_cons (pv 2) pa_nil)) pa_nil))) (fun _ _ => rfl)) (pa_cons (pe_call g__law_job (hr.mono (by omega)) rfl T.m__law_job T.F__law_job.kp T.b__law_job .nil pass0 (pa_cons (pv 0) (pa_cons (pe_op op_sub (pv 1) pe_int) (pa_cons (pv 2) pa_nil)))) pa_nil)))))))))), ?_⟩
  have tb : 20 ≤ TB d := by cases d <;> simp only [TB] <;> omega
  refine ⟨_, rfl, p, m, 9, rfl, hp, by omega, by decide, by decide, fun H1 r1 s1 hp1 h0 h1 => ?_⟩
  have ha1 := s1 a _ nap ha
  refine ⟨_, rfl, _, _, rfl, rfl, _, rfl, ?_⟩
  -- one step
  have one : ∀ (R : V → Hp → Prop), R = Q → spStep [.ref p] H1 R E0 := by
    rintro R rfl
    exact ⟨p, m + 1, rfl, hp1, by omega, fun H2 r2 s2 hp2 k0 k1 => q _ _ (.st r2) (s1.trans s2) (hp2.mono (by omega)) (.int _) (.step k0 k1)⟩
  refine ite2 (fun g => ?_) (fun g => ?_)
  · refine iteT ⟨_, rfl, ?_⟩
    exact one _ rfl
  have d2 : 2 ≤ d := by
    have g' : ¬ ((d : Int) < 2) := fun z => g (decide_eq_true z)
    omega
  obtain ⟨e, rfl⟩ : ∃ e, d = e + 2 := ⟨d - 2, by omega⟩
  refine ⟨_, rfl, rfl, _, rfl, ?_⟩
  refine ite2 (fun g => ?_) (fun g => ?_)
  · refine ⟨_, rfl, ?_⟩
    exact one _ rfl
  refine ⟨_, rfl, _, _, rfl, rfl, _, rfl, ?_⟩
  have etb : TB (e + 2) = 20 + 3 * TB (e + 1) := rfl
  have tb1 : 20 ≤ TB (e + 1) := by simp only [TB]; omega
  refine ite2 (fun g => ?_) (fun g => ?_)
  · -- a row of steps
    refine ⟨(by show 4 ≤ sizeLine; decide), fun l hl => ?_⟩
    obtain ⟨lp, hlp⟩ := hp1.lst
    have nlp : l ≠ p := fun z => by rw [z, hlp] at hl; cases hl
    refine ⟨_, rfl, p, m + 1, _, rfl, hp1.same (same_new hl), by omega, by decide, by decide, fun H2 r2 s2 hp2 k0 k1 => ?_⟩
    obtain ⟨z, hz, ez⟩ := atI_int (ns := [3, 2, 4, 0]) k0 k1
    have hz4 : 0 ≤ z ∧ z ≤ 4 := by
      simp only [List.mem_cons, List.not_mem_nil, or_false] at hz
      omega
    refine ⟨_, _, _, _, rfl, rfl, SqL.of (s2 l _ nlp upd_same), ez, ?_⟩
    have s02 : Sx p H H2 := s1.trans ((sx_new hl).trans s2)
    have h2n : m + 1 + 1 + 4 * z.toNat ≤ m + TB (e + 2) := by omega
    refine ⟨_, rfl, z, rfl, by omega, by omega, fun D hD => ?_⟩
    have nDp : D ≠ p := fun y => by
      obtain ⟨_, y2⟩ := hp2.lst
      rw [y, y2] at hD
      cases hD
    refine lc_range (lo := 0) (n := z.toNat) (fun i H' => ∃ js, js.length = i ∧ Row K cs H2 p D 1 (m + 1 + 1 + 4 * i) js H') ?_ ?_ ?_
    · exact ⟨[], rfl, fun b o nb hb => by rw [upd_ne (ne_of_none hb hD)]; exact hb, (hp2.same (same_new hD)), .nil, [], upd_same, .nil⟩
    · rintro i H' hi ⟨js, ejs, R⟩
      refine ⟨rfl, ?_⟩
      unfold tYes
      refine iteT ?_
      refine ⟨_, rfl, p, m + 1 + 1 + 4 * i, rfl, R.pot, by omega, fun H4 r4 s4 hp4 j0 j1 => ?_⟩
      obtain ⟨acc, x1, x2, x3⟩ := R.snoc hD nDp s4 hp4 (.int _) (GenOk.step (cs := cs) (n := 1) j0 j1)
      exact ⟨acc, x1, small1000 (by omega), _, by rw [List.length_append, List.length_singleton, ejs], x3⟩
    · rintro H' ⟨js, ejs, R⟩
      obtain ⟨vs, y1, y2⟩ := R.lst
      refine ⟨D, vs, rfl, .inl ⟨SqL.of y1, fun t ht => ?_⟩⟩
      refine ⟨(by show 2 ≤ sizeLine; decide), fun u hu => ?_⟩
      have st : Same H' (upd (upd H' t (.tup vs)) u (.tup [.str "seq", .ref t])) := (same_new ht).trans (same_new hu)
      refine q _ _ (.ps false js) (s02.trans (R.sx.trans (Same.sx st))) ((R.pot.same st).mono (by omega)) ?_ (GenOk.row R.gen (by omega))
      refine dp_ps (k := false) (v := .ref t) upd_same (.tup (.inl (.inl ?_)) (dpAll_same st y2))
      exact same_new hu _ _ upd_same
  refine ⟨_, rfl, _, _, rfl, rfl, _, rfl, ?_⟩
  refine ite2 (fun g => ?_) (fun g => ?_)
  · -- parts
    refine ⟨(by show 6 ≤ sizeLine; decide), fun l hl => ?_⟩
    obtain ⟨lp, hlp⟩ := hp1.lst
    have nlp : l ≠ p := fun z => by rw [z, hlp] at hl; cases hl
    refine ⟨_, rfl, p, m + 1, _, rfl, hp1.same (same_new hl), by omega, by decide, by decide, fun H2 r2 s2 hp2 k0 k1 => ?_⟩
    obtain ⟨z, hz, ez⟩ := atI_int (ns := [2, 3, 2, 1, 3, 0]) k0 k1
    have hz4 : 0 ≤ z ∧ z ≤ 3 := by
      simp only [List.mem_cons, List.not_mem_nil, or_false] at hz
      omega
    refine ⟨_, _, _, _, rfl, rfl, SqL.of (s2 l _ nlp upd_same), ez, ?_⟩
    have s02 : Sx p H H2 := s1.trans ((sx_new hl).trans s2)
    -- the kind
    refine ⟨(by show 2 ≤ sizeLine; decide), fun l2 hl2 => ?_⟩
    obtain ⟨lp2, hlp2⟩ := hp2.lst
    refine ⟨_, rfl, _, _, rfl, rfl, (by show (0 : Int) < 2; decide), ?_⟩
    obtain ⟨kb, ekb⟩ := pick2 kwP (r := r1 % 2) (by omega) (by omega)
    refine ⟨_, _, _, _, rfl, rfl, SqL.of upd_same, ekb, ?_⟩
    have s03 : Sx p H (upd H2 l2 (.lst [.str "seq", .str "par"])) := s02.trans (sx_new hl2)
    have hp3 := hp2.same (same_new (o := .lst [.str "seq", .str "par"]) hl2)
    generalize (upd H2 l2 (.lst [.str "seq", .str "par"])) = H3 at s03 hp3 ⊢
    refine ⟨_, rfl, z, rfl, by omega, by omega, fun D hD => ?_⟩
    have nDp : D ≠ p := fun y => by
      obtain ⟨_, y2⟩ := hp3.lst
      rw [y, y2] at hD
      cases hD
    refine lc_range (lo := 0) (n := z.toNat) (fun i H' => ∃ js, js.length = i ∧ Row K cs H3 p D (e + 1) (m + 1 + 1 + TB (e + 1) * i) js H') ?_ ?_ ?_
    · exact ⟨[], rfl, fun b o nb hb => by rw [upd_ne (ne_of_none hb hD)]; exact hb, (hp3.same (same_new hD)), .nil, [], upd_same, .nil⟩
    · rintro i H' hi ⟨js, ejs, R⟩
      have hi3 : i ≤ 2 := by omega
      have hmul : TB (e + 1) * i ≤ TB (e + 1) * 2 := Nat.mul_le_mul_left _ hi3
      have hmul2 : TB (e + 1) * (i + 1) = TB (e + 1) * i + TB (e + 1) := Nat.mul_succ _ _
      refine ⟨rfl, ?_⟩
      unfold tYes
      refine iteT ?_
      refine ⟨_, rfl, _, rfl, _, _, rfl, rfl, _, rfl, e + 1, by omega, p, a, m + 1 + 1 + TB (e + 1) * i, cs, ?_, R.pot, by omega, R.sx a _ nap (s03 a _ nap ha), nap, c0, c1, hcs, fun H4 r4 j4 s4 hp4 d4 g4 => ?_⟩
      · have ee : ((e + 2 : Nat) : Int) - 1 = ((e + 1 : Nat) : Int) := by omega
        rw [← ee]
        rfl
      obtain ⟨acc, x1, x2, x3⟩ := R.snoc hD nDp s4 hp4 d4 g4
      rw [Nat.add_assoc _ (TB (e + 1) * i), ← hmul2] at x3
      exact ⟨acc, x1, small1000 (by omega), _, by rw [List.length_append, List.length_singleton, ejs], x3⟩
    · rintro H' ⟨js, ejs, R⟩
      obtain ⟨vs, y1, y2⟩ := R.lst
      refine ⟨D, vs, rfl, .inl ⟨SqL.of y1, fun t ht => ?_⟩⟩
      refine ⟨(by show 2 ≤ sizeLine; decide), fun u hu => ?_⟩
      have st : Same H' (upd (upd H' t (.tup vs)) u (.tup [.str (kwP kb), .ref t])) := (same_new ht).trans (same_new hu)
      have hz3 : z.toNat ≤ 3 := by omega
      have hmul : TB (e + 1) * z.toNat ≤ TB (e + 1) * 3 := Nat.mul_le_mul_left _ hz3
      refine q _ _ (.ps kb js) (s03.trans (R.sx.trans (Same.sx st))) ((R.pot.same st).mono (by omega)) ?_ (GenOk.parts R.gen (by omega))
      refine dp_ps (k := kb) (v := .ref t) upd_same (.tup (.inl (.inl ?_)) (dpAll_same st y2))
      exact same_new hu _ _ upd_same
  -- rounds, copies
  refine ⟨(by show 2 ≤ sizeLine; decide), fun l hl => ?_⟩
  refine ⟨_, rfl, _, _, rfl, rfl, (by show (0 : Int) < 2; decide), ?_⟩
  obtain ⟨kb, ekb⟩ := pick2 kwR (r := r1 % 2) (by omega) (by omega)
  refine ⟨_, _, _, _, rfl, rfl, SqL.of upd_same, ekb, ?_⟩
  have s02 : Sx p H (upd H1 l (.lst [.str "repeat", .str "copies"])) := s1.trans (sx_new hl)
  have hp2 := hp1.same (same_new (o := .lst [.str "repeat", .str "copies"]) hl)
  generalize (upd H1 l (.lst [.str "repeat", .str "copies"])) = H2 at s02 hp2 ⊢
  have ha2 := s02 a _ nap ha
  refine ⟨_, rfl, _, rfl, _, rfl, a, _, rfl, .inl (SqL.of ha2), p, m + 1, _, rfl, hp2, by omega, ?_, ?_, fun H3 r3 s3 hp3 k0 k1 => ?_⟩
  · show (0 : Int) < ((cs.map V.int).length : Int)
    rw [List.length_map]
    omega
  · show (((cs.map V.int).length : Int)).natAbs < 2 ^ 200
    rw [List.length_map]
    exact Nat.lt_of_le_of_lt (show ((cs.length : Int)).natAbs ≤ 100 by omega) (by decide)
  rw [List.length_map] at k1
  obtain ⟨z, hz, ez⟩ := atI_int (ns := cs) k0 k1
  have ha3 := s3 a _ nap ha2
  refine ⟨_, _, _, _, rfl, rfl, SqL.of ha3, ez, ?_⟩
  refine ⟨_, rfl, _, rfl, _, _, rfl, rfl, _, rfl, e + 1, by omega, p, a, m + 1 + 1, cs, ?_, hp3, by omega, ha3, nap, c0, c1, hcs, fun H4 r4 j4 s4 hp4 d4 g4 => ?_⟩
  · have ee : ((e + 2 : Nat) : Int) - 1 = ((e + 1 : Nat) : Int) := by omega
    rw [← ee]
    rfl
  refine ⟨(by show 3 ≤ sizeLine; decide), fun u hu => ?_⟩
  have st : Same H4 (upd H4 u (.tup [.str (kwR kb), .int z, r4])) := same_new hu
  have hcz := hcs z hz
  exact q _ _ (.rn kb z j4) (s02.trans (s3.trans (s4.trans (Same.sx st)))) ((hp4.same st).mono (by omega)) (dp_rn upd_same (dp_same st d4)) (GenOk.rounds g4 hcz.1 hcz.2 hz)
theorem ok_jobs (T : Txt K mg) : ∀ n : Nat, FnOk P w K mg base CX0 (n + 2) T.f__law_job T.d__law_job ["_law_pot_here", "_law_deep", "_law_counts"] (spJobs K n)
  | 0 => ⟨fun vs H Q E h => (nomatch h.choose_spec.1), fun A outer s H args us vs Q E _ _ _ _ h => (nomatch h.choose_spec.1)⟩
  | n + 1 => ok_job_next T (ok_jobs T n)
theorem ok_job (T : Txt K mg) (n : Nat) : FnOk P w K mg base CX0 (n + 3) T.f__law_job T.d__law_job ["_law_pot_here", "_law_deep", "_law_counts"] (spJob K n) :=
  (ok_jobs T (n + 1)).imp fun vs H Q E h => ⟨n, Nat.lt_succ_self n, h⟩
end
/-! block Steps: _law_steps -/
theorem ls_ok {j : J} (h : j.ok) : j.ok := h
def spLS (K : PySem.W.Frag) (n : Nat) : Sp := fun vs H Q _ => ∃ (v : V) (j : J), vs = [v] ∧ Dp K H v j.toD ∧ j.deep ≤ n ∧ j.ok ∧ ∀ H', Same H H' → Q (.int j.steps) H'
theorem J.stepsL_sum : ∀ xs : List J, (xs.map J.steps).sum = J.stepsL xs
  | [] => by simp [J.stepsL]
  | x :: xs => by simp only [List.map_cons, List.sum_cons, J.stepsL, J.stepsL_sum xs]
theorem J.deepL_mem : ∀ {l : List J} {y : J}, y ∈ l → y.deep ≤ J.deepL l
  | z :: r, y, h => by
    simp only [J.deepL]
    rcases List.mem_cons.mp h with rfl | h
    · omega
    · have := J.deepL_mem h
      omega
theorem J.okL_mem : ∀ {l : List J} {y : J}, J.okL l → y ∈ l → y.ok
  | z :: r, y, o, h => by
    simp only [J.okL] at o
    rcases List.mem_cons.mp h with rfl | h
    · exact o.1
    · exact J.okL_mem o.2 h
/-- the i-th part's data -/
theorem part_at {K : PySem.W.Frag} {H : Hp} {xs : List J} {vs : List V} {i : Nat} {x : V} (hall : DpAll K H vs (J.toDs xs)) (hi : vs[i]? = some x) : ∃ j, xs[i]? = some j ∧ j ∈ xs ∧ Dp K H x j.toD := by
  obtain ⟨d, ed, hd⟩ := dpAll_get hall hi
  rw [J.toDs_eq, List.getElem?_map] at ed
  cases e : xs[i]? with
  | none =>
    rw [e] at ed
    cases ed
  | some j =>
    rw [e] at ed
    obtain rfl := (Option.some.inj ed).symm
    exact ⟨j, rfl, List.mem_of_getElem? e, hd⟩
theorem take_map {α β : Type} {xs : List α} {i : Nat} {j : α} (f : α → β) (e : xs[i]? = some j) : (xs.take (i + 1)).map f = (xs.take i).map f ++ [f j] := by
  rw [List.take_add_one, e, List.map_append]
  rfl
section
variable {P : Program} {w : World} {K : PySem.W.Frag} {mg : Str → Option Value} {base : Heap}
theorem ok_ls_next (T : Txt K mg) {n : Nat} (g__law_steps : FnOk P w K mg base CX0 n T.f__law_steps T.d__law_steps ["_law_job_here"] (spLS K n)) :
    FnOk P w K mg base CX0 (n + 1) T.f__law_steps T.d__law_steps ["_law_job_here"] (spLS K (n + 1)) := by
  refine T.F__law_steps.ok sc__law_steps (fun vs H Q E h => ?_) (fun cdv A outer s H vs Q E hr h => ?_)
  · obtain ⟨v, j, rfl, _⟩ := h
    rfl
  obtain ⟨v, j, rfl, hd, hn, hok, q⟩ := h
  refine ⟨_, (pss_cons (ps_if (pt_not (pt_val (pe_callB (r := rIsD K) call_isD (by rfl) T.n_isinstance (by decide +kernel) (pa_cons (pv 0) (pa_cons (pe_bltn (v := .ty "tuple") (by rfl) T.n_tuple (by decide +kernel) rfl) pa_nil))))) (pss_one (ps_ret pe_int)) pss_nil)
      (pss_cons (ps_if (pt_cmpR (r := rIn K false) op_in_seq (pe_ix (r := rIxT K) ix_tup (pv 0) pe_int (fun _ _ => rfl)) (pe_tup (pa_cons pe_str (pa_cons pe_str pa_nil))) (by rfl)) (pss_one (ps_ret (pe_callB (r := rSum K) (cr_sum rfl) (by rfl) T.n_sum (by decide +kernel) (pa_cons (pe_lc (own := [("_law_part", 1)]) (g := (gName 1)) (by rfl) sc__law_steps.nd (pi_tup (pe_ix (r := rIxT K) ix_tup (pv 0) pe_int (fun _ _ => rfl))) (blkOk_by (N := N__law_steps) (sc := (defScope s__law_steps)) (by decide +kernel)) (fun _ _ _ _ _ => (pg_name (i := 1) sc__law_steps.nd rfl (Or.inl rfl))) (fun _ _ _ _ _ => pts_nil) (fun _ _ _ _ _ => (pe_call g__law_steps (hr.mono (by omega)) rfl T.m__law_steps T.F__law_steps.kp T.b__law_steps .nil pass0 (pa_cons (pv 1) pa_nil)))) pa_nil)))) pss_nil)
      (pss_one (ps_ret (pe_op op_mulW (pe_ix (r := rIxT K) ix_tup (pv 0) pe_int (fun _ _ => rfl)) (pe_call g__law_steps (hr.mono (by omega)) rfl T.m__law_steps T.F__law_steps.kp T.b__law_steps .nil pass0 (pa_cons (pe_ix (r := rIxT K) ix_tup (pv 0) pe_int (fun _ _ => rfl)) pa_nil))))))), ?_⟩
  cases j with
  | st i =>
    refine ⟨_, rfl, _, _, _, _, rfl, hd, kit_tuple _, _, rfl, ?_⟩
    refine iteT ?_
    simp only [J.steps] at q
    exact q _ (Same.refl _)
  | ps k xs =>
    simp only [J.deep] at hn
    simp only [J.ok] at hok
    simp only [J.steps] at q
    rw [J.toD] at hd
    obtain ⟨a, ys, rfl, hys, hall⟩ := dp_tup_inv hd
    refine ⟨_, rfl, _, _, _, _, rfl, hd, kit_tuple _, _, rfl, ?_⟩
    refine iteF ?_
    cases hall with
    | cons e1 hall =>
      obtain rfl := dp_str_inv e1
      cases hall with
      | cons e2 hall =>
        cases hall
        obtain ⟨b, vs, rfl, hvs, hall2⟩ := dp_tup_inv e2
        refine ⟨_, rfl, _, _, _, _, rfl, rfl, hys, rfl, (by show 2 ≤ sizeLine; decide), fun t ht => ?_⟩
        refine ⟨t, _, rfl, .inr (SqT.of upd_same), rfl, rfl, _, rfl, ?_⟩
        have s1 : Same H (upd H t (.tup [.str "seq", .str "par"])) := same_new ht
        show if inV (.str (kwP k)) [.str "seq", .str "par"] = true then _ else _
        rw [in_parts]
        refine iteT ?_
        generalize (upd H t (.tup [.str "seq", .str "par"])) = H1 at s1 ⊢
        refine ⟨_, rfl, _, _, _, _, rfl, rfl, same_sqT s1 hys, rfl, b, rfl, ⟨vs, same_sqT s1 hvs⟩, fun D hD => ?_⟩
        refine lc_tup (K := K) (a := b) (xs := vs) (fun i H' => Same H1 H' ∧ H' D = some (.lst (((xs.take i).map J.steps).map V.int))) ?_ ?_ ?_ ?_
        · exact ⟨same_new hD, upd_same⟩
        · rintro i H' _ ⟨s2, _⟩
          exact same_sqT s2 (same_sqT s1 hvs)
        · rintro i x H' hi ⟨s2, eD⟩
          obtain ⟨j, ej, mj, dj⟩ := part_at hall2 hi
          refine ⟨rfl, ?_⟩
          unfold tYes
          refine iteT ?_
          refine ⟨_, rfl, x, j, rfl, dp_same (s1.trans s2) dj, by have := J.deepL_mem mj; omega, J.okL_mem hok.2.1 mj, fun H3 s3 => ?_⟩
          refine ⟨_, s3 _ _ eD, ?_, ?_, ?_⟩
          · rw [List.length_map, List.length_map, List.length_take]
            have : i < vs.length := (List.getElem?_eq_some_iff.mp hi).1
            exact small1000 (by omega)
          · intro c o hc
            rw [upd_ne (ne_of_none hc hD)]
            exact s3 _ _ (s2 _ _ hc)
          · rw [upd_same, take_map J.steps ej, List.map_append]
            rfl
        · rintro H' ⟨s2, eD⟩
          have el : vs.length = xs.length := by rw [dpAll_length hall2, J.toDs_eq, List.length_map]
          rw [el, List.take_length] at eD
          refine ⟨D, xs.map J.steps, rfl, SqL.of eD, ?_⟩
          rw [J.stepsL_sum]
          exact q _ (s1.trans s2)
  | rn k c x =>
    simp only [J.deep] at hn
    have hx := hok
    simp only [J.ok] at hok
    simp only [J.steps] at q
    rw [J.toD] at hd
    obtain ⟨a, ys, rfl, hys, hall⟩ := dp_tup_inv hd
    refine ⟨_, rfl, _, _, _, _, rfl, hd, kit_tuple _, _, rfl, ?_⟩
    refine iteF ?_
    cases hall with
    | cons e1 hall =>
      obtain rfl := dp_str_inv e1
      cases hall with
      | cons e2 hall =>
        obtain rfl := dp_int_inv e2
        cases hall with
        | cons e3 hall =>
          cases hall
          refine ⟨_, rfl, _, _, _, _, rfl, rfl, hys, rfl, (by show 2 ≤ sizeLine; decide), fun t ht => ?_⟩
          refine ⟨t, _, rfl, .inr (SqT.of upd_same), rfl, rfl, _, rfl, ?_⟩
          have s1 : Same H (upd H t (.tup [.str "seq", .str "par"])) := same_new ht
          show if inV (.str (kwR k)) [.str "seq", .str "par"] = true then _ else _
          rw [in_parts_no]
          refine iteF ?_
          refine ⟨_, rfl, _, _, _, _, rfl, rfl, same_sqT s1 hys, rfl, _, rfl, _, _, _, _, rfl, rfl, same_sqT s1 hys, rfl, _, x, rfl, dp_same s1 e3, by omega, hok.2.1, fun H2 s2 => ?_⟩
          have hb0 := J.steps_nn x hok.2.1
          have hb1 := J.steps_le x hok.2.1
          have h1 := hok.1
          simp only [M30] at hb1 h1
          have e1 : x.steps.natAbs < 2 ^ 128 := Nat.lt_of_le_of_lt (show x.steps.natAbs ≤ 1000000000000000000000000000000 by omega) (by decide)
          have e2 : c.natAbs < 2 ^ 128 := Nat.lt_of_le_of_lt (show c.natAbs ≤ 1000000000000000000000000000000 by omega) (by decide)
          refine ⟨_, _, rfl, rfl, wide_mul (a := 128) (b := 128) e2 e1 (by decide) (by decide) (by decide), ?_⟩
          show Q (.int (c * x.steps)) _
          rw [Int.mul_comm]
          exact q _ (s1.trans s2)
theorem ok_ls (T : Txt K mg) : ∀ n : Nat, FnOk P w K mg base CX0 n T.f__law_steps T.d__law_steps ["_law_job_here"] (spLS K n)
  | 0 => by
    have no : ∀ vs H Q E, ¬ spLS K 0 vs H Q E := by
      rintro vs H Q E ⟨v, j, _, _, h, _⟩
      have := J.deep_pos j
      omega
    exact ⟨fun vs H Q E h => absurd h (no vs H Q E), fun A outer s H args us vs Q E _ _ _ _ h => absurd h (no vs H Q E)⟩
  | n + 1 => ok_ls_next T (ok_ls T n)
end
/-! block Drawn: _law_drawn, the address of a drawn step (behind bJob, bSteps, bFind) -/
theorem atI_lastI {ns : List Int} {z : Int} (h : ns.getLast? = some z) : atI (ns.map V.int) (-1) = some (.int z) := by
  obtain ⟨l, rfl⟩ := List.getLast?_eq_some_iff.mp h
  rw [List.map_append]
  exact L2.atI_last _ _
theorem rCatA_n {K : PySem.W.Frag} {H : Hp} {Q : VK} {a b : Addr} {xs ys : List V} (h1 : SqT K H a xs) (h2 : H b = some (.tup ys)) (ne : ys ≠ []) (hl : xs.length + ys.length ≤ sizeLine)
    (h : ∀ (H' : Hp) (t : Addr), Same H H' → H' t = some (.tup (xs ++ ys)) → Q (.ref t) H') : rCatA K (.ref a) (.ref b) H Q := by
  refine ⟨a, b, xs, ys, rfl, rfl, h1, SqT.of h2, hl, fun z => ?_, fun _ z => absurd z ne, fun _ _ p hp => ?_⟩
  · subst z
    exact h H b (Same.refl _) h2
  · exact h _ p (same_new hp) upd_same
/-- how many indices there may yet be -/
def left (σ : L2.St) (H : Hp) : Nat := match σ[2]? with
  | some (some (V.ref t)) => match H t with
    | some (HO.tup xs) => 100 - xs.length
    | _ => 0
  | _ => 0
theorem left_of {σ : L2.St} {H : Hp} {t : Addr} {xs : List V} (h1 : σ[2]? = some (some (.ref t))) (h2 : H t = some (.tup xs)) : left σ H = 100 - xs.length := by
  simp only [left, h1, h2]
/-- from j by these indices to y -/
def Way (j : J) (a : List Int) (y : J) : Prop := ∀ r : List PyData, j.find (a.map .int ++ r) = y.find r
theorem Way.nil (j : J) : Way j [] j := fun _ => rfl
theorem Way.snoc {j y z : J} {a : List Int} {k : Int} (h : Way j a y) (e : y.part k = some z) : Way j (a ++ [k]) z := fun r => by
  rw [List.map_append, List.append_assoc, h]
  show y.find (.int k :: r) = z.find r
  rw [find_int, e]
structure AtD (K : PySem.W.Frag) (j : J) (p : Addr) (m : Nat) (H0 H : Hp) (u : V) (t : Addr) (a : List Int) (y : J) (n : Nat) : Prop where
  sx : Sx p H0 H
  pot : Pot H p n
  few : n + 2 * y.deep ≤ m + 2 * j.deep
  job : Dp K H u y.toD
  ok : y.ok
  pos : 0 < y.steps
  tup : H t = some (.tup (a.map V.int))
  bd : ∀ k ∈ a, 0 ≤ k ∧ k ≤ M30
  len : a.length + y.deep ≤ j.deep
  way : Way j a y
/-- the numbers of the parts that have steps -/
def Fulls (xs : List J) (n : Nat) (is : List Int) : Prop := (∀ k ∈ is, ∃ (i : Nat) (y : J), k = (i : Int) ∧ xs[i]? = some y ∧ 0 < y.steps) ∧ (∀ (i : Nat) (y : J), i < n → xs[i]? = some y → 0 < y.steps → (i : Int) ∈ is)
theorem some_full : ∀ (xs : List J), 0 < J.stepsL xs → J.okL xs → ∃ (i : Nat) (y : J), xs[i]? = some y ∧ 0 < y.steps
  | [], h, _ => by simp [J.stepsL] at h
  | x :: xs, h, o => by
    by_cases e : 0 < x.steps
    · exact ⟨0, x, rfl, e⟩
    · simp only [J.stepsL] at h
      obtain ⟨i, y, h1, h2⟩ := some_full xs (by omega) o.2
      exact ⟨i + 1, y, by simpa using h1, h2⟩
def spDrawn (K : PySem.W.Frag) : Sp := fun vs H Q _ => ∃ (p : Addr) (m : Nat) (v : V) (j : J), vs = [.ref p, v] ∧ Pot H p m ∧ m + 2 * j.deep ≤ 1099511627776 ∧ Dp K H v j.toD ∧ j.ok ∧ 0 < j.steps ∧ j.deep ≤ 20 ∧
  ∀ (H' : Hp) (t : Addr) (a : List Int) (i : Int), Sx p H H' → Pot H' p (m + 2 * j.deep) → SqT K H' t (a.map V.int) → a.length ≤ 20 → (∀ k ∈ a, 0 ≤ k ∧ k ≤ M30) → j.find (a.map .int) = some i → Q (.ref t) H'
section
variable {P : Program} {w : World} {K : PySem.W.Frag} {mg : Str → Option Value} {base : Heap}
theorem ok_drawn (T : Txt K mg) : FnOk P w K mg base CX0 21 T.f__law_drawn T.d__law_drawn ["_law_pot_here", "_law_job_here"] (spDrawn K) := by
  have g__law_take : FnOk P w K mg base CX0 1 T.f__law_take T.d__law_take ["_law_pot_here", "_law_many"] spTake := ok_take T
  have g__law_steps : FnOk P w K mg base CX0 20 T.f__law_steps T.d__law_steps ["_law_job_here"] (spLS K 20) := ok_ls T 20
  refine T.F__law_drawn.ok sc__law_drawn (fun vs H Q E h => ?_) (fun cdv A outer s H vs Q E hr h => ?_)
  · obtain ⟨p, m, v, j, rfl, _⟩ := h
    rfl
  obtain ⟨p, m, v, j, rfl, hp, hm, hd, hok, hpos, hdeep, q⟩ := h
  refine ⟨_, (pss_cons (ps_set (i := 2) sc__law_drawn.nd rfl (Or.inl rfl) (pe_tup pa_nil))
      (pss_cons (ps_while PassesOwn.never (pt_val (pe_callB (r := rIsD K) call_isD (by rfl) T.n_isinstance (by decide +kernel) (pa_cons (pv 1) (pa_cons (pe_bltn (v := .ty "tuple") (by rfl) T.n_tuple (by decide +kernel) rfl) pa_nil))))
        (pss_one (ps_if (pt_cmpR (r := rIn K false) op_in_seq (pe_ix (r := rIxT K) ix_tup (pv 1) pe_int (fun _ _ => rfl)) (pe_tup (pa_cons pe_str (pa_cons pe_str pa_nil))) (by rfl)) (pss_cons (ps_set (i := 3) sc__law_drawn.nd rfl (Or.inr rfl) (pe_lc (own := [("_law_part", 6)]) (g := (gName 6)) (by rfl) sc__law_drawn.nd (pi_tup (pe_ix (r := rIxT K) ix_tup (pv 1) pe_int (fun _ _ => rfl))) (blkOk_by (N := N__law_drawn) (sc := (defScope s__law_drawn)) (by decide +kernel)) (fun _ _ _ _ _ => (pg_name (i := 6) sc__law_drawn.nd rfl (Or.inl rfl))) (fun _ _ _ _ _ => pts_nil) (fun _ _ _ _ _ => (pe_call g__law_steps (hr.mono (by omega)) rfl T.m__law_steps T.F__law_steps.kp T.b__law_steps .nil pass0 (pa_cons (pv 6) pa_nil)))))
          (pss_cons (ps_setLc (i := 4) (own := [("_law_index", 5)]) (g := (gName 5)) (by rfl) sc__law_drawn.nd rfl rfl (sw_true rfl rfl rfl (by decide +kernel)) (pi_range1 rfl T.n_range (pa_cons (pe_callB (r := rLenS K) call_lenS (by rfl) T.n_len (by decide +kernel) (pa_cons (pv 3) pa_nil)) pa_nil)) (blkOk_by (N := N__law_drawn) (sc := (defScope s__law_drawn)) (by decide +kernel)) (fun _ _ _ _ _ => (pg_name (i := 5) sc__law_drawn.nd rfl (Or.inl rfl))) (fun _ _ _ _ _ => (pts_one (pt_cmpR op_gt (pe_ix (r := rIxL K) ix_list (pv 3) (pv 5) (fun _ _ => rfl)) pe_int (nomark _)))) (fun _ _ _ _ _ => (pv 5)))
          (pss_cons (ps_set (i := 2) sc__law_drawn.nd rfl (Or.inl rfl) (pe_op (r := rCatA K) op_catA (pv 2) (pe_tup (pa_cons (pe_ix (r := rIxL K) ix_list (pv 4) (pe_call g__law_take (hr.mono (by omega)) rfl T.m__law_take T.F__law_take.kp T.b__law_take .nil pass0 (pa_cons (pv 0) (pa_cons (pe_callB (r := rLenS K) call_lenS (by rfl) T.n_len (by decide +kernel) (pa_cons (pv 4) pa_nil)) pa_nil))) (fun _ _ => rfl)) pa_nil))))
          (pss_one (ps_set (i := 1) sc__law_drawn.nd rfl (Or.inl rfl) (pe_ix (r := rIxT K) ix_tup (pe_ix (r := rIxT K) ix_tup (pv 1) pe_int (fun _ _ => rfl)) (pe_ix (r := rIxT K) ix_tup (pv 2) (pe_un un_neg pe_int) (fun _ _ => rfl)) (fun _ _ => rfl))))))) (pss_cons (ps_set (i := 5) sc__law_drawn.nd rfl (Or.inl rfl) (pe_ix (r := rIxL K) ix_list (pe_lst (pa_cons pe_int (pa_cons (pe_op op_sub (pe_ix (r := rIxT K) ix_tup (pv 1) pe_int (fun _ _ => rfl)) pe_int) (pa_cons (pe_call g__law_take (hr.mono (by omega)) rfl T.m__law_take T.F__law_take.kp T.b__law_take .nil pass0 (pa_cons (pv 0) (pa_cons (pe_ix (r := rIxT K) ix_tup (pv 1) pe_int (fun _ _ => rfl)) pa_nil))) pa_nil)))) (pe_call g__law_take (hr.mono (by omega)) rfl T.m__law_take T.F__law_take.kp T.b__law_take .nil pass0 (pa_cons (pv 0) (pa_cons pe_int pa_nil))) (fun _ _ => rfl)))
          (pss_cons (ps_set (i := 2) sc__law_drawn.nd rfl (Or.inl rfl) (pe_op (r := rCatA K) op_catA (pv 2) (pe_tup (pa_cons (pv 5) pa_nil))))
          (pss_one (ps_set (i := 1) sc__law_drawn.nd rfl (Or.inl rfl) (pe_ix (r := rIxT K) ix_tup (pv 1) pe_int (fun _ _ => rfl)))))))))
      (pss_one (ps_ret (pv 2))))), ?_⟩
  obtain ⟨lp, hlp⟩ := hp.lst
  refine ⟨(by show 0 ≤ sizeLine; decide), fun t0 ht0 => ?_⟩
  have s0 : Same H (upd H t0 (.tup [])) := same_new ht0
  refine while_by (fun σ H' => ∃ (u : V) (t : Addr) (a : List Int) (y : J) (n : Nat) (y3 y4 y5 y6 : Option V), σ = [some (.ref p), some u, some (.ref t), y3, y4, y5, y6] ∧ AtD K j p m H H' u t a y n)
    left ⟨v, t0, [], j, m, none, none, none, none, rfl, Same.sx s0, hp.same s0, Nat.le_refl _, dp_same s0 hd, hok, hpos, upd_same, by simp, by simp, Way.nil j⟩ ?_ ?_
  · rintro σ H' ⟨u, t, a, y, n, y3, y4, y5, y6, rfl, A⟩
    obtain ⟨sx, hpn, few, du, yok, ypos, et, bd, hlen, way⟩ := A
    obtain ⟨ln, hln⟩ := hpn.lst
    have ntp : t ≠ p := fun z => by rw [z, hln] at et; cases et
    have hleft : left [some (.ref p), some u, some (.ref t), y3, y4, y5, y6] H' = 100 - a.length := by
      rw [left_of rfl et, List.length_map]
    refine ⟨_, rfl, _, _, _, _, rfl, du, kit_tuple _, _, rfl, ?_⟩
    cases y with
    | st i =>
      refine iteF ?_
      obtain rfl := dp_int_inv du
      have e := way []
      rw [List.append_nil] at e
      exact ⟨_, rfl, q _ t a i sx (hpn.mono (by simp only [J.deep] at few; omega)) (SqT.of et) (by omega) bd e⟩
    | ps kb xs =>
      refine iteT ?_
      obtain ⟨c, b, vs, rfl, hys, hvs, hall⟩ := ps_inv du
      have len : vs.length = xs.length := parts_len hall
      have yok' := yok
      simp only [J.ok] at yok'
      have hxl : xs.length ≤ 400 := by have := yok'.1; omega
      simp only [J.steps] at ypos
      simp only [J.deep] at few hlen
      refine ⟨_, rfl, _, _, _, _, rfl, rfl, hys, rfl, (by show 2 ≤ sizeLine; decide), fun t1 ht1 => ?_⟩
      refine ⟨t1, _, rfl, .inr (SqT.of upd_same), rfl, rfl, _, rfl, ?_⟩
      have s1 : Same H' (upd H' t1 (.tup [.str "seq", .str "par"])) := same_new ht1
      show if inV (.str (kwP kb)) [.str "seq", .str "par"] = true then _ else _
      rw [w_in_parts]
      refine iteT ?_
      generalize (upd H' t1 (.tup [.str "seq", .str "par"])) = H1 at s1 ⊢
      refine ⟨_, rfl, _, _, _, _, rfl, rfl, same_sqT s1 hys, rfl, b, rfl, ⟨vs, same_sqT s1 hvs⟩, fun D hD => ?_⟩
      refine lc_tup (K := K) (a := b) (xs := vs) (fun i H2 => Same H1 H2 ∧ H2 D = some (.lst (((xs.take i).map J.steps).map V.int))) ?_ ?_ ?_ ?_
      · exact ⟨same_new hD, upd_same⟩
      · rintro i H2 _ ⟨s2, _⟩
        exact same_sqT s2 (same_sqT s1 hvs)
      · rintro i x H2 hi ⟨s2, eD⟩
        obtain ⟨y', ey, my, dy⟩ := parts_at hall hi
        refine ⟨rfl, ?_⟩
        unfold tYes
        refine iteT ?_
        refine ⟨_, rfl, x, y', rfl, dp_same (s1.trans s2) dy, by have := deep_mem my; omega, ls_ok (ok_mem yok'.2.1 my), fun H3 s3 => ?_⟩
        refine ⟨_, s3 _ _ eD, ?_, ?_, ?_⟩
        · rw [List.length_map, List.length_map, List.length_take]
          exact small1000 (by omega)
        · intro c2 o hc
          rw [upd_ne (ne_of_none hc hD)]
          exact s3 _ _ (s2 _ _ hc)
        · rw [upd_same, take_step J.steps ey, List.map_append]
          rfl
      rintro H2 ⟨s2, eD⟩
      rw [len, List.take_length] at eD
      have s12 := s1.trans s2
      refine ⟨_, rfl, D, _, rfl, .inl (SqL.of eD), _, rfl, by omega, by simp only [List.length_map]; omega, fun D2 hD2 => ?_⟩
      rw [List.length_map, List.length_map, Int.toNat_natCast]
      refine lc_range (lo := 0) (n := xs.length) (fun i H3 => Same H2 H3 ∧ ∃ is : List Int, is.length ≤ i ∧ H3 D2 = some (.lst (is.map V.int)) ∧ Fulls xs i is) ?_ ?_ ?_
      · exact ⟨same_new hD2, [], by simp, by simpa using upd_same, by simp [Fulls]⟩
      · rintro i H3 hi ⟨s3, is, isl, eD2, fu⟩
        refine ⟨rfl, ?_⟩
        have ei : xs[i]? = some xs[i] := List.getElem?_eq_getElem hi
        have eat : atI ((xs.map J.steps).map V.int) (0 + (i : Int)) = some (.int xs[i].steps) := atI_at (j := i) (by omega) (by rw [List.getElem?_map, List.getElem?_map, ei]; rfl)
        refine ⟨_, rfl, _, rfl, _, _, _, _, rfl, rfl, SqL.of (s3 _ _ eD), eat, _, _, rfl, rfl, _, rfl, ?_⟩
        refine ite2 (fun z => ?_) (fun z => ?_)
        · refine ⟨_, rfl, _, eD2, ?_, ?_, is ++ [(0 + (i : Int))], ?_, ?_, ?_⟩
          · rw [List.length_map]
            exact small1000 (by omega)
          · intro c2 o hc
            rw [upd_ne (ne_of_none hc hD2)]
            exact s3 _ _ hc
          · rw [List.length_append, List.length_singleton]
            omega
          · rw [upd_same, List.map_append]
            rfl
          · refine ⟨fun k hk => ?_, fun m y' hm ey hy => ?_⟩
            · rw [List.mem_append, List.mem_singleton] at hk
              rcases hk with hk | rfl
              · exact fu.1 k hk
              · exact ⟨i, _, by omega, ei, of_decide_eq_true z⟩
            · rw [List.mem_append, List.mem_singleton]
              by_cases e : m = i
              · right
                omega
              · exact .inl (fu.2 m y' (by omega) ey hy)
        · refine ⟨s3, is, by omega, eD2, fu.1, fun m y' hm ey hy => ?_⟩
          by_cases e : m = i
          · subst e
            rw [ei] at ey
            obtain rfl := Option.some.inj ey
            exact absurd (decide_eq_true hy) z
          · exact fu.2 m y' (by omega) ey hy
      rintro H3 ⟨s3, is, isl, eD2, fu⟩
      have hne : 0 < is.length := by
        obtain ⟨i, y', ey, hy⟩ := some_full xs ypos yok'.2.1
        have := fu.2 i y' ((List.getElem?_eq_some_iff.mp ey).1) ey hy
        exact List.length_pos_of_mem this
      have s13 := s12.trans s3
      have hp3 := hpn.same s13
      obtain ⟨l3, hl3⟩ := hp3.lst
      have nD2 : D2 ≠ p := fun z => by rw [z, hl3] at eD2; cases eD2; rw [z] at hD2; obtain ⟨_, h2⟩ := (hpn.same s12).lst; rw [h2] at hD2; cases hD2
      refine ⟨_, rfl, _, rfl, _, rfl, _, rfl, D2, _, rfl, .inl (SqL.of eD2), p, n, _, rfl, hp3, by omega, ?_, ?_, fun H4 r s4 hp4 r0 r1 => ?_⟩
      · rw [List.length_map]
        omega
      · rw [List.length_map]
        exact Nat.lt_of_le_of_lt (show ((is.length : Int)).natAbs ≤ 400 by omega) (by decide)
      rw [List.length_map] at r1
      obtain ⟨k, hk, ek⟩ := atI_int (ns := is) r0 r1
      obtain ⟨i, z, rfl, ez, hz⟩ := fu.1 k hk
      have S4 : Sx p H' H4 := (Same.sx s13).trans s4
      refine ⟨_, _, _, _, rfl, rfl, SqL.of (s4 _ _ nD2 eD2), ek, (by show 1 ≤ sizeLine; decide), fun t2 ht2 => ?_⟩
      have s5 : Same H4 (upd H4 t2 (.tup [.int (i : Int)])) := same_new ht2
      have et2 : upd H4 t2 (.tup [.int (i : Int)]) t2 = some (.tup [.int (i : Int)]) := upd_same
      generalize (upd H4 t2 (.tup [.int (i : Int)])) = H5 at s5 et2 ⊢
      have et5 := s5 _ _ (S4 _ _ ntp et)
      refine rCatA_n (SqT.of et5) et2 (by simp) (by rw [List.length_map]; exact small (by simp only [List.length_singleton]; omega)) fun H6 t6 s6 et6 => ?_
      have S6 : Sx p H' H6 := S4.trans (Same.sx (s5.trans s6))
      have hp6 := hp4.same (s5.trans s6)
      have kk : ∀ a xs, SqT K H' a xs → SqT K H6 a xs := fun a xs h => S6.sqT hln h
      have hl2 : atI ((a ++ [(i : Int)]).map V.int) (-1) = some (.int (i : Int)) := atI_lastI (by simp)
      have hiv : i < vs.length := by rw [len]; exact (List.getElem?_eq_some_iff.mp ez).1
      obtain ⟨z', ez', _, dz⟩ := parts_at hall (List.getElem?_eq_getElem hiv)
      rw [ez] at ez'
      obtain rfl := Option.some.inj ez'
      have et6' : H6 t6 = some (.tup ((a ++ [(i : Int)]).map V.int)) := by rw [et6, List.map_append]; rfl
      refine ⟨_, rfl, _, _, _, _, rfl, rfl, kk _ _ hys, rfl, _, rfl, _, rfl, _, _, _, _, rfl, rfl, SqT.of et6', hl2, _, _, _, _, rfl, rfl, kk _ _ hvs, atI_at (j := i) rfl (List.getElem?_eq_getElem hiv), ?_⟩
      have hdz := deep_mem (List.mem_of_getElem? ez)
      refine ⟨⟨_, t6, a ++ [(i : Int)], z, n + 1, _, _, _, _, rfl, sx.trans S6, hp6, by omega, dp_keep kk z.noL dz, ok_mem yok'.2.1 (List.mem_of_getElem? ez), hz, et6', ?_, ?_, way.snoc ?_⟩, ?_⟩
      · intro k hk
        rw [List.mem_append, List.mem_singleton] at hk
        rcases hk with hk | rfl
        · exact bd k hk
        · simp only [M30]
          omega
      · rw [List.length_append, List.length_singleton]
        omega
      · simp only [J.part]
        rw [if_neg (by omega), Int.toNat_natCast]
        exact ez
      · rw [hleft, left_of rfl et6', List.length_map, List.length_append, List.length_singleton]
        omega
    | rn kb c x =>
      refine iteT ?_
      obtain ⟨b, z, rfl, hys, hx⟩ := rn_inv du
      have yok' := yok
      simp only [J.ok, M30] at yok'
      simp only [J.steps] at ypos
      simp only [J.deep] at few hlen
      have hc0 : 0 < c := by
        rcases Int.lt_or_le 0 c with h | h
        · exact h
        · have e : c = 0 := by omega
          rw [e] at ypos
          simp at ypos
      have hx0 : 0 < x.steps := by
        rcases Int.lt_or_le 0 x.steps with h | h
        · exact h
        · have := Int.mul_nonneg (show (0 : Int) ≤ -x.steps by omega) (Int.le_of_lt hc0)
          rw [Int.neg_mul] at this
          omega
      refine ⟨_, rfl, _, _, _, _, rfl, rfl, hys, rfl, (by show 2 ≤ sizeLine; decide), fun t1 ht1 => ?_⟩
      refine ⟨t1, _, rfl, .inr (SqT.of upd_same), rfl, rfl, _, rfl, ?_⟩
      have s1 : Same H' (upd H' t1 (.tup [.str "seq", .str "par"])) := same_new ht1
      show if inV (.str (kwR kb)) [.str "seq", .str "par"] = true then _ else _
      rw [w_in_parts_no]
      refine iteF ?_
      generalize (upd H' t1 (.tup [.str "seq", .str "par"])) = H1 at s1 ⊢
      have hp1 := hpn.same s1
      refine ⟨_, rfl, _, _, _, _, rfl, rfl, same_sqT s1 hys, rfl, _, _, rfl, rfl, _, rfl, _, rfl, _, _, _, _, rfl, rfl, same_sqT s1 hys, rfl, p, n, c, rfl, hp1, by omega, hc0, Nat.lt_of_le_of_lt (show c.natAbs ≤ 1000000000000000000000000000000 by omega) (by decide), fun H4 r s4 hp4 r0 r1 => ?_⟩
      refine ⟨(by show 3 ≤ sizeLine; decide), fun l hl => ?_⟩
      obtain ⟨l4, hl4⟩ := hp4.lst
      have nlp : l ≠ p := fun z => by rw [z, hl4] at hl; cases hl
      have s5 : Same H4 (upd H4 l (.lst [.int 0, .int (c - 1), .int r])) := same_new hl
      have el : upd H4 l (.lst [.int 0, .int (c - 1), .int r]) l = some (.lst ([0, c - 1, r].map V.int)) := upd_same
      have hp5 := hp4.same s5
      generalize (upd H4 l (.lst [.int 0, .int (c - 1), .int r])) = H5 at s5 el hp5 ⊢
      refine ⟨_, rfl, p, n + 1, 3, rfl, hp5, by omega, by decide, by decide, fun H6 r2 s6 hp6 k0 k1 => ?_⟩
      obtain ⟨k, hk, ek⟩ := atI_int (ns := [0, c - 1, r]) k0 k1
      have hk2 : 0 ≤ k ∧ k < c := by
        simp only [List.mem_cons, List.not_mem_nil, or_false] at hk
        omega
      refine ⟨_, _, _, _, rfl, rfl, SqL.of (s6 _ _ nlp el), ek, ?_⟩
      have S6 : Sx p H' H6 := (Same.sx s1).trans (s4.trans ((Same.sx s5).trans s6))
      have et6 := S6 _ _ ntp et
      refine ⟨_, rfl, _, rfl, (by show 1 ≤ sizeLine; decide), fun t2 ht2 => ?_⟩
      have s7 : Same H6 (upd H6 t2 (.tup [.int k])) := same_new ht2
      have et2 : upd H6 t2 (.tup [.int k]) t2 = some (.tup [.int k]) := upd_same
      generalize (upd H6 t2 (.tup [.int k])) = H7 at s7 et2 ⊢
      refine rCatA_n (SqT.of (s7 _ _ et6)) et2 (by simp) (by rw [List.length_map]; exact small (by simp only [List.length_singleton]; omega)) fun H8 t8 s8 et8 => ?_
      have S8 : Sx p H' H8 := S6.trans (Same.sx (s7.trans s8))
      have kk : ∀ a xs, SqT K H' a xs → SqT K H8 a xs := fun a xs h => S8.sqT hln h
      have et8' : H8 t8 = some (.tup ((a ++ [k]).map V.int)) := by rw [et8, List.map_append]; rfl
      refine ⟨_, rfl, _, _, _, _, rfl, rfl, kk _ _ hys, rfl, ?_⟩
      refine ⟨⟨_, t8, a ++ [k], x, n + 1 + 1, _, _, _, _, rfl, sx.trans S8, hp6.same (s7.trans s8), by omega, dp_keep kk x.noL hx, yok'.2.1, hx0, et8', ?_, ?_, way.snoc ?_⟩, ?_⟩
      · intro k' hk'
        rw [List.mem_append, List.mem_singleton] at hk'
        rcases hk' with hk' | rfl
        · exact bd k' hk'
        · simp only [M30]
          omega
      · rw [List.length_append, List.length_singleton]
        omega
      · simp only [J.part]
        rw [if_neg (by omega), if_pos hk2.2]
      · rw [hleft, left_of rfl et8', List.length_map, List.length_append, List.length_singleton]
        omega
  · rintro σ H' Q1 Q2 f ⟨v1, e1, x1, x2, x3, x4, x5, x6, x7, x8, x9, x10⟩
    exact ⟨v1, e1, x1, x2, x3, x4, x5, x6, x7, x8, x9, f _ _ x10⟩
end
/-! block Acc: chains of new objects, data of bounded size (behind Rq) -/
theorem _root_.Rp.DqAll.at {K : PySem.W.Frag} {p : Addr} {H : Hp} {vs : List V} {ds : List PyData} (h : DqAll K p H vs ds) (i : Nat) {v : V} {d : PyData} (hv : vs[i]? = some v) (hd : ds[i]? = some d) : Dq K p H v d := by
  obtain ⟨e, h1, h2⟩ := dqAll_get h hv
  rw [hd] at h1
  cases h1
  exact h2
structure Acc (K : PySem.W.Frag) (p : Addr) (H0 H : Hp) (vs : List V) (ds : List PyData) : Prop where
  s : Same H0 H
  f : DqAll K p H vs ds
theorem Acc.tup {K : PySem.W.Frag} {p t : Addr} {H0 H : Hp} {vs xs : List V} {ds es : List PyData} (A : Acc K p H0 H vs ds) (ht : H t = none) (h : DqAll K p H xs es) : Acc K p H0 (upd H t (.tup xs)) (.ref t :: vs) (.tuple es :: ds) :=
  ⟨A.s.trans (same_new ht), .cons (.tup (SqT.of upd_same) (h.keep (Same.kp (same_new ht)))) (A.f.keep (Same.kp (same_new ht)))⟩
theorem Acc.lst {K : PySem.W.Frag} {p t : Addr} {H0 H : Hp} {l : List V} {vs xs : List V} {ds es : List PyData} (A : Acc K p H0 H vs ds) (hp : H0 p = some (.lst l)) (ht : H t = none) (h : DqAll K p H xs es) : Acc K p H0 (upd H t (.lst xs)) (.ref t :: vs) (.list es :: ds) :=
  ⟨A.s.trans (same_new ht), .cons (.lst (fun z => by rw [z, A.s _ _ hp] at ht; cases ht) upd_same (h.keep (Same.kp (same_new ht)))) (A.f.keep (Same.kp (same_new ht)))⟩
theorem Acc.dct {K : PySem.W.Frag} {p t : Addr} {H0 H : Hp} {l : List V} {vs : List V} {ds : List PyData} (A : Acc K p H0 H vs ds) (hp : H0 p = some (.lst l)) (ht : H t = none) : Acc K p H0 (upd H t (.dK [])) (.ref t :: vs) (.dict [] :: ds) :=
  ⟨A.s.trans (same_new ht), .cons (.dct (fun z => by rw [z, A.s _ _ hp] at ht; cases ht) upd_same (fun _ => rfl)) (A.f.keep (Same.kp (same_new ht)))⟩
theorem dqAll_some {K : PySem.W.Frag} {p : Addr} {H : Hp} : ∀ {vs : List V} {ds : List PyData} {i : Nat} {v : V}, DqAll K p H vs ds → vs[i]? = some v → ∃ d, d ∈ ds ∧ ds[i]? = some d ∧ Dq K p H v d := by
  intro vs ds i v h e
  obtain ⟨d, h1, h2⟩ := dqAll_get h e
  exact ⟨d, List.mem_of_getElem? h1, h1, h2⟩
theorem pick {vs : List V} {r : Int} (h0 : 0 ≤ r) (h1 : r < (vs.length : Int)) : ∃ v, vs[r.toNat]? = some v ∧ atI vs r = some v := by
  have hk : r.toNat < vs.length := by omega
  exact ⟨vs[r.toNat], List.getElem?_eq_getElem hk, atI_at (j := r.toNat) (by omega) (List.getElem?_eq_getElem hk)⟩
structure Sd (b e : Nat) (d : PyData) : Prop where
  fine : fineQ d
  bulk : d.bulk ≤ b
  depth : d.depth ≤ e
structure Sds (b e : Nat) (ds : List PyData) : Prop where
  fine : finesQ ds
  bulk : PyData.bulkAll ds ≤ b
  depth : PyData.depthAll ds ≤ e
theorem Sds.nil : Sds 0 0 [] := ⟨by simp [finesQ], by simp [PyData.bulkAll], by simp [PyData.depthAll]⟩
theorem Sds.cons {b e b' e' : Nat} {d : PyData} {ds : List PyData} (h : Sd b e d) (t : Sds b' e' ds) : Sds (1 + b + b') (max e e') (d :: ds) := by
  have h1 := h.bulk
  have h2 := t.bulk
  have h3 := h.depth
  have h4 := t.depth
  refine ⟨?_, ?_, ?_⟩
  · simp only [finesQ]
    exact ⟨h.fine, t.fine⟩
  · simp only [PyData.bulkAll]
    omega
  · simp only [PyData.depthAll]
    omega
theorem Sd.tup {b e : Nat} {ds : List PyData} (h : Sds b e ds) : Sd b (e + 1) (.tuple ds) := by
  have h1 := h.bulk
  have h2 := h.depth
  exact ⟨by simp only [fineQ]; exact h.fine, by simp only [PyData.bulk]; omega, by simp only [PyData.depth]; omega⟩
theorem Sd.lst {b e : Nat} {ds : List PyData} (h : Sds b e ds) : Sd b (e + 1) (.list ds) := by
  have h1 := h.bulk
  have h2 := h.depth
  exact ⟨by simp only [fineQ]; exact h.fine, by simp only [PyData.bulk]; omega, by simp only [PyData.depth]; omega⟩
theorem Sd.mono {b e b' e' : Nat} {d : PyData} (h : Sd b e d) (h1 : b ≤ b') (h2 : e ≤ e') : Sd b' e' d := ⟨h.fine, Nat.le_trans h.bulk h1, Nat.le_trans h.depth h2⟩
theorem finesQ_app : ∀ xs ys : List PyData, finesQ xs → finesQ ys → finesQ (xs ++ ys)
  | [], ys, _, h => h
  | x :: xs, ys, h1, h2 => by
    simp only [finesQ, List.cons_append] at *
    exact ⟨h1.1, finesQ_app xs ys h1.2 h2⟩
theorem bulkAll_app : ∀ xs ys : List PyData, PyData.bulkAll (xs ++ ys) = PyData.bulkAll xs + PyData.bulkAll ys
  | [], ys => by simp [PyData.bulkAll]
  | x :: xs, ys => by simp only [List.cons_append, PyData.bulkAll, bulkAll_app xs ys]; omega
theorem depthAll_app : ∀ xs ys : List PyData, PyData.depthAll (xs ++ ys) = max (PyData.depthAll xs) (PyData.depthAll ys)
  | [], ys => by simp [PyData.depthAll]
  | x :: xs, ys => by simp only [List.cons_append, PyData.depthAll, depthAll_app xs ys]; omega
theorem Sds.app {b e b' e' : Nat} {xs ys : List PyData} (h : Sds b e xs) (t : Sds b' e' ys) : Sds (b + b') (max e e') (xs ++ ys) := by
  have h1 := h.bulk
  have h2 := t.bulk
  have h3 := h.depth
  have h4 := t.depth
  refine ⟨finesQ_app _ _ h.fine t.fine, ?_, ?_⟩
  · rw [bulkAll_app]
    omega
  · rw [depthAll_app]
    omega
theorem finesQ_left : ∀ xs ys : List PyData, finesQ (xs ++ ys) → finesQ xs
  | [], ys, _ => by simp [finesQ]
  | x :: xs, ys, h => by
    simp only [finesQ, List.cons_append] at *
    exact ⟨h.1, finesQ_left xs ys h.2⟩
theorem finesQ_right : ∀ xs ys : List PyData, finesQ (xs ++ ys) → finesQ ys
  | [], ys, h => h
  | x :: xs, ys, h => by
    simp only [finesQ, List.cons_append] at h
    exact finesQ_right xs ys h.2
theorem Acc.more {K : PySem.W.Frag} {p : Addr} {H0 H H' : Hp} {vs : List V} {ds : List PyData} {v : V} {d : PyData} (A : Acc K p H0 H vs ds) (s : Same H H') (h : Dq K p H' v d) : Acc K p H0 H' (v :: vs) (d :: ds) :=
  ⟨A.s.trans s, .cons h (A.f.keep (Same.kp s))⟩
theorem rCatA_q {K : PySem.W.Frag} {H : Hp} {Q : VK} {a b : Addr} {xs ys : List V} (h1 : SqT K H a xs) (h2 : SqT K H b ys) (hl : xs.length + ys.length ≤ sizeLine)
    (h : ∀ (H' : Hp) (t : Addr), Same H H' → SqT K H' t (xs ++ ys) → Q (.ref t) H') : rCatA K (.ref a) (.ref b) H Q := by
  refine ⟨a, b, xs, ys, rfl, rfl, h1, h2, hl, fun z => ?_, fun _ z => ?_, fun _ _ p hp => ?_⟩
  · subst z
    exact h H b (Same.refl _) h2
  · subst z
    exact h H a (Same.refl _) (by simpa using h1)
  · exact h _ p (same_new hp) (SqT.of upd_same)
theorem rSlA_q {K : PySem.W.Frag} {H : Hp} {Q : VK} {a : Addr} {xs : List V} {lo hi : Option Int} (h1 : SqT K H a xs)
    (h : ∀ (H' : Hp) (t : Addr), Same H H' → SqT K H' t (cutV xs lo hi) → Q (.ref t) H') : rSlA K (.ref a) lo hi H Q := by
  refine ⟨a, xs, rfl, h1, fun z => ?_, fun _ p hp => ?_⟩
  · refine h H a (Same.refl _) ?_
    have e : cutV xs lo hi = xs := by
      unfold cutV
      rw [z.1, z.2]
      simp
    rw [e]
    exact h1
  · exact h _ p (same_new hp) (SqT.of upd_same)
theorem iteKeep {c : Bool} {A B : Prop} (hA : A) (hB : ¬ c = true → A → B) : if c = true then A else B := by
  cases c with
  | true => exact hA
  | false => exact hB (by decide) hA
theorem cut_take {us : List V} {i : Int} (h0 : 0 ≤ i) (h1 : i < (us.length : Int)) : cutV us none (some i) = us.take i.toNat := by
  unfold cutV HT.sIx
  dsimp only
  rw [if_neg (by omega)]
  simp only [Nat.sub_zero, List.drop_zero]
  rw [Nat.min_eq_left (by omega)]
theorem cut_drop {us : List V} {i : Int} (h0 : 0 ≤ i) (h1 : i < (us.length : Int)) : cutV us (some (i + 1)) none = us.drop (i.toNat + 1) := by
  unfold cutV HT.sIx
  dsimp only
  rw [if_neg (by omega), Nat.min_eq_left (by omega)]
  have e : (i + 1).toNat = i.toNat + 1 := by omega
  rw [e, List.take_of_length_le (by rw [List.length_drop]; omega)]
/-! block Near: _law_near, an address with something in it otherwise (behind bAcc, bDrawn) -/
theorem iq {i : Int} (h1 : -(10 ^ 100) ≤ i) (h2 : i ≤ 10 ^ 100) : Rp.fineQ (.int i) := by
  show i.natAbs < 10 ^ 180
  have : (10 : Int) ^ 100 < 10 ^ 180 := by decide
  have e : ((10 ^ 180 : Nat) : Int) = 10 ^ 180 := by decide
  omega
theorem ints_Sds : ∀ a : List Int, (∀ k ∈ a, -(10 ^ 100) ≤ k ∧ k ≤ 10 ^ 100) → Sds (2 * a.length) 0 (a.map .int)
  | [], _ => .nil
  | k :: a, h => by
    have h1 := h k (List.mem_cons_self ..)
    have s1 : Sd 0 0 (.int k) := ⟨iq h1.1 h1.2, by simp [PyData.bulk], by simp [PyData.depth]⟩
    have s2 := Sds.cons s1 (ints_Sds a fun x hx => h x (List.mem_cons_of_mem _ hx))
    rw [List.map_cons]
    refine ⟨s2.fine, Nat.le_trans s2.bulk ?_, s2.depth⟩
    simp only [List.length_cons]
    omega
theorem Sds.mono {b e b' e' : Nat} {ds : List PyData} (h : Sds b e ds) (h1 : b ≤ b') (h2 : e ≤ e') : Sds b' e' ds := ⟨h.fine, Nat.le_trans h.bulk h1, Nat.le_trans h.depth h2⟩
/-- what is drawn -/
def NearOk (d : PyData) : Prop := Sd 200 6 d
def spNear (K : PySem.W.Frag) : Sp := fun vs H Q _ => ∃ (p : Addr) (m : Nat) (t : Addr) (a : List Int), vs = [.ref p, .ref t] ∧ Pot H p m ∧ m + 2 ≤ 1099511627776 ∧ SqT K H t (a.map V.int) ∧ a.length ≤ 20 ∧ (∀ k ∈ a, 0 ≤ k ∧ k ≤ M30) ∧
  ∀ (H' : Hp) (r : V) (d : PyData), Sx p H H' → Pot H' p (m + 2) → Dq K p H' r d → NearOk d → Q r H'
theorem ints_q {K : PySem.W.Frag} {p : Addr} {H : Hp} : ∀ a : List Int, DqAll K p H (a.map V.int) (a.map .int)
  | [] => .nil
  | k :: a => .cons (.int k) (ints_q a)
theorem ints_dp {K : PySem.W.Frag} {H : Hp} : ∀ a : List Int, DpAll K H (a.map V.int) (a.map .int)
  | [] => .nil
  | k :: a => .cons (.int k) (ints_dp a)
theorem shaped_ints (a : List Int) : SeqAt.shaped (.tuple (a.map .int)) = true := by
  have h1 : ∀ a : List Int, PyData.canLayAll0 (a.map .int) = true := by
    intro a
    induction a with
    | nil => rfl
    | cons k a ih => simpa [PyData.canLayAll0, PyData.canLay0] using ih
  have h2 : ∀ a : List Int, PyData.depthAll (a.map .int) ≤ 1 := by
    intro a
    induction a with
    | nil => simp [PyData.depthAll]
    | cons k a ih =>
      simp only [List.map_cons, PyData.depthAll, PyData.depth]
      omega
  have h3 := h2 a
  unfold SeqAt.shaped
  simp only [PyData.canLay0, h1, PyData.depth, Bool.true_and]
  exact decide_eq_true (by omega)
theorem cut_ints (a : List Int) (lo hi : Option Int) : ∃ a' : List Int, cutV (a.map V.int) lo hi = a'.map V.int ∧ (∀ k ∈ a', k ∈ a) ∧ a'.length ≤ a.length := by
  refine ⟨(a.drop (HT.sIx (a.map V.int).length 0 lo)).take (HT.sIx (a.map V.int).length (a.map V.int).length hi - HT.sIx (a.map V.int).length 0 lo), ?_, ?_, ?_⟩
  · unfold cutV
    rw [List.map_take, List.map_drop]
  · intro k hk
    exact List.mem_of_mem_drop (List.mem_of_mem_take hk)
  · rw [List.length_take, List.length_drop]
    omega
theorem near_ints {a : List Int} (hl : a.length ≤ 90) (h : ∀ k ∈ a, -(10 ^ 100) ≤ k ∧ k ≤ 10 ^ 100) : NearOk (.tuple (a.map .int)) := (Sd.tup (ints_Sds a h)).mono (by omega) (by omega)
section
variable {P : Program} {w : World} {K : PySem.W.Frag} {mg : Str → Option Value} {base : Heap}
theorem ok_near (T : Txt K mg) : FnOk P w K mg base CX0 2 T.f__law_near T.d__law_near ["_law_pot_here", "_law_address"] (spNear K) := by
  have g__law_take : FnOk P w K mg base CX0 1 T.f__law_take T.d__law_take ["_law_pot_here", "_law_many"] spTake := ok_take T
  refine T.F__law_near.ok sc__law_near (fun vs H Q E h => ?_) (fun cdv A outer s H vs Q E hr h => ?_)
  · obtain ⟨p, m, t, a, rfl, _⟩ := h
    rfl
  obtain ⟨p, m, t, a, rfl, hp, hm, ht, hl, hb, q⟩ := h
  refine ⟨_, (pss_cons (ps_set (i := 2) sc__law_near.nd rfl (Or.inl rfl) (pe_call g__law_take (hr.mono (by omega)) rfl T.m__law_take T.F__law_take.kp T.b__law_take .nil pass0 (pa_cons (pv 0) (pa_cons (pe_callB (call_max2 rfl) (by rfl) T.n_max (by decide +kernel) (pa_cons pe_int (pa_cons (pe_callB (r := rLenS K) call_lenS (by rfl) T.n_len (by decide +kernel) (pa_cons (pv 1) pa_nil)) pa_nil))) pa_nil))))
      (pss_cons (ps_set (i := 3) sc__law_near.nd rfl (Or.inl rfl) (pe_lst (pa_cons (pv 1) (pa_cons (pe_op (r := rCatA K) op_catA (pv 1) (pe_tup (pa_cons pe_int pa_nil))) (pa_cons (pe_slice (r := rSlA K) sl_tupA (pv 1) po_none (po_some (pe_un un_neg pe_int))) (pa_cons (pe_callTy (r := rListS K) call_listS (by rfl) T.n_list (by decide +kernel) (pa_cons (pv 1) pa_nil)) (pa_cons (pe_revT (pv 1)) (pa_cons (pe_tup (pa_cons (pv 1) pa_nil)) (pa_cons pe_non (pa_cons pe_str (pa_cons pe_int pa_nil)))))))))))
      (C8.pss_cut (ps_if (pt_cmpR (r := rNeD K) (op_neD hr.units) (pv 1) (pe_tup pa_nil) (nomark _)) (pss_one (ps_for PassesOwn.never rfl (pi_tup (pe_tup (pa_cons (pe_op op_add (pe_ix (r := rIxT K) ix_tup (pv 1) (pv 2) (fun _ _ => rfl)) pe_int) (pa_cons (pe_op op_sub (pe_ix (r := rIxT K) ix_tup (pv 1) (pv 2) (fun _ _ => rfl)) pe_int) (pa_cons pe_bl (pa_cons pe_non (pa_cons pe_str (pa_cons (pe_op op_powW pe_int pe_int) (pa_cons (pe_op op_sub pe_int (pe_ix (r := rIxT K) ix_tup (pv 1) (pv 2) (fun _ _ => rfl))) (pa_cons (pe_tup (pa_cons pe_int pa_nil)) (pa_cons (pe_lst (pa_cons pe_int pa_nil)) (pa_cons pe_dnewK pa_nil)))))))))))) (pg_name (i := 4) sc__law_near.nd rfl (Or.inl rfl))
          (pss_one (ps_expr (pe_bm PySem.F.plainAttrs_list PySem.F.slot_list_append PySem.F.type_list_append mt_append (pv 3) (pa_cons (pe_op (r := rCatA K) op_catA (pe_op (r := rCatA K) op_catA (pe_slice (r := rSlA K) sl_tupA (pv 1) po_none (po_some (pv 2))) (pe_tup (pa_cons (pv 4) pa_nil))) (pe_slice (r := rSlA K) sl_tupA (pv 1) (po_some (pe_op op_add (pv 2) pe_int)) po_none)) pa_nil)))))) pss_nil)
      (pss_one (ps_ret (pe_ix (r := rIxL K) ix_list (pv 3) (pe_call g__law_take (hr.mono (by omega)) rfl T.m__law_take T.F__law_take.kp T.b__law_take .nil pass0 (pa_cons (pv 0) (pa_cons (pe_callB (r := rLenS K) call_lenS (by rfl) T.n_len (by decide +kernel) (pa_cons (pv 3) pa_nil)) pa_nil))) (fun _ _ => rfl))))))), ?_⟩
  obtain ⟨lp, hlp⟩ := hp.lst
  have hb' : ∀ k ∈ a, -(10 ^ 100) ≤ k ∧ k ≤ 10 ^ 100 := fun k hk => by
    have h := hb k hk
    simp only [M30] at h
    have e : (1000000000000000000000000000000 : Int) ≤ 10 ^ 100 := by decide
    omega
  have al : (a.map V.int).length = a.length := List.length_map ..
  refine ⟨_, rfl, _, rfl, t, _, rfl, .inr ht, _, _, rfl, p, m, _, rfl, hp, by omega, ?_, ?_, fun H1 r s1 hp1 r0 r1 => ?_⟩
  · split <;> omega
  · rw [al]
    split
    · exact Nat.lt_of_le_of_lt (show ((a.length : Int)).natAbs ≤ 20 by omega) (by decide)
    · decide
  rw [al] at r1
  have hlp1 : ∃ l, H1 p = some (.lst l) := hp1.lst
  obtain ⟨lp1, hlp1⟩ := hlp1
  have ht1 : SqT K H1 t (a.map V.int) := s1.sqT hlp ht
  have A0 : Acc K p H1 H1 [.ref t] [.tuple (a.map .int)] := ⟨Same.refl _, .cons (.tup ht1 (ints_q a)) .nil⟩
  refine ⟨_, rfl, _, rfl, (by show 1 ≤ sizeLine; decide), fun t1 h1 => ?_⟩
  have sG1 : Same H1 (upd H1 t1 (.tup [.int 0])) := same_new h1
  have q1 : SqT K (upd H1 t1 (.tup [.int 0])) t1 [.int 0] := SqT.of upd_same
  generalize (upd H1 t1 (.tup [.int 0])) = G1 at sG1 q1 ⊢
  have A1 : Acc K p H1 G1 [.ref t] [.tuple (a.map .int)] := ⟨sG1, A0.f.keep (Same.kp sG1)⟩
  refine rCatA_q (same_sqT A1.s ht1) q1 (by rw [al]; exact small (by simp only [List.length_singleton]; omega)) (fun G2 t2 sG2 q2 => ?_)
  have q2' : SqT K G2 t2 ((a ++ [0]).map V.int) := by rw [List.map_append]; exact q2
  have A2 := A1.more sG2 (.tup q2' (ints_q (a ++ [0])))
  refine ⟨_, rfl, ?_⟩
  try unfold tNoPart
  dsimp only
  refine ⟨1, rfl, _, rfl, ?_⟩
  refine rSlA_q (same_sqT A2.s ht1) (fun G3 t3 sG3 q3 => ?_)
  obtain ⟨a3, ea3, ha3, la3⟩ := cut_ints a none (some (-1))
  rw [ea3] at q3
  have A3 := A2.more sG3 (.tup q3 (ints_q a3))
  refine ⟨_, rfl, t, _, rfl, .inr (same_sqT A3.s ht1), fun l4 h4 => ?_⟩
  have A4 := A3.lst hlp1 h4 (ints_q a)
  generalize (upd G3 l4 _) = G4 at A4 ⊢
  refine ⟨_, rfl, t, _, rfl, same_sqT A4.s ht1, fun t5 h5 => ?_⟩
  rw [← List.map_reverse]
  have A5 := A4.tup h5 (ints_q a.reverse)
  generalize (upd G4 t5 _) = G5 at A5 ⊢
  refine ⟨_, rfl, (by show 1 ≤ sizeLine; decide), fun t6 h6 => ?_⟩
  have A6 := A5.tup h6 (.cons (A5.f.at 4 rfl rfl) .nil)
  generalize (upd G5 t6 _) = G6 at A6 ⊢
  refine ⟨(by show 9 ≤ sizeLine; decide), fun L hL => ?_⟩
  have W : DqAll K p G6 [.ref t, .ref t2, .ref t3, .ref l4, .ref t5, .ref t6, .non, .str "0", .int 0] [.tuple (a.map .int), .tuple ((a ++ [0]).map .int), .tuple (a3.map .int), .list (a.map .int), .tuple (a.reverse.map .int), .tuple [.tuple (a.map .int)], .none, .str "0", .int 0] :=
    .cons (A6.f.at 5 rfl rfl) (.cons (A6.f.at 4 rfl rfl) (.cons (A6.f.at 3 rfl rfl) (.cons (A6.f.at 2 rfl rfl) (.cons (A6.f.at 1 rfl rfl) (.cons (A6.f.at 0 rfl rfl) (.cons .non (.cons (.str _) (.cons (.int _) .nil))))))))
  have N : ∀ d ∈ [PyData.tuple (a.map .int), .tuple ((a ++ [0]).map .int), .tuple (a3.map .int), .list (a.map .int), .tuple (a.reverse.map .int), .tuple [.tuple (a.map .int)], .none, .str "0", .int 0], NearOk d := by
    intro d hd
    simp only [List.mem_cons, List.not_mem_nil, or_false] at hd
    rcases hd with rfl | rfl | rfl | rfl | rfl | rfl | rfl | rfl | rfl
    · exact near_ints (by omega) hb'
    · refine near_ints (by rw [List.length_append, List.length_singleton]; omega) fun k hk => ?_
      rw [List.mem_append, List.mem_singleton] at hk
      rcases hk with hk | rfl
      · exact hb' k hk
      · decide
    · exact near_ints (by omega) fun k hk => hb' k (ha3 k hk)
    · exact (Sd.lst (ints_Sds a hb')).mono (by omega) (by omega)
    · exact near_ints (by rw [List.length_reverse]; omega) fun k hk => hb' k (List.mem_reverse.mp hk)
    · exact (Sd.tup (Sds.cons (Sd.tup (ints_Sds a hb')) .nil)).mono (by omega) (by omega)
    all_goals exact ⟨by simp only [fineQ] <;> decide +kernel, by decide, by decide⟩
  have nLp : L ≠ p := fun z => by rw [z, A6.s _ _ hlp1] at hL; cases hL
  have sM : Same G6 (mask (upd G6 L (.lst [.ref t, .ref t2, .ref t3, .ref l4, .ref t5, .ref t6, .non, .str "0", .int 0])) L) := mask_new hL
  have W' := W.keep (Same.kp sM)
  have eL : upd G6 L (.lst [.ref t, .ref t2, .ref t3, .ref l4, .ref t5, .ref t6, .non, .str "0", .int 0]) L = some (.lst [.ref t, .ref t2, .ref t3, .ref l4, .ref t5, .ref t6, .non, .str "0", .int 0]) := upd_same
  have S6 : Same H1 (mask (upd G6 L (.lst [.ref t, .ref t2, .ref t3, .ref l4, .ref t5, .ref t6, .non, .str "0", .int 0])) L) := A6.s.trans sM
  generalize ([.ref t, .ref t2, .ref t3, .ref l4, .ref t5, .ref t6, .non, .str "0", .int 0] : List V) = ws at W' eL S6 ⊢
  have hwl : ws.length = 9 := dqAll_length W'
  generalize ([PyData.tuple (a.map .int), .tuple ((a ++ [0]).map .int), .tuple (a3.map .int), .list (a.map .int), .tuple (a.reverse.map .int), .tuple [.tuple (a.map .int)], .none, .str "0", .int 0]) = ds at W' N
  generalize (upd G6 L (.lst ws)) = H7 at W' eL S6 ⊢
  clear W A0 A1 A2 A3 A4 A5 A6 q1 q2 q2' q3
  refine ⟨fun σ H' => ∃ (ws : List V) (ds : List PyData) (y4 : Option V), σ = [some (.ref p), some (.ref t), some (.int r), some (.ref L), y4] ∧ H' L = some (.lst ws) ∧ Same H1 (mask H' L) ∧ DqAll K p (mask H' L) ws ds ∧ (∀ d ∈ ds, NearOk d) ∧ 0 < ws.length ∧ ws.length ≤ 19, ?_, ?_⟩
  · refine ⟨_, rfl, (by show 0 ≤ sizeLine; decide), fun t0 h0 => ?_⟩
    have s8 : Same H7 (upd H7 t0 (.tup [])) := same_new h0
    have d0 : Dp K (upd H7 t0 (.tup [])) (.ref t0) (.tuple []) := .tup (SqT.of upd_same) .nil
    generalize (upd H7 t0 (.tup [])) = H8 at s8 d0 ⊢
    have S8 : Same H1 (mask H8 L) := S6.trans (mask_mono s8)
    have W8 := W'.keep (Same.kp (mask_mono (L := L) s8))
    have eL8 := s8 _ _ eL
    have R8 : Same H1 H8 := S8.trans (same_mask _ _)
    have ht8 := same_sqT R8 ht1
    refine ⟨_, _, .tup ht8 (ints_dp a), d0, shaped_ints a, shaped_ints [], _, rfl, ?_⟩
    cases a with
    | nil =>
      refine iteF ?_
      exact ⟨ws, ds, none, rfl, eL8, S8, W8, N, by omega, by omega⟩
    | cons a0 a' =>
    refine iteT ?_
    have hne : 0 < (a0 :: a').length := by simp
    generalize (a0 :: a') = a at *
    have r2 : r < (a.length : Int) := by
      split at r1 <;> omega
    obtain ⟨k, hk, ek⟩ := atI_int (ns := a) r0 r2
    have kb := hb k hk
    simp only [M30] at kb
    have e30 : (10 : Int) ^ (30 : Int).toNat = 1000000000000000000000000000000 := by decide
    refine ⟨_, rfl, _, rfl, _, _, _, _, rfl, rfl, ht8, ek, _, _, rfl, rfl, _, rfl, _, rfl, _, _, _, _, rfl, rfl, ht8, ek, _, _, rfl, rfl, _, _, rfl, rfl, powW_of 4 (by decide) (by decide) (by decide), _, rfl, _, rfl, _, _, _, _, rfl, rfl, ht8, ek, _, _, rfl, rfl, (by show 1 ≤ sizeLine; decide), fun t1 h1 => ?_⟩
    have n1 : t1 ≠ L := fun z => by rw [z, eL8] at h1; cases h1
    have u1 : Same H8 (upd H8 t1 (.tup [.int 0])) := same_new h1
    have e1 : upd H8 t1 (.tup [.int 0]) t1 = some (.tup [.int 0]) := upd_same
    generalize (upd H8 t1 (.tup [.int 0])) = F1 at u1 e1 ⊢
    refine ⟨(by show 1 ≤ sizeLine; decide), fun l2 h2 => ?_⟩
    have n2 : l2 ≠ L := fun z => by rw [z, u1 _ _ eL8] at h2; cases h2
    have m2 : l2 ≠ p := fun z => by rw [z, u1 _ _ (R8 _ _ hlp1)] at h2; cases h2
    have u2 : Same F1 (upd F1 l2 (.lst [.int 0])) := same_new h2
    have e2 : upd F1 l2 (.lst [.int 0]) l2 = some (.lst [.int 0]) := upd_same
    generalize (upd F1 l2 (.lst [.int 0])) = F2 at u2 e2 ⊢
    intro d3 h3
    have n3 : d3 ≠ L := fun z => by rw [z, u2 _ _ (u1 _ _ eL8)] at h3; cases h3
    have m3 : d3 ≠ p := fun z => by rw [z, u2 _ _ (u1 _ _ (R8 _ _ hlp1))] at h3; cases h3
    have u3 : Same F2 (upd F2 d3 (.dK [])) := same_new h3
    have e3 : upd F2 d3 (.dK []) d3 = some (.dK []) := upd_same
    generalize (upd F2 d3 (.dK [])) = F3 at u3 e3 ⊢
    refine ⟨(by show 10 ≤ sizeLine; decide), fun t4 h4 => ?_⟩
    generalize eF : upd F3 t4 _ = F4
    have u4 : Same F3 F4 := by
      rw [← eF]
      exact same_new h4
    have e4 : F4 t4 = some (.tup [.int (k + 1), .int (k - 1), .bl true, .non, .str "0", .int 1000000000000000000000000000000, .int (0 - k), .ref t1, .ref l2, .ref d3]) := by
      rw [← eF, upd_same]
      rfl
    clear eF
    have U : Same H8 F4 := u1.trans (u2.trans (u3.trans u4))
    have X : DqAll K p (mask F4 L) [.int (k + 1), .int (k - 1), .bl true, .non, .str "0", .int 1000000000000000000000000000000, .int (0 - k), .ref t1, .ref l2, .ref d3] [.int (k + 1), .int (k - 1), .bool true, .none, .str "0", .int 1000000000000000000000000000000, .int (0 - k), .tuple [.int 0], .list [.int 0], .dict []] :=
      .cons (.int _) (.cons (.int _) (.cons (.bl _) (.cons .non (.cons (.str _) (.cons (.int _) (.cons (.int _) (.cons (.tup (SqT.of (mask_at n1 (u4 _ _ (u3 _ _ (u2 _ _ e1))))) (.cons (.int _) .nil)) (.cons (.lst m2 (mask_at n2 (u4 _ _ (u3 _ _ e2))) (.cons (.int _) .nil)) (.cons (.dct m3 (mask_at n3 (u4 _ _ e3)) (fun _ => rfl)) .nil)))))))))
    have XN : ∀ d ∈ [PyData.int (k + 1), .int (k - 1), .bool true, .none, .str "0", .int 1000000000000000000000000000000, .int (0 - k), .tuple [.int 0], .list [.int 0], .dict []], Sd 10 2 d := by
      have e100 : (1000000000000000000000000000001 : Int) ≤ 10 ^ 100 := by decide
      intro d hd
      simp only [List.mem_cons, List.not_mem_nil, or_false] at hd
      rcases hd with rfl | rfl | rfl | rfl | rfl | rfl | rfl | rfl | rfl | rfl
      · exact ⟨iq (by omega) (by omega), by simp [PyData.bulk], by simp [PyData.depth]⟩
      · exact ⟨iq (by omega) (by omega), by simp [PyData.bulk], by simp [PyData.depth]⟩
      · exact ⟨trivial, by simp [PyData.bulk], by simp [PyData.depth]⟩
      · exact ⟨trivial, by simp [PyData.bulk], by simp [PyData.depth]⟩
      · exact ⟨by simp only [fineQ] <;> decide +kernel, by decide, by decide⟩
      · exact ⟨iq (by omega) (by omega), by simp [PyData.bulk], by simp [PyData.depth]⟩
      · exact ⟨iq (by omega) (by omega), by simp [PyData.bulk], by simp [PyData.depth]⟩
      · exact (Sd.tup (ints_Sds [0] (by decide))).mono (by decide) (by decide)
      · exact (Sd.lst (ints_Sds [0] (by decide))).mono (by decide) (by decide)
      · exact ⟨by simp [fineQ], by decide, by decide⟩
    generalize ([PyData.int (k + 1), .int (k - 1), .bool true, .none, .str "0", .int 1000000000000000000000000000000, .int (0 - k), .tuple [.int 0], .list [.int 0], .dict []] : List PyData) = xds at X XN
    have xl : ([.int (k + 1), .int (k - 1), .bl true, .non, .str "0", .int 1000000000000000000000000000000, .int (0 - k), .ref t1, .ref l2, .ref d3] : List V).length = 10 := rfl
    generalize ([.int (k + 1), .int (k - 1), .bl true, .non, .str "0", .int 1000000000000000000000000000000, .int (0 - k), .ref t1, .ref l2, .ref d3] : List V) = xvs at X e4 xl ⊢
    have SF : Same H1 (mask F4 L) := S8.trans (mask_mono U)
    refine ⟨t4, rfl, ⟨xvs, SqT.of e4⟩, ?_⟩
    have n4 : t4 ≠ L := fun z => by rw [z, u3 _ _ (u2 _ _ (u1 _ _ eL8))] at h4; cases h4
    refine for_tup (K := K) (a := t4) (xs := xvs) (fun i σ H' => ∃ (ws : List V) (ds : List PyData) (y4 : Option V), σ = [some (.ref p), some (.ref t), some (.int r), some (.ref L), y4] ∧ H' L = some (.lst ws) ∧ Same (mask F4 L) (mask H' L) ∧ DqAll K p (mask H' L) ws ds ∧ (∀ d ∈ ds, NearOk d) ∧ ws.length = 9 + i)
      ⟨ws, ds, none, rfl, U _ _ eL8, Same.refl _, W8.keep (Same.kp (mask_mono U)), N, by omega⟩ (fun i σ H' _ ⟨_, _, _, _, _, sm, _⟩ => SqT.of (same_mask _ _ _ _ (sm _ _ (mask_at n4 e4)))) ?_ ?_
    · rintro i x σ H' hi ⟨ws, ds, y4, rfl, eL, S, W, N, wl⟩
      obtain ⟨d, md, ed, hd⟩ := dqAll_some X hi
      have hi10 : i < 10 := by rw [← xl]; exact (List.getElem?_eq_some_iff.mp hi).1
      have R := SF.trans (S.trans (same_mask _ _))
      have htn := same_sqT R ht1
      refine ⟨_, rfl, .inl ⟨rfl, _, SqL.of eL⟩, _, rfl, ?_⟩
      try unfold tNoPart
      dsimp only
      refine ⟨_, rfl, _, rfl, ?_⟩
      refine rSlA_q htn (fun G1 t1 s1 q1 => ?_)
      obtain ⟨b1, eb1, hb1, lb1⟩ := cut_ints a none (some r)
      rw [eb1] at q1
      refine ⟨_, rfl, (by show 1 ≤ sizeLine; decide), fun t2 h2 => ?_⟩
      have s2 : Same G1 (upd G1 t2 (.tup [x])) := same_new h2
      have q2 : SqT K (upd G1 t2 (.tup [x])) t2 [x] := SqT.of upd_same
      generalize (upd G1 t2 (.tup [x])) = G2 at s2 q2 ⊢
      refine rCatA_q (same_sqT s2 q1) q2 (by rw [List.length_map]; exact small (by simp only [List.length_singleton]; omega)) (fun G3 t3 s3 q3 => ?_)
      refine ⟨_, rfl, _, rfl, _, _, rfl, rfl, _, rfl, ?_⟩
      try unfold tNoPart
      dsimp only
      refine rSlA_q (same_sqT (s1.trans (s2.trans s3)) htn) (fun G4 t4 s4 q4 => ?_)
      obtain ⟨b2, eb2, hb2, lb2⟩ := cut_ints a (some (r + 1)) none
      rw [eb2] at q4
      refine rCatA_q (same_sqT s4 q3) q4 (by rw [List.length_append, List.length_map, List.length_map]; exact small (by simp only [List.length_singleton]; omega)) (fun G5 t5 s5 q5 => ?_)
      have s15 := s1.trans (s2.trans (s3.trans (s4.trans s5)))
      have eL5 := s15 _ _ eL
      have sm := mask_mono (L := L) s15
      refine ⟨L, _, _, rfl, rfl, eL5, small1000 (by omega), ?_⟩
      refine ⟨ws ++ [.ref t5], ds ++ [.tuple ((b1.map .int ++ [d]) ++ b2.map .int)], _, rfl, upd_same, ?_, ?_, ?_, ?_⟩
      · rw [mask_upd]
        exact S.trans sm
      · rw [mask_upd]
        exact dqAll_append (W.keep (Same.kp sm)) (.cons (.tup (sx_mask.sqT eL5 q5) (dqAll_append (dqAll_append (ints_q b1) (.cons (hd.keep (Same.kp (S.trans sm))) .nil)) (ints_q b2))) .nil)
      · intro e he
        rw [List.mem_append, List.mem_singleton] at he
        rcases he with he | rfl
        · exact N e he
        · have h1 := ints_Sds b1 fun k hk => hb' k (hb1 k hk)
          have h2 := ints_Sds b2 fun k hk => hb' k (hb2 k hk)
          exact (Sd.tup (Sds.app (Sds.app h1 (Sds.cons (XN d md) .nil)) h2)).mono (by omega) (by omega)
      · rw [List.length_append, List.length_singleton]
        omega
    · rintro σ H' ⟨ws, ds, y4, rfl, eL, S, W, N, wl⟩
      rw [xl] at wl
      exact ⟨ws, ds, y4, rfl, eL, SF.trans S, W, N, by omega, by omega⟩
  · rintro σ H' ⟨ws, ds, y4, rfl, eL, S, W, N, w0, w1⟩
    have S' := S.trans (same_mask _ _)
    obtain ⟨l', hl'⟩ : ∃ l, H' p = some (.lst l) := ⟨_, S' _ _ hlp1⟩
    have nLp : L ≠ p := fun z => by
      have := S _ _ hlp1
      rw [← z, mask_none] at this
      cases this
    refine ⟨_, rfl, _, rfl, _, rfl, L, _, rfl, .inl (SqL.of eL), p, m + 1, _, rfl, hp1.same S', by omega, by omega, Nat.lt_of_le_of_lt (show ((ws.length : Int)).natAbs ≤ 19 by omega) (by decide), fun H2 r2 s2 hp2 k0 k1 => ?_⟩
    obtain ⟨v, ev, eat⟩ := pick k0 k1
    obtain ⟨d, md, _, hd⟩ := dqAll_some W ev
    refine ⟨_, _, _, _, rfl, rfl, SqL.of (s2 _ _ nLp eL), eat, ?_⟩
    exact q _ _ d (s1.trans ((Same.sx S').trans s2)) hp2 (hd.keep ((Same.kp (same_mask _ _)).trans (s2.kp hl'))) (N d md)
end
/-! block Val: _law_value, is_address, step_value, _law_refused (behind bFind) -/
def spVal (K : PySem.W.Frag) : Sp := fun vs H Q _ => ∃ (v u : V) (j : J) (p : Addr) (d : PyData), vs = [v, u] ∧ Dp K H v j.toD ∧ Dq K p H u d ∧ ∀ H', Same H H' → Q (opV (fdD j d)) H'
theorem find_nt {y : J} {d : PyData} {r : List PyData} (h : isTup y.toD = false) : y.find (d :: r) = none := by
  cases y with
  | st i => cases d <;> rfl
  | ps b xs => cases h
  | rn b n x => cases h
theorem find_ni {y : J} {d : PyData} {r : List PyData} (h : isI d = false) : y.find (d :: r) = none := by
  cases d with
  | int k => simp [isI] at h
  | _ => cases y <;> rfl
def spRef (K : PySem.W.Frag) : Sp := fun vs H Q _ => ∃ (v u : V) (j : J) (p : Addr) (d : PyData), vs = [v, u] ∧ Dp K H v j.toD ∧ j.deep ≤ 20 ∧ (szJ j 400 13).isSome = true ∧ Dq K p H u d ∧ d.bulk ≤ 80000 ∧ ∀ H', Same H H' → Q (.bl (fdD j d).isNone) H'
section
variable {P : Program} {w : World} {K : PySem.W.Frag} {mg : Str → Option Value} {base : Heap}
theorem ok_val (T : Txt K mg) : FnOk P w K mg base CX0 1 T.f__law_value T.d__law_value ["_law_job_here", "_law_address"] (spVal K) := by
  refine T.F__law_value.ok sc__law_value (fun vs H Q E h => ?_) (fun cdv A outer s H vs Q E hr h => ?_)
  · obtain ⟨v, u, j, p, d, rfl, _⟩ := h
    rfl
  obtain ⟨v, u, j, p, d, rfl, hd, hu, q⟩ := h
  refine ⟨_, (pss_cons (ps_if (pt_not (pt_val (pe_callB (r := rIsQ K) call_isQ (by rfl) T.n_isinstance (by decide +kernel) (pa_cons (pv 1) (pa_cons (pe_bltn (v := .ty "tuple") (by rfl) T.n_tuple (by decide +kernel) rfl) pa_nil))))) (pss_one (ps_ret pe_non)) pss_nil)
      (pss_cons (ps_for PassesOwn.never rfl (pi_tup (pv 1)) (pg_name (i := 2) sc__law_value.nd rfl (Or.inl rfl))
        (pss_cons (ps_if (PW.pt (pw_or (pt_not (pt_val (pe_callB (r := rIsQ K) call_isQ (by rfl) T.n_isinstance (by decide +kernel) (pa_cons (pv 0) (pa_cons (pe_bltn (v := .ty "tuple") (by rfl) T.n_tuple (by decide +kernel) rfl) pa_nil))))) (pw_or (pt_not (pt_val (pe_callB (r := rIsQ K) call_isQ (by rfl) T.n_isinstance (by decide +kernel) (pa_cons (pv 2) (pa_cons (pe_bltn (v := .ty "int") (by rfl) T.n_int (by decide +kernel) rfl) pa_nil))))) (pw_or1 (pt_val (pe_callB (r := rIsQ K) call_isQ (by rfl) T.n_isinstance (by decide +kernel) (pa_cons (pv 2) (pa_cons (pe_bltn (v := .ty "bool") (by rfl) T.n_bool (by decide +kernel) rfl) pa_nil)))))))) (pss_one (ps_ret pe_non)) pss_nil)
        (pss_cons (ps_if (pt_not (pt_chain op_le op_lt pe_int (pv 2) (pe_ifExp (pt_cmpR (r := rIn K false) op_in_seq (pe_ix (r := rIxT K) ix_tup (pv 0) pe_int (fun _ _ => rfl)) (pe_tup (pa_cons pe_str (pa_cons pe_str pa_nil))) (by rfl)) (pe_callB (r := rLenS K) call_lenS (by rfl) T.n_len (by decide +kernel) (pa_cons (pe_ix (r := rIxT K) ix_tup (pv 0) pe_int (fun _ _ => rfl)) pa_nil)) (pe_ix (r := rIxT K) ix_tup (pv 0) pe_int (fun _ _ => rfl))))) (pss_one (ps_ret pe_non)) pss_nil)
        (pss_one (ps_set (i := 0) sc__law_value.nd rfl (Or.inl rfl) (pe_ifExp (pt_cmpR (r := rIn K false) op_in_seq (pe_ix (r := rIxT K) ix_tup (pv 0) pe_int (fun _ _ => rfl)) (pe_tup (pa_cons pe_str (pa_cons pe_str pa_nil))) (by rfl)) (pe_ix (r := rIxT K) ix_tup (pe_ix (r := rIxT K) ix_tup (pv 0) pe_int (fun _ _ => rfl)) (pv 2) (fun _ _ => rfl)) (pe_ix (r := rIxT K) ix_tup (pv 0) pe_int (fun _ _ => rfl))))))))
      (pss_one (ps_ret (pe_ifExp (pt_val (pe_callB (r := rIsQ K) call_isQ (by rfl) T.n_isinstance (by decide +kernel) (pa_cons (pv 0) (pa_cons (pe_bltn (v := .ty "tuple") (by rfl) T.n_tuple (by decide +kernel) rfl) pa_nil)))) pe_non (pv 0)))))), ?_⟩
  refine ⟨_, rfl, u, _, p, d, _, rfl, hu, kit_tuple d, _, rfl, ?_⟩
  cases et : isTup d with
  | false =>
    refine iteT ?_
    have e : fdD j d = none := by cases d <;> first | rfl | cases et
    rw [e] at q
    exact q _ (Same.refl _)
  | true =>
  obtain ⟨ds, rfl⟩ : ∃ ds, d = .tuple ds := by
    cases d <;> first | exact ⟨_, rfl⟩ | cases et
  obtain ⟨t, xs, rfl, hxs, hall⟩ := dq_tup_inv hu
  have hlen : xs.length = ds.length := dqAll_length hall
  simp only [fdD] at q
  refine iteF ?_
  refine ⟨_, rfl, t, rfl, ⟨xs, hxs⟩, ?_⟩
  refine for_tup (K := K) (a := t) (xs := xs) (fun i σ H' => ∃ (z : V) (y : J) (y2 : Option V), σ = [some z, some (.ref t), y2] ∧ Same H H' ∧ Dp K H' z y.toD ∧ j.find ds = y.find (ds.drop i))
    ⟨v, j, none, rfl, Same.refl _, hd, rfl⟩ (fun i σ H' _ ⟨_, _, _, _, s2, _⟩ => same_sqT s2 hxs) ?_ ?_
  · rintro i x σ H' hi ⟨z, y, y2, rfl, s2, hz, ef⟩
    obtain ⟨d, ed, hd1⟩ := dqAll_get hall hi
    have hd' := hd1.keep (Same.kp s2)
    obtain ⟨hlt, ed'⟩ := List.getElem?_eq_some_iff.mp ed
    have da : ds.drop i = d :: ds.drop (i + 1) := by rw [← ed']; exact List.drop_eq_getElem_cons hlt
    rw [da] at ef
    have no : y.find (d :: ds.drop (i + 1)) = none → Q .non H' := fun e => by
      rw [ef, e] at q
      exact q _ s2
    refine ⟨_, rfl, z, _, p, y.toD, _, rfl, dq_of y.noL hz, kit_tuple _, _, rfl, ?_⟩
    cases ey : isTup y.toD with
    | false =>
      refine iteT ?_
      exact no (find_nt ey)
    | true =>
    refine iteF ?_
    refine ⟨_, rfl, x, _, p, d, _, rfl, hd', kit_int d, _, rfl, ?_⟩
    cases ei : isInt d with
    | false =>
      refine iteT ?_
      exact no (find_ni (by cases d <;> first | rfl | cases ei))
    | true =>
    refine iteF ?_
    refine ⟨_, rfl, x, _, p, d, _, rfl, hd', kit_bool d, _, rfl, ?_⟩
    cases eb : isBoo d with
    | true =>
      refine iteT ?_
      exact no (find_ni (by cases d <;> first | rfl | cases eb))
    | false =>
    refine iteF ?_
    obtain ⟨k, rfl⟩ : ∃ k, d = .int k := by cases d with
      | int k => exact ⟨k, rfl⟩
      | bool b => simp [isBoo] at eb
      | _ => simp [isInt] at ei
    obtain rfl := dq_int_inv hd'
    rw [find_int] at ef no
    have no' : ∀ G, Same H' G → y.part k = none → Q .non G := fun G s e => by
      rw [ef, e] at q
      exact q _ (s2.trans s)
    refine ⟨_, rfl, _, _, rfl, rfl, _, rfl, ?_⟩
    cases y with
    | st i => cases ey
    | ps b ys =>
      obtain ⟨c, e, vs, rfl, hys, hvs, hall2⟩ := ps_inv hz
      have len : vs.length = ys.length := parts_len hall2
      refine ite2 (fun g => ?_) (fun g => ?_)
      · have g0 : 0 ≤ k := of_decide_eq_true g
        refine ⟨_, rfl, _, _, _, _, rfl, rfl, hys, rfl, (by show 2 ≤ sizeLine; decide), fun t1 h1 => ?_⟩
        refine ⟨t1, _, rfl, .inr (SqT.of upd_same), rfl, rfl, _, rfl, ?_⟩
        have s3 : Same H' (upd H' t1 (.tup [.str "seq", .str "par"])) := same_new h1
        show if inV (.str (kwP b)) [.str "seq", .str "par"] = true then _ else _
        rw [w_in_parts]
        refine iteT ?_
        generalize (upd H' t1 (.tup [.str "seq", .str "par"])) = G1 at s3 ⊢
        refine ⟨_, rfl, _, _, _, _, rfl, rfl, same_sqT s3 hys, rfl, e, vs, rfl, .inr (same_sqT s3 hvs), _, _, rfl, rfl, _, rfl, ?_⟩
        refine ite2 (fun g2 => ?_) (fun g2 => ?_)
        · have g3 : ¬ k < (vs.length : Int) := fun z => by rw [decide_eq_true z] at g2; cases g2
          refine no' _ s3 ?_
          simp only [J.part]
          rw [if_neg (by omega), List.getElem?_eq_none (by omega)]
        · have g3 : k < (vs.length : Int) := by
            rcases Int.lt_or_le k vs.length with z | z
            · exact z
            · rw [decide_eq_false (by omega)] at g2
              exact absurd rfl g2
          obtain ⟨z', ez, eat⟩ := atI_exF (vs := vs) g0 g3
          obtain ⟨j', ej', _, dj'⟩ := parts_at hall2 ez
          refine ⟨_, rfl, _, _, _, _, rfl, rfl, same_sqT s3 hys, rfl, (by show 2 ≤ sizeLine; decide), fun t2 h2 => ?_⟩
          refine ⟨t2, _, rfl, .inr (SqT.of upd_same), rfl, rfl, _, rfl, ?_⟩
          have s4 : Same G1 (upd G1 t2 (.tup [.str "seq", .str "par"])) := same_new h2
          show if inV (.str (kwP b)) [.str "seq", .str "par"] = true then _ else _
          rw [w_in_parts]
          refine iteT ?_
          generalize (upd G1 t2 (.tup [.str "seq", .str "par"])) = G2 at s4 ⊢
          have s34 := s3.trans s4
          refine ⟨_, rfl, _, _, _, _, rfl, rfl, same_sqT s34 hys, rfl, _, rfl, _, _, _, _, rfl, rfl, same_sqT s34 hvs, eat, ?_⟩
          refine ⟨_, j', _, rfl, s2.trans s34, dp_same s34 dj', ?_⟩
          rw [ef]
          simp only [J.part]
          rw [if_neg (by omega), ej']
      · refine ⟨_, rfl, ?_⟩
        refine iteT ?_
        refine no' _ (Same.refl _) ?_
        simp only [J.part]
        rw [if_pos]
        have : ¬ 0 ≤ k := fun z => g (decide_eq_true z)
        omega
    | rn b n x =>
      obtain ⟨c, e, rfl, hys, hx⟩ := rn_inv hz
      refine ite2 (fun g => ?_) (fun g => ?_)
      · have g0 : 0 ≤ k := of_decide_eq_true g
        refine ⟨_, rfl, _, _, _, _, rfl, rfl, hys, rfl, (by show 2 ≤ sizeLine; decide), fun t1 h1 => ?_⟩
        refine ⟨t1, _, rfl, .inr (SqT.of upd_same), rfl, rfl, _, rfl, ?_⟩
        have s3 : Same H' (upd H' t1 (.tup [.str "seq", .str "par"])) := same_new h1
        show if inV (.str (kwR b)) [.str "seq", .str "par"] = true then _ else _
        rw [w_in_parts_no]
        refine iteF ?_
        generalize (upd H' t1 (.tup [.str "seq", .str "par"])) = G1 at s3 ⊢
        refine ⟨_, rfl, _, _, _, _, rfl, rfl, same_sqT s3 hys, rfl, _, _, rfl, rfl, _, rfl, ?_⟩
        refine ite2 (fun g2 => ?_) (fun g2 => ?_)
        · have g3 : ¬ k < n := fun z => by rw [decide_eq_true z] at g2; cases g2
          refine no' _ s3 ?_
          simp only [J.part]
          rw [if_neg (by omega), if_neg g3]
        · have g3 : k < n := by
            rcases Int.lt_or_le k n with z | z
            · exact z
            · rw [decide_eq_false (by omega)] at g2
              exact absurd rfl g2
          refine ⟨_, rfl, _, _, _, _, rfl, rfl, same_sqT s3 hys, rfl, (by show 2 ≤ sizeLine; decide), fun t2 h2 => ?_⟩
          refine ⟨t2, _, rfl, .inr (SqT.of upd_same), rfl, rfl, _, rfl, ?_⟩
          have s4 : Same G1 (upd G1 t2 (.tup [.str "seq", .str "par"])) := same_new h2
          show if inV (.str (kwR b)) [.str "seq", .str "par"] = true then _ else _
          rw [w_in_parts_no]
          refine iteF ?_
          generalize (upd G1 t2 (.tup [.str "seq", .str "par"])) = G2 at s4 ⊢
          have s34 := s3.trans s4
          refine ⟨_, rfl, _, _, _, _, rfl, rfl, same_sqT s34 hys, rfl, ?_⟩
          refine ⟨_, x, _, rfl, s2.trans s34, dp_same s34 hx, ?_⟩
          rw [ef]
          simp only [J.part]
          rw [if_neg (by omega), if_pos g3]
      · refine ⟨_, rfl, ?_⟩
        refine iteT ?_
        refine no' _ (Same.refl _) ?_
        simp only [J.part]
        rw [if_pos]
        have : ¬ 0 ≤ k := fun z => g (decide_eq_true z)
        omega
  · rintro σ H' ⟨z, y, y2, rfl, s2, hz, ef⟩
    rw [hlen, List.drop_length] at ef
    refine ⟨_, rfl, z, _, p, y.toD, _, rfl, dq_of y.noL hz, kit_tuple _, _, rfl, ?_⟩
    rw [ef] at q
    cases y with
    | st i =>
      obtain rfl := dp_int_inv hz
      refine iteF ?_
      exact ⟨_, rfl, q _ s2⟩
    | ps b xs =>
      refine iteT ?_
      exact q _ s2
    | rn b n x =>
      refine iteT ?_
      exact q _ s2
/-- the error of a value that is no address -/
def spChk (K : PySem.W.Frag) (C : Addr) : Sp := fun vs H Q E => ∃ (v u : V) (j : J) (p : Addr) (d : PyData), vs = [v, u] ∧ Dp K H v j.toD ∧ Dq K p H u d ∧ d.bulk ≤ 80000 ∧
  (∀ i, fdD j d = some i → ∀ H', Same H H' → Q (.int i) H') ∧ (fdD j d = none → ∀ H', Same H H' → E (.ref C) none H')
theorem ok_chk (T : Txt K mg) : FnOk P w K mg base (L2.CX P w) 4 T.f__checked_step T.d__checked_step ["job", "address"] (spChk K T.c_InvalidAddress) := by
  have g_find_step := ok_find (P := P) (w := w) (base := base) T
  refine T.F__checked_step.okX sc__checked_step (fun vs H Q E h => ?_) (fun cdv A outer s H vs Q E hr h => ?_)
  · obtain ⟨v, u, j, p, d, rfl, _⟩ := h
    rfl
  obtain ⟨v, u, j, p, d, rfl, hd, hu, hb, q, qe⟩ := h
  refine ⟨_, (pss_cons (ps_set (i := 2) sc__checked_step.nd rfl (Or.inl rfl) (pe_call g_find_step (hr.mono (by omega)) rfl T.m_find_step T.F_find_step.kp T.b_find_step .nil pass0 (pa_cons (pv 0) (pa_cons (pv 1) pa_nil))))
      (pss_cons (ps_if (pt_cmpR op_isN (pv 2) pe_non (nomark _)) (pss_one (ps_raise rfl (takes_of rfl rfl rfl rfl) (pmk_own PySem.F.excBase_ValueError T.x_InvalidAddress T.g_InvalidAddress T.k_InvalidAddress (raises_own T.bb_InvalidAddress T.tt_InvalidAddress) rfl))) pss_nil)
      (pss_one (ps_ret (pv 2))))), ?_⟩
  refine ⟨_, rfl, _, rfl, v, u, j, p, d, rfl, hd, hu, hb, fun H1 s1 => ?_⟩
  cases ef : fdD j d with
  | none =>
    refine ⟨_, rfl, rfl, _, rfl, ?_⟩
    refine iteT ?_
    exact qe ef _ s1
  | some i =>
    refine ⟨_, rfl, rfl, _, rfl, ?_⟩
    refine iteF ?_
    exact ⟨_, rfl, q i ef _ s1⟩
def spStepV (K : PySem.W.Frag) (C : Addr) : Sp := fun vs H Q E => ∃ (v u : V) (j : J) (p : Addr) (d : PyData), vs = [v, u] ∧ Dp K H v j.toD ∧ j.deep ≤ 20 ∧ (szJ j 400 13).isSome = true ∧ Dq K p H u d ∧ d.bulk ≤ 80000 ∧
  (∀ i, fdD j d = some i → ∀ H', Same H H' → Q (.int i) H') ∧ (fdD j d = none → ∀ H', Same H H' → E (.ref C) none H')
theorem ok_stepv (T : Txt K mg) : FnOk P w K mg base (L2.CX P w) 44 T.f_step_value T.d_step_value ["job", "address"] (spStepV K T.c_InvalidAddress) := by
  have g_checked_sizes := ok_checked (P := P) (w := w) (base := base) T
  have g__checked_step := ok_chk (P := P) (w := w) (base := base) T
  refine T.F_step_value.okX sc_step_value (fun vs H Q E h => ?_) (fun cdv A outer s H vs Q E hr h => ?_)
  · obtain ⟨v, u, j, p, d, rfl, _⟩ := h
    rfl
  obtain ⟨v, u, j, p, d, rfl, hd, hdeep, hs, hu, hb, q, qe⟩ := h
  obtain ⟨⟨a, b⟩, ez⟩ := Option.isSome_iff_exists.mp hs
  refine ⟨_, (pss_cons (ps_expr (pe_call g_checked_sizes (hr.mono (by omega)) rfl T.m_checked_sizes T.F_checked_sizes.kp T.b_checked_sizes .nil pass0 (pa_cons (pv 0) pa_nil)))
      (pss_one (ps_ret (pe_callS g__checked_step (hr.mono (by omega)) rfl T.m__checked_step T.F__checked_step.kp T.b__checked_step (fun σ => passAt (takes_of rfl rfl rfl rfl) σ) (pa_cons (pv 0) (pa_cons (pv 1) pa_nil)))))), ?_⟩
  refine ⟨_, rfl, v, j, a, b, rfl, hd, hdeep, ez, fun H1 t s1 e1 => ?_⟩
  exact ⟨_, rfl, _, rfl, v, u, j, p, d, rfl, dp_same s1 hd, hu.keep (Same.kp s1), hb, fun i e H' s => q i e _ (s1.trans s), fun e H' s => qe e _ (s1.trans s)⟩
def spIsAdr (K : PySem.W.Frag) : Sp := fun vs H Q _ => ∃ (v u : V) (j : J) (p : Addr) (d : PyData), vs = [v, u] ∧ Dp K H v j.toD ∧ j.deep ≤ 20 ∧ (szJ j 400 13).isSome = true ∧ Dq K p H u d ∧ d.bulk ≤ 80000 ∧ ∀ H', Same H H' → Q (.bl (fdD j d).isSome) H'
theorem ok_isadr (T : Txt K mg) : FnOk P w K mg base CX0 44 T.f_is_address T.d_is_address ["job", "value"] (spIsAdr K) := by
  have g_checked_sizes := ok_checked (P := P) (w := w) (base := base) T
  have g_find_step := ok_find (P := P) (w := w) (base := base) T
  refine T.F_is_address.ok sc_is_address (fun vs H Q E h => ?_) (fun cdv A outer s H vs Q E hr h => ?_)
  · obtain ⟨v, u, j, p, d, rfl, _⟩ := h
    rfl
  obtain ⟨v, u, j, p, d, rfl, hd, hdeep, hs, hu, hb, q⟩ := h
  obtain ⟨⟨a, b⟩, ez⟩ := Option.isSome_iff_exists.mp hs
  refine ⟨_, (pss_cons (ps_expr (pe_call g_checked_sizes (hr.mono (by omega)) rfl T.m_checked_sizes T.F_checked_sizes.kp T.b_checked_sizes .nil pass0 (pa_cons (pv 0) pa_nil)))
      (pss_one (ps_ret (pe_cmpR op_notN (pe_call g_find_step (hr.mono (by omega)) rfl T.m_find_step T.F_find_step.kp T.b_find_step .nil pass0 (pa_cons (pv 0) (pa_cons (pv 1) pa_nil))) pe_non (nomark _))))), ?_⟩
  refine ⟨_, rfl, v, j, a, b, rfl, hd, hdeep, ez, fun H1 t s1 e1 => ?_⟩
  refine ⟨_, rfl, _, rfl, v, u, j, p, d, rfl, dp_same s1 hd, hu.keep (Same.kp s1), hb, fun H2 s2 => ?_⟩
  cases ef : fdD j d with
  | none =>
    rw [ef] at q
    exact ⟨rfl, q _ (s1.trans s2)⟩
  | some i =>
    rw [ef] at q
    exact ⟨rfl, q _ (s1.trans s2)⟩
theorem ok_refused (T : Txt K mg) : FnOk P w K mg base CX0 45 T.f__law_refused T.d__law_refused ["_law_job_here", "_law_address"] (spRef K) := by
  have g_step_value := ok_stepv (P := P) (w := w) (base := base) T
  refine T.F__law_refused.ok sc__law_refused (fun vs H Q E h => ?_) (fun cdv A outer s H vs Q E hr h => ?_)
  · obtain ⟨v, u, j, p, d, rfl, _⟩ := h
    rfl
  obtain ⟨v, u, j, p, d, rfl, hd, hdeep, hs, hu, hb, q⟩ := h
  refine ⟨_, (pss_cons (ps_try_only rfl rfl ⟨rfl, by decide, .inl T.g_InvalidAddress⟩ takes0 (fun W pn xe tk _ => (pss_one (ps_expr (pe_callS g_step_value (hr.mono (by omega)) rfl T.m_step_value T.F_step_value.kp T.b_step_value (fun σ => passAt tk σ) (pa_cons (pv 0) (pa_cons (pv 1) pa_nil)))))) (fun _ _ _ _ _ _ _ => (pss_one (ps_ret pe_bl))))
      (pss_one (ps_ret pe_bl))), ?_⟩
  refine ⟨_, rfl, _, rfl, v, u, j, p, d, rfl, hd, hdeep, hs, hu, hb, fun i e H' s => ?_, fun e H' s => ?_⟩
  · rw [e] at q
    exact q _ s
  · refine ⟨true, T.e_InvalidAddress_InvalidAddress, fun _ a ha => ?_, fun z => nomatch z⟩
    rw [e] at q
    exact q _ s
end
/-! block Law07 (behind bNear, bVal) -/
def Good (j : J) : Prop := j.ok ∧ j.nodes ≤ 400 ∧ j.deep ≤ 13
theorem Good.sz {j : J} (g : Good j) : szJ j 400 13 = some (j.nodes, j.steps) := szJ_some j 400 13 g.1 g.2.1 (by have := g.2.2; omega)
theorem Good.isSome {j : J} (g : Good j) : (szJ j 400 13).isSome = true := by rw [g.sz]; rfl
theorem good_of {j : J} (h : (szJ j 400 13).isSome = true) : Good j := by
  cases e : szJ j 400 13 with
  | none => rw [e] at h; cases h
  | some ab =>
    obtain ⟨a, b⟩ := ab
    have z := szJ_inv j 400 13 a b e
    exact ⟨z.1, z.2.1, by have := z.2.2.1; omega⟩
theorem Good.d20 {j : J} (g : Good j) : j.deep ≤ 20 := Nat.le_trans g.2.2 (by decide)
mutual
theorem J.fineO : ∀ j : J, j.ok → Rp.fineQ j.toD
  | .st i, h => by
    simp only [J.ok, M30] at h
    refine iq ?_ ?_
    · have : (1000000000000000000000000000000 : Int) ≤ 10 ^ 100 := by decide
      omega
    · have : (1000000000000000000000000000000 : Int) ≤ 10 ^ 100 := by decide
      omega
  | .ps k xs, h => by
    have h' := h
    simp only [J.ok] at h'
    simp only [J.toD, fineQ, finesQ]
    exact ⟨by cases k <;> (simp only [kwP]; decide +kernel), J.finesO xs h'.2.1, trivial⟩
  | .rn k n x, h => by
    have h' := h
    simp only [J.ok, M30] at h'
    simp only [J.toD, fineQ, finesQ]
    have e : (1000000000000000000000000000000 : Int) ≤ 10 ^ 100 := by decide
    exact ⟨by cases k <;> (simp only [kwR]; decide +kernel), iq (by omega) (by omega), J.fineO x h'.2.1, trivial⟩
theorem J.finesO : ∀ xs : List J, J.okL xs → Rp.finesQ (J.toDs xs)
  | [], _ => by simp only [J.toDs, finesQ]
  | x :: xs, h => by
    simp only [J.toDs, finesQ]
    exact ⟨J.fineO x h.1, J.finesO xs h.2⟩
end
abbrev jD7 : J := .rn true 1000000000000 (.ps true [.ps false [], .rn false 1000000000 (.ps false [.st 2, .st (-3)])])
theorem good_D7 : Good jD7 := by
  refine ⟨?_, ?_, ?_⟩
  · simp only [J.ok, J.okL, J.steps, J.stepsL, M30, List.length_cons, List.length_nil]
    decide
  · simp only [J.nodes, J.nodesL]
    decide
  · simp only [J.deep, J.deepL]
    decide
theorem steps_D7 : 0 < jD7.steps := by
  simp only [J.steps, J.stepsL]
  decide
theorem pair_fine {j : J} {d : PyData} (g : Good j) (n : NearOk d) : Rp.fineQ (.list [j.toD, d]) ∧ (PyData.list [j.toD, d]).depth ≤ 64 ∧ (PyData.list [j.toD, d]).bulk ≤ 80000 := by
  have h1 := J.depth j
  have h2 := J.bulk j
  have g1 := g.2.1
  have g2 := g.2.2
  have n1 := n.bulk
  have n2 := n.depth
  refine ⟨?_, ?_, ?_⟩
  · simp only [fineQ, finesQ]
    exact ⟨J.fineO j g.1, n.fine, trivial⟩
  · simp only [PyData.depth, PyData.depthAll]
    omega
  · simp only [PyData.bulk, PyData.bulkAll]
    omega
theorem opV_q {K : PySem.W.Frag} {p : Addr} {H : Hp} (o : Option Int) : Dq K p H (opV o) (match o with | none => .none | some i => .int i) := by
  cases o with
  | none => exact .non
  | some i => exact .int i
theorem part_ok {j y : J} {k : Int} (h : j.ok) (e : j.part k = some y) : y.ok := by
  cases j with
  | st i => cases e
  | ps b xs =>
    simp only [J.ok] at h
    simp only [J.part] at e
    split at e
    · cases e
    · exact ok_mem h.2.1 (List.mem_of_getElem? e)
  | rn b n x =>
    simp only [J.ok] at h
    simp only [J.part] at e
    split at e
    · cases e
    · split at e
      · cases e
        exact h.2.1
      · cases e
theorem find_bd : ∀ {ds : List PyData} {j : J} {i : Int}, j.ok → j.find ds = some i → -M30 ≤ i ∧ i ≤ M30
  | [], j, i, h, e => by
    cases j with
    | st k =>
      cases e
      exact h
    | ps b xs => cases e
    | rn b n x => cases e
  | d :: r, j, i, h, e => by
    cases d with
    | int k =>
      rw [find_int] at e
      cases ep : j.part k with
      | none => rw [ep] at e; cases e
      | some y =>
        rw [ep] at e
        exact find_bd (part_ok h ep) e
    | _ => cases j <;> cases e
def nestJ : Nat → J
  | 0 => .st 9
  | k + 1 => .rn (decide (k % 2 = 0)) ((k : Int) + 2) (nestJ k)
def nestA : Nat → List Int
  | 0 => []
  | k + 1 => ((k : Int) + 1) :: nestA k
theorem nestA_len : ∀ k, (nestA k).length = k
  | 0 => rfl
  | k + 1 => by rw [nestA, List.length_cons, nestA_len k]
theorem good_nest : Good (nestJ 12) := by
  refine ⟨?_, ?_, ?_⟩
  · simp only [nestJ, J.ok, J.steps, M30]
    decide
  · simp only [nestJ, J.nodes]
    decide
  · simp only [nestJ, J.deep]
    decide
theorem nest_at : fdD (nestJ 12) (.tuple ((nestA 12).map .int)) = some 9 := by decide
theorem nest_long : fdD (nestJ 12) (.tuple ((nestA 12 ++ [0]).map .int)) = none := by decide
theorem nest_short : fdD (nestJ 12) (.tuple (((nestA 12).drop 1).map .int)) = none := by decide
theorem nest_12 : fdD (nestJ 12) (.tuple ((12 :: (nestA 12).drop 1).map .int)) = some 9 := by decide
theorem nest_13 : fdD (nestJ 12) (.tuple ((13 :: (nestA 12).drop 1).map .int)) = none := by decide
def spLaw (K : PySem.W.Frag) : Sp := fun vs H Q _ => ∃ (a : Addr) (ns : List Int), vs = [.ref a] ∧ Only H ∧ SqL K H a (ns.map V.int) ∧ ns.length ≤ 63 ∧ ∀ H', Q (.bl true) H'
section
variable {P : Program} {w : World} {K : PySem.W.Frag} {mg : Str → Option Value} {base : Heap}
theorem ok_law {f : Addr} {fd : FuncData} (F : Fun K "law" "law" s_law f fd) (T : Txt K mg) (hs : Sys base) : FnG P w K mg base CX0 60 f fd ["_law_script"] (spLaw K) := by
  have g__law_pot := ok_pot (P := P) (w := w) (base := base) T
  have g__law_job := ok_job (P := P) (w := w) (base := base) T 5
  have g_is_job := ok_isjob (P := P) (w := w) (base := base) T
  have g__law_steps : FnOk P w K mg base CX0 20 T.f__law_steps T.d__law_steps ["_law_job_here"] (spLS K 20) := ok_ls T 20
  have g__law_near := ok_near (P := P) (w := w) (base := base) T
  have g__law_drawn := ok_drawn (P := P) (w := w) (base := base) T
  have g__law_value := ok_val (P := P) (w := w) (base := base) T
  have g_is_address := ok_isadr (P := P) (w := w) (base := base) T
  have g_step_value := ok_stepv (P := P) (w := w) (base := base) T
  have g__law_refused := ok_refused (P := P) (w := w) (base := base) T
  refine okG F sc_law (fun vs H Q E h => ?_) (fun cdv A outer s H vs Q E hr gd h => ?_)
  · obtain ⟨a, ns, rfl, _⟩ := h
    rfl
  obtain ⟨a, ns, rfl, hO, hS, hlen, q⟩ := h
  have hsc := Scr.of hO hS
  have e12 : (10 : Int) ^ (12 : Int).toNat = 1000000000000 := by decide
  have e9 : (10 : Int) ^ (9 : Int).toNat = 1000000000 := by decide
  refine ⟨_, (pss_cons (ps_for PassesOwn.never rfl (pi_range1 rfl T.n_range (pa_cons (pe_callB (call_max2 rfl) (by rfl) T.n_max (by decide +kernel) (pa_cons pe_int (pa_cons (pe_callB (call_min2 rfl) (by rfl) T.n_min (by decide +kernel) (pa_cons pe_int (pa_cons (pe_callB (r := rLenS K) call_lenS (by rfl) T.n_len (by decide +kernel) (pa_cons (pv 0) pa_nil)) pa_nil))) pa_nil))) pa_nil)) (pg_name (i := 1) sc_law.nd rfl (Or.inl rfl))
        (pss_cons (ps_set (i := 2) sc_law.nd rfl (Or.inl rfl) (pe_call g__law_pot (hr.mono (by omega)) rfl T.m__law_pot T.F__law_pot.kp T.b__law_pot .nil pass0 (pa_cons (pv 0) (pa_cons (pv 1) pa_nil))))
        (pss_cons (ps_set (i := 3) sc_law.nd rfl (Or.inl rfl) (pe_call g__law_job (hr.mono (by omega)) rfl T.m__law_job T.F__law_job.kp T.b__law_job .nil pass0 (pa_cons (pv 2) (pa_cons pe_int (pa_cons (pe_lst (pa_cons pe_int (pa_cons pe_int (pa_cons pe_int (pa_cons pe_int (pa_cons (pe_op op_powW pe_int pe_int) (pa_cons pe_int pa_nil))))))) pa_nil)))))
        (C8.pss_cut (ps_if (PW.pt (pw_or (pt_not (pt_val (pe_call g_is_job (hr.mono (by omega)) rfl T.m_is_job T.F_is_job.kp T.b_is_job .nil pass0 (pa_cons (pv 3) pa_nil)))) (pw_or1 (pt_cmpR op_eq (pe_call g__law_steps (hr.mono (by omega)) rfl T.m__law_steps T.F__law_steps.kp T.b__law_steps .nil pass0 (pa_cons (pv 3) pa_nil)) pe_int (nomark _))))) (pss_one (ps_set (i := 3) sc_law.nd rfl (Or.inl rfl) (pe_tup (pa_cons pe_str (pa_cons (pe_op op_powW pe_int pe_int) (pa_cons (pe_tup (pa_cons pe_str (pa_cons (pe_tup (pa_cons (pe_tup (pa_cons pe_str (pa_cons (pe_tup pa_nil) pa_nil))) (pa_cons (pe_tup (pa_cons pe_str (pa_cons (pe_op op_powW pe_int pe_int) (pa_cons (pe_tup (pa_cons pe_str (pa_cons (pe_tup (pa_cons pe_int (pa_cons (pe_un un_neg pe_int) pa_nil))) pa_nil))) pa_nil)))) pa_nil))) pa_nil))) pa_nil)))))) pss_nil)
        (pss_one (ps_for PassesOwn.never rfl (pi_range1 rfl T.n_range (pa_cons pe_int pa_nil)) (pg_name (i := 4) sc_law.nd rfl (Or.inl rfl))
          (pss_cons (ps_set (i := 5) sc_law.nd rfl (Or.inl rfl) (pe_call g__law_near (hr.mono (by omega)) rfl T.m__law_near T.F__law_near.kp T.b__law_near .nil pass0 (pa_cons (pv 2) (pa_cons (pe_call g__law_drawn (hr.mono (by omega)) rfl T.m__law_drawn T.F__law_drawn.kp T.b__law_drawn .nil pass0 (pa_cons (pv 2) (pa_cons (pv 3) pa_nil))) pa_nil))))
          (pss_cons (ps_par (i := 6) (j := 7) (by rfl) sc_law.nd rfl rfl (by decide) rfl rfl (pa_cons (pe_callB (r := rReprQ K) (call_reprQ hs gd (room66 hr)) (by rfl) T.n_repr (by decide +kernel) (pa_cons (pe_lst (pa_cons (pv 3) (pa_cons (pv 5) pa_nil))) pa_nil)) (pa_cons (pe_call g__law_value (hr.mono (by omega)) rfl T.m__law_value T.F__law_value.kp T.b__law_value .nil pass0 (pa_cons (pv 3) (pa_cons (pv 5) pa_nil))) pa_nil)) (by rfl))
          (pss_cons (ps_if (PW.pt (pw_or (pt_cmpR op_ne (pe_callB (r := rReprQ K) (call_reprQ hs gd (room66 hr)) (by rfl) T.n_repr (by decide +kernel) (pa_cons (pe_call g_is_address (hr.mono (by omega)) rfl T.m_is_address T.F_is_address.kp T.b_is_address .nil pass0 (pa_cons (pv 3) (pa_cons (pv 5) pa_nil))) pa_nil)) (pe_callB (r := rReprQ K) (call_reprQ hs gd (room66 hr)) (by rfl) T.n_repr (by decide +kernel) (pa_cons (pe_cmpR op_notN (pv 7) pe_non (nomark _)) pa_nil)) (nomark _)) (pw_or1 (pt_cmpR op_ne (pe_callB (r := rReprQ K) (call_reprQ hs gd (room66 hr)) (by rfl) T.n_repr (by decide +kernel) (pa_cons (pe_lst (pa_cons (pv 3) (pa_cons (pv 5) pa_nil))) pa_nil)) (pv 6) (nomark _))))) (pss_one (ps_ret pe_bl)) pss_nil)
          (pss_cons (ps_if (PW.pt (pw_and (pt_cmpR op_isN (pv 7) pe_non (nomark _)) (pw_and1 (pt_not (pt_val (pe_call g__law_refused (hr.mono (by omega)) rfl T.m__law_refused T.F__law_refused.kp T.b__law_refused .nil pass0 (pa_cons (pv 3) (pa_cons (pv 5) pa_nil)))))))) (pss_one (ps_ret pe_bl)) pss_nil)
          (pss_one (ps_if (PW.pt (pw_and (pt_cmpR op_notN (pv 7) pe_non (nomark _)) (pw_and1 (pt_cmpR op_ne (pe_callB (r := rReprQ K) (call_reprQ hs gd (room66 hr)) (by rfl) T.n_repr (by decide +kernel) (pa_cons (pe_call g_step_value (hr.mono (by omega)) rfl T.m_step_value T.F_step_value.kp T.b_step_value .nil passN (pa_cons (pv 3) (pa_cons (pv 5) pa_nil))) pa_nil)) (pe_callB (r := rReprQ K) (call_reprQ hs gd (room66 hr)) (by rfl) T.n_repr (by decide +kernel) (pa_cons (pv 7) pa_nil)) (nomark _))))) (pss_one (ps_ret pe_bl)) pss_nil))))))))))))
      (pss_cons (ps_if (PW.pt (pw_or (pt_cmpR op_notBl (pe_call g_is_address (hr.mono (by omega)) rfl T.m_is_address T.F_is_address.kp T.b_is_address .nil pass0 (pa_cons pe_int (pa_cons (pe_tup pa_nil) pa_nil))) pe_bl (nomark _)) (pw_or (pt_cmpR (r := rNeD K) (op_neD hr.units) (pe_call g_step_value (hr.mono (by omega)) rfl T.m_step_value T.F_step_value.kp T.b_step_value .nil passN (pa_cons (pe_un un_neg pe_int) (pa_cons (pe_tup pa_nil) pa_nil))) (pe_un un_neg pe_int) (nomark _)) (pw_or1 (pt_cmpR op_notBl (pe_call g_is_address (hr.mono (by omega)) rfl T.m_is_address T.F_is_address.kp T.b_is_address .nil pass0 (pa_cons (pe_tup (pa_cons pe_str (pa_cons (pe_tup pa_nil) pa_nil))) (pa_cons (pe_tup pa_nil) pa_nil))) pe_bl (nomark _)))))) (pss_one (ps_ret pe_bl)) pss_nil)
      (pss_cons (ps_asg (pe_tup (pa_cons pe_int (pa_cons (pe_tup pa_nil) pa_nil))) (pg_tup (by rfl) (pgs_cons (pg_name (i := 3) sc_law.nd rfl (Or.inl rfl)) (pgs_cons (pg_name (i := 5) sc_law.nd rfl (Or.inl rfl)) pgs_nil))))
      (pss_cons (ps_for PassesOwn.never rfl (pi_range1 rfl T.n_range (pa_cons pe_int pa_nil)) (pg_name (i := 4) sc_law.nd rfl (Or.inl rfl))
        (pss_one (ps_par (i := 3) (j := 5) (by rfl) sc_law.nd rfl rfl (by decide) rfl rfl (pa_cons (pe_tup (pa_cons (pe_ix (r := rIxL K) ix_list (pe_lst (pa_cons pe_str (pa_cons pe_str pa_nil))) (pe_op op_mod (pv 4) pe_int) (fun _ _ => rfl)) (pa_cons (pe_op op_add (pv 4) pe_int) (pa_cons (pv 3) pa_nil)))) (pa_cons (pe_op (r := rCatA K) op_catA (pe_tup (pa_cons (pe_op op_add (pv 4) pe_int) pa_nil)) (pv 5)) pa_nil)) (by rfl))))
      (pss_cons (ps_if (PW.pt (pw_or (pt_cmpR (r := rNeD K) (op_neD hr.units) (pe_call g_step_value (hr.mono (by omega)) rfl T.m_step_value T.F_step_value.kp T.b_step_value .nil passN (pa_cons (pv 3) (pa_cons (pv 5) pa_nil))) pe_int (nomark _)) (pw_or (pt_val (pe_call g_is_address (hr.mono (by omega)) rfl T.m_is_address T.F_is_address.kp T.b_is_address .nil pass0 (pa_cons (pv 3) (pa_cons (pe_op (r := rCatA K) op_catA (pv 5) (pe_tup (pa_cons pe_int pa_nil))) pa_nil)))) (pw_or1 (pt_val (pe_call g_is_address (hr.mono (by omega)) rfl T.m_is_address T.F_is_address.kp T.b_is_address .nil pass0 (pa_cons (pv 3) (pa_cons (pe_slice (r := rSlA K) sl_tupA (pv 5) (po_some pe_int) po_none) pa_nil)))))))) (pss_one (ps_ret pe_bl)) pss_nil)
      (pss_one (ps_ret (pe_and (pe_cmpR op_isBl (pe_call g_is_address (hr.mono (by omega)) rfl T.m_is_address T.F_is_address.kp T.b_is_address .nil pass0 (pa_cons (pv 3) (pa_cons (pe_op (r := rCatA K) op_catA (pe_tup (pa_cons pe_int pa_nil)) (pe_slice (r := rSlA K) sl_tupA (pv 5) (po_some pe_int) po_none)) pa_nil))) pe_bl (nomark _)) (pe_one (pe_cmpR op_isBl (pe_call g_is_address (hr.mono (by omega)) rfl T.m_is_address T.F_is_address.kp T.b_is_address .nil pass0 (pa_cons (pv 3) (pa_cons (pe_op (r := rCatA K) op_catA (pe_tup (pa_cons pe_int pa_nil)) (pe_slice (r := rSlA K) sl_tupA (pv 5) (po_some pe_int) po_none)) pa_nil))) pe_bl (nomark _))))))))))), ?_⟩
  refine ⟨_, rfl, a, _, rfl, .inl hsc.sq, _, _, rfl, _, _, rfl, _, rfl, ?_, ?_, ?_⟩
  · show -(2 ^ 62) ≤ (if (if (((ns.map V.int).length : Nat) : Int) < 4 then (((ns.map V.int).length : Nat) : Int) else 4) > 1 then (if (((ns.map V.int).length : Nat) : Int) < 4 then (((ns.map V.int).length : Nat) : Int) else 4) else 1)
    split <;> (try split) <;> omega
  · show (if (if (((ns.map V.int).length : Nat) : Int) < 4 then (((ns.map V.int).length : Nat) : Int) else 4) > 1 then (if (((ns.map V.int).length : Nat) : Int) < 4 then (((ns.map V.int).length : Nat) : Int) else 4) else 1) < 2 ^ 62
    split <;> (try split) <;> omega
  have hturns : (if (if (((ns.map V.int).length : Nat) : Int) < 4 then (((ns.map V.int).length : Nat) : Int) else 4) > 1 then (if (((ns.map V.int).length : Nat) : Int) < 4 then (((ns.map V.int).length : Nat) : Int) else 4) else 1).toNat ≤ 4 := by
    split <;> (try split) <;> omega
  generalize (if (if (((ns.map V.int).length : Nat) : Int) < 4 then (((ns.map V.int).length : Nat) : Int) else 4) > 1 then (if (((ns.map V.int).length : Nat) : Int) < 4 then (((ns.map V.int).length : Nat) : Int) else 4) else 1) = turns at hturns ⊢
  refine for_range (lo := 0) (n := turns.toNat) (fun i σ H' => ∃ y1 y2 y3 y4 y5 y6 y7 : Option V, σ = [some (.ref a), y1, y2, y3, y4, y5, y6, y7] ∧ Same H H') ⟨none, none, none, none, none, none, none, rfl, Same.refl _⟩ ?_ ?_
  · rintro i σ H' hi ⟨y1, y2, y3, y4, y5, y6, y7, rfl, t⟩
    refine ⟨_, rfl, _, rfl, a, ns, 0 + (i : Int), rfl, (hsc.same t).sq, by omega, by omega, by omega, fun G1 p s1 hpn hp => ?_⟩
    refine ⟨_, rfl, _, _, rfl, rfl, powW_of 4 (by decide) (by decide) (by decide), ?_⟩
    dsimp only
    rw [e12]
    refine ⟨(by show 6 ≤ sizeLine; decide), fun l hl => ?_⟩
    obtain ⟨lp, hlp⟩ := hp.lst
    have nlp : l ≠ p := fun z => by rw [z, hlp] at hl; cases hl
    refine ⟨p, l, 0, [0, 1, 2, 3, 1000000000000, 7], rfl, hp.same (same_new hl), by decide, upd_same, nlp, by decide, by decide, ?_, fun G2 v j s2 hp2 dj gj => ?_⟩
    · simp only [List.mem_cons, List.not_mem_nil, or_false, M30]
      rintro c (rfl | rfl | rfl | rfl | rfl | rfl) <;> omega
    have t1 : Same H G1 := t.trans s1
    have hpH : H p = none := t.free hpn
    have t2 : Same H G2 := Same.sx_free (t1.trans (same_new hl)) hpH s2
    have jd := gj.deep
    have eTB : 0 + TB 5 ≤ 100000 := by decide
    refine ⟨fun σ' H'' => ∃ (v' : V) (j' : J), σ' = [some (.ref a), some (.int (0 + (i : Int))), some (.ref p), some v', y4, y5, y6, y7] ∧ Same H H'' ∧ Pot H'' p 100000 ∧ Dp K H'' v' j'.toD ∧ Good j' ∧ 0 < j'.steps, ?_, ?_⟩
    · refine ⟨_, rfl, v, j, rfl, dj, by omega, fun G3 s3 => ?_⟩
      refine ⟨_, rfl, ?_⟩
      cases ej : (szJ j 400 13).isSome with
      | false =>
        refine iteT ?_
        refine ⟨_, _, rfl, rfl, powW_of 4 (by decide) (by decide) (by decide), ?_⟩
        dsimp only
        rw [e12]
        refine ⟨(by show 0 ≤ sizeLine; decide), fun q1 hq1 => ?_⟩
        obtain ⟨u1, d1⟩ := tup_fresh (K := K) (ds := []) hq1 .nil
        generalize (upd G3 q1 (.tup [])) = F1 at u1 d1 ⊢
        refine ⟨(by show 2 ≤ sizeLine; decide), fun q2 hq2 => ?_⟩
        obtain ⟨u2, d2⟩ := tup_fresh (K := K) (ds := [.str "seq", .tuple []]) hq2 (.cons (.str _) (.cons d1 .nil))
        generalize (upd F1 q2 (.tup [.str "seq", .ref q1])) = F2 at u2 d2 ⊢
        refine ⟨_, _, rfl, rfl, powW_of 4 (by decide) (by decide) (by decide), ?_⟩
        dsimp only
        rw [e9]
        refine ⟨_, rfl, (by show 2 ≤ sizeLine; decide), fun q3 hq3 => ?_⟩
        obtain ⟨u3, d3⟩ := tup_fresh (K := K) (ds := [.int 2, .int (-3)]) hq3 (.cons (.int _) (.cons (.int _) .nil))
        generalize (upd F2 q3 (.tup [.int 2, .int (-3)])) = F3 at u3 d3 ⊢
        refine ⟨(by show 2 ≤ sizeLine; decide), fun q4 hq4 => ?_⟩
        obtain ⟨u4, d4⟩ := tup_fresh (K := K) (ds := [.str "seq", .tuple [.int 2, .int (-3)]]) hq4 (.cons (.str _) (.cons d3 .nil))
        generalize (upd F3 q4 (.tup [.str "seq", .ref q3])) = F4 at u4 d4 ⊢
        refine ⟨(by show 3 ≤ sizeLine; decide), fun q5 hq5 => ?_⟩
        obtain ⟨u5, d5⟩ := tup_fresh (K := K) (ds := [.str "repeat", .int 1000000000, .tuple [.str "seq", .tuple [.int 2, .int (-3)]]]) hq5 (.cons (.str _) (.cons (.int _) (.cons d4 .nil)))
        generalize (upd F4 q5 (.tup [.str "repeat", .int 1000000000, .ref q4])) = F5 at u5 d5 ⊢
        refine ⟨(by show 2 ≤ sizeLine; decide), fun q6 hq6 => ?_⟩
        obtain ⟨u6, d6⟩ := tup_fresh (K := K) (ds := [.tuple [.str "seq", .tuple []], .tuple [.str "repeat", .int 1000000000, .tuple [.str "seq", .tuple [.int 2, .int (-3)]]]]) hq6 (.cons (dp_same (u3.trans (u4.trans u5)) d2) (.cons d5 .nil))
        generalize (upd F5 q6 (.tup [.ref q2, .ref q5])) = F6 at u6 d6 ⊢
        refine ⟨(by show 2 ≤ sizeLine; decide), fun q7 hq7 => ?_⟩
        obtain ⟨u7, d7⟩ := tup_fresh (K := K) (ds := [.str "par", .tuple [.tuple [.str "seq", .tuple []], .tuple [.str "repeat", .int 1000000000, .tuple [.str "seq", .tuple [.int 2, .int (-3)]]]]]) hq7 (.cons (.str _) (.cons d6 .nil))
        generalize (upd F6 q7 (.tup [.str "par", .ref q6])) = F7 at u7 d7 ⊢
        refine ⟨(by show 3 ≤ sizeLine; decide), fun q8 hq8 => ?_⟩
        obtain ⟨u8, d8⟩ := tup_fresh (K := K) (ds := [.str "copies", .int 1000000000000, .tuple [.str "par", .tuple [.tuple [.str "seq", .tuple []], .tuple [.str "repeat", .int 1000000000, .tuple [.str "seq", .tuple [.int 2, .int (-3)]]]]]]) hq8 (.cons (.str _) (.cons (.int _) (.cons d7 .nil)))
        have uu := s3.trans (u1.trans (u2.trans (u3.trans (u4.trans (u5.trans (u6.trans (u7.trans u8)))))))
        exact ⟨.ref q8, jD7, rfl, t2.trans uu, (hp2.mono eTB).same uu, d8, good_D7, steps_D7⟩
      | true =>
        refine iteF ?_
        have gj' := good_of ej
        refine ⟨_, rfl, v, j, rfl, dp_same s3 dj, by omega, gj'.1, fun G4 s4 => ?_⟩
        have s34 := s3.trans s4
        refine ⟨rfl, _, rfl, ?_⟩
        refine ite2 (fun z => ?_) (fun z => ?_)
        · 
          refine ⟨_, _, rfl, rfl, powW_of 4 (by decide) (by decide) (by decide), ?_⟩
          dsimp only
          rw [e12]
          refine ⟨(by show 0 ≤ sizeLine; decide), fun q1 hq1 => ?_⟩
          obtain ⟨u1, d1⟩ := tup_fresh (K := K) (ds := []) hq1 .nil
          generalize (upd G4 q1 (.tup [])) = F1 at u1 d1 ⊢
          refine ⟨(by show 2 ≤ sizeLine; decide), fun q2 hq2 => ?_⟩
          obtain ⟨u2, d2⟩ := tup_fresh (K := K) (ds := [.str "seq", .tuple []]) hq2 (.cons (.str _) (.cons d1 .nil))
          generalize (upd F1 q2 (.tup [.str "seq", .ref q1])) = F2 at u2 d2 ⊢
          refine ⟨_, _, rfl, rfl, powW_of 4 (by decide) (by decide) (by decide), ?_⟩
          dsimp only
          rw [e9]
          refine ⟨_, rfl, (by show 2 ≤ sizeLine; decide), fun q3 hq3 => ?_⟩
          obtain ⟨u3, d3⟩ := tup_fresh (K := K) (ds := [.int 2, .int (-3)]) hq3 (.cons (.int _) (.cons (.int _) .nil))
          generalize (upd F2 q3 (.tup [.int 2, .int (-3)])) = F3 at u3 d3 ⊢
          refine ⟨(by show 2 ≤ sizeLine; decide), fun q4 hq4 => ?_⟩
          obtain ⟨u4, d4⟩ := tup_fresh (K := K) (ds := [.str "seq", .tuple [.int 2, .int (-3)]]) hq4 (.cons (.str _) (.cons d3 .nil))
          generalize (upd F3 q4 (.tup [.str "seq", .ref q3])) = F4 at u4 d4 ⊢
          refine ⟨(by show 3 ≤ sizeLine; decide), fun q5 hq5 => ?_⟩
          obtain ⟨u5, d5⟩ := tup_fresh (K := K) (ds := [.str "repeat", .int 1000000000, .tuple [.str "seq", .tuple [.int 2, .int (-3)]]]) hq5 (.cons (.str _) (.cons (.int _) (.cons d4 .nil)))
          generalize (upd F4 q5 (.tup [.str "repeat", .int 1000000000, .ref q4])) = F5 at u5 d5 ⊢
          refine ⟨(by show 2 ≤ sizeLine; decide), fun q6 hq6 => ?_⟩
          obtain ⟨u6, d6⟩ := tup_fresh (K := K) (ds := [.tuple [.str "seq", .tuple []], .tuple [.str "repeat", .int 1000000000, .tuple [.str "seq", .tuple [.int 2, .int (-3)]]]]) hq6 (.cons (dp_same (u3.trans (u4.trans u5)) d2) (.cons d5 .nil))
          generalize (upd F5 q6 (.tup [.ref q2, .ref q5])) = F6 at u6 d6 ⊢
          refine ⟨(by show 2 ≤ sizeLine; decide), fun q7 hq7 => ?_⟩
          obtain ⟨u7, d7⟩ := tup_fresh (K := K) (ds := [.str "par", .tuple [.tuple [.str "seq", .tuple []], .tuple [.str "repeat", .int 1000000000, .tuple [.str "seq", .tuple [.int 2, .int (-3)]]]]]) hq7 (.cons (.str _) (.cons d6 .nil))
          generalize (upd F6 q7 (.tup [.str "par", .ref q6])) = F7 at u7 d7 ⊢
          refine ⟨(by show 3 ≤ sizeLine; decide), fun q8 hq8 => ?_⟩
          obtain ⟨u8, d8⟩ := tup_fresh (K := K) (ds := [.str "copies", .int 1000000000000, .tuple [.str "par", .tuple [.tuple [.str "seq", .tuple []], .tuple [.str "repeat", .int 1000000000, .tuple [.str "seq", .tuple [.int 2, .int (-3)]]]]]]) hq8 (.cons (.str _) (.cons (.int _) (.cons d7 .nil)))
          have uu := s34.trans (u1.trans (u2.trans (u3.trans (u4.trans (u5.trans (u6.trans (u7.trans u8)))))))
          exact ⟨.ref q8, jD7, rfl, t2.trans uu, (hp2.mono eTB).same uu, d8, good_D7, steps_D7⟩
        · have nn := J.steps_nn j gj'.1
          have nz : j.steps ≠ 0 := fun e => z (by rw [e]; decide)
          exact ⟨v, j, rfl, t2.trans s34, (hp2.mono eTB).same s34, dp_same s34 dj, gj', by omega⟩
    · rintro σ' H'' ⟨v', j', rfl, t', hp', dj', gj', hst⟩
      clear dj gj jd hp2 s2
      refine ⟨_, rfl, by decide, by decide, ?_⟩
      refine for_range (lo := 0) (n := (10 : Int).toNat) (fun k σ H3 => ∃ y4 y5 y6 y7 : Option V, σ = [some (.ref a), some (.int (0 + (i : Int))), some (.ref p), some v', y4, y5, y6, y7] ∧ Same H H3 ∧ Pot H3 p (100000 + k * 42) ∧ Dp K H3 v' j'.toD) ⟨y4, y5, y6, y7, rfl, t', by simpa using hp', dj'⟩ ?_ ?_
      · rintro k σ H3 hk ⟨z4, z5, z6, z7, rfl, t3, hp3, dj3⟩
        have hk10 : k < 10 := hk
        have hdeep := gj'.2.2
        obtain ⟨l3, hl3⟩ := hp3.lst
        refine ⟨_, rfl, _, rfl, _, rfl, p, _, v', j', rfl, hp3, by omega, dj3, gj'.1, hst, gj'.d20, fun H4 ta ad iv s4 hp4 hta lta bta eta => ?_⟩
        have dj4 := dp_keep (fun a xs h => s4.sqT hl3 h) j'.noL dj3
        refine ⟨p, _, ta, ad, rfl, hp4, by omega, hta, lta, bta, fun H5 r d s5 hp5 hdq nok => ?_⟩
        obtain ⟨l4, hl4⟩ := hp4.lst
        have dj5 := dp_keep (fun a xs h => s5.sqT hl4 h) j'.noL dj4
        have t5 : Same H H5 := Same.sx_free t3 hpH (s4.trans s5)
        clear hta hdeep
        obtain ⟨pf1, pf2, pf3⟩ := pair_fine gj' nok
        have nb : d.bulk ≤ 80000 := by have := nok.bulk; omega
        have hlp5 : ∃ l, H5 p = some (.lst l) := hp5.lst
        obtain ⟨l5, hl5⟩ := hlp5
        -- kept, due
        refine ⟨_, rfl, _, rfl, (by show 2 ≤ sizeLine; decide), fun m1 hm1 => ?_⟩
        have n1 : m1 ≠ p := fun z => by rw [z, hl5] at hm1; cases hm1
        have u1 : Same H5 (upd H5 m1 (.lst [v', r])) := same_new hm1
        have e1 : upd H5 m1 (.lst [v', r]) m1 = some (.lst [v', r]) := upd_same
        generalize (upd H5 m1 (.lst [v', r])) = H6 at u1 e1 ⊢
        have dj6 := dp_same u1 dj5
        have hd6 := hdq.keep (Same.kp u1)
        refine ⟨p, .ref m1, .list [j'.toD, d], rfl, .lst n1 e1 (.cons (dq_of j'.noL dj6) (.cons hd6 .nil)), pf1, pf2, pf3, ?_⟩
        refine ⟨_, rfl, _, rfl, v', r, j', p, d, rfl, dj6, hd6, fun H7 s7 => ?_⟩
        refine ⟨_, _, rfl, ?_⟩
        have s57 := u1.trans s7
        have dj7 := dp_same s57 dj5
        have hd7 := hdq.keep (Same.kp s57)
        have fin : ∀ G, Same H5 G → ∀ z4 z5 z6 z7 : Option V, ∃ y4 y5 y6 y7 : Option V, [some (.ref a), some (.int (0 + (i : Int))), some (.ref p), some v', z4, z5, z6, z7] = [some (.ref a), some (.int (0 + (i : Int))), some (.ref p), some v', y4, y5, y6, y7] ∧ Same H G ∧ Pot G p (100000 + (k + 1) * 42) ∧ Dp K G v' j'.toD :=
          fun G s z4 z5 z6 z7 => ⟨z4, z5, z6, z7, rfl, t5.trans s, (hp5.same s).mono (by have := gj'.2.2; omega), dp_same s dj5⟩
        cases ef : fdD j' d with
        | none =>
          refine ⟨_, rfl, _, rfl, v', r, j', p, d, rfl, dj7, gj'.d20, gj'.isSome, hd7, nb, fun H8 s8 => ?_⟩
          rw [ef]
          refine ⟨p, .bl false, .bool false, rfl, .bl _, trivial, by decide, by decide, _, rfl, rfl, p, .bl false, .bool false, rfl, .bl _, trivial, by decide, by decide, rfl, _, rfl, ?_⟩
          refine iteNS rfl ?_
          have s58 := s57.trans s8
          refine ⟨_, rfl, _, rfl, (by show 2 ≤ sizeLine; decide), fun m2 hm2 => ?_⟩
          have hl2 : ∃ l, H8 p = some (.lst l) := ⟨_, (s58) _ _ hl5⟩
          obtain ⟨l2, hl2⟩ := hl2
          have n2 : m2 ≠ p := fun z => by rw [z, hl2] at hm2; cases hm2
          have u2 : Same H8 (upd H8 m2 (.lst [v', r])) := same_new hm2
          have e2 : upd H8 m2 (.lst [v', r]) m2 = some (.lst [v', r]) := upd_same
          generalize (upd H8 m2 (.lst [v', r])) = H9 at u2 e2 ⊢
          have s59 := (s58).trans u2
          have dj9 := dp_same s59 dj5
          have hd9 := hdq.keep (Same.kp s59)
          refine ⟨p, .ref m2, .list [j'.toD, d], rfl, .lst n2 e2 (.cons (dq_of j'.noL dj9) (.cons hd9 .nil)), pf1, pf2, pf3, _, rfl, rfl, _, rfl, ?_⟩
          refine iteNS rfl ?_
          refine ⟨_, rfl, rfl, _, rfl, ?_⟩
          refine iteT ?_
          refine ⟨_, rfl, _, rfl, v', r, j', p, d, rfl, dj9, gj'.d20, gj'.isSome, hd9, nb, fun Ha sa => ?_⟩
          rw [ef]
          refine ⟨_, rfl, ?_⟩
          refine iteF ?_
          refine ⟨_, rfl, rfl, _, rfl, ?_⟩
          refine iteF ?_
          exact fin _ (s59.trans sa) _ _ _ _
        | some iv =>
          have iq2 : Rp.fineQ (.int iv) := by
            have h : -M30 ≤ iv ∧ iv ≤ M30 := by
              cases d with
              | tuple ds => exact find_bd gj'.1 ef
              | _ => cases ef
            simp only [M30] at h
            have e : (1000000000000000000000000000000 : Int) ≤ 10 ^ 100 := by decide
            exact iq (by omega) (by omega)
          refine ⟨_, rfl, _, rfl, v', r, j', p, d, rfl, dj7, gj'.d20, gj'.isSome, hd7, nb, fun H8 s8 => ?_⟩
          rw [ef]
          refine ⟨p, .bl true, .bool true, rfl, .bl _, trivial, by decide, by decide, _, rfl, rfl, p, .bl true, .bool true, rfl, .bl _, trivial, by decide, by decide, rfl, _, rfl, ?_⟩
          refine iteNS rfl ?_
          have s58 := s57.trans s8
          refine ⟨_, rfl, _, rfl, (by show 2 ≤ sizeLine; decide), fun m2 hm2 => ?_⟩
          have hl2 : ∃ l, H8 p = some (.lst l) := ⟨_, (s58) _ _ hl5⟩
          obtain ⟨l2, hl2⟩ := hl2
          have n2 : m2 ≠ p := fun z => by rw [z, hl2] at hm2; cases hm2
          have u2 : Same H8 (upd H8 m2 (.lst [v', r])) := same_new hm2
          have e2 : upd H8 m2 (.lst [v', r]) m2 = some (.lst [v', r]) := upd_same
          generalize (upd H8 m2 (.lst [v', r])) = H9 at u2 e2 ⊢
          have s59 := (s58).trans u2
          have dj9 := dp_same s59 dj5
          have hd9 := hdq.keep (Same.kp s59)
          refine ⟨p, .ref m2, .list [j'.toD, d], rfl, .lst n2 e2 (.cons (dq_of j'.noL dj9) (.cons hd9 .nil)), pf1, pf2, pf3, _, rfl, rfl, _, rfl, ?_⟩
          refine iteNS rfl ?_
          refine ⟨_, rfl, rfl, _, rfl, ?_⟩
          refine iteF ?_
          refine ⟨_, rfl, rfl, _, rfl, ?_⟩
          refine iteT ?_
          refine ⟨_, rfl, _, rfl, v', r, j', p, d, rfl, dj9, gj'.d20, gj'.isSome, hd9, nb, fun i2 e2 Ha sa => ?_, fun e2 => by rw [ef] at e2; cases e2⟩
          rw [ef] at e2
          cases e2
          refine ⟨p, .int iv, .int iv, rfl, .int _, iq2, by simp [PyData.depth], by simp [PyData.bulk], _, rfl, p, .int iv, .int iv, rfl, .int _, iq2, by simp [PyData.depth], by simp [PyData.bulk], rfl, _, rfl, ?_⟩
          refine iteNS rfl ?_
          exact fin _ (s59.trans sa) _ _ _ _
      · rintro σ H3 ⟨z4, z5, z6, z7, rfl, t3, hp3, dj3⟩
        exact ⟨_, _, _, _, _, _, _, rfl, t3⟩
  · rintro σ H' ⟨y1, y2, y3, y4, y5, y6, y7, rfl, t⟩
    clear t hsc hS hO
    have g7 : Good (.st 7) := ⟨by simp only [J.ok, M30]; decide, by simp only [J.nodes]; decide, by simp only [J.deep]; decide⟩
    have gm7 : Good (.st (-7)) := ⟨by simp only [J.ok, M30]; decide, by simp only [J.nodes]; decide, by simp only [J.deep]; decide⟩
    have ge : Good (.ps false []) := ⟨by simp only [J.ok, J.okL, J.stepsL, M30]; decide, by simp only [J.nodes, J.nodesL]; decide, by simp only [J.deep, J.deepL]; decide⟩
    refine ⟨(by show 0 ≤ sizeLine; decide), fun t1 h1 => ?_⟩
    obtain ⟨u1, d1⟩ := tup_fresh (K := K) (ds := []) h1 .nil
    generalize (upd H' t1 (.tup [])) = F1 at u1 d1 ⊢
    refine ⟨.int 7, .ref t1, .st 7, t1, .tuple [], rfl, .int 7, g7.d20, g7.isSome, dq_of rfl d1, by decide, fun F2 u2 => ?_⟩
    refine ⟨_, _, rfl, rfl, _, rfl, ?_⟩
    refine iteF ?_
    refine ⟨_, rfl, (by show 0 ≤ sizeLine; decide), fun t3 h3 => ?_⟩
    obtain ⟨u3, d3⟩ := tup_fresh (K := K) (ds := []) h3 .nil
    generalize (upd F2 t3 (.tup [])) = F3 at u3 d3 ⊢
    refine ⟨.int (-7), .ref t3, .st (-7), t3, .tuple [], rfl, .int (-7), gm7.d20, gm7.isSome, dq_of rfl d3, by decide, fun i e F4 u4 => ?_, fun e => by cases e⟩
    cases e
    refine ⟨_, rfl, .int (-7), .int (-7), .int _, .int _, by decide, by decide, _, rfl, ?_⟩
    refine iteF ?_
    refine ⟨(by show 0 ≤ sizeLine; decide), fun t5 h5 => ?_⟩
    obtain ⟨u5, d5⟩ := tup_fresh (K := K) (ds := []) h5 .nil
    generalize (upd F4 t5 (.tup [])) = F5 at u5 d5 ⊢
    refine ⟨(by show 2 ≤ sizeLine; decide), fun t6 h6 => ?_⟩
    obtain ⟨u6, d6⟩ := tup_fresh (K := K) (ds := [.str "seq", .tuple []]) h6 (.cons (.str _) (.cons d5 .nil))
    generalize (upd F5 t6 (.tup [.str "seq", .ref t5])) = F6 at u6 d6 ⊢
    refine ⟨(by show 0 ≤ sizeLine; decide), fun t7 h7 => ?_⟩
    obtain ⟨u7, d7⟩ := tup_fresh (K := K) (ds := []) h7 .nil
    generalize (upd F6 t7 (.tup [])) = F7 at u7 d7 ⊢
    refine ⟨.ref t6, .ref t7, .ps false [], t7, .tuple [], rfl, dp_same u7 d6, ge.d20, ge.isSome, dq_of rfl d7, by decide, fun F8 u8 => ?_⟩
    refine ⟨_, _, rfl, rfl, _, rfl, ?_⟩
    refine iteF ?_
    -- the nest
    refine ⟨(by show 0 ≤ sizeLine; decide), fun t9 h9 => ?_⟩
    have u9 : Same F8 (upd F8 t9 (.tup [])) := same_new h9
    have q9 : SqT K (upd F8 t9 (.tup [])) t9 [] := SqT.of upd_same
    generalize (upd F8 t9 (.tup [])) = F9 at u9 q9 ⊢
    refine ⟨(by show 2 ≤ sizeLine; decide), fun ta ha => ?_⟩
    have ua : Same F9 (upd F9 ta (.tup [.int 9, .ref t9])) := same_new ha
    have qa : SqT K (upd F9 ta (.tup [.int 9, .ref t9])) ta [.int 9, .ref t9] := SqT.of upd_same
    have q9a := same_sqT ua q9
    generalize (upd F9 ta (.tup [.int 9, .ref t9])) = Fa at ua qa q9a ⊢
    refine ⟨ta, _, rfl, qa, rfl, _, _, rfl, _, _, rfl, rfl, ?_⟩
    refine ⟨_, rfl, by decide, by decide, ?_⟩
    refine for_range (lo := 0) (n := (12 : Int).toNat) (fun k σ H3 => ∃ (v : V) (t : Addr) (z4 : Option V), σ = [some (.ref a), y1, y2, some v, z4, some (.ref t), y6, y7] ∧ Dp K H3 v (nestJ k).toD ∧ SqT K H3 t ((nestA k).map V.int)) ⟨_, t9, y4, rfl, .int 9, q9a⟩ ?_ ?_
    · rintro k σ H3 hk ⟨v, t, z4, rfl, dv, qt⟩
      have hk12 : k < 12 := hk
      have nl := nestA_len k
      refine ⟨(by show 2 ≤ sizeLine; decide), fun l hl => ?_⟩
      have s1 : Same H3 (upd H3 l (.lst [.str "copies", .str "repeat"])) := same_new hl
      have q1 : SqL K (upd H3 l (.lst [.str "copies", .str "repeat"])) l [.str "copies", .str "repeat"] := SqL.of upd_same
      generalize (upd H3 l (.lst [.str "copies", .str "repeat"])) = H4 at s1 q1 ⊢
      have ew : atI [V.str "copies", V.str "repeat"] ((0 + (k : Int)) % 2) = some (.str (kwR (decide (k % 2 = 0)))) := by
        rcases Nat.mod_two_eq_zero_or_one k with e | e
        · have e2 : (0 + (k : Int)) % 2 = 0 := by omega
          rw [e2, e]
          rfl
        · have e2 : (0 + (k : Int)) % 2 = 1 := by omega
          rw [e2, e]
          rfl
      refine ⟨_, rfl, _, _, rfl, rfl, (by show (0 : Int) < 2; decide), _, _, _, _, rfl, rfl, q1, ew, _, rfl, _, _, rfl, rfl, _, rfl, (by show 3 ≤ sizeLine; decide), fun t1 h1 => ?_⟩
      have s2 : Same H4 (upd H4 t1 (.tup [.str (kwR (decide (k % 2 = 0))), .int (0 + (k : Int) + 2), v])) := same_new h1
      have e1 : upd H4 t1 (.tup [.str (kwR (decide (k % 2 = 0))), .int (0 + (k : Int) + 2), v]) t1 = some (.tup [.str (kwR (decide (k % 2 = 0))), .int (0 + (k : Int) + 2), v]) := upd_same
      generalize (upd H4 t1 (.tup [.str (kwR (decide (k % 2 = 0))), .int (0 + (k : Int) + 2), v])) = H5 at s2 e1 ⊢
      have dj : Dp K H5 (.ref t1) (nestJ (k + 1)).toD := by
        rw [show 0 + (k : Int) + 2 = (k : Int) + 2 by omega] at e1
        exact dp_rn e1 (dp_same (s1.trans s2) dv)
      refine ⟨_, rfl, _, _, rfl, rfl, (by show 1 ≤ sizeLine; decide), fun t2 h2 => ?_⟩
      have s3 : Same H5 (upd H5 t2 (.tup [.int (0 + (k : Int) + 1)])) := same_new h2
      have q2 : SqT K (upd H5 t2 (.tup [.int (0 + (k : Int) + 1)])) t2 [.int (0 + (k : Int) + 1)] := SqT.of upd_same
      generalize (upd H5 t2 (.tup [.int (0 + (k : Int) + 1)])) = H6 at s3 q2 ⊢
      refine ⟨_, rfl, ?_⟩
      refine rCatA_q q2 (same_sqT (s1.trans (s2.trans s3)) qt) (by rw [List.length_map, nl]; exact small (by simp only [List.length_singleton]; omega)) (fun H7 t3 s4 q3 => ?_)
      refine ⟨_, _, rfl, ?_⟩
      refine ⟨_, t3, _, rfl, dp_same (s3.trans s4) dj, ?_⟩
      rw [nestA, List.map_cons, show (k : Int) + 1 = 0 + (k : Int) + 1 by omega]
      exact q3
    · rintro σ H3 ⟨v, t, z4, rfl, dv, qt⟩
      have dv : Dp K H3 v (nestJ 12).toD := dv
      have qt : SqT K H3 t ((nestA 12).map V.int) := qt
      have gn := good_nest
      have nl : (nestA 12).length = 12 := nestA_len 12
      refine ⟨_, rfl, _, rfl, v, .ref t, nestJ 12, t, .tuple ((nestA 12).map .int), rfl, dv, gn.d20, gn.isSome, .tup qt (ints_q _), by decide, fun i e H4 s1 => ?_, fun e => by rw [nest_at] at e; cases e⟩
      rw [nest_at] at e
      cases e
      refine ⟨.int 9, .int 9, .int _, .int _, by decide, by decide, _, rfl, ?_⟩
      refine iteF ?_
      refine ⟨_, rfl, _, rfl, (by show 1 ≤ sizeLine; decide), fun t2 h2 => ?_⟩
      have s2 : Same H4 (upd H4 t2 (.tup [.int 0])) := same_new h2
      have q2 : SqT K (upd H4 t2 (.tup [.int 0])) t2 [.int 0] := SqT.of upd_same
      generalize (upd H4 t2 (.tup [.int 0])) = H5 at s2 q2 ⊢
      refine rCatA_q (same_sqT (s1.trans s2) qt) q2 (by rw [List.length_map, nl]; exact small (by decide)) (fun H6 t3 s3 q3 => ?_)
      have q3' : SqT K H6 t3 ((nestA 12 ++ [0]).map V.int) := by rw [List.map_append]; exact q3
      have s13 := s1.trans (s2.trans s3)
      refine ⟨v, .ref t3, nestJ 12, t3, .tuple ((nestA 12 ++ [0]).map .int), rfl, dp_same s13 dv, gn.d20, gn.isSome, .tup q3' (ints_q _), by decide, fun H7 s4 => ?_⟩
      rw [nest_long]
      refine ⟨_, rfl, ?_⟩
      refine iteF ?_
      have s14 := s13.trans s4
      refine ⟨_, rfl, _, rfl, _, rfl, ?_⟩
      try unfold tNoPart
      dsimp only
      refine rSlA_q (same_sqT s14 qt) (fun H8 t5 s5 q5 => ?_)
      have ecut : cutV ((nestA 12).map V.int) (some 1) none = ((nestA 12).drop 1).map V.int := by decide
      rw [ecut] at q5
      have s15 := s14.trans s5
      refine ⟨v, .ref t5, nestJ 12, t5, .tuple (((nestA 12).drop 1).map .int), rfl, dp_same s15 dv, gn.d20, gn.isSome, .tup q5 (ints_q _), by decide, fun H9 s6 => ?_⟩
      rw [nest_short]
      refine ⟨_, rfl, ?_⟩
      refine iteF ?_
      have s16 := s15.trans s6
      -- the last row
      refine ⟨_, rfl, (by show 1 ≤ sizeLine; decide), fun t7 h7 => ?_⟩
      have s7 : Same H9 (upd H9 t7 (.tup [.int 12])) := same_new h7
      have q7 : SqT K (upd H9 t7 (.tup [.int 12])) t7 [.int 12] := SqT.of upd_same
      generalize (upd H9 t7 (.tup [.int 12])) = Ha at s7 q7 ⊢
      refine ⟨_, rfl, _, rfl, ?_⟩
      try unfold tNoPart
      dsimp only
      refine rSlA_q (same_sqT (s16.trans s7) qt) (fun Hb t8 s8 q8 => ?_)
      rw [ecut] at q8
      refine rCatA_q (same_sqT s8 q7) q8 (by rw [List.length_map, List.length_drop, nl]; exact small (by decide)) (fun Hc t9 s9 q9 => ?_)
      have q9' : SqT K Hc t9 ((12 :: (nestA 12).drop 1).map V.int) := q9
      have s19 := s16.trans (s7.trans (s8.trans s9))
      refine ⟨v, .ref t9, nestJ 12, t9, .tuple ((12 :: (nestA 12).drop 1).map .int), rfl, dp_same s19 dv, gn.d20, gn.isSome, .tup q9' (ints_q _), by decide, fun Hd sd => ?_⟩
      rw [nest_12]
      refine ⟨_, _, rfl, rfl, _, rfl, ?_⟩
      refine iteT ?_
      have s1d := s19.trans sd
      refine ⟨_, rfl, (by show 1 ≤ sizeLine; decide), fun te he => ?_⟩
      have se : Same Hd (upd Hd te (.tup [.int 13])) := same_new he
      have qe : SqT K (upd Hd te (.tup [.int 13])) te [.int 13] := SqT.of upd_same
      generalize (upd Hd te (.tup [.int 13])) = He at se qe ⊢
      refine ⟨_, rfl, _, rfl, ?_⟩
      dsimp only
      refine rSlA_q (same_sqT (s1d.trans se) qt) (fun Hf tf sf qf => ?_)
      rw [ecut] at qf
      refine rCatA_q (same_sqT sf qe) qf (by rw [List.length_map, List.length_drop, nl]; exact small (by decide)) (fun Hg tg sg qg => ?_)
      have qg' : SqT K Hg tg ((13 :: (nestA 12).drop 1).map V.int) := qg
      have s1g := s1d.trans (se.trans (sf.trans sg))
      refine ⟨v, .ref tg, nestJ 12, tg, .tuple ((13 :: (nestA 12).drop 1).map .int), rfl, dp_same s1g dv, gn.d20, gn.isSome, .tup qg' (ints_q _), by decide, fun Hh sh => ?_⟩
      rw [nest_13]
      refine ⟨_, _, rfl, rfl, ?_⟩
      exact q _
end
theorem all_mk {l : PySem.W.OpenLaw} {w : World} {K : PySem.W.Frag} {h : Heap} {mg : Str → Option Value} {fa : Addr} (X : K.In h) (G : h.Ns mainGlobals mg) (hfa : mg "law" = some (.ref fa))
    {od0 an0 : Option Addr} {sl0 : Array (Option Value)} {oc0 kV0 dc0 pm0 cd0 ct0 : Value} {f0 : Addr}
    {od1 an1 : Option Addr} {sl1 : Array (Option Value)} {oc1 kV1 dc1 pm1 cd1 ct1 : Value} {f1 : Addr}
    {od2 an2 : Option Addr} {sl2 : Array (Option Value)} {oc2 kV2 dc2 pm2 cd2 ct2 : Value} {f2 : Addr}
    {od3 an3 : Option Addr} {sl3 : Array (Option Value)} {oc3 kV3 dc3 pm3 cd3 ct3 : Value} {f3 : Addr}
    {od4 an4 : Option Addr} {sl4 : Array (Option Value)} {oc4 kV4 dc4 pm4 cd4 ct4 : Value} {f4 : Addr}
    {od5 an5 : Option Addr} {sl5 : Array (Option Value)} {oc5 kV5 dc5 pm5 cd5 ct5 : Value} {f5 : Addr}
    {od6 an6 : Option Addr} {sl6 : Array (Option Value)} {oc6 kV6 dc6 pm6 cd6 ct6 : Value} {f6 : Addr}
    {od7 an7 : Option Addr} {sl7 : Array (Option Value)} {oc7 kV7 dc7 pm7 cd7 ct7 : Value} {f7 : Addr}
    {od8 an8 : Option Addr} {sl8 : Array (Option Value)} {oc8 kV8 dc8 pm8 cd8 ct8 : Value} {f8 : Addr}
    {od9 an9 : Option Addr} {sl9 : Array (Option Value)} {oc9 kV9 dc9 pm9 cd9 ct9 : Value} {f9 : Addr}
    {od10 an10 : Option Addr} {sl10 : Array (Option Value)} {oc10 kV10 dc10 pm10 cd10 ct10 : Value} {f10 : Addr}
    {od11 an11 : Option Addr} {sl11 : Array (Option Value)} {oc11 kV11 dc11 pm11 cd11 ct11 : Value} {f11 : Addr}
    {od12 an12 : Option Addr} {sl12 : Array (Option Value)} {oc12 kV12 dc12 pm12 cd12 ct12 : Value} {f12 : Addr}
    {od13 an13 : Option Addr} {sl13 : Array (Option Value)} {oc13 kV13 dc13 pm13 cd13 ct13 : Value} {f13 : Addr}
    {od14 an14 : Option Addr} {sl14 : Array (Option Value)} {oc14 kV14 dc14 pm14 cd14 ct14 : Value} {f14 : Addr}
    {od15 an15 : Option Addr} {sl15 : Array (Option Value)} {oc15 kV15 dc15 pm15 cd15 ct15 : Value} {f15 : Addr}
    {od16 an16 : Option Addr} {sl16 : Array (Option Value)} {oc16 kV16 dc16 pm16 cd16 ct16 : Value} {f16 : Addr}
    {od17 an17 : Option Addr} {sl17 : Array (Option Value)} {oc17 kV17 dc17 pm17 cd17 ct17 : Value} {f17 : Addr}
    {od18 an18 : Option Addr} {sl18 : Array (Option Value)} {oc18 kV18 dc18 pm18 cd18 ct18 : Value} {f18 : Addr}
    {od19 an19 : Option Addr} {sl19 : Array (Option Value)} {oc19 kV19 dc19 pm19 cd19 ct19 : Value} {f19 : Addr}
    {od20 an20 : Option Addr} {sl20 : Array (Option Value)} {oc20 kV20 dc20 pm20 cd20 ct20 : Value} {f20 : Addr}
    {od21 an21 : Option Addr} {sl21 : Array (Option Value)} {oc21 kV21 dc21 pm21 cd21 ct21 : Value} {f21 : Addr}
    {od22 an22 : Option Addr} {sl22 : Array (Option Value)} {oc22 kV22 dc22 pm22 cd22 ct22 : Value} {f22 : Addr}
    {od23 an23 : Option Addr} {sl23 : Array (Option Value)} {oc23 kV23 dc23 pm23 cd23 ct23 : Value} {f23 : Addr}
    {od24 an24 : Option Addr} {sl24 : Array (Option Value)} {oc24 kV24 dc24 pm24 cd24 ct24 : Value} {f24 : Addr}
    {od25 an25 : Option Addr} {sl25 : Array (Option Value)} {oc25 kV25 dc25 pm25 cd25 ct25 : Value} {f25 : Addr}
    {tk0 : Tok}
    {tk1 : Tok}
    {tk2 : Tok}
    {tk3 : Tok}
    {tk4 : Tok}
    {x0c : Addr}
    (a0 : PySem.W.nsIn K mainGlobals "is_integer" = some (some (.ref f0)))
    (l0 : K.lookup f0 = some ⟨oc0, od0, .func (PySem.W.fnOf "is_integer" "is_integer" (defArgs s_is_integer) (defBody s_is_integer) (defScope s_is_integer) .none kV0 dc0 pm0 an0 cd0 ct0), sl0⟩)
    (c0 : PySem.W.codeIn K cd0 "is_integer" = true) (k0 : PySem.W.keepIn K (.ref f0) = true)
    (a1 : PySem.W.nsIn K mainGlobals "is_within" = some (some (.ref f1)))
    (l1 : K.lookup f1 = some ⟨oc1, od1, .func (PySem.W.fnOf "is_within" "is_within" (defArgs s_is_within) (defBody s_is_within) (defScope s_is_within) .none kV1 dc1 pm1 an1 cd1 ct1), sl1⟩)
    (c1 : PySem.W.codeIn K cd1 "is_within" = true) (k1 : PySem.W.keepIn K (.ref f1) = true)
    (a2 : PySem.W.nsIn K mainGlobals "is_job" = some (some (.ref f2)))
    (l2 : K.lookup f2 = some ⟨oc2, od2, .func (PySem.W.fnOf "is_job" "is_job" (defArgs s_is_job) (defBody s_is_job) (defScope s_is_job) .none kV2 dc2 pm2 an2 cd2 ct2), sl2⟩)
    (c2 : PySem.W.codeIn K cd2 "is_job" = true) (k2 : PySem.W.keepIn K (.ref f2) = true)
    (a3 : PySem.W.nsIn K mainGlobals "checked_sizes" = some (some (.ref f3)))
    (l3 : K.lookup f3 = some ⟨oc3, od3, .func (PySem.W.fnOf "checked_sizes" "checked_sizes" (defArgs s_checked_sizes) (defBody s_checked_sizes) (defScope s_checked_sizes) .none kV3 dc3 pm3 an3 cd3 ct3), sl3⟩)
    (c3 : PySem.W.codeIn K cd3 "checked_sizes" = true) (k3 : PySem.W.keepIn K (.ref f3) = true)
    (a4 : PySem.W.nsIn K mainGlobals "steps_of_leaf" = some (some (.ref f4)))
    (l4 : K.lookup f4 = some ⟨oc4, od4, .func (PySem.W.fnOf "steps_of_leaf" "steps_of_leaf" (defArgs s_steps_of_leaf) (defBody s_steps_of_leaf) (defScope s_steps_of_leaf) .none kV4 dc4 pm4 an4 cd4 ct4), sl4⟩)
    (c4 : PySem.W.codeIn K cd4 "steps_of_leaf" = true) (k4 : PySem.W.keepIn K (.ref f4) = true)
    (a5 : PySem.W.nsIn K mainGlobals "sizes_of" = some (some (.ref f5)))
    (l5 : K.lookup f5 = some ⟨oc5, od5, .func (PySem.W.fnOf "sizes_of" "sizes_of" (defArgs s_sizes_of) (defBody s_sizes_of) (defScope s_sizes_of) .none kV5 dc5 pm5 an5 cd5 ct5), sl5⟩)
    (c5 : PySem.W.codeIn K cd5 "sizes_of" = true) (k5 : PySem.W.keepIn K (.ref f5) = true)
    (a6 : PySem.W.nsIn K mainGlobals "_sizes" = some (some (.ref f6)))
    (l6 : K.lookup f6 = some ⟨oc6, od6, .func (PySem.W.fnOf "_sizes" "_sizes" (defArgs s__sizes) (defBody s__sizes) (defScope s__sizes) .none kV6 dc6 pm6 an6 cd6 ct6), sl6⟩)
    (c6 : PySem.W.codeIn K cd6 "_sizes" = true) (k6 : PySem.W.keepIn K (.ref f6) = true)
    (a7 : PySem.W.nsIn K mainGlobals "_sizes_of_parts" = some (some (.ref f7)))
    (l7 : K.lookup f7 = some ⟨oc7, od7, .func (PySem.W.fnOf "_sizes_of_parts" "_sizes_of_parts" (defArgs s__sizes_of_parts) (defBody s__sizes_of_parts) (defScope s__sizes_of_parts) .none kV7 dc7 pm7 an7 cd7 ct7), sl7⟩)
    (c7 : PySem.W.codeIn K cd7 "_sizes_of_parts" = true) (k7 : PySem.W.keepIn K (.ref f7) = true)
    (a8 : PySem.W.nsIn K mainGlobals "_sizes_of_rounds" = some (some (.ref f8)))
    (l8 : K.lookup f8 = some ⟨oc8, od8, .func (PySem.W.fnOf "_sizes_of_rounds" "_sizes_of_rounds" (defArgs s__sizes_of_rounds) (defBody s__sizes_of_rounds) (defScope s__sizes_of_rounds) .none kV8 dc8 pm8 an8 cd8 ct8), sl8⟩)
    (c8 : PySem.W.codeIn K cd8 "_sizes_of_rounds" = true) (k8 : PySem.W.keepIn K (.ref f8) = true)
    (a9 : PySem.W.nsIn K mainGlobals "_within_count" = some (some (.ref f9)))
    (l9 : K.lookup f9 = some ⟨oc9, od9, .func (PySem.W.fnOf "_within_count" "_within_count" (defArgs s__within_count) (defBody s__within_count) (defScope s__within_count) .none kV9 dc9 pm9 an9 cd9 ct9), sl9⟩)
    (c9 : PySem.W.codeIn K cd9 "_within_count" = true) (k9 : PySem.W.keepIn K (.ref f9) = true)
    (a10 : PySem.W.nsIn K mainGlobals "is_address" = some (some (.ref f10)))
    (l10 : K.lookup f10 = some ⟨oc10, od10, .func (PySem.W.fnOf "is_address" "is_address" (defArgs s_is_address) (defBody s_is_address) (defScope s_is_address) .none kV10 dc10 pm10 an10 cd10 ct10), sl10⟩)
    (c10 : PySem.W.codeIn K cd10 "is_address" = true) (k10 : PySem.W.keepIn K (.ref f10) = true)
    (a11 : PySem.W.nsIn K mainGlobals "step_value" = some (some (.ref f11)))
    (l11 : K.lookup f11 = some ⟨oc11, od11, .func (PySem.W.fnOf "step_value" "step_value" (defArgs s_step_value) (defBody s_step_value) (defScope s_step_value) .none kV11 dc11 pm11 an11 cd11 ct11), sl11⟩)
    (c11 : PySem.W.codeIn K cd11 "step_value" = true) (k11 : PySem.W.keepIn K (.ref f11) = true)
    (a12 : PySem.W.nsIn K mainGlobals "is_index_tuple" = some (some (.ref f12)))
    (l12 : K.lookup f12 = some ⟨oc12, od12, .func (PySem.W.fnOf "is_index_tuple" "is_index_tuple" (defArgs s_is_index_tuple) (defBody s_is_index_tuple) (defScope s_is_index_tuple) .none kV12 dc12 pm12 an12 cd12 ct12), sl12⟩)
    (c12 : PySem.W.codeIn K cd12 "is_index_tuple" = true) (k12 : PySem.W.keepIn K (.ref f12) = true)
    (a13 : PySem.W.nsIn K mainGlobals "find_step" = some (some (.ref f13)))
    (l13 : K.lookup f13 = some ⟨oc13, od13, .func (PySem.W.fnOf "find_step" "find_step" (defArgs s_find_step) (defBody s_find_step) (defScope s_find_step) .none kV13 dc13 pm13 an13 cd13 ct13), sl13⟩)
    (c13 : PySem.W.codeIn K cd13 "find_step" = true) (k13 : PySem.W.keepIn K (.ref f13) = true)
    (a14 : PySem.W.nsIn K mainGlobals "_checked_step" = some (some (.ref f14)))
    (l14 : K.lookup f14 = some ⟨oc14, od14, .func (PySem.W.fnOf "_checked_step" "_checked_step" (defArgs s__checked_step) (defBody s__checked_step) (defScope s__checked_step) .none kV14 dc14 pm14 an14 cd14 ct14), sl14⟩)
    (c14 : PySem.W.codeIn K cd14 "_checked_step" = true) (k14 : PySem.W.keepIn K (.ref f14) = true)
    (a15 : PySem.W.nsIn K mainGlobals "_part_at" = some (some (.ref f15)))
    (l15 : K.lookup f15 = some ⟨oc15, od15, .func (PySem.W.fnOf "_part_at" "_part_at" (defArgs s__part_at) (defBody s__part_at) (defScope s__part_at) .none kV15 dc15 pm15 an15 cd15 ct15), sl15⟩)
    (c15 : PySem.W.codeIn K cd15 "_part_at" = true) (k15 : PySem.W.keepIn K (.ref f15) = true)
    (a16 : PySem.W.nsIn K mainGlobals "_law_pot" = some (some (.ref f16)))
    (l16 : K.lookup f16 = some ⟨oc16, od16, .func (PySem.W.fnOf "_law_pot" "_law_pot" (defArgs s__law_pot) (defBody s__law_pot) (defScope s__law_pot) .none kV16 dc16 pm16 an16 cd16 ct16), sl16⟩)
    (c16 : PySem.W.codeIn K cd16 "_law_pot" = true) (k16 : PySem.W.keepIn K (.ref f16) = true)
    (a17 : PySem.W.nsIn K mainGlobals "_law_take" = some (some (.ref f17)))
    (l17 : K.lookup f17 = some ⟨oc17, od17, .func (PySem.W.fnOf "_law_take" "_law_take" (defArgs s__law_take) (defBody s__law_take) (defScope s__law_take) .none kV17 dc17 pm17 an17 cd17 ct17), sl17⟩)
    (c17 : PySem.W.codeIn K cd17 "_law_take" = true) (k17 : PySem.W.keepIn K (.ref f17) = true)
    (a18 : PySem.W.nsIn K mainGlobals "_law_step" = some (some (.ref f18)))
    (l18 : K.lookup f18 = some ⟨oc18, od18, .func (PySem.W.fnOf "_law_step" "_law_step" (defArgs s__law_step) (defBody s__law_step) (defScope s__law_step) .none kV18 dc18 pm18 an18 cd18 ct18), sl18⟩)
    (c18 : PySem.W.codeIn K cd18 "_law_step" = true) (k18 : PySem.W.keepIn K (.ref f18) = true)
    (a19 : PySem.W.nsIn K mainGlobals "_law_job" = some (some (.ref f19)))
    (l19 : K.lookup f19 = some ⟨oc19, od19, .func (PySem.W.fnOf "_law_job" "_law_job" (defArgs s__law_job) (defBody s__law_job) (defScope s__law_job) .none kV19 dc19 pm19 an19 cd19 ct19), sl19⟩)
    (c19 : PySem.W.codeIn K cd19 "_law_job" = true) (k19 : PySem.W.keepIn K (.ref f19) = true)
    (a20 : PySem.W.nsIn K mainGlobals "_law_steps" = some (some (.ref f20)))
    (l20 : K.lookup f20 = some ⟨oc20, od20, .func (PySem.W.fnOf "_law_steps" "_law_steps" (defArgs s__law_steps) (defBody s__law_steps) (defScope s__law_steps) .none kV20 dc20 pm20 an20 cd20 ct20), sl20⟩)
    (c20 : PySem.W.codeIn K cd20 "_law_steps" = true) (k20 : PySem.W.keepIn K (.ref f20) = true)
    (a21 : PySem.W.nsIn K mainGlobals "_law_drawn" = some (some (.ref f21)))
    (l21 : K.lookup f21 = some ⟨oc21, od21, .func (PySem.W.fnOf "_law_drawn" "_law_drawn" (defArgs s__law_drawn) (defBody s__law_drawn) (defScope s__law_drawn) .none kV21 dc21 pm21 an21 cd21 ct21), sl21⟩)
    (c21 : PySem.W.codeIn K cd21 "_law_drawn" = true) (k21 : PySem.W.keepIn K (.ref f21) = true)
    (a22 : PySem.W.nsIn K mainGlobals "_law_value" = some (some (.ref f22)))
    (l22 : K.lookup f22 = some ⟨oc22, od22, .func (PySem.W.fnOf "_law_value" "_law_value" (defArgs s__law_value) (defBody s__law_value) (defScope s__law_value) .none kV22 dc22 pm22 an22 cd22 ct22), sl22⟩)
    (c22 : PySem.W.codeIn K cd22 "_law_value" = true) (k22 : PySem.W.keepIn K (.ref f22) = true)
    (a23 : PySem.W.nsIn K mainGlobals "_law_near" = some (some (.ref f23)))
    (l23 : K.lookup f23 = some ⟨oc23, od23, .func (PySem.W.fnOf "_law_near" "_law_near" (defArgs s__law_near) (defBody s__law_near) (defScope s__law_near) .none kV23 dc23 pm23 an23 cd23 ct23), sl23⟩)
    (c23 : PySem.W.codeIn K cd23 "_law_near" = true) (k23 : PySem.W.keepIn K (.ref f23) = true)
    (a24 : PySem.W.nsIn K mainGlobals "_law_refused" = some (some (.ref f24)))
    (l24 : K.lookup f24 = some ⟨oc24, od24, .func (PySem.W.fnOf "_law_refused" "_law_refused" (defArgs s__law_refused) (defBody s__law_refused) (defScope s__law_refused) .none kV24 dc24 pm24 an24 cd24 ct24), sl24⟩)
    (c24 : PySem.W.codeIn K cd24 "_law_refused" = true) (k24 : PySem.W.keepIn K (.ref f24) = true)
    (a25 : PySem.W.nsIn K mainGlobals "law" = some (some (.ref f25)))
    (l25 : K.lookup f25 = some ⟨oc25, od25, .func (PySem.W.fnOf "law" "law" (defArgs s_law) (defBody s_law) (defScope s_law) .none kV25 dc25 pm25 an25 cd25 ct25), sl25⟩)
    (c25 : PySem.W.codeIn K cd25 "law" = true) (k25 : PySem.W.keepIn K (.ref f25) = true)
    (gc0 : PySem.W.nsIn K mainGlobals "MAX_STEP" = some (some (.int 1000000000000000000000000000000 tk0)))
    (gc1 : PySem.W.nsIn K mainGlobals "MAX_COUNT" = some (some (.int 1000000000000000000000000000000 tk1)))
    (gc2 : PySem.W.nsIn K mainGlobals "MAX_PARTS" = some (some (.int 400 tk2)))
    (gc3 : PySem.W.nsIn K mainGlobals "MAX_NODES" = some (some (.int 400 tk3)))
    (gc4 : PySem.W.nsIn K mainGlobals "MAX_DEPTH" = some (some (.int 13 tk4)))
    (x0g : PySem.W.nsIn K mainGlobals "InvalidAddress" = some (some (.ref x0c))) (x0x : PySem.W.excIn K x0c [.type "ValueError", .type "Exception", .type "BaseException", .type "object"] "ValueError.__new__" = true) (x0k : PySem.W.keepIn K (.ref x0c) = true) (x0b : PySem.W.subIn K (.ref x0c) (.type "BaseException") = some true) (x0t : PySem.W.typeIn K (.ref x0c) = some (.type "type")) (x0i : PySem.W.isClsIn K x0c = true)
    (y0_0 : PySem.W.subIn K (.ref x0c) (.ref x0c) = some true)
    (z0 : PySem.W.nsIn K mainGlobals "abs" = some none)
    (z1 : PySem.W.nsIn K mainGlobals "all" = some none)
    (z2 : PySem.W.nsIn K mainGlobals "bool" = some none)
    (z3 : PySem.W.nsIn K mainGlobals "int" = some none)
    (z4 : PySem.W.nsIn K mainGlobals "isinstance" = some none)
    (z5 : PySem.W.nsIn K mainGlobals "len" = some none)
    (z6 : PySem.W.nsIn K mainGlobals "list" = some none)
    (z7 : PySem.W.nsIn K mainGlobals "max" = some none)
    (z8 : PySem.W.nsIn K mainGlobals "min" = some none)
    (z9 : PySem.W.nsIn K mainGlobals "range" = some none)
    (z10 : PySem.W.nsIn K mainGlobals "repr" = some none)
    (z11 : PySem.W.nsIn K mainGlobals "sum" = some none)
    (z12 : PySem.W.nsIn K mainGlobals "tuple" = some none) :
    ∃ fd : FuncData, (∀ (s : Shared) (v : Value), BindsTo s fd ⟨[v], []⟩ [("_law_script", v)]) ∧ ∀ base : Heap, K.In base → base.Ns mainGlobals mg → Rp.Sys base → FnG l.prog w K mg base CX0 60 fa fd ["_law_script"] (spLaw K) := by
  have e := hfa.symm.trans (PySem.W.mg_of X G a25)
  cases e
  have T : Txt K mg := by
    have F0 := fun_mk (st := s_is_integer) l0 c0 k0
    have F1 := fun_mk (st := s_is_within) l1 c1 k1
    have F2 := fun_mk (st := s_is_job) l2 c2 k2
    have F3 := fun_mk (st := s_checked_sizes) l3 c3 k3
    have F4 := fun_mk (st := s_steps_of_leaf) l4 c4 k4
    have F5 := fun_mk (st := s_sizes_of) l5 c5 k5
    have F6 := fun_mk (st := s__sizes) l6 c6 k6
    have F7 := fun_mk (st := s__sizes_of_parts) l7 c7 k7
    have F8 := fun_mk (st := s__sizes_of_rounds) l8 c8 k8
    have F9 := fun_mk (st := s__within_count) l9 c9 k9
    have F10 := fun_mk (st := s_is_address) l10 c10 k10
    have F11 := fun_mk (st := s_step_value) l11 c11 k11
    have F12 := fun_mk (st := s_is_index_tuple) l12 c12 k12
    have F13 := fun_mk (st := s_find_step) l13 c13 k13
    have F14 := fun_mk (st := s__checked_step) l14 c14 k14
    have F15 := fun_mk (st := s__part_at) l15 c15 k15
    have F16 := fun_mk (st := s__law_pot) l16 c16 k16
    have F17 := fun_mk (st := s__law_take) l17 c17 k17
    have F18 := fun_mk (st := s__law_step) l18 c18 k18
    have F19 := fun_mk (st := s__law_job) l19 c19 k19
    have F20 := fun_mk (st := s__law_steps) l20 c20 k20
    have F21 := fun_mk (st := s__law_drawn) l21 c21 k21
    have F22 := fun_mk (st := s__law_value) l22 c22 k22
    have F23 := fun_mk (st := s__law_near) l23 c23 k23
    have F24 := fun_mk (st := s__law_refused) l24 c24 k24
    have B0 := F0.binds (ps := ["value"]) fun _ _ _ _ _ _ us hl => match us, hl with | [_], _ => rfl
    have B1 := F1.binds (ps := ["value", "least", "greatest"]) fun _ _ _ _ _ _ us hl => match us, hl with | [_, _, _], _ => rfl
    have B2 := F2.binds (ps := ["value"]) fun _ _ _ _ _ _ us hl => match us, hl with | [_], _ => rfl
    have B3 := F3.binds (ps := ["job"]) fun _ _ _ _ _ _ us hl => match us, hl with | [_], _ => rfl
    have B4 := F4.binds (ps := ["value"]) fun _ _ _ _ _ _ us hl => match us, hl with | [_], _ => rfl
    have B5 := F5.binds (ps := ["value", "leaf_steps"]) fun _ _ _ _ _ _ us hl => match us, hl with | [_, _], _ => rfl
    have B6 := F6.binds (ps := ["value", "leaf_steps", "room", "levels"]) fun _ _ _ _ _ _ us hl => match us, hl with | [_, _, _, _], _ => rfl
    have B7 := F7.binds (ps := ["parts", "leaf_steps", "room", "levels"]) fun _ _ _ _ _ _ us hl => match us, hl with | [_, _, _, _], _ => rfl
    have B8 := F8.binds (ps := ["n", "inner", "leaf_steps", "room", "levels"]) fun _ _ _ _ _ _ us hl => match us, hl with | [_, _, _, _, _], _ => rfl
    have B9 := F9.binds (ps := ["nodes", "steps"]) fun _ _ _ _ _ _ us hl => match us, hl with | [_, _], _ => rfl
    have B10 := F10.binds (ps := ["job", "value"]) fun _ _ _ _ _ _ us hl => match us, hl with | [_, _], _ => rfl
    have B11 := F11.binds (ps := ["job", "address"]) fun _ _ _ _ _ _ us hl => match us, hl with | [_, _], _ => rfl
    have B12 := F12.binds (ps := ["value"]) fun _ _ _ _ _ _ us hl => match us, hl with | [_], _ => rfl
    have B13 := F13.binds (ps := ["job", "value"]) fun _ _ _ _ _ _ us hl => match us, hl with | [_, _], _ => rfl
    have B14 := F14.binds (ps := ["job", "address"]) fun _ _ _ _ _ _ us hl => match us, hl with | [_, _], _ => rfl
    have B15 := F15.binds (ps := ["job", "index"]) fun _ _ _ _ _ _ us hl => match us, hl with | [_, _], _ => rfl
    have B16 := F16.binds (ps := ["_law_script", "_law_k"]) fun _ _ _ _ _ _ us hl => match us, hl with | [_, _], _ => rfl
    have B17 := F17.binds (ps := ["_law_pot_here", "_law_many"]) fun _ _ _ _ _ _ us hl => match us, hl with | [_, _], _ => rfl
    have B18 := F18.binds (ps := ["_law_pot_here"]) fun _ _ _ _ _ _ us hl => match us, hl with | [_], _ => rfl
    have B19 := F19.binds (ps := ["_law_pot_here", "_law_deep", "_law_counts"]) fun _ _ _ _ _ _ us hl => match us, hl with | [_, _, _], _ => rfl
    have B20 := F20.binds (ps := ["_law_job_here"]) fun _ _ _ _ _ _ us hl => match us, hl with | [_], _ => rfl
    have B21 := F21.binds (ps := ["_law_pot_here", "_law_job_here"]) fun _ _ _ _ _ _ us hl => match us, hl with | [_, _], _ => rfl
    have B22 := F22.binds (ps := ["_law_job_here", "_law_address"]) fun _ _ _ _ _ _ us hl => match us, hl with | [_, _], _ => rfl
    have B23 := F23.binds (ps := ["_law_pot_here", "_law_address"]) fun _ _ _ _ _ _ us hl => match us, hl with | [_, _], _ => rfl
    have B24 := F24.binds (ps := ["_law_job_here", "_law_address"]) fun _ _ _ _ _ _ us hl => match us, hl with | [_, _], _ => rfl
    exact {
      f_is_integer := f0, d_is_integer := _, F_is_integer := F0, b_is_integer := B0, m_is_integer := PySem.W.mg_of X G a0,
      f_is_within := f1, d_is_within := _, F_is_within := F1, b_is_within := B1, m_is_within := PySem.W.mg_of X G a1,
      f_is_job := f2, d_is_job := _, F_is_job := F2, b_is_job := B2, m_is_job := PySem.W.mg_of X G a2,
      f_checked_sizes := f3, d_checked_sizes := _, F_checked_sizes := F3, b_checked_sizes := B3, m_checked_sizes := PySem.W.mg_of X G a3,
      f_steps_of_leaf := f4, d_steps_of_leaf := _, F_steps_of_leaf := F4, b_steps_of_leaf := B4, m_steps_of_leaf := PySem.W.mg_of X G a4,
      f_sizes_of := f5, d_sizes_of := _, F_sizes_of := F5, b_sizes_of := B5, m_sizes_of := PySem.W.mg_of X G a5,
      f__sizes := f6, d__sizes := _, F__sizes := F6, b__sizes := B6, m__sizes := PySem.W.mg_of X G a6,
      f__sizes_of_parts := f7, d__sizes_of_parts := _, F__sizes_of_parts := F7, b__sizes_of_parts := B7, m__sizes_of_parts := PySem.W.mg_of X G a7,
      f__sizes_of_rounds := f8, d__sizes_of_rounds := _, F__sizes_of_rounds := F8, b__sizes_of_rounds := B8, m__sizes_of_rounds := PySem.W.mg_of X G a8,
      f__within_count := f9, d__within_count := _, F__within_count := F9, b__within_count := B9, m__within_count := PySem.W.mg_of X G a9,
      f_is_address := f10, d_is_address := _, F_is_address := F10, b_is_address := B10, m_is_address := PySem.W.mg_of X G a10,
      f_step_value := f11, d_step_value := _, F_step_value := F11, b_step_value := B11, m_step_value := PySem.W.mg_of X G a11,
      f_is_index_tuple := f12, d_is_index_tuple := _, F_is_index_tuple := F12, b_is_index_tuple := B12, m_is_index_tuple := PySem.W.mg_of X G a12,
      f_find_step := f13, d_find_step := _, F_find_step := F13, b_find_step := B13, m_find_step := PySem.W.mg_of X G a13,
      f__checked_step := f14, d__checked_step := _, F__checked_step := F14, b__checked_step := B14, m__checked_step := PySem.W.mg_of X G a14,
      f__part_at := f15, d__part_at := _, F__part_at := F15, b__part_at := B15, m__part_at := PySem.W.mg_of X G a15,
      f__law_pot := f16, d__law_pot := _, F__law_pot := F16, b__law_pot := B16, m__law_pot := PySem.W.mg_of X G a16,
      f__law_take := f17, d__law_take := _, F__law_take := F17, b__law_take := B17, m__law_take := PySem.W.mg_of X G a17,
      f__law_step := f18, d__law_step := _, F__law_step := F18, b__law_step := B18, m__law_step := PySem.W.mg_of X G a18,
      f__law_job := f19, d__law_job := _, F__law_job := F19, b__law_job := B19, m__law_job := PySem.W.mg_of X G a19,
      f__law_steps := f20, d__law_steps := _, F__law_steps := F20, b__law_steps := B20, m__law_steps := PySem.W.mg_of X G a20,
      f__law_drawn := f21, d__law_drawn := _, F__law_drawn := F21, b__law_drawn := B21, m__law_drawn := PySem.W.mg_of X G a21,
      f__law_value := f22, d__law_value := _, F__law_value := F22, b__law_value := B22, m__law_value := PySem.W.mg_of X G a22,
      f__law_near := f23, d__law_near := _, F__law_near := F23, b__law_near := B23, m__law_near := PySem.W.mg_of X G a23,
      f__law_refused := f24, d__law_refused := _, F__law_refused := F24, b__law_refused := B24, m__law_refused := PySem.W.mg_of X G a24,
      t_MAX_STEP := tk0, g_MAX_STEP := PySem.W.mg_of X G gc0,
      t_MAX_COUNT := tk1, g_MAX_COUNT := PySem.W.mg_of X G gc1,
      t_MAX_PARTS := tk2, g_MAX_PARTS := PySem.W.mg_of X G gc2,
      t_MAX_NODES := tk3, g_MAX_NODES := PySem.W.mg_of X G gc3,
      t_MAX_DEPTH := tk4, g_MAX_DEPTH := PySem.W.mg_of X G gc4,
      c_InvalidAddress := x0c, g_InvalidAddress := PySem.W.mg_of X G x0g, x_InvalidAddress := x0x, k_InvalidAddress := x0k, bb_InvalidAddress := x0b, tt_InvalidAddress := x0t,
      e_InvalidAddress_InvalidAddress := exm_sub x0b x0i x0t y0_0,
      n_abs := PySem.W.mg_none_of X G z0,
      n_all := PySem.W.mg_none_of X G z1,
      n_bool := PySem.W.mg_none_of X G z2,
      n_int := PySem.W.mg_none_of X G z3,
      n_isinstance := PySem.W.mg_none_of X G z4,
      n_len := PySem.W.mg_none_of X G z5,
      n_list := PySem.W.mg_none_of X G z6,
      n_max := PySem.W.mg_none_of X G z7,
      n_min := PySem.W.mg_none_of X G z8,
      n_range := PySem.W.mg_none_of X G z9,
      n_repr := PySem.W.mg_none_of X G z10,
      n_sum := PySem.W.mg_none_of X G z11,
      n_tuple := PySem.W.mg_none_of X G z12 }
  exact ⟨PySem.W.fnOf "law" "law" (defArgs s_law) (defBody s_law) (defScope s_law) .none kV25 dc25 pm25 an25 cd25 ct25, fun s v => .of_eq rfl, fun base _ _ hs => ok_law (fun_mk (st := s_law) l25 c25 k25) T hs⟩
end Lw

open PySem PySem.W PyProof.Rows
set_option maxRecDepth 100000 in
set_option maxHeartbeats 0 in
theorem PySem.Challenge.cw_roomprofile_k07_addresses_known_holds : PySem.Challenge.rw_roomprofile_k07_addresses_known.Holds := by
  w_on; o_law; k_head; (case hw => w_witness2)
  k_fill
  refine Rp.law_endS (l := PySem.Challenge.rw_roomprofile_k07_addresses_known) (n := 63) (k := 60) (x := "_law_script") (sp := Lw.spLaw) rfl (by decide) rfl ⟨rfl, by decide, by decide⟩ (by rfl) (fun w h Y => PySem.W.kIn_of Y) ?F (fun K H a ns hl hO hS => ⟨a, ns, rfl, hO, hS, hl, fun _ => rfl⟩)
  case F =>
    intro w mg fa h KX G hmg
    refine' Lw.all_mk KX G hmg ?a0 ?l0 ?c0 ?k0 ?a1 ?l1 ?c1 ?k1 ?a2 ?l2 ?c2 ?k2 ?a3 ?l3 ?c3 ?k3 ?a4 ?l4 ?c4 ?k4 ?a5 ?l5 ?c5 ?k5 ?a6 ?l6 ?c6 ?k6 ?a7 ?l7 ?c7 ?k7 ?a8 ?l8 ?c8 ?k8 ?a9 ?l9 ?c9 ?k9 ?a10 ?l10 ?c10 ?k10 ?a11 ?l11 ?c11 ?k11 ?a12 ?l12 ?c12 ?k12 ?a13 ?l13 ?c13 ?k13 ?a14 ?l14 ?c14 ?k14 ?a15 ?l15 ?c15 ?k15 ?a16 ?l16 ?c16 ?k16 ?a17 ?l17 ?c17 ?k17 ?a18 ?l18 ?c18 ?k18 ?a19 ?l19 ?c19 ?k19 ?a20 ?l20 ?c20 ?k20 ?a21 ?l21 ?c21 ?k21 ?a22 ?l22 ?c22 ?k22 ?a23 ?l23 ?c23 ?k23 ?a24 ?l24 ?c24 ?k24 ?a25 ?l25 ?c25 ?k25 ?gc0 ?gc1 ?gc2 ?gc3 ?gc4 ?x0g ?x0x ?x0k ?x0b ?x0t ?x0i ?y0_0 ?z0 ?z1 ?z2 ?z3 ?z4 ?z5 ?z6 ?z7 ?z8 ?z9 ?z10 ?z11 ?z12
    (case a0 => k_is)
    (case l0 => k_is)
    (case c0 => k_is)
    (case k0 => k_is)
    (case a1 => k_is)
    (case l1 => k_is)
    (case c1 => k_is)
    (case k1 => k_is)
    (case a2 => k_is)
    (case l2 => k_is)
    (case c2 => k_is)
    (case k2 => k_is)
    (case a3 => k_is)
    (case l3 => k_is)
    (case c3 => k_is)
    (case k3 => k_is)
    (case a4 => k_is)
    (case l4 => k_is)
    (case c4 => k_is)
    (case k4 => k_is)
    (case a5 => k_is)
    (case l5 => k_is)
    (case c5 => k_is)
    (case k5 => k_is)
    (case a6 => k_is)
    (case l6 => k_is)
    (case c6 => k_is)
    (case k6 => k_is)
    (case a7 => k_is)
    (case l7 => k_is)
    (case c7 => k_is)
    (case k7 => k_is)
    (case a8 => k_is)
    (case l8 => k_is)
    (case c8 => k_is)
    (case k8 => k_is)
    (case a9 => k_is)
    (case l9 => k_is)
    (case c9 => k_is)
    (case k9 => k_is)
    (case a10 => k_is)
    (case l10 => k_is)
    (case c10 => k_is)
    (case k10 => k_is)
    (case a11 => k_is)
    (case l11 => k_is)
    (case c11 => k_is)
    (case k11 => k_is)
    (case a12 => k_is)
    (case l12 => k_is)
    (case c12 => k_is)
    (case k12 => k_is)
    (case a13 => k_is)
    (case l13 => k_is)
    (case c13 => k_is)
    (case k13 => k_is)
    (case a14 => k_is)
    (case l14 => k_is)
    (case c14 => k_is)
    (case k14 => k_is)
    (case a15 => k_is)
    (case l15 => k_is)
    (case c15 => k_is)
    (case k15 => k_is)
    (case a16 => k_is)
    (case l16 => k_is)
    (case c16 => k_is)
    (case k16 => k_is)
    (case a17 => k_is)
    (case l17 => k_is)
    (case c17 => k_is)
    (case k17 => k_is)
    (case a18 => k_is)
    (case l18 => k_is)
    (case c18 => k_is)
    (case k18 => k_is)
    (case a19 => k_is)
    (case l19 => k_is)
    (case c19 => k_is)
    (case k19 => k_is)
    (case a20 => k_is)
    (case l20 => k_is)
    (case c20 => k_is)
    (case k20 => k_is)
    (case a21 => k_is)
    (case l21 => k_is)
    (case c21 => k_is)
    (case k21 => k_is)
    (case a22 => k_is)
    (case l22 => k_is)
    (case c22 => k_is)
    (case k22 => k_is)
    (case a23 => k_is)
    (case l23 => k_is)
    (case c23 => k_is)
    (case k23 => k_is)
    (case a24 => k_is)
    (case l24 => k_is)
    (case c24 => k_is)
    (case k24 => k_is)
    (case a25 => k_is)
    (case l25 => k_is)
    (case c25 => k_is)
    (case k25 => k_is)
    (case gc0 => k_is)
    (case gc1 => k_is)
    (case gc2 => k_is)
    (case gc3 => k_is)
    (case gc4 => k_is)
    (case x0g => k_is)
    (case x0x => k_exc)
    (case x0k => k_is)
    (case x0b => k_is)
    (case x0t => k_is)
    (case x0i => k_is)
    (case y0_0 => first | rfl | k_is)
    (case z0 => k_is)
    (case z1 => k_is)
    (case z2 => k_is)
    (case z3 => k_is)
    (case z4 => k_is)
    (case z5 => k_is)
    (case z6 => k_is)
    (case z7 => k_is)
    (case z8 => k_is)
    (case z9 => k_is)
    (case z10 => k_is)
    (case z11 => k_is)
    (case z12 => k_is)
