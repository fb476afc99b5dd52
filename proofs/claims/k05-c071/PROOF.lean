import PyProof.Rows.All
import Wide.All
import OpenK.AllK
import Wide.FinOn
import HandS.ForMost
import HandS.IsInst
import HandS.TupAny
import HandS.Wide
import HandS.Codes
import HandS.Style
import PyProof.ReprRoads
import PyProof.ReprLen
import PyProof.ReprBulk
import PyProof.FitsInt
import HandS.TryOnly
import HandS.TupMul
import HandS.ForExc
import HandS.TryMany
import HandS.ExcIs
import HandS.ExcField
import HandS.HotCalls
import HandS.SetFor
import HandS.ExcInit
import KE.KExcInit
import KE.KExcIs
import PyProof.AutoSeq1
import HandS.Deep
import HandS.Zip
import HandS.Walk
import HandS.CallLocal
import KE.KExcLine
import PySem.Challenge.RW_roomprofile_k05_tidy_jobs
set_option Elab.async false
set_option linter.all false
set_option maxRecDepth 100000
set_option maxHeartbeats 4000000
/-! Rp: what the proofs of the laws over roomprofile share: powers, data, repr, isinstance, heaps. -/
namespace Rp
open PySem L2

/-! ### powers of great ints -/
def CPowW (i j : Int) : Prop := 0 ≤ j ∧ (Builtin.Int.intBits i : Int) * j ≤ 2 ^ 27
theorem bits_le {i : Int} {b : Nat} (hi : i.natAbs < 2 ^ b) : Builtin.Int.intBits i ≤ b := by
  unfold Builtin.Int.intBits
  split
  · exact Nat.zero_le _
  · rename_i hne
    have h0 : i.natAbs ≠ 0 := by
      intro z
      apply hne
      have : i = 0 := by omega
      subst this
      rfl
    have := (Nat.log2_lt h0).mpr hi
    omega
theorem powW_of {i j : Int} (b : Nat) (h0 : 0 ≤ j) (hi : i.natAbs < 2 ^ b) (hb : (b : Int) * j ≤ 2 ^ 27) : CPowW i j := by
  refine ⟨h0, Int.le_trans ?_ hb⟩
  have := bits_le hi
  exact Int.mul_le_mul_of_nonneg_right (by omega) h0
section
variable {X : Cx}
theorem op_powW : OpR X (binaryOp .Pow) (rI CPowW fun i j => .int (i ^ j.toNat)) := opI fun _ _ _ _ _ _ _ hc q => PyProof.Rows.pow_int hc.1 hc.2 q
end

/-! ### data -/
def tyN : PyData → String
  | .none => "NoneType"
  | .bool _ => "bool"
  | .int _ => "int"
  | .str _ => "str"
  | .list _ => "list"
  | .tuple _ => "tuple"
  | .dict _ => "dict"
theorem dp_ty {K : PySem.W.Frag} {H : Hp} {v : V} {d : PyData} (h : Dp K H v d) : TyX K H v (.type (tyN d)) := by
  cases h with
  | non => exact .base .non
  | bl b => exact .base (.bl b)
  | int i => exact .base (.int i)
  | str x => exact .base (.str x)
  | lst hs ha =>
    rcases hs with (e | ⟨o, e⟩) | ⟨o, its, n, hk, hc, _⟩
    · exact .base (.lst e)
    · exact .base (.frz e)
    · exact .kList hk hc
  | tup hs ha =>
    rcases hs with (e | ⟨o, e⟩) | ⟨o, its, n, hk, hc, _⟩
    · exact .base (.tup e)
    · exact .fTuple e
    · exact .kTuple hk hc
def isInt : PyData → Bool
  | .int _ => true
  | .bool _ => true
  | _ => false
def isBoo : PyData → Bool
  | .bool _ => true
  | _ => false
def isTup : PyData → Bool
  | .tuple _ => true
  | _ => false
def isStr : PyData → Bool
  | .str _ => true
  | _ => false
def isLst : PyData → Bool
  | .list _ => true
  | _ => false
theorem kit_int (d : PyData) : kitB (tyN d) "int" = some (isInt d) := by cases d <;> (simp only [tyN, isInt]; decide +kernel)
theorem kit_bool (d : PyData) : kitB (tyN d) "bool" = some (isBoo d) := by cases d <;> (simp only [tyN, isBoo]; decide +kernel)
theorem kit_tuple (d : PyData) : kitB (tyN d) "tuple" = some (isTup d) := by cases d <;> (simp only [tyN, isTup]; decide +kernel)
theorem kit_str (d : PyData) : kitB (tyN d) "str" = some (isStr d) := by cases d <;> (simp only [tyN, isStr]; decide +kernel)
theorem kit_list (d : PyData) : kitB (tyN d) "list" = some (isLst d) := by cases d <;> (simp only [tyN, isLst]; decide +kernel)
section
variable {X : Cx}
def rIsD (K : PySem.W.Frag) : List V → Hp → VK → Prop := fun xs H Q => ∃ (v : V) (n : String) (d : PyData) (b : Bool), xs = [v, .ty n] ∧ Dp K H v d ∧ kitB (tyN d) n = some b ∧ Q (.bl b) H
theorem call_isD : CallR X (.builtin "isinstance") (rIsD X.K) := by
  intro pins s σ H xs us Q I r h
  obtain ⟨v, n, d, b, e, hd, hk, q⟩ := h
  exact call_isi pins s σ H xs us Q I r ⟨v, .ty n, _, _, _, e, .ty n, dp_ty hd, kit_ty hk, q⟩
end

/-! ### len, list(..), tuple(..) by names -/
section
variable {X : Cx}
def rLenS (K : PySem.W.Frag) : List V → Hp → VK → Prop := fun xs H Q => ∃ (p : Addr) (ys : List V), xs = [.ref p] ∧ (SqL K H p ys ∨ SqT K H p ys) ∧ Q (.int ys.length) H
theorem call_lenS : CallR X (.builtin "len") (rLenS X.K) := call_len_seq
def rListS (K : PySem.W.Frag) : List V → Hp → VK → Prop := fun xs H Q => ∃ (p : Addr) (ys : List V), xs = [.ref p] ∧ (SqL K H p ys ∨ SqT K H p ys) ∧ ∀ l, H l = none → Q (.ref l) (upd H l (.lst ys))
theorem call_listS : CallR X (.type "list") (rListS X.K) := call_list_of
def rTupS (K : PySem.W.Frag) : List V → Hp → VK → Prop := fun xs H Q => ∃ (p : Addr) (ys : List V), xs = [.ref p] ∧ ((SqL K H p ys ∧ ∀ l, H l = none → Q (.ref l) (upd H l (.tup ys))) ∨ (SqT K H p ys ∧ Q (.ref p) H))
theorem call_tupS : CallR X (.type "tuple") (rTupS X.K) := call_tuple_of
end

/-! ### repr of data -/
mutual
/-- data whose text is made without trouble: no dicts, ints of at most 180 digits, signs below 16 ^ 8 -/
def fine : PyData → Prop
  | .int i => i.natAbs < 10 ^ 180
  | .str x => (x.cps.toList.all fun c => decide (c < 16 ^ 8)) = true
  | .list xs => fines xs
  | .tuple xs => fines xs
  | .dict _ => False
  | _ => True
def fines : List PyData → Prop
  | [] => True
  | x :: xs => fine x ∧ fines xs
end
theorem int_log {i : Int} (h : i.natAbs < 10 ^ 180) : i.natAbs.log2 < 1920 := by
  by_cases z : i.natAbs = 0
  · rw [z]
    decide
  · exact (Nat.log2_lt z).mpr (Nat.lt_trans h (by decide +kernel))
theorem shown_int {i : Int} (h : i.natAbs < 10 ^ 180) : (PyData.shown (.int i)).length ≤ 200 := by
  have e := int_text_length_le10 (k := 180) (by decide) h
  show (Str.ofString (toString i)).length ≤ 200
  rw [ofString_length]
  omega
mutual
theorem fine_ok : ∀ d : PyData, fine d → d.showable = true ∧ d.leavesShort 200 = true ∧ d.hasDict = false
  | .none, _ => by simp [PyData.showable, PyData.leavesShort, PyData.hasDict]
  | .bool _, _ => by simp [PyData.showable, PyData.leavesShort, PyData.hasDict]
  | .int i, h => by
    simp only [fine] at h
    simp only [PyData.showable, PyData.leavesShort, PyData.hasDict, decide_eq_true_eq, and_true]
    exact ⟨int_log h, shown_int h⟩
  | .str x, h => by
    simp only [fine] at h
    simp only [PyData.showable, PyData.leavesShort, PyData.hasDict, and_true, true_and]
    exact h
  | .list xs, h => by
    simp only [fine] at h
    simp only [PyData.showable, PyData.leavesShort, PyData.hasDict]
    exact fines_ok xs h
  | .tuple xs, h => by
    simp only [fine] at h
    simp only [PyData.showable, PyData.leavesShort, PyData.hasDict]
    exact fines_ok xs h
  | .dict _, h => by simp only [fine] at h
theorem fines_ok : ∀ xs : List PyData, fines xs → PyData.showableAll xs = true ∧ PyData.leavesShortAll 200 xs = true ∧ PyData.hasDictAll xs = false
  | [], _ => by simp [PyData.showableAll, PyData.leavesShortAll, PyData.hasDictAll]
  | x :: xs, h => by
    simp only [fines] at h
    obtain ⟨a1, a2, a3⟩ := fine_ok x h.1
    obtain ⟨b1, b2, b3⟩ := fines_ok xs h.2
    simp only [PyData.showableAll, PyData.leavesShortAll, PyData.hasDictAll, a1, a2, a3, b1, b2, b3, Bool.and_self, Bool.or_self, and_self]
end
section
variable {X : Cx}
def rRepr (K : PySem.W.Frag) : List V → Hp → VK → Prop := fun xs H Q => ∃ (v : V) (d : PyData), xs = [v] ∧ Dp K H v d ∧ fine d ∧ d.depth ≤ 64 ∧ d.bulk ≤ 80000 ∧ Q (.str d.shown) H
theorem call_reprD (hg : X.A.guards = some []) (hu : X.A.units + 66 < cLine) : CallR X (.builtin "repr") (rRepr X.K) := by
  intro pins s σ H xs us Q I r h
  obtain ⟨v, d, rfl, hd, hf, hdep, hw, q⟩ := h
  obtain ⟨hs, hl, hnd⟩ := fine_ok d hf
  have hz : d.shown.length ≤ sizeLine := by
    have := PyData.shown_le_bulk 200 (by decide) d hl
    rw [sizeLine_eq]
    omega
  obtain ⟨u, rfl, ru⟩ := vals1 r
  have hsm : ∀ as : List Addr, d.hasDict = true → sysModules ∉ as := fun as => PyData.noDict_hsm hnd
  obtain ⟨as, hr⟩ := Dp.reads I d v u hd ru
  cases hr with
  | none => exact P.repr_of_none ⟨.str _, H, I.tok _, ⟨_, rfl⟩, q⟩
  | bool b => exact P.repr_of_bool ⟨.str _, H, I.tok _, ⟨_, rfl⟩, q⟩
  | int i t => exact P.repr_of_int (by simpa [PyData.showable] using hs) ⟨.str _, H, I.tok _, ⟨_, rfl⟩, q⟩
  | str x t => exact P.repr_of_str ⟨.str _, H, I.tok _, ⟨_, rfl⟩, q⟩ (by simpa only [PyData.shown] using hz)
  | list h1 h2 h3 h4 =>
    refine repr_of_reads' (h₀ := s.heap) (.list h1 h2 h3 h4) hs (hsm _) hg (by omega) (fun _ _ e => e) (fun h' u' tk hk => ?_) hz
    exact ⟨.str _, H, I.kept hk, ⟨_, rfl⟩, q⟩
  | tuple h1 h2 h3 h4 =>
    refine repr_of_reads' (h₀ := s.heap) (.tuple h1 h2 h3 h4) hs (hsm _) hg (by omega) (fun _ _ e => e) (fun h' u' tk hk => ?_) hz
    exact ⟨.str _, H, I.kept hk, ⟨_, rfl⟩, q⟩
  | dict _ _ _ _ _ => exact absurd hnd (by simp [PyData.hasDict])
end

/-! ### what stays of the heap -/
theorem same_sqT {K : PySem.W.Frag} {H H' : Hp} {a : Addr} {xs : List V} (s : Same H H') (h : SqT K H a xs) : SqT K H' a xs := by
  rcases h with (h | ⟨o, h⟩) | h
  · exact .inl (.inl (s _ _ h))
  · exact .inl (.inr ⟨o, s _ _ h⟩)
  · exact .inr h
theorem same_new {H : Hp} {p : Addr} {o : HO} (h : H p = none) : Same H (upd H p o) := fun b u q => by rw [upd_ne (ne_of_none q h)]; exact q
mutual
theorem dp_same {K : PySem.W.Frag} {H H' : Hp} (s : Same H H') : ∀ {d : PyData} {v : V}, Dp K H v d → Dp K H' v d
  | .none, _, h => by cases h; exact .non
  | .bool _, _, h => by cases h; exact .bl _
  | .int _, _, h => by cases h; exact .int _
  | .str _, _, h => by cases h; exact .str _
  | .list ds, _, h => by
    cases h with
    | lst hs ha => exact .lst (s.seq hs) (dpAll_same s ha)
  | .tuple ds, _, h => by
    cases h with
    | tup hs ha => exact .tup (same_sqT s hs) (dpAll_same s ha)
  | .dict _, _, h => by cases h
theorem dpAll_same {K : PySem.W.Frag} {H H' : Hp} (s : Same H H') : ∀ {ds : List PyData} {vs : List V}, DpAll K H vs ds → DpAll K H' vs ds
  | [], _, h => by cases h; exact .nil
  | d :: ds, _, h => by
    cases h with
    | cons h1 h2 => exact .cons (dp_same s h1) (dpAll_same s h2)
end
/-- all but p stays -/
def Sx (p : Addr) (H H' : Hp) : Prop := ∀ b o, b ≠ p → H b = some o → H' b = some o
theorem Sx.refl {p : Addr} {H : Hp} : Sx p H H := fun _ _ _ h => h
theorem Sx.trans {p : Addr} {H H1 H2 : Hp} (a : Sx p H H1) (b : Sx p H1 H2) : Sx p H H2 := fun c o n h => b c o n (a c o n h)
theorem Same.sx {p : Addr} {H H' : Hp} (s : Same H H') : Sx p H H' := fun b o _ h => s b o h
theorem sx_upd {p : Addr} {H : Hp} {o : HO} : Sx p H (upd H p o) := fun b u n h => by rw [upd_ne n]; exact h
theorem sx_new {p q : Addr} {H : Hp} {o : HO} (h : H q = none) : Sx p H (upd H q o) := fun b u _ q => same_new h b u q
/-! data without lists and dicts -/
mutual
def noL : PyData → Bool
  | .list _ => false
  | .dict _ => false
  | .tuple ds => noLs ds
  | _ => true
def noLs : List PyData → Bool
  | [] => true
  | d :: ds => noL d && noLs ds
end
theorem Sx.sqT {K : PySem.W.Frag} {p a : Addr} {H H' : Hp} {l xs : List V} (s : Sx p H H') (hp : H p = some (.lst l)) (h : SqT K H a xs) : SqT K H' a xs := by
  rcases h with (h | ⟨o, h⟩) | h
  · exact .inl (.inl (s _ _ (ne_of h hp (by intro z; cases z)) h))
  · exact .inl (.inr ⟨o, s _ _ (ne_of h hp (by intro z; cases z)) h⟩)
  · exact .inr h
mutual
theorem dp_keep {K : PySem.W.Frag} {H H' : Hp} (s : ∀ a xs, SqT K H a xs → SqT K H' a xs) : ∀ {d : PyData} {v : V}, noL d = true → Dp K H v d → Dp K H' v d
  | .none, _, _, h => by cases h; exact .non
  | .bool _, _, _, h => by cases h; exact .bl _
  | .int _, _, _, h => by cases h; exact .int _
  | .str _, _, _, h => by cases h; exact .str _
  | .list ds, _, n, h => by simp [noL] at n
  | .tuple ds, _, n, h => by
    cases h with
    | tup hs ha => exact .tup (s _ _ hs) (dpAll_keep s (by simpa [noL] using n) ha)
  | .dict _, _, _, h => by cases h
theorem dpAll_keep {K : PySem.W.Frag} {H H' : Hp} (s : ∀ a xs, SqT K H a xs → SqT K H' a xs) : ∀ {ds : List PyData} {vs : List V}, noLs ds = true → DpAll K H vs ds → DpAll K H' vs ds
  | [], _, _, h => by cases h; exact .nil
  | d :: ds, _, n, h => by
    cases h with
    | cons h1 h2 =>
      have n' : noL d = true ∧ noLs ds = true := by simpa [noLs] using n
      exact .cons (dp_keep s n'.1 h1) (dpAll_keep s n'.2 h2)
end
theorem Sx.dp {K : PySem.W.Frag} {p : Addr} {H H' : Hp} {l : List V} {d : PyData} {v : V} (s : Sx p H H') (hp : H p = some (.lst l)) (n : noL d = true) (h : Dp K H v d) : Dp K H' v d :=
  dp_keep (fun _ _ z => s.sqT hp z) n h
theorem dpAll_length {K : PySem.W.Frag} {H : Hp} : ∀ {vs : List V} {ds : List PyData}, DpAll K H vs ds → vs.length = ds.length
  | _, _, .nil => rfl
  | _, _, .cons _ h => congrArg (· + 1) (dpAll_length h)
theorem dpAll_get {K : PySem.W.Frag} {H : Hp} : ∀ {vs : List V} {ds : List PyData} {i : Nat} {v : V}, DpAll K H vs ds → vs[i]? = some v → ∃ d, ds[i]? = some d ∧ Dp K H v d
  | _, _, _, _, .nil, e => by simp at e
  | _, _, 0, _, .cons h _, e => by
    simp at e
    subst e
    exact ⟨_, rfl, h⟩
  | _, _, i + 1, _, .cons _ t, e => by
    obtain ⟨d, e1, e2⟩ := dpAll_get (i := i) t (by simpa using e)
    exact ⟨d, by simpa using e1, e2⟩
theorem dpAll_append {K : PySem.W.Frag} {H : Hp} : ∀ {vs ws : List V} {ds es : List PyData}, DpAll K H vs ds → DpAll K H ws es → DpAll K H (vs ++ ws) (ds ++ es)
  | _, _, _, _, .nil, h => h
  | _, _, _, _, .cons h t, h' => .cons h (dpAll_append t h')
theorem dpAll_one {K : PySem.W.Frag} {H : Hp} {v : V} {d : PyData} (h : Dp K H v d) : DpAll K H [v] [d] := .cons h .nil
theorem dpAll_rev {K : PySem.W.Frag} {H : Hp} : ∀ {vs : List V} {ds : List PyData}, DpAll K H vs ds → DpAll K H vs.reverse ds.reverse
  | _, _, .nil => .nil
  | _, _, .cons h t => by
    rw [List.reverse_cons, List.reverse_cons]
    exact dpAll_append (dpAll_rev t) (.cons h .nil)
theorem dp_int_inv {K : PySem.W.Frag} {H : Hp} {v : V} {i : Int} (h : Dp K H v (.int i)) : v = .int i := by cases h; rfl
theorem dp_str_inv {K : PySem.W.Frag} {H : Hp} {v : V} {x : Str} (h : Dp K H v (.str x)) : v = .str x := by cases h; rfl
theorem dp_none_inv {K : PySem.W.Frag} {H : Hp} {v : V} (h : Dp K H v .none) : v = .non := by cases h; rfl
theorem dp_bool_inv {K : PySem.W.Frag} {H : Hp} {v : V} {b : Bool} (h : Dp K H v (.bool b)) : v = .bl b := by cases h; rfl
theorem dp_tup_inv {K : PySem.W.Frag} {H : Hp} {v : V} {ds : List PyData} (h : Dp K H v (.tuple ds)) : ∃ a xs, v = .ref a ∧ SqT K H a xs ∧ DpAll K H xs ds := by
  cases h with
  | tup h1 h2 => exact ⟨_, _, rfl, h1, h2⟩
theorem dp_lst_inv {K : PySem.W.Frag} {H : Hp} {v : V} {ds : List PyData} (h : Dp K H v (.list ds)) : ∃ a xs, v = .ref a ∧ SqL K H a xs ∧ DpAll K H xs ds := by
  cases h with
  | lst h1 h2 => exact ⟨_, _, rfl, h1, h2⟩
theorem tup_fresh {K : PySem.W.Frag} {H : Hp} {p : Addr} {xs : List V} {ds : List PyData} (hp : H p = none) (h : DpAll K H xs ds) : Same H (upd H p (.tup xs)) ∧ Dp K (upd H p (.tup xs)) (.ref p) (.tuple ds) :=
  ⟨same_new hp, .tup (.inl (.inl upd_same)) (dpAll_same (same_new hp) h)⟩
theorem lst_fresh {K : PySem.W.Frag} {H : Hp} {p : Addr} {xs : List V} {ds : List PyData} (hp : H p = none) (h : DpAll K H xs ds) : Same H (upd H p (.lst xs)) ∧ Dp K (upd H p (.lst xs)) (.ref p) (.list ds) :=
  ⟨same_new hp, .lst (.inl (.inl upd_same)) (dpAll_same (same_new hp) h)⟩
theorem Same.sx_free {H H1 H2 : Hp} {p : Addr} (s : Same H H1) (h : H p = none) (t : Sx p H1 H2) : Same H H2 := fun b o e =>
  t b o (ne_of_none e h) (s b o e)
theorem small {n : Nat} (h : n ≤ 1000) : n ≤ sizeLine := Nat.le_of_lt (small1000 h)
theorem small' {n : Nat} (h : n ≤ 1000000) : n ≤ sizeLine := by rw [sizeLine_eq]; omega

theorem atI_at {α : Type} {xs : List α} {k : Int} {j : Nat} {v : α} (e : k = (j : Int)) (h : xs[j]? = some v) : atI xs k = some v := by
  subst e
  exact atI_nat h
theorem atI_int {ns : List Int} {k : Int} (h0 : 0 ≤ k) (h : k < (ns.length : Int)) : ∃ z, z ∈ ns ∧ atI (ns.map V.int) k = some (.int z) := by
  have hk : k.toNat < ns.length := by omega
  refine ⟨ns[k.toNat], List.getElem_mem hk, atI_at (j := k.toNat) (by omega) ?_⟩
  rw [List.getElem?_map, List.getElem?_eq_getElem hk]
  rfl

/-! ### the script as the law gets it: it never changes -/
def Scr (K : PySem.W.Frag) (H : Hp) (a : Addr) (ns : List Int) : Prop := (∃ o, H a = some (.frz o (.lst (ns.map V.int)))) ∨
  ∃ (o : Obj) (its : Array Value) (n : Nat), K.lookup a = some o ∧ o.cls = .type "list" ∧ o.dict = none ∧ o.data = .seq its n ∧ its.size ≤ sizeLine ∧ Vals (ns.map V.int) its.toList
theorem Scr.sq {K : PySem.W.Frag} {H : Hp} {a : Addr} {ns : List Int} (h : Scr K H a ns) : SqL K H a (ns.map V.int) := by
  rcases h with ⟨o, h⟩ | h
  · exact .inl (.inr ⟨o, h⟩)
  · exact .inr h
theorem Scr.of {K : PySem.W.Frag} {H : Hp} {a : Addr} {ns : List Int} (hO : Only H) (h : SqL K H a (ns.map V.int)) : Scr K H a ns := by
  rcases h with (h | h) | h
  · rcases hO a with z | ⟨o, xs, z⟩
    · rw [h] at z; cases z
    · rw [h] at z; cases z
  · exact .inl h
  · exact .inr h
theorem Scr.same {K : PySem.W.Frag} {H H' : Hp} {a : Addr} {ns : List Int} (s : Same H H') (h : Scr K H a ns) : Scr K H' a ns := by
  rcases h with ⟨o, h⟩ | h
  · exact .inl ⟨o, s _ _ h⟩
  · exact .inr h
theorem Scr.sx {K : PySem.W.Frag} {H H' : Hp} {a p : Addr} {ns : List Int} {l : List V} (s : Sx p H H') (hp : H p = some (.lst l)) (h : Scr K H a ns) : Scr K H' a ns := by
  rcases h with ⟨o, h⟩ | h
  · exact .inl ⟨o, s _ _ (ne_of h hp (by intro z; cases z)) h⟩
  · exact .inr h
end Rp
/-! RpG: defs that say repr of made data: the layer's judgements where no repr is under way (guards known), and the law's end over them. -/
namespace Rp
open PySem L2 PyProof.Rows

structure FnG (P : Program) (w : World) (K : PySem.W.Frag) (mg : Str → Option Value) (base : Heap) (CX : CXT) (k : Nat) (f : Addr) (fd : FuncData) (ps : List Str) (sp : Sp) : Prop where
  len : ∀ vs H Q E, sp vs H Q E → vs.length = ps.length
  run : ∀ (A : Around) (outer : List Env) (s : Shared) (H : Hp) (args : Args) (us : List Value) (vs : List V) (Q : VK) (E : XK), Room k A → A.guards = some [] →
    Env0 P w K mg base A outer s H → BindsTo s fd args (ps.zip us) → Vals vs us → sp vs H Q E → codeAny (model P w) A (.call (.ref f) args) (CR CX outer P w H s Q E) s

theorem room66 {k : Nat} {A : Around} (hr : Room k A) : A.units + 66 < cLine := by
  have := hr.un
  omega
section
variable {P : Program} {w : World} {K : PySem.W.Frag} {mg : Str → Option Value} {base : Heap}
theorem okG {name qual : Str} {st : Stmt} {f : Addr} {fd : FuncData} {N ps : List Str} {k : Nat} {sp : Sp} (F : Fun K name qual st f fd) (S : FnScope N ps (defScope st))
    (hlen : ∀ vs H Q E, sp vs H Q E → vs.length = ps.length)
    (hb : ∀ (cdv : Value) (A : Around) (outer : List Env) (s : Shared) (H : Hp) (vs : List V) (Q : VK) (E : XK),
      Room k (A.deeper (envOfC qual (defScope st) s.heap.objs.size f cdv)) → A.guards = some [] → sp vs H Q E →
      ∃ t, PSs (cxOf CX0 P w K mg base N qual (defScope st) f cdv A outer s H E).nox (defBody st) t ∧
        t { nx := fun _ H' => Q .non H', rt := Q } (start N vs) H) : FnG P w K mg base CX0 (k + 1) f fd ps sp := by
  obtain ⟨oc, od, kV, doc, pm, an, cdv, ct, osl, rfl, lk, hcd⟩ := F.ex
  refine ⟨hlen, fun A outer s H args us vs Q E room gd en bd rv want => ?_⟩
  have kin : K.In s.heap := en.mod.kin.keeps fun b o z => (en.bs b o z).1
  have nolim : s.heap.NoLimit := en.mod.nolimit.keeps fun b o z => (en.bs b o z).1
  have hl := hlen _ _ _ _ want
  refine Att.call_fn kin nolim lk hcd room.depth bd ?_ (fun s1 ic => ?_) S.co S.gen S.kind
  · refine List.all_eq_true.mpr fun y hy => ?_
    obtain ⟨a, b⟩ := y
    rcases S.par a (List.of_mem_zip hy).1 with z | z
    · simp [z]
    · simp [z]
  · obtain ⟨t, ht, hq⟩ := hb cdv A outer s H vs Q E (room.deeper _) gd want
    have I := inv_start (CX := CX0) (P := P) (w := w) (K := K) (mg := mg) (base := base) (E := E) S room.hd en hl rv ic
    refine wpAny_mono (ht.nox.run [] s1 (start N vs) H _ I hq) (fun fl s' hs => ?_) (fun e s' hs => hs)
    cases fl with
    | ret u =>
      obtain ⟨v, σ', H', J, rr, q⟩ := hs
      exact ⟨v, H', J.os, J.bare, J.base, J.hok, rr, q⟩
    | next =>
      obtain ⟨σ', H', J, q⟩ := hs
      exact ⟨V.non, H', J.os, J.bare, J.base, J.hok, rfl, q⟩
    | brk =>
      obtain ⟨_, _, _, q⟩ := hs
      exact False.elim q
    | cont =>
      obtain ⟨_, _, _, q⟩ := hs
      exact False.elim q
end
section
variable {X : Cx} {k : Nat} {f : Addr} {fd : FuncData} {ps : List Str} {sp : Sp} {dvs : List V} {ds : List Value} {x : Str} {p pos : Pos} {e : Expr} {es : List Expr} {t : TA}
theorem runG {pins : List (Addr × Obj)} {σ : L2.St} {H : Hp} {s : Shared} {Q : VK} {us : List Value} {vs : List V} (F : FnG X.prog X.w X.K X.mg X.base CX0 k f fd ps sp) (room : Room k X.A) (gd : X.A.guards = some [])
    (bd : Binds X.K fd ps ds) (dv : Vals dvs ds) (I : Inv X pins σ H s) (rv : Vals vs us) (want : sp (vs ++ dvs) H Q E0) : wpAny (model X.prog X.w) X.A (call (.ref f) us) (EP X pins σ Q) X.xe s := by
  have rv2 : Vals (vs ++ dvs) (us ++ ds) := rv.append dv
  have hl : (us ++ ds).length = ps.length := by
    rw [← rv2.length]
    exact F.len _ _ _ _ want
  refine wpAny_call (codeAny_mono (F.run X.A X.stack s H ⟨us, []⟩ (us ++ ds) (vs ++ dvs) Q E0 room gd I.env0 (bd s us I.kIn hl) rv2 want) fun r s' hq => ?_)
  cases r with
  | error e => exact False.elim hq
  | ok fl =>
    cases fl with
    | ret u => exact I.after hq
    | next => exact False.elim hq
    | brk => exact False.elim hq
    | cont => exact False.elim hq
theorem pe_callG (F : FnG X.prog X.w X.K X.mg X.base CX0 k f fd ps sp) (room : Room k X.A) (gd : X.A.guards = some []) (gl : Gl X x) (hm : X.mg x = some (.ref f)) (kp : PySem.W.keepIn X.K (.ref f) = true)
    (bd : Binds X.K fd ps ds) (dv : Vals dvs ds) (ha : PA X (e :: es) t) (nodbg : (x == ("__debug__" : Str)) = false := by decide)
    (he : starEach (e :: es) X.env = (false, eval e X.env) :: starEach es X.env := by rfl) (hpl : (backTo pos (starEach es X.env)).any (·.1) = false := by rfl) :
    PE X (.Call (.Name x p) (e :: es) [] pos) (tCall sp dvs E0 t) := by
  constructor
  intro pins s σ H Q I want
  refine wpAny_Call_Name_kw (ld_glob I gl hm (PySem.W.callWith_K (h₀ := X.base) I.ok.mod.kin kp (thn (ha.run pos pins s σ H _ I want) ?_) he hpl) nodbg)
  rintro us s1 ⟨vs, H1, I1, rv, q⟩
  exact ⟨I1.kIn, runG F room gd bd dv I1 rv q⟩
theorem pe_callG0 (F : FnG X.prog X.w X.K X.mg X.base CX0 k f fd ps sp) (room : Room k X.A) (gd : X.A.guards = some []) (gl : Gl X x) (hm : X.mg x = some (.ref f)) (kp : PySem.W.keepIn X.K (.ref f) = true)
    (bd : Binds X.K fd ps ds) (dv : Vals dvs ds) (nodbg : (x == ("__debug__" : Str)) = false := by decide) : PE X (.Call (.Name x p) [] [] pos) (tCall sp dvs E0 tNil) := by
  constructor
  intro pins s σ H Q I want
  exact wpAny_Call_Name_kw (ld_glob I gl hm (PySem.W.callWith_K0 I.kIn kp (runG (us := []) F room gd bd dv I .nil want)) nodbg)
end

/-! ### the law's end -/
/-- a heap that tells of the script alone -/
theorem script_heap {P : Program} {w : World} {K : PySem.W.Frag} {h : Heap} {a : Addr} {vs : List Value} {ns : List Int} (kin : K.In h) (ha : h.get? a = some { cls := .type "list", data := .seq vs.toArray })
    (hi : IntsAre vs ns) (hl : ns.length ≤ sizeLine) :
    ∃ H : Hp, Only H ∧ SqL K H a (ns.map V.int) ∧ HOk P w H h ∧ (∀ b, H b ≠ none → b = a) ∧ (∀ b o, K.lookup b = some o → H b = none) := by
  have rv := vals_ints hi
  have len := hi.length
  cases hk : K.lookup a with
  | some o =>
    have eo := kin a o hk
    rw [ha] at eo
    cases eo
    refine ⟨fun _ => none, fun _ => .inl rfl, .inr ⟨_, vs.toArray, _, hk, rfl, rfl, rfl, ?_, by simpa using rv⟩, (fun b u z => nomatch z), (fun b z => absurd rfl z), fun _ _ _ => rfl⟩
    rw [List.size_toArray, len]
    exact hl
  | none =>
    let H : Hp := fun b => if b = a then some (.frz { cls := .type "list", data := .seq vs.toArray } (.lst (ns.map V.int))) else none
    have at_a : H a = some (.frz { cls := .type "list", data := .seq vs.toArray } (.lst (ns.map V.int))) := if_pos rfl
    have off : ∀ b, b ≠ a → H b = none := fun b z => if_neg z
    refine ⟨H, fun b => ?_, .inl (.inr ⟨_, at_a⟩), fun b u z => ?_, fun b z => ?_, fun b o z => off b ?_⟩
    · by_cases c : b = a
      · exact .inr ⟨_, _, c ▸ at_a⟩
      · exact .inl (off b c)
    · by_cases c : b = a
      · subst c
        rw [at_a] at z
        cases z
        refine ⟨ha, ?_, vs, _, rv, ha⟩
        rw [List.length_map]
        exact hl
      · rw [off b c] at z
        cases z
    · by_cases c : b = a
      · exact c
      · exact absurd (off b c) z
    · intro c
      rw [c, hk] at z
      cases z

theorem law_end {l : PySem.W.OpenLaw} {n k : Nat} {q : Program} {loose : List Str} {XP : (Str → Option Value) → Heap → Prop} {YP : World → Heap → Prop} {d : DefRec} {K : Params → PySem.W.Frag} {sp : PySem.W.Frag → Sp} {x : Str}
    (hn : l.most = some n) (hn2 : n ≤ sizeLine) (hdf : d.params.defaults = []) (hr : Room k callerA)
    (hY : ∀ (w : World) (h : Heap), YP w h → (K w.params).In h)
    (F : ∀ (w : World) (mg : Str → Option Value) (fa : Addr) (h : Heap), (K w.params).In h → h.Ns mainGlobals mg → mg d.name = some (.ref fa) →
      ∃ fd : FuncData, (∀ (s : Shared) (u : Value), BindsTo s fd ⟨[u], []⟩ [(x, u)]) ∧
        ∀ base : Heap, (K w.params).In base → base.Ns mainGlobals mg → FnG l.prog w (K w.params) mg base CX0 k fa fd [x] (sp (K w.params)))
    (hsp : ∀ (K : PySem.W.Frag) (H : Hp) (a : Addr) (ns : List Int), ns.length ≤ n → Only H → SqL K H a (ns.map V.int) → sp K [.ref a] H (fun v _ => v = .bl true) fun _ _ _ => False) :
    PySem.W.WalkO q loose XP YP l.row.toRowW d [] (fun f vs => PySem.call f vs) := by
  refine Att.attach_call hn hdf fun w s₀ s₁ mg mb fa o pm cd doc a vs ns G Y ho hd hcd hmg hobj hints hlen hgens => ?_
  have kin := hY w _ Y
  obtain ⟨fd, bd, FF⟩ := F w mg fa _ kin G.T.g hmg
  obtain ⟨H, hO, hS, hok, only, notK⟩ := script_heap (P := l.prog) (w := w) kin hobj hints (Nat.le_trans hlen hn2)
  have free : ∀ {b : Addr} {ob : Obj} {es : Array DictEntry} {ep : Nat}, s₁.heap.get? b = some ob → ob.data = .dict es ep → H b = none := by
    intro b ob es ep h1 h2
    cases c : H b with
    | none => rfl
    | some u =>
      have e : b = a := only b (by rw [c]; exact fun z => nomatch z)
      rw [e, hobj] at h1
      have h3 := congrArg Obj.data (Option.some.inj h1)
      rw [h2] at h3
      exact nomatch h3
  have ns' : ∀ {b : Addr} {m : Str → Option Value}, s₁.heap.Ns b m → (hidT s₁.heap H).Ns b m := by
    rintro b m ⟨ob, es, ep, h1, h2, h3⟩
    exact ⟨ob, es, ep, hidT_get h1 (free h1 h2), h2, h3⟩
  have kinB : (K w.params).In (hidT s₁.heap H) := fun b ob e => hidT_get (kin b ob e) (notK b ob e)
  have lim : (hidT s₁.heap H).NoLimit := by
    obtain ⟨mc, h1, h2⟩ := G.T.nolimit
    exact ⟨mc, ns' h1, h2⟩
  have en : Env0 l.prog w (K w.params) mg (hidT s₁.heap H) callerA [] s₁ H :=
    ⟨rfl, ⟨kinB, ns' G.T.g, ⟨mb, ns' G.T.b, G.T.builtins⟩, lim⟩, fun b ob e => of_hidT e, Nat.le_of_eq (hidT_size _ _), trivial, (fun b z => nomatch z), hok, .of_eq hgens⟩
  refine codeAny_mono ((FF _ kinB (ns' G.T.g)).run callerA [] s₁ H ⟨[.ref a], []⟩ [.ref a] [.ref a] _ _ hr rfl en (bd s₁ (.ref a)) (.cons rfl .nil) (hsp _ H a ns hlen hO hS)) fun r s' z => ?_
  cases r with
  | error e => exact False.elim z
  | ok fl =>
    cases fl with
    | next => exact False.elim z
    | brk => exact False.elim z
    | cont => exact False.elim z
    | ret u =>
      obtain ⟨v, H', os, bare, un, hok', rr, e⟩ := z
      have e' : v = .bl true := e
      subst e'
      obtain rfl : u = Value.bool true := rr
      refine ⟨rfl, OldK.of_keep fun b ob hb => ?_, os, bare⟩
      cases c : H b with
      | none => exact un.keep b ob hb c (fun z => nomatch z) (fun z => nomatch z)
      | some u =>
        rcases hO b with z | ⟨ox, xs, z⟩
        · rw [c] at z
          cases z
        · obtain ⟨e1, _⟩ := hok b _ z
          obtain ⟨e2, _⟩ := hok' b _ (un.frzs b ox _ z)
          rw [hb] at e1
          cases e1
          exact e2
end Rp
/-! Jm: jobs as a type of trees, their data, sizes; what the pot holds. No Python here. -/
namespace Lw
open PySem L2 Rp

abbrev M30 : Int := 1000000000000000000000000000000
inductive J where
  | st (i : Int)
  | ps (par : Bool) (xs : List J)
  | rn (cop : Bool) (n : Int) (x : J)
def kwP (b : Bool) : Str := if b then "par" else "seq"
def kwR (b : Bool) : Str := if b then "copies" else "repeat"
mutual
def J.toD : J → PyData
  | .st i => .int i
  | .ps k xs => .tuple [.str (kwP k), .tuple (J.toDs xs)]
  | .rn k n x => .tuple [.str (kwR k), .int n, x.toD]
def J.toDs : List J → List PyData
  | [] => []
  | x :: xs => x.toD :: J.toDs xs
end
mutual
theorem J.noL : ∀ j : J, noL j.toD = true
  | .st _ => rfl
  | .ps _ xs => by
    have h := J.noLs xs
    simp [J.toD, Rp.noL, Rp.noLs, h]
  | .rn _ _ x => by
    have h := J.noL x
    simp [J.toD, Rp.noL, Rp.noLs, h]
theorem J.noLs : ∀ js : List J, noLs (J.toDs js) = true
  | [] => rfl
  | x :: xs => by
    have h1 := J.noL x
    have h2 := J.noLs xs
    simp [J.toDs, Rp.noLs, h1, h2]
end
theorem J.toDs_eq : ∀ xs : List J, J.toDs xs = xs.map J.toD
  | [] => rfl
  | x :: xs => by rw [J.toDs, J.toDs_eq xs]; rfl

/-! sizes as the program finds them -/
def within (nodes steps : Int) : Option (Int × Int) := if steps ≤ M30 then some (nodes, steps) else none
mutual
def szJ : J → Int → Int → Option (Int × Int)
  | .st i, room, lv => if room < 1 ∨ lv < 1 then none else if -M30 ≤ i ∧ i ≤ M30 then some (1, 1) else none
  | .ps _ xs, room, lv => if room < 1 ∨ lv < 1 then none else if (xs.length : Int) > 400 then none else szJs xs 1 0 room lv
  | .rn _ n x, room, lv => if room < 1 ∨ lv < 1 then none else if ¬ (0 ≤ n ∧ n ≤ M30) then none else
      match szJ x (room - 1) (lv - 1) with
      | none => none
      | some (a, b) => within (a + 1) (b * n)
def szJs : List J → Int → Int → Int → Int → Option (Int × Int)
  | [], nodes, steps, _, _ => within nodes steps
  | x :: xs, nodes, steps, room, lv =>
      match szJ x (room - nodes) (lv - 1) with
      | none => none
      | some (a, b) => szJs xs (nodes + a) (steps + b) room lv
end
mutual
def J.nodes : J → Int
  | .st _ => 1
  | .ps _ xs => 1 + J.nodesL xs
  | .rn _ _ x => x.nodes + 1
def J.nodesL : List J → Int
  | [] => 0
  | x :: xs => x.nodes + J.nodesL xs
end
mutual
def J.steps : J → Int
  | .st _ => 1
  | .ps _ xs => J.stepsL xs
  | .rn _ n x => x.steps * n
def J.stepsL : List J → Int
  | [] => 0
  | x :: xs => x.steps + J.stepsL xs
end
mutual
def J.deep : J → Nat
  | .st _ => 1
  | .ps _ xs => J.deepL xs + 1
  | .rn _ _ x => x.deep + 1
def J.deepL : List J → Nat
  | [] => 0
  | x :: xs => max x.deep (J.deepL xs)
end
mutual
/-- a job but for nodes and nesting -/
def J.ok : J → Prop
  | .st i => -M30 ≤ i ∧ i ≤ M30
  | .ps _ xs => (xs.length : Int) ≤ 400 ∧ J.okL xs ∧ J.stepsL xs ≤ M30
  | .rn _ n x => (0 ≤ n ∧ n ≤ M30) ∧ x.ok ∧ x.steps * n ≤ M30
def J.okL : List J → Prop
  | [] => True
  | x :: xs => x.ok ∧ J.okL xs
end
mutual
theorem J.nodes_pos : ∀ j : J, 1 ≤ j.nodes
  | .st _ => by simp [J.nodes]
  | .ps _ xs => by have := J.nodesL_pos xs; simp only [J.nodes]; omega
  | .rn _ _ x => by have := J.nodes_pos x; simp only [J.nodes]; omega
theorem J.nodesL_pos : ∀ xs : List J, 0 ≤ J.nodesL xs
  | [] => by simp [J.nodesL]
  | x :: xs => by have := J.nodes_pos x; have := J.nodesL_pos xs; simp only [J.nodesL]; omega
end
theorem J.deep_pos : ∀ j : J, 1 ≤ j.deep
  | .st _ => by simp [J.deep]
  | .ps _ xs => by simp only [J.deep]; omega
  | .rn _ _ x => by simp only [J.deep]; omega
mutual
theorem J.steps_nn : ∀ j : J, j.ok → 0 ≤ j.steps
  | .st _, _ => by simp [J.steps]
  | .ps _ xs, h => by
    simp only [J.ok] at h
    simp only [J.steps]
    exact J.stepsL_nn xs h.2.1
  | .rn _ n x, h => by
    simp only [J.ok] at h
    simp only [J.steps]
    exact Int.mul_nonneg (J.steps_nn x h.2.1) h.1.1
theorem J.stepsL_nn : ∀ xs : List J, J.okL xs → 0 ≤ J.stepsL xs
  | [], _ => by simp [J.stepsL]
  | x :: xs, h => by
    simp only [J.okL] at h
    have := J.steps_nn x h.1
    have := J.stepsL_nn xs h.2
    simp only [J.stepsL]
    omega
end
theorem J.steps_le (j : J) (h : j.ok) : j.steps ≤ M30 := by
  cases j with
  | st i => simp only [J.steps]; decide
  | ps k xs => simp only [J.ok] at h; simp only [J.steps]; exact h.2.2
  | rn k n x => simp only [J.ok] at h; simp only [J.steps]; exact h.2.2
/-! the closed form: is a job within room and levels, and then its sizes -/
mutual
theorem szJ_some : ∀ (j : J) (room lv : Int), j.ok → j.nodes ≤ room → (j.deep : Int) ≤ lv → szJ j room lv = some (j.nodes, j.steps)
  | .st i, room, lv, h, h1, h2 => by
    simp only [J.ok] at h
    simp only [J.nodes, J.deep] at h1 h2
    simp only [szJ, J.nodes, J.steps]
    rw [if_neg (by omega), if_pos h]
  | .ps k xs, room, lv, h, h1, h2 => by
    simp only [J.ok] at h
    simp only [J.nodes, J.deep] at h1 h2
    have hn := J.nodesL_pos xs
    simp only [szJ, J.nodes, J.steps]
    rw [if_neg (by omega), if_neg (by omega)]
    have := szJs_some xs 1 0 room lv h.2.1 (by omega) (by omega) (by omega) (by omega)
    rw [this, Int.zero_add]
  | .rn k n x, room, lv, h, h1, h2 => by
    simp only [J.ok] at h
    simp only [J.nodes, J.deep] at h1 h2
    have hn := J.nodes_pos x
    simp only [szJ, J.nodes, J.steps]
    rw [if_neg (by omega), if_neg (by omega), szJ_some x (room - 1) (lv - 1) h.2.1 (by omega) (by omega)]
    simp only [within]
    rw [if_pos h.2.2]
theorem szJs_some : ∀ (xs : List J) (nodes steps room lv : Int), J.okL xs → 1 ≤ nodes → nodes + J.nodesL xs ≤ room → (J.deepL xs : Int) ≤ lv - 1 → steps + J.stepsL xs ≤ M30 → szJs xs nodes steps room lv = some (nodes + J.nodesL xs, steps + J.stepsL xs)
  | [], nodes, steps, room, lv, _, _, _, _, h => by
    simp only [J.nodesL, J.stepsL, szJs, within, Int.add_zero] at *
    rw [if_pos h]
  | x :: xs, nodes, steps, room, lv, h, h0, h1, h2, h3 => by
    simp only [J.okL] at h
    simp only [J.nodesL, J.stepsL, J.deepL] at *
    have p1 := J.nodes_pos x
    have p2 := J.nodesL_pos xs
    have p3 := J.stepsL_nn xs h.2
    simp only [szJs]
    rw [szJ_some x (room - nodes) (lv - 1) h.1 (by omega) (by omega)]
    simp only
    rw [szJs_some xs (nodes + x.nodes) (steps + x.steps) room lv h.2 (by omega) (by omega) (by omega) (by omega)]
    rw [Int.add_assoc, Int.add_assoc]
end
mutual
theorem szJ_inv : ∀ (j : J) (room lv a b : Int), szJ j room lv = some (a, b) → j.ok ∧ j.nodes ≤ room ∧ (j.deep : Int) ≤ lv ∧ a = j.nodes ∧ b = j.steps
  | .st i, room, lv, a, b, h => by
    simp only [szJ] at h
    split at h
    · cases h
    · split at h
      · rename_i h1 h2
        cases h
        simp only [J.ok, J.nodes, J.deep, J.steps]
        refine ⟨h2, by omega, by omega, ?_, ?_⟩ <;> trivial
      · cases h
  | .ps k xs, room, lv, a, b, h => by
    simp only [szJ] at h
    split at h
    · cases h
    · split at h
      · cases h
      · rename_i h1 h2
        obtain ⟨q1, q2, q3, q4, q5, q6⟩ := szJs_inv xs 1 0 room lv a b h (by omega)
        simp only [J.ok, J.nodes, J.deep, J.steps]
        have q3' : (J.deepL xs : Int) ≤ lv - 1 := by
          rcases q3 with q3 | q3
          · exact q3
          · subst q3
            simp only [J.deepL]
            omega
        refine ⟨⟨by omega, q1, by omega⟩, by omega, by omega, by omega, by omega⟩
  | .rn k n x, room, lv, a, b, h => by
    simp only [szJ] at h
    split at h
    · cases h
    · split at h
      · cases h
      · rename_i h1 h2
        split at h
        · cases h
        · rename_i a1 b1 h3
          obtain ⟨q1, q2, q3, q4, q5⟩ := szJ_inv x (room - 1) (lv - 1) a1 b1 h3
          simp only [within] at h
          split at h
          · rename_i h4
            cases h
            subst q4 q5
            simp only [J.ok, J.nodes, J.deep, J.steps]
            refine ⟨⟨Decidable.not_not.mp h2, q1, h4⟩, by omega, by omega, ?_, ?_⟩ <;> trivial
          · cases h
theorem szJs_inv : ∀ (xs : List J) (nodes steps room lv a b : Int), szJs xs nodes steps room lv = some (a, b) → nodes ≤ room → J.okL xs ∧ nodes + J.nodesL xs ≤ room ∧ ((J.deepL xs : Int) ≤ lv - 1 ∨ xs = []) ∧ steps + J.stepsL xs ≤ M30 ∧ a = nodes + J.nodesL xs ∧ b = steps + J.stepsL xs
  | [], nodes, steps, room, lv, a, b, h, h0 => by
    simp only [szJs, within] at h
    split at h
    · rename_i h1
      cases h
      simp only [J.okL, J.nodesL, J.stepsL, Int.add_zero]
      refine ⟨trivial, h0, .inr ?_, h1, ?_, ?_⟩ <;> trivial
    · cases h
  | x :: xs, nodes, steps, room, lv, a, b, h, h0 => by
    simp only [szJs] at h
    split at h
    · cases h
    · rename_i a1 b1 h3
      obtain ⟨q1, q2, q3, q4, q5⟩ := szJ_inv x (room - nodes) (lv - 1) a1 b1 h3
      subst q4 q5
      obtain ⟨r1, r2, r3, r4, r5, r6⟩ := szJs_inv xs (nodes + x.nodes) (steps + x.steps) room lv a b h (by omega)
      have dp := J.deep_pos x
      simp only [J.okL, J.nodesL, J.stepsL, J.deepL]
      refine ⟨⟨q1, r1⟩, by omega, .inl ?_, by omega, by omega, by omega⟩
      rcases r3 with r3 | r3
      · omega
      · subst r3
        simp only [J.deepL]
        omega
end
end Lw
/-! Jn: nets, lowest usages and mirrors of jobs. No Python here. -/
namespace Lw
open PySem L2 Rp
mutual
def J.net : J → Int
  | .st i => i
  | .ps _ xs => J.netL xs
  | .rn _ n x => n * x.net
def J.netL : List J → Int
  | [] => 0
  | x :: xs => x.net + J.netL xs
end
mutual
def J.low : J → Int
  | .st i => min 0 i
  | .ps false xs => J.lowS xs
  | .ps true xs => J.lowL xs
  | .rn true n x => n * x.low
  | .rn false n x => if n = 0 then 0 else x.low + (n - 1) * min 0 x.net
/-- in sequence -/
def J.lowS : List J → Int
  | [] => 0
  | x :: xs => min x.low (x.net + J.lowS xs)
/-- side by side -/
def J.lowL : List J → Int
  | [] => 0
  | x :: xs => x.low + J.lowL xs
end
theorem mul_min_nonneg {a b : Int} (h : 0 ≤ a) : a * min 0 b ≤ 0 ∧ a * min 0 b ≤ a * b := by
  constructor
  · have : 0 ≤ a * (- min 0 b) := Int.mul_nonneg h (by omega)
    rw [Int.mul_neg] at this
    omega
  · exact Int.mul_le_mul_of_nonneg_left (by omega) h
mutual
/-- the lowest usage is at most 0 and at most the net -/
theorem J.low_le : ∀ j : J, j.ok → j.low ≤ 0 ∧ j.low ≤ j.net
  | .st i, _ => by simp only [J.low, J.net]; omega
  | .ps false xs, h => by
    simp only [J.ok] at h
    simp only [J.low, J.net]
    exact J.lowS_le xs h.2.1
  | .ps true xs, h => by
    simp only [J.ok] at h
    simp only [J.low, J.net]
    exact J.lowL_le xs h.2.1
  | .rn true n x, h => by
    simp only [J.ok] at h
    have ih := J.low_le x h.2.1
    simp only [J.low, J.net]
    constructor
    · have : 0 ≤ n * (- x.low) := Int.mul_nonneg h.1.1 (by omega)
      rw [Int.mul_neg] at this
      omega
    · exact Int.mul_le_mul_of_nonneg_left ih.2 h.1.1
  | .rn false n x, h => by
    simp only [J.ok] at h
    have ih := J.low_le x h.2.1
    simp only [J.low, J.net]
    split
    · rename_i e
      subst e
      omega
    · have p := mul_min_nonneg (a := n - 1) (b := x.net) (by omega)
      have e : n * x.net = (n - 1) * x.net + x.net := by rw [Int.sub_mul, Int.one_mul]; omega
      omega
theorem J.lowS_le : ∀ xs : List J, J.okL xs → J.lowS xs ≤ 0 ∧ J.lowS xs ≤ J.netL xs
  | [], _ => by simp only [J.lowS, J.netL]; omega
  | x :: xs, h => by
    simp only [J.okL] at h
    have h1 := J.low_le x h.1
    have h2 := J.lowS_le xs h.2
    simp only [J.lowS, J.netL]
    omega
theorem J.lowL_le : ∀ xs : List J, J.okL xs → J.lowL xs ≤ 0 ∧ J.lowL xs ≤ J.netL xs
  | [], _ => by simp only [J.lowL, J.netL]; omega
  | x :: xs, h => by
    simp only [J.okL] at h
    have h1 := J.low_le x h.1
    have h2 := J.lowL_le xs h.2
    simp only [J.lowL, J.netL]
    omega
end
/-! sizes: at most the steps times a step's greatest -/
theorem mul_natAbs_le {n b c : Int} (h0 : 0 ≤ n) (h : b.natAbs ≤ c.natAbs) : (n * b).natAbs ≤ (n * c).natAbs := by
  rw [Int.natAbs_mul, Int.natAbs_mul]
  exact Nat.mul_le_mul_left _ h
mutual
theorem J.net_big : ∀ j : J, j.ok → -(j.steps * M30) ≤ j.net ∧ j.net ≤ j.steps * M30
  | .st i, h => by
    simp only [J.ok, M30] at h
    simp only [J.net, J.steps, M30]
    omega
  | .ps _ xs, h => by
    simp only [J.ok] at h
    simp only [J.net, J.steps]
    exact J.netL_big xs h.2.1
  | .rn _ n x, h => by
    simp only [J.ok] at h
    have ih := J.net_big x h.2.1
    simp only [J.net, J.steps]
    have e : x.steps * n * M30 = n * (x.steps * M30) := by rw [Int.mul_comm x.steps n, Int.mul_assoc]
    rw [e]
    constructor
    · rw [← Int.mul_neg]
      exact Int.mul_le_mul_of_nonneg_left ih.1 h.1.1
    · exact Int.mul_le_mul_of_nonneg_left ih.2 h.1.1
theorem J.netL_big : ∀ xs : List J, J.okL xs → -(J.stepsL xs * M30) ≤ J.netL xs ∧ J.netL xs ≤ J.stepsL xs * M30
  | [], _ => by simp only [J.netL, J.stepsL]; omega
  | x :: xs, h => by
    simp only [J.okL] at h
    have h1 := J.net_big x h.1
    have h2 := J.netL_big xs h.2
    simp only [J.netL, J.stepsL, M30] at *
    omega
end
mutual
theorem J.low_big : ∀ j : J, j.ok → -(j.steps * M30) ≤ j.low
  | .st i, h => by
    simp only [J.ok, M30] at h
    simp only [J.low, J.steps, M30]
    omega
  | .ps false xs, h => by
    simp only [J.ok] at h
    simp only [J.low, J.steps]
    exact J.lowS_big xs h.2.1
  | .ps true xs, h => by
    simp only [J.ok] at h
    simp only [J.low, J.steps]
    exact J.lowL_big xs h.2.1
  | .rn true n x, h => by
    simp only [J.ok] at h
    have ih := J.low_big x h.2.1
    simp only [J.low, J.steps]
    have e : x.steps * n * M30 = n * (x.steps * M30) := by rw [Int.mul_comm x.steps n, Int.mul_assoc]
    rw [e, ← Int.mul_neg]
    exact Int.mul_le_mul_of_nonneg_left ih h.1.1
  | .rn false n x, h => by
    simp only [J.ok] at h
    have ih := J.low_big x h.2.1
    have ih2 := J.net_big x h.2.1
    have nn := J.steps_nn x h.2.1
    simp only [J.low, J.steps]
    have e : x.steps * n * M30 = n * (x.steps * M30) := by rw [Int.mul_comm x.steps n, Int.mul_assoc]
    rw [e]
    split
    · rename_i z
      subst z
      omega
    · have hm : -(x.steps * M30) ≤ min 0 x.net := by
        have : 0 ≤ x.steps * M30 := Int.mul_nonneg nn (by decide)
        omega
      have p : (n - 1) * (-(x.steps * M30)) ≤ (n - 1) * min 0 x.net := Int.mul_le_mul_of_nonneg_left hm (by omega)
      have e2 : (n - 1) * (-(x.steps * M30)) = -(n * (x.steps * M30)) + x.steps * M30 := by rw [Int.mul_neg, Int.sub_mul, Int.one_mul]; omega
      omega
theorem J.lowS_big : ∀ xs : List J, J.okL xs → -(J.stepsL xs * M30) ≤ J.lowS xs
  | [], _ => by simp only [J.lowS, J.stepsL]; omega
  | x :: xs, h => by
    simp only [J.okL] at h
    have h1 := J.low_big x h.1
    have h2 := J.lowS_big xs h.2
    have h3 := J.net_big x h.1
    have n1 := J.steps_nn x h.1
    have n2 := J.stepsL_nn xs h.2
    simp only [J.lowS, J.stepsL, M30] at *
    omega
theorem J.lowL_big : ∀ xs : List J, J.okL xs → -(J.stepsL xs * M30) ≤ J.lowL xs
  | [], _ => by simp only [J.lowL, J.stepsL]; omega
  | x :: xs, h => by
    simp only [J.okL] at h
    have h1 := J.low_big x h.1
    have h2 := J.lowL_big xs h.2
    simp only [J.lowL, J.stepsL, M30] at *
    omega
end
abbrev M60 : Int := 1000000000000000000000000000000000000000000000000000000000000
theorem J.net_60 (j : J) (h : j.ok) : -M60 ≤ j.net ∧ j.net ≤ M60 := by
  have h1 := J.net_big j h
  have h2 := J.steps_le j h
  simp only [M30, M60] at *
  omega
theorem J.low_60 (j : J) (h : j.ok) : -M60 ≤ j.low ∧ j.low ≤ 0 := by
  have h1 := J.low_big j h
  have h2 := J.steps_le j h
  have h3 := (J.low_le j h).1
  simp only [M30, M60] at *
  omega
/-! the mirror -/
mutual
def J.mir : J → J
  | .st i => .st (-i)
  | .ps false xs => .ps false (J.mirL xs).reverse
  | .ps true xs => .ps true (J.mirL xs)
  | .rn k n x => .rn k n x.mir
def J.mirL : List J → List J
  | [] => []
  | x :: xs => x.mir :: J.mirL xs
end
theorem J.mirL_eq : ∀ xs : List J, J.mirL xs = xs.map J.mir
  | [] => rfl
  | x :: xs => by rw [J.mirL, J.mirL_eq xs]; rfl
theorem J.mirL_rev (xs : List J) : J.mirL xs.reverse = (J.mirL xs).reverse := by rw [J.mirL_eq, J.mirL_eq, List.map_reverse]
mutual
theorem J.mir_mir : ∀ j : J, j.mir.mir = j
  | .st i => by simp [J.mir]
  | .ps false xs => by simp only [J.mir, J.mirL_rev, List.reverse_reverse, J.mirL_mirL xs]
  | .ps true xs => by simp only [J.mir, J.mirL_mirL xs]
  | .rn k n x => by simp only [J.mir, J.mir_mir x]
theorem J.mirL_mirL : ∀ xs : List J, J.mirL (J.mirL xs) = xs
  | [] => rfl
  | x :: xs => by simp only [J.mirL, J.mir_mir x, J.mirL_mirL xs]
end
theorem J.nodesL_rev (xs : List J) : J.nodesL xs.reverse = J.nodesL xs := by
  induction xs with
  | nil => rfl
  | cons x xs ih =>
    have app : ∀ xs ys : List J, J.nodesL (xs ++ ys) = J.nodesL xs + J.nodesL ys := by
      intro xs ys
      induction xs with
      | nil => simp [J.nodesL]
      | cons a l ih => simp only [List.cons_append, J.nodesL, ih]; omega
    rw [List.reverse_cons, app, ih]
    simp only [J.nodesL]
    omega
theorem J.stepsL_app (xs ys : List J) : J.stepsL (xs ++ ys) = J.stepsL xs + J.stepsL ys := by
  induction xs with
  | nil => simp [J.stepsL]
  | cons a l ih => simp only [List.cons_append, J.stepsL, ih]; omega
theorem J.stepsL_rev (xs : List J) : J.stepsL xs.reverse = J.stepsL xs := by
  induction xs with
  | nil => rfl
  | cons x xs ih =>
    rw [List.reverse_cons, J.stepsL_app, ih]
    simp only [J.stepsL]
    omega
theorem J.netL_app (xs ys : List J) : J.netL (xs ++ ys) = J.netL xs + J.netL ys := by
  induction xs with
  | nil => simp [J.netL]
  | cons a l ih => simp only [List.cons_append, J.netL, ih]; omega
theorem J.netL_rev (xs : List J) : J.netL xs.reverse = J.netL xs := by
  induction xs with
  | nil => rfl
  | cons x xs ih =>
    rw [List.reverse_cons, J.netL_app, ih]
    simp only [J.netL]
    omega
theorem J.deepL_rev (xs : List J) : J.deepL xs.reverse = J.deepL xs := by
  induction xs with
  | nil => rfl
  | cons x xs ih =>
    have app : ∀ xs ys : List J, J.deepL (xs ++ ys) = max (J.deepL xs) (J.deepL ys) := by
      intro xs ys
      induction xs with
      | nil => simp [J.deepL]
      | cons a l ih => simp only [List.cons_append, J.deepL, ih]; omega
    rw [List.reverse_cons, app, ih]
    simp only [J.deepL]
    omega
theorem J.okL_iff : ∀ xs : List J, J.okL xs ↔ ∀ x ∈ xs, x.ok
  | [] => by simp [J.okL]
  | x :: xs => by simp only [J.okL, J.okL_iff xs, List.forall_mem_cons]
theorem J.okL_rev (xs : List J) : J.okL xs.reverse ↔ J.okL xs := by
  rw [J.okL_iff, J.okL_iff]
  simp
theorem J.mirL_len (xs : List J) : (J.mirL xs).length = xs.length := by rw [J.mirL_eq, List.length_map]
mutual
theorem J.mir_same : ∀ j : J, j.mir.nodes = j.nodes ∧ j.mir.steps = j.steps ∧ j.mir.deep = j.deep ∧ j.mir.net = -j.net ∧ (j.ok → j.mir.ok)
  | .st i => by
    simp only [J.mir, J.nodes, J.steps, J.deep, J.net, J.ok, true_and]
    omega
  | .ps false xs => by
    obtain ⟨h1, h2, h3, h4, h5⟩ := J.mirL_same xs
    simp only [J.mir, J.nodes, J.steps, J.deep, J.net, J.ok, J.nodesL_rev, J.stepsL_rev, J.deepL_rev, J.netL_rev, J.okL_rev, List.length_reverse, J.mirL_len, h1, h2, h3, h4, true_and]
    exact fun z => ⟨z.1, h5 z.2.1, z.2.2⟩
  | .ps true xs => by
    obtain ⟨h1, h2, h3, h4, h5⟩ := J.mirL_same xs
    simp only [J.mir, J.nodes, J.steps, J.deep, J.net, J.ok, J.mirL_len, h1, h2, h3, h4, true_and]
    exact fun z => ⟨z.1, h5 z.2.1, z.2.2⟩
  | .rn k n x => by
    obtain ⟨h1, h2, h3, h4, h5⟩ := J.mir_same x
    simp only [J.mir, J.nodes, J.steps, J.deep, J.net, J.ok, h1, h2, h3, h4, true_and, Int.mul_neg]
    exact fun z => ⟨z.1, h5 z.2.1, z.2.2⟩
theorem J.mirL_same : ∀ xs : List J, J.nodesL (J.mirL xs) = J.nodesL xs ∧ J.stepsL (J.mirL xs) = J.stepsL xs ∧ J.deepL (J.mirL xs) = J.deepL xs ∧ J.netL (J.mirL xs) = -J.netL xs ∧ (J.okL xs → J.okL (J.mirL xs))
  | [] => by simp [J.mirL, J.nodesL, J.stepsL, J.deepL, J.netL, J.okL]
  | x :: xs => by
    obtain ⟨h1, h2, h3, h4, h5⟩ := J.mir_same x
    obtain ⟨k1, k2, k3, k4, k5⟩ := J.mirL_same xs
    simp only [J.mirL, J.nodesL, J.stepsL, J.deepL, J.netL, J.okL, h1, h2, h3, h4, k1, k2, k3, k4, true_and]
    refine ⟨by omega, fun z => ⟨h5 z.1, k5 z.2⟩⟩
end
theorem J.lowS_app (xs : List J) (y : J) (hy : y.ok) (hx : J.okL xs) : J.lowS (xs ++ [y]) = min (J.lowS xs) (J.netL xs + y.low) := by
  induction xs with
  | nil =>
    have := J.low_le y hy
    simp only [List.nil_append, J.lowS, J.netL]
    omega
  | cons x xs ih =>
    simp only [J.okL] at hx
    simp only [List.cons_append, J.lowS, J.netL, ih hx.2]
    omega
mutual
theorem J.mir_low : ∀ j : J, j.ok → j.mir.low = j.low - j.net
  | .st i, _ => by simp only [J.mir, J.low, J.net]; omega
  | .ps false xs, h => by
    simp only [J.ok] at h
    simp only [J.mir, J.low, J.net]
    exact J.mirL_lowS xs h.2.1
  | .ps true xs, h => by
    simp only [J.ok] at h
    simp only [J.mir, J.low, J.net]
    exact J.mirL_lowL xs h.2.1
  | .rn true n x, h => by
    simp only [J.ok] at h
    simp only [J.mir, J.low, J.net, J.mir_low x h.2.1, Int.mul_sub]
  | .rn false n x, h => by
    simp only [J.ok] at h
    obtain ⟨_, _, _, hn, _⟩ := J.mir_same x
    simp only [J.mir, J.low, J.net, J.mir_low x h.2.1, hn]
    split
    · rename_i e
      subst e
      omega
    · have e : min 0 (-x.net) = min 0 x.net - x.net := by omega
      have e1 : (n - 1) * (min 0 x.net - x.net) = (n - 1) * min 0 x.net - (n - 1) * x.net := Int.mul_sub _ _ _
      have e2 : (n - 1) * x.net = n * x.net - x.net := by rw [Int.sub_mul, Int.one_mul]
      rw [e, e1]
      omega
theorem J.mirL_lowS : ∀ xs : List J, J.okL xs → J.lowS (J.mirL xs).reverse = J.lowS xs - J.netL xs
  | [], _ => by simp only [J.mirL, List.reverse_nil, J.lowS, J.netL]; omega
  | x :: xs, h => by
    simp only [J.okL] at h
    obtain ⟨_, _, _, _, ho⟩ := J.mir_same x
    obtain ⟨_, _, _, hn, hos⟩ := J.mirL_same xs
    simp only [J.mirL, List.reverse_cons]
    rw [J.lowS_app _ _ (ho h.1) ((J.okL_rev _).mpr (hos h.2)), J.mirL_lowS xs h.2, J.mir_low x h.1, J.netL_rev, hn]
    simp only [J.lowS, J.netL]
    omega
theorem J.mirL_lowL : ∀ xs : List J, J.okL xs → J.lowL (J.mirL xs) = J.lowL xs - J.netL xs
  | [], _ => by simp only [J.mirL, J.lowL, J.netL]; omega
  | x :: xs, h => by
    simp only [J.okL] at h
    simp only [J.mirL, J.lowL, J.netL, J.mirL_lowL xs h.2, J.mir_low x h.1]
    omega
end
/-! a job's data at hand -/
theorem ps_inv {K : PySem.W.Frag} {H : Hp} {v : V} {k : Bool} {xs : List J} (h : Dp K H v (J.ps k xs).toD) : ∃ a b vs, v = .ref a ∧ SqT K H a [.str (kwP k), .ref b] ∧ SqT K H b vs ∧ DpAll K H vs (J.toDs xs) := by
  rw [J.toD] at h
  obtain ⟨a, ys, rfl, hys, hall⟩ := dp_tup_inv h
  cases hall with
  | cons e1 hall =>
    obtain rfl := dp_str_inv e1
    cases hall with
    | cons e2 hall =>
      cases hall
      obtain ⟨b, vs, rfl, hvs, hall2⟩ := dp_tup_inv e2
      exact ⟨a, b, vs, rfl, hys, hvs, hall2⟩
theorem rn_inv {K : PySem.W.Frag} {H : Hp} {v : V} {k : Bool} {n : Int} {x : J} (h : Dp K H v (J.rn k n x).toD) : ∃ a w, v = .ref a ∧ SqT K H a [.str (kwR k), .int n, w] ∧ Dp K H w x.toD := by
  rw [J.toD] at h
  obtain ⟨a, ys, rfl, hys, hall⟩ := dp_tup_inv h
  cases hall with
  | cons e1 hall =>
    obtain rfl := dp_str_inv e1
    cases hall with
    | cons e2 hall =>
      obtain rfl := dp_int_inv e2
      cases hall with
      | cons e3 hall =>
        cases hall
        exact ⟨a, _, rfl, hys, e3⟩
theorem parts_at {K : PySem.W.Frag} {H : Hp} {xs : List J} {vs : List V} {i : Nat} {x : V} (hall : DpAll K H vs (J.toDs xs)) (hi : vs[i]? = some x) : ∃ j, xs[i]? = some j ∧ j ∈ xs ∧ Dp K H x j.toD := by
  obtain ⟨d, ed, hd⟩ := dpAll_get hall hi
  rw [J.toDs_eq, List.getElem?_map] at ed
  cases e : xs[i]? with
  | none =>
    rw [e] at ed
    cases ed
  | some j =>
    rw [e] at ed
    obtain rfl := (Option.some.inj ed).symm
    exact ⟨j, rfl, List.mem_of_getElem? e, hd⟩
theorem parts_len {K : PySem.W.Frag} {H : Hp} {xs : List J} {vs : List V} (hall : DpAll K H vs (J.toDs xs)) : vs.length = xs.length := by
  rw [dpAll_length hall, J.toDs_eq, List.length_map]
theorem deep_mem : ∀ {l : List J} {y : J}, y ∈ l → y.deep ≤ J.deepL l
  | z :: r, y, h => by
    simp only [J.deepL]
    rcases List.mem_cons.mp h with rfl | h
    · omega
    · have := deep_mem h
      omega
theorem ok_mem {l : List J} {y : J} (o : J.okL l) (h : y ∈ l) : y.ok := (J.okL_iff l).mp o y h
theorem take_step {α β : Type} {xs : List α} {i : Nat} {j : α} (f : α → β) (e : xs[i]? = some j) : (xs.take (i + 1)).map f = (xs.take i).map f ++ [f j] := by
  rw [List.take_add_one, e, List.map_append]
  rfl
/-! words -/
theorem w_in_parts (k : Bool) : inV (.str (kwP k)) [.str "seq", .str "par"] = true := by cases k <;> decide +kernel
theorem w_in_parts_no (k : Bool) : inV (.str (kwR k)) [.str "seq", .str "par"] = false := by cases k <;> decide +kernel
theorem w_in_rounds (k : Bool) : inV (.str (kwR k)) [.str "repeat", .str "copies"] = true := by cases k <;> decide +kernel
theorem w_in_rounds_no (k : Bool) : inV (.str (kwP k)) [.str "repeat", .str "copies"] = false := by cases k <;> decide +kernel
theorem w_seq (k : Bool) : decide (V.str (kwP k) = V.str "seq") = !k := by cases k <;> decide +kernel
theorem w_par (k : Bool) : decide (V.str (kwP k) = V.str "par") = k := by cases k <;> decide +kernel
theorem w_seq_no (k : Bool) : decide (V.str (kwR k) = V.str "seq") = false := by cases k <;> decide +kernel
theorem w_par_no (k : Bool) : decide (V.str (kwR k) = V.str "par") = false := by cases k <;> decide +kernel
theorem w_copies (k : Bool) : decide (V.str (kwR k) = V.str "copies") = k := by cases k <;> decide +kernel
theorem w_dec_int {a b : Int} : decide (V.int a = V.int b) = decide (a = b) := by
  by_cases h : a = b
  · subst h
    simp
  · rw [decide_eq_false h, decide_eq_false (fun z => h (V.int.inj z))]
/-! the data of a job: fine to be shown, comparable -/
theorem kwP_fine (k : Bool) : fine (.str (kwP k)) := by cases k <;> (simp only [fine]; decide +kernel)
theorem kwR_fine (k : Bool) : fine (.str (kwR k)) := by cases k <;> (simp only [fine]; decide +kernel)
theorem kwP_bulk (k : Bool) : (PyData.str (kwP k)).bulk ≤ 10 := by cases k <;> (simp only [PyData.bulk]; decide +kernel)
theorem kwR_bulk (k : Bool) : (PyData.str (kwR k)).bulk ≤ 10 := by cases k <;> (simp only [PyData.bulk]; decide +kernel)
theorem lt180 {i : Int} (h0 : -M60 ≤ i) (h : i ≤ M60) : i.natAbs < 10 ^ 180 := by
  simp only [M60] at h0 h
  exact Nat.lt_of_le_of_lt (show i.natAbs ≤ 1000000000000000000000000000000000000000000000000000000000000 by omega) (by decide +kernel)
mutual
theorem J.fine : ∀ j : J, j.ok → fine j.toD
  | .st i, h => by
    simp only [J.ok, M30] at h
    simp only [J.toD, Rp.fine]
    exact lt180 (by simp only [M60]; omega) (by simp only [M60]; omega)
  | .ps k xs, h => by
    simp only [J.ok] at h
    have h1 := J.fines xs h.2.1
    have h2 := kwP_fine k
    simp only [J.toD, Rp.fine, fines] at *
    exact ⟨h2, h1, trivial⟩
  | .rn k n x, h => by
    simp only [J.ok, M30] at h
    have h1 := J.fine x h.2.1
    have h2 := kwR_fine k
    simp only [J.toD, Rp.fine, fines] at *
    exact ⟨h2, lt180 (by simp only [M60]; omega) (by simp only [M60]; omega), h1, trivial⟩
theorem J.fines : ∀ xs : List J, J.okL xs → fines (J.toDs xs)
  | [], _ => by simp [J.toDs, Rp.fines]
  | x :: xs, h => by
    simp only [J.okL] at h
    simp only [J.toDs, Rp.fines]
    exact ⟨J.fine x h.1, J.fines xs h.2⟩
end
mutual
theorem J.bulk : ∀ j : J, (j.toD.bulk : Int) ≤ 20 * j.nodes - 5
  | .st i => by simp only [J.toD, PyData.bulk, J.nodes]; omega
  | .ps k xs => by
    have h1 := J.bulks xs
    have h2 := kwP_bulk k
    simp only [J.toD, PyData.bulk, PyData.bulkAll, J.nodes] at *
    omega
  | .rn k n x => by
    have h1 := J.bulk x
    have h2 := kwR_bulk k
    simp only [J.toD, PyData.bulk, PyData.bulkAll, J.nodes] at *
    omega
theorem J.bulks : ∀ xs : List J, (PyData.bulkAll (J.toDs xs) : Int) ≤ 20 * J.nodesL xs
  | [] => by simp [J.toDs, PyData.bulkAll, J.nodesL]
  | x :: xs => by
    have h1 := J.bulk x
    have h2 := J.bulks xs
    simp only [J.toDs, PyData.bulkAll, J.nodesL, List.length_cons] at *
    omega
end
mutual
theorem J.depth : ∀ j : J, j.toD.depth ≤ 2 * j.deep
  | .st i => by simp [J.toD, PyData.depth]
  | .ps k xs => by
    have h1 := J.depths xs
    simp only [J.toD, PyData.depth, PyData.depthAll, J.deep]
    omega
  | .rn k n x => by
    have h1 := J.depth x
    simp only [J.toD, PyData.depth, PyData.depthAll, J.deep]
    omega
theorem J.depths : ∀ xs : List J, PyData.depthAll (J.toDs xs) ≤ 2 * J.deepL xs
  | [] => by simp [J.toDs, PyData.depthAll, J.deepL]
  | x :: xs => by
    have h1 := J.depth x
    have h2 := J.depths xs
    simp only [J.toDs, PyData.depthAll, J.deepL]
    omega
end
theorem kwP_strOk (k : Bool) : PyData.canLay0 (.str (kwP k)) = true := by cases k <;> (simp only [PyData.canLay0]; decide +kernel)
theorem kwR_strOk (k : Bool) : PyData.canLay0 (.str (kwR k)) = true := by cases k <;> (simp only [PyData.canLay0]; decide +kernel)
mutual
theorem J.canLay : ∀ j : J, j.toD.canLay0 = true
  | .st i => by simp [J.toD, PyData.canLay0]
  | .ps k xs => by
    have h1 := J.canLays xs
    have h2 := kwP_strOk k
    simp only [J.toD, PyData.canLay0, PyData.canLayAll0, h1, Bool.and_true, Bool.true_and] at *
    exact h2
  | .rn k n x => by
    have h1 := J.canLay x
    have h2 := kwR_strOk k
    simp only [J.toD, PyData.canLay0, PyData.canLayAll0, h1, Bool.and_true, Bool.true_and] at *
    exact h2
theorem J.canLays : ∀ xs : List J, PyData.canLayAll0 (J.toDs xs) = true
  | [] => rfl
  | x :: xs => by
    have h1 := J.canLay x
    have h2 := J.canLays xs
    simp only [J.toDs, PyData.canLayAll0, h1, h2, Bool.and_self]
end
theorem J.shaped (j : J) (h : j.deep ≤ 30) : SeqAt.shaped j.toD = true := by
  have h1 := J.canLay j
  have h2 := J.depth j
  unfold SeqAt.shaped
  rw [h1, decide_eq_true (by omega)]
  rfl
theorem J.eqv (j : J) : PyData.eqv j.toD j.toD = true := SeqAt.eqv_refl _ (J.canLay j)
end Lw
/-! Rq: data of any kind (lists that nobody changes, dicts), beside a pot at p: isinstance, in, repr. -/
namespace Rp
open PySem L2 PyProof.Rows

theorem str_eq_dict (b : Str) (u : Tok) (a : Addr) : Meets (Builtin.«str.__eq__» { pos := [Value.str b u, Value.ref a] }) fun _ R s => (∃ o es n, s.heap.get? a = some o ∧ o.data = Data.dict es n) ∧ R (.ok (.ret Value.notImplemented)) s := by
  rintro prog w A R s ⟨⟨o, es, n, h, hd⟩, q⟩
  have e : Builtin.«str.__eq__» { pos := [Value.str b u, Value.ref a] } = (do
      let o ← asStr? (Value.ref a)
      match o with
      | some o => ret (Value.bool (b.cps.toList == o.cps.toList))
      | none => do
          rule (toString "str." ++ toString "__eq__" ++ toString ".not-a-str")
          ret Value.notImplemented) := rfl
  rw [e]
  refine wpAny_bind ?_
  unfold asStr?
  refine wpAny_bind (wpAny_load h ?_)
  rw [hd]
  refine wpAny_pure ?_
  refine wpAny_bind (wpAny_rule ?_)
  exact wpAny_pure q
theorem dict_eq_str (b : Str) (u : Tok) (a : Addr) : Meets (Builtin.«dict.__eq__» { pos := [Value.ref a, Value.str b u] }) fun _ R s => R (.ok (.ret Value.notImplemented)) s := by
  rintro prog w A R s q
  have e : Builtin.«dict.__eq__» { pos := [Value.ref a, Value.str b u] } = (do
      let x ← isInstance (Value.str b u) (Value.type "dict")
      if (!x) = true then do
          rule (toString "dict." ++ toString "__eq__" ++ toString ".not-a-dict")
          ret Value.notImplemented
        else do
          let p ← Builtin.Dict.addrOf (Value.ref a)
          let q ← Builtin.Dict.addrOf (Value.str b u)
          let z ← Builtin.Dict.samePairs (toString "dict." ++ toString "__eq__") p q
          ret (Value.bool (z == true))) := rfl
  rw [e]
  refine wpAny_bind (wpAny_isInstance_val (b := false) (T := "str") rfl (by rfl) ?_)
  refine wpAny_bind (wpAny_rule ?_)
  exact wpAny_pure q
theorem rc_str_dict {A : Around} {s : Shared} {a : Addr} {o : Obj} {es : Array DictEntry} {n : Nat} (b : Str) (u : Tok) (h : s.heap.get? a = some o) (hc : o.cls = .type "dict") (hd : o.data = .dict es n) (room : A.units < cLine) : SeqAt.RcAt A s (.str b u) (.ref a) false := by
  intro prog w E Q q
  have ta : s.TypeIs (.str b u) "str" := by rfl
  have tb : s.TypeIs (.ref a) "dict" := ⟨o, h, hc⟩
  have e1 : ∀ Q' : Value → Shared → Prop, Q' Value.notImplemented s → wpAny (model prog w) A (call (Value.builtin "str.__eq__") [.str b u, .ref a]) Q' E s := fun Q' z =>
    call_meets PyProof.Rows.slot_str_eq ta F.entry_str_eq (F.args_str_eq_2 _ _) (str_eq_dict b u a) ⟨⟨o, es, n, h, hd⟩, z⟩
  have e2 : ∀ Q' : Value → Shared → Prop, Q' Value.notImplemented s → wpAny (model prog w) A (call (Value.builtin "dict.__eq__") [.ref a, .str b u]) Q' E s := fun Q' z =>
    call_meets F.slot_dict_eq tb F.entry_dict_eq (F.args_dict_eq_2 _ _) (dict_eq_str b u a) z
  exact SeqAt.rc_eq_decline_or (Ta := "str") (Tb := "dict") (k := false) ta tb (by decide) (by rfl) PyProof.Rows.slot_str_eq F.slot_dict_eq_refl e1 e2 (fun Q' z => wpAny_pure z) (.inr room) q
theorem eq_str_dict {A : Around} {s : Shared} {a : Addr} {o : Obj} {es : Array DictEntry} {n : Nat} (b : Str) (u : Tok) (h : s.heap.get? a = some o) (hc : o.cls = .type "dict") (hd : o.data = .dict es n) (room : A.units < cLine) : SeqAt.EqAt A s (.str b u) (.ref a) false := by
  intro prog w E Q q
  unfold eqBool
  refine wpAny_holding ?_
  have e : (Value.str b u == Value.ref a) = false := rfl
  simp only [e, Bool.false_eq_true, if_false]
  refine wpAny_bind (rc_str_dict b u h hc hd room prog w E _ ?_)
  exact wpAny_truthy_bool q

mutual
inductive Dq (K : PySem.W.Frag) (p : Addr) (H : Hp) : V → PyData → Prop
  | non : Dq K p H .non .none
  | bl (b : Bool) : Dq K p H (.bl b) (.bool b)
  | int (i : Int) : Dq K p H (.int i) (.int i)
  | str (x : Str) : Dq K p H (.str x) (.str x)
  | lst {a : Addr} {xs : List V} {ds : List PyData} : a ≠ p → H a = some (.lst xs) → DqAll K p H xs ds → Dq K p H (.ref a) (.list ds)
  | tup {a : Addr} {xs : List V} {ds : List PyData} : SqT K H a xs → DqAll K p H xs ds → Dq K p H (.ref a) (.tuple ds)
  | dct {a : Addr} {kvs : List (Key × V)} {ds : List (PyData × PyData)} : a ≠ p → H a = some (.dK kvs) → (ds = [] → kvs = []) → Dq K p H (.ref a) (.dict ds)
inductive DqAll (K : PySem.W.Frag) (p : Addr) (H : Hp) : List V → List PyData → Prop
  | nil : DqAll K p H [] []
  | cons {v : V} {d : PyData} {vs : List V} {ds : List PyData} : Dq K p H v d → DqAll K p H vs ds → DqAll K p H (v :: vs) (d :: ds)
end
mutual
theorem dq_of {K : PySem.W.Frag} {p : Addr} {H : Hp} : ∀ {d : PyData} {v : V}, noL d = true → Dp K H v d → Dq K p H v d
  | .none, _, _, h => by cases h; exact .non
  | .bool _, _, _, h => by cases h; exact .bl _
  | .int _, _, _, h => by cases h; exact .int _
  | .str _, _, _, h => by cases h; exact .str _
  | .list _, _, n, _ => by simp [noL] at n
  | .tuple ds, _, n, h => by
    cases h with
    | tup hs ha => exact .tup hs (dqAll_of (by simpa [noL] using n) ha)
  | .dict _, _, _, h => by cases h
theorem dqAll_of {K : PySem.W.Frag} {p : Addr} {H : Hp} : ∀ {ds : List PyData} {vs : List V}, noLs ds = true → DpAll K H vs ds → DqAll K p H vs ds
  | [], _, _, h => by cases h; exact .nil
  | d :: ds, _, n, h => by
    cases h with
    | cons h1 h2 =>
      have n' : noL d = true ∧ noLs ds = true := by simpa [noLs] using n
      exact .cons (dq_of n'.1 h1) (dqAll_of n'.2 h2)
end
/-- what keeps such data: tuples, and all but p -/
structure Kp (K : PySem.W.Frag) (p : Addr) (H H' : Hp) : Prop where
  sx : Sx p H H'
  tp : ∀ a xs, SqT K H a xs → SqT K H' a xs
theorem Kp.refl {K : PySem.W.Frag} {p : Addr} {H : Hp} : Kp K p H H := ⟨Sx.refl, fun _ _ h => h⟩
theorem Kp.trans {K : PySem.W.Frag} {p : Addr} {H H1 H2 : Hp} (a : Kp K p H H1) (b : Kp K p H1 H2) : Kp K p H H2 := ⟨a.sx.trans b.sx, fun x xs h => b.tp x xs (a.tp x xs h)⟩
theorem Same.kp {K : PySem.W.Frag} {p : Addr} {H H' : Hp} (s : Same H H') : Kp K p H H' := ⟨Same.sx s, fun _ _ h => same_sqT s h⟩
theorem Sx.kp {K : PySem.W.Frag} {p : Addr} {H H' : Hp} {l : List V} (s : Sx p H H') (hp : H p = some (.lst l)) : Kp K p H H' := ⟨s, fun _ _ h => s.sqT hp h⟩
mutual
theorem Dq.keep {K : PySem.W.Frag} {p : Addr} {H H' : Hp} (s : Kp K p H H') : ∀ {d : PyData} {v : V}, Dq K p H v d → Dq K p H' v d
  | .none, _, h => by cases h; exact .non
  | .bool _, _, h => by cases h; exact .bl _
  | .int _, _, h => by cases h; exact .int _
  | .str _, _, h => by cases h; exact .str _
  | .list ds, _, h => by
    cases h with
    | lst n e ha => exact .lst n (s.sx _ _ n e) (DqAll.keep s ha)
  | .tuple ds, _, h => by
    cases h with
    | tup hs ha => exact .tup (s.tp _ _ hs) (DqAll.keep s ha)
  | .dict _, _, h => by
    cases h with
    | dct n e z => exact .dct n (s.sx _ _ n e) z
theorem DqAll.keep {K : PySem.W.Frag} {p : Addr} {H H' : Hp} (s : Kp K p H H') : ∀ {ds : List PyData} {vs : List V}, DqAll K p H vs ds → DqAll K p H' vs ds
  | [], _, h => by cases h; exact .nil
  | d :: ds, _, h => by
    cases h with
    | cons h1 h2 => exact .cons (Dq.keep s h1) (DqAll.keep s h2)
end
theorem dqAll_length {K : PySem.W.Frag} {p : Addr} {H : Hp} : ∀ {vs : List V} {ds : List PyData}, DqAll K p H vs ds → vs.length = ds.length
  | _, _, .nil => rfl
  | _, _, .cons _ h => congrArg (· + 1) (dqAll_length h)
theorem dqAll_get {K : PySem.W.Frag} {p : Addr} {H : Hp} : ∀ {vs : List V} {ds : List PyData} {i : Nat} {v : V}, DqAll K p H vs ds → vs[i]? = some v → ∃ d, ds[i]? = some d ∧ Dq K p H v d
  | _, _, _, _, .nil, e => by simp at e
  | _, _, 0, _, .cons h _, e => by
    simp at e
    subst e
    exact ⟨_, rfl, h⟩
  | _, _, i + 1, _, .cons _ t, e => by
    obtain ⟨d, e1, e2⟩ := dqAll_get (i := i) t (by simpa using e)
    exact ⟨d, by simpa using e1, e2⟩
theorem dqAll_append {K : PySem.W.Frag} {p : Addr} {H : Hp} : ∀ {vs ws : List V} {ds es : List PyData}, DqAll K p H vs ds → DqAll K p H ws es → DqAll K p H (vs ++ ws) (ds ++ es)
  | _, _, _, _, .nil, h => h
  | _, _, _, _, .cons h t, h' => .cons h (dqAll_append t h')
theorem dqAll_take {K : PySem.W.Frag} {p : Addr} {H : Hp} : ∀ (n : Nat) {vs : List V} {ds : List PyData}, DqAll K p H vs ds → DqAll K p H (vs.take n) (ds.take n)
  | 0, _, _, _ => by simpa using .nil
  | n + 1, _, _, .nil => by simpa using .nil
  | n + 1, _, _, .cons h t => by simpa using .cons h (dqAll_take n t)
theorem dqAll_drop {K : PySem.W.Frag} {p : Addr} {H : Hp} : ∀ (n : Nat) {vs : List V} {ds : List PyData}, DqAll K p H vs ds → DqAll K p H (vs.drop n) (ds.drop n)
  | 0, _, _, h => by simpa using h
  | n + 1, _, _, .nil => by simpa using .nil
  | n + 1, _, _, .cons h t => by simpa using dqAll_drop n t
theorem dq_int_inv {K : PySem.W.Frag} {p : Addr} {H : Hp} {v : V} {i : Int} (h : Dq K p H v (.int i)) : v = .int i := by cases h; rfl
theorem dq_str_inv {K : PySem.W.Frag} {p : Addr} {H : Hp} {v : V} {x : Str} (h : Dq K p H v (.str x)) : v = .str x := by cases h; rfl
theorem dq_bool_inv {K : PySem.W.Frag} {p : Addr} {H : Hp} {v : V} {b : Bool} (h : Dq K p H v (.bool b)) : v = .bl b := by cases h; rfl
theorem dq_tup_inv {K : PySem.W.Frag} {p : Addr} {H : Hp} {v : V} {ds : List PyData} (h : Dq K p H v (.tuple ds)) : ∃ a xs, v = .ref a ∧ SqT K H a xs ∧ DqAll K p H xs ds := by
  cases h with
  | tup h1 h2 => exact ⟨_, _, rfl, h1, h2⟩
theorem tupq {K : PySem.W.Frag} {p q : Addr} {H : Hp} {xs : List V} {ds : List PyData} (hq : H q = none) (h : DqAll K p H xs ds) : Same H (upd H q (.tup xs)) ∧ Dq K p (upd H q (.tup xs)) (.ref q) (.tuple ds) :=
  ⟨same_new hq, .tup (.inl (.inl upd_same)) (h.keep (Same.kp (same_new hq)))⟩
theorem lstq {K : PySem.W.Frag} {p q : Addr} {H : Hp} {xs : List V} {ds : List PyData} (n : q ≠ p) (hq : H q = none) (h : DqAll K p H xs ds) : Same H (upd H q (.lst xs)) ∧ Dq K p (upd H q (.lst xs)) (.ref q) (.list ds) :=
  ⟨same_new hq, .lst n upd_same (h.keep (Same.kp (same_new hq)))⟩

mutual
def noD : PyData → Bool
  | .list ds => noDs ds
  | .tuple ds => noDs ds
  | .dict _ => false
  | _ => true
def noDs : List PyData → Bool
  | [] => true
  | d :: ds => noD d && noDs ds
end
mutual
theorem Dq.dp {K : PySem.W.Frag} {p : Addr} {H : Hp} : ∀ {d : PyData} {v : V}, noD d = true → Dq K p H v d → Dp K H v d
  | .none, _, _, h => by cases h; exact .non
  | .bool _, _, _, h => by cases h; exact .bl _
  | .int _, _, _, h => by cases h; exact .int _
  | .str _, _, _, h => by cases h; exact .str _
  | .list ds, _, n, h => by
    cases h with
    | lst _ e ha => exact .lst (SqL.of e) (DqAll.dp (by simpa [noD] using n) ha)
  | .tuple ds, _, n, h => by
    cases h with
    | tup hs ha => exact .tup hs (DqAll.dp (by simpa [noD] using n) ha)
  | .dict _, _, n, _ => by simp [noD] at n
theorem DqAll.dp {K : PySem.W.Frag} {p : Addr} {H : Hp} : ∀ {ds : List PyData} {vs : List V}, noDs ds = true → DqAll K p H vs ds → DpAll K H vs ds
  | [], _, _, h => by cases h; exact .nil
  | d :: ds, _, n, h => by
    cases h with
    | cons h1 h2 =>
      have n' : noD d = true ∧ noDs ds = true := by simpa [noDs] using n
      exact .cons (Dq.dp n'.1 h1) (DqAll.dp n'.2 h2)
end
theorem dq_ty {K : PySem.W.Frag} {p : Addr} {H : Hp} {v : V} {d : PyData} (h : Dq K p H v d) : TyX K H v (.type (tyN d)) := by
  cases h with
  | non => exact .base .non
  | bl b => exact .base (.bl b)
  | int i => exact .base (.int i)
  | str x => exact .base (.str x)
  | lst n hs ha => exact .base (.lst hs)
  | tup hs ha =>
    rcases hs with (e | ⟨o, e⟩) | ⟨o, its, n, hk, hc, _⟩
    · exact .base (.tup e)
    · exact .fTuple e
    · exact .kTuple hk hc
  | dct n e z => exact .base (.dK e)
section
variable {X : Cx}
def rIsQ (K : PySem.W.Frag) : List V → Hp → VK → Prop := fun xs H Q => ∃ (v : V) (n : String) (p : Addr) (d : PyData) (b : Bool), xs = [v, .ty n] ∧ Dq K p H v d ∧ kitB (tyN d) n = some b ∧ Q (.bl b) H
theorem call_isQ : CallR X (.builtin "isinstance") (rIsQ X.K) := by
  intro pins s σ H xs us Q I r h
  obtain ⟨v, n, p, d, b, e, hd, hk, q⟩ := h
  exact call_isi pins s σ H xs us Q I r ⟨v, .ty n, _, _, _, e, .ty n, dq_ty hd, kit_ty hk, q⟩
/-- is the data one of these texts -/
def inS (d : PyData) (ss : List Str) : Bool := match d with
  | .str x => ss.any (· == x)
  | _ => false
theorem isTuple_of {pins : List (Addr × Obj)} {σ : L2.St} {H : Hp} {s : Shared} {a : Addr} {xs : List V} (I : Inv X pins σ H s) (h : SqT X.K H a xs) : ∃ its : Array Value, Vals xs its.toList ∧ s.heap.IsTuple a its := by
  rcases h with h | ⟨o, its, n, hk, hc, hd, hz, hv⟩
  · obtain ⟨_, its, hv, ht⟩ := h.ok I.hok
    exact ⟨its.toArray, by simpa using hv, ht⟩
  · exact ⟨its, hv, o, I.kIn _ _ hk, hc, n, hd⟩
theorem vals_strs : ∀ {ss : List Str} {us : List Value}, Vals (ss.map V.str) us → ∃ ts : List (Str × Tok), us = ts.map (fun z => .str z.1 z.2) ∧ ts.map (·.1) = ss
  | [], us, h => by
    generalize e : ([] : List Str).map V.str = vs at h
    cases h with
    | nil => exact ⟨[], rfl, rfl⟩
    | cons r h => cases e
  | x :: ss, us, h => by
    generalize e : (x :: ss).map V.str = vs at h
    cases h with
    | nil => cases e
    | cons r h =>
      obtain ⟨rfl, rfl⟩ := List.cons.inj e
      obtain ⟨ts, rfl, rfl⟩ := vals_strs h
      obtain ⟨t, rfl⟩ := r
      exact ⟨(x, t) :: ts, rfl, rfl⟩
def rInQ (K : PySem.W.Frag) : R2 := fun x y H Q => ∃ (p a : Addr) (ss : List Str) (d : PyData), y = .ref a ∧ SqT K H a (ss.map V.str) ∧ Dq K p H x d ∧ Q (.bl (inS d ss)) H
theorem op_inQ (hu : X.A.units + 66 < cLine) : OpR X (compareOp .In) (rInQ X.K) := by
  rintro pins s σ H x y v u Q I rv ru ⟨p, a, ss, d, rfl, ht, hd, q⟩
  obtain rfl : u = .ref a := ru
  obtain ⟨its, hv, hit⟩ := isTuple_of I ht
  obtain ⟨ts, e1, e2⟩ := vals_strs hv
  have room : X.A.in1.units < cLine := by
    show X.A.units + 1 < cLine
    omega
  refine SeqAt.in_tupleAt (fun y => match y with | .str w _ => inS d [w] | _ => false) hit (fun y hy => ?_) ?_
  · have hy' : y ∈ its.toList := by simpa using hy
    rw [e1] at hy'
    obtain ⟨⟨w, t⟩, _, rfl⟩ := List.mem_map.mp hy'
    show SeqAt.EqAt X.A.in1 s (.str w t) v (inS d [w])
    cases hd with
    | non =>
      obtain rfl : v = .none := rv
      exact SeqAt.EqAt.str_none _ _
    | bl b =>
      obtain rfl : v = .bool b := rv
      exact SeqAt.EqAt.str_bool _ _ _
    | int i =>
      obtain ⟨t', rfl⟩ := rv
      exact SeqAt.EqAt.str_int _ _ _ _
    | str x =>
      obtain ⟨t', rfl⟩ := rv
      have e : inS (.str x) [w] = (w == x) := by simp [inS]
      rw [e]
      exact SeqAt.EqAt.str_str _ _ _ _
    | lst n e ha =>
      rename_i l xs ds
      obtain rfl : v = .ref l := rv
      obtain ⟨_, its', n', hv', ho⟩ := I.hok _ _ e
      exact SeqAt.EqAt.str_list (items := its'.toArray) _ _ ⟨_, ho, rfl, n', rfl⟩ room
    | tup hs ha =>
      rename_i l xs ds
      obtain rfl : v = .ref l := rv
      obtain ⟨its', hv', ho⟩ := isTuple_of I hs
      exact SeqAt.EqAt.str_tuple (items := its') _ _ ho room
    | dct n e z =>
      rename_i l kvs ds
      obtain rfl : v = .ref l := rv
      obtain ⟨_, _, vs, _, o, es, ep, h1, h2, h3, _⟩ := I.hok _ _ e
      exact eq_str_dict _ _ h1 h2.1 h3 room
  · refine ⟨.bl (inS d ss), H, I, ?_, q⟩
    show Value.bool _ = Value.bool _
    congr 1
    rw [← Array.any_toList, e1, ← e2, List.any_map]
    cases d <;> simp [inS, Function.comp_def]

mutual
/-- data whose text is made without trouble: only empty dicts -/
def fineQ : PyData → Prop
  | .int i => i.natAbs < 10 ^ 180
  | .str x => (x.cps.toList.all fun c => decide (c < 16 ^ 8)) = true
  | .list xs => finesQ xs
  | .tuple xs => finesQ xs
  | .dict ds => ds = []
  | _ => True
def finesQ : List PyData → Prop
  | [] => True
  | x :: xs => fineQ x ∧ finesQ xs
end
mutual
theorem fineQ_ok : ∀ d : PyData, fineQ d → d.showable = true ∧ d.leavesShort 200 = true
  | .none, _ => by simp [PyData.showable, PyData.leavesShort]
  | .bool _, _ => by simp [PyData.showable, PyData.leavesShort]
  | .int i, h => by
    simp only [fineQ] at h
    simp only [PyData.showable, PyData.leavesShort, decide_eq_true_eq]
    exact ⟨int_log h, shown_int h⟩
  | .str x, h => by
    simp only [fineQ] at h
    simp only [PyData.showable, PyData.leavesShort, true_and]
    exact h
  | .list xs, h => by
    simp only [fineQ] at h
    simp only [PyData.showable, PyData.leavesShort]
    exact finesQ_ok xs h
  | .tuple xs, h => by
    simp only [fineQ] at h
    simp only [PyData.showable, PyData.leavesShort]
    exact finesQ_ok xs h
  | .dict ds, h => by
    simp only [fineQ] at h
    subst h
    simp [PyData.showable, PyData.showableKv, PyData.leavesShort, PyData.leavesShortKv]
theorem finesQ_ok : ∀ xs : List PyData, finesQ xs → PyData.showableAll xs = true ∧ PyData.leavesShortAll 200 xs = true
  | [], _ => by simp [PyData.showableAll, PyData.leavesShortAll]
  | x :: xs, h => by
    simp only [finesQ] at h
    obtain ⟨a1, a2⟩ := fineQ_ok x h.1
    obtain ⟨b1, b2⟩ := finesQ_ok xs h.2
    simp only [PyData.showableAll, PyData.leavesShortAll, a1, a2, b1, b2, Bool.and_self, and_self]
end
mutual
theorem Dq.reads {p : Addr} {pins : List (Addr × Obj)} {σ : L2.St} {H : Hp} {s : Shared} (I : Inv X pins σ H s) (hs : H sysModules = none) : ∀ (d : PyData) (v : V) (u : Value), fineQ d → Dq X.K p H v d → RelV v u → ∃ as, Reads s.heap u d as ∧ sysModules ∉ as
  | .none, _, u, _, h, r => by
    cases h
    obtain rfl : u = .none := r
    exact ⟨_, .none, by simp⟩
  | .bool b, _, u, _, h, r => by
    cases h
    obtain rfl : u = .bool b := r
    exact ⟨_, .bool b, by simp⟩
  | .int i, _, u, _, h, r => by
    cases h
    obtain ⟨t, rfl⟩ := r
    exact ⟨_, .int i t, by simp⟩
  | .str x, _, u, _, h, r => by
    cases h
    obtain ⟨t, rfl⟩ := r
    exact ⟨_, .str x t, by simp⟩
  | .list ds, _, u, f, h, r => by
    cases h with
    | lst n e ha =>
      rename_i l xs
      obtain rfl : u = .ref l := r
      obtain ⟨_, its', n', hv', ho⟩ := I.hok _ _ e
      obtain ⟨as, ra, na⟩ := DqAll.reads I hs ds xs its' (by simpa only [fineQ] using f) ha hv'
      refine ⟨_, .list ho rfl rfl (by simpa using ra), ?_⟩
      intro z
      rcases List.mem_cons.mp z with z | z
      · rw [z, e] at hs
        cases hs
      · exact na z
  | .tuple ds, _, u, f, h, r => by
    cases h with
    | tup ht ha =>
      rename_i l xs
      obtain rfl : u = .ref l := r
      obtain ⟨its', hv', o, h1, h2, n, h3⟩ := isTuple_of I ht
      obtain ⟨as, ra, na⟩ := DqAll.reads I hs ds xs its'.toList (by simpa only [fineQ] using f) ha hv'
      exact ⟨_, .tuple h1 h2 h3 ra, na⟩
  | .dict ds, _, u, f, h, r => by
    cases h with
    | dct n e z =>
      rename_i l kvs
      obtain rfl : u = .ref l := r
      simp only [fineQ] at f
      subst f
      obtain rfl := z rfl
      obtain ⟨_, _, vs, kv, o, es, ep, h1, h2, h3, _, h4, _⟩ := I.hok _ _ e
      generalize ek : ([] : List (Key × V)) = kk at kv
      cases kv with
      | cons _ _ => cases ek
      | nil =>
        generalize ee : es.toList = el at h4
        cases h4
        have e0 : es = #[] := by
          apply Array.ext'
          simpa using ee
        subst e0
        refine ⟨_, .dict (as := []) (bs := []) h1 h2.1 h3 (by simpa using .nil) (by simpa using .nil), ?_⟩
        intro y
        have y' : sysModules = l := by simpa using y
        rw [y', e] at hs
        cases hs
theorem DqAll.reads {p : Addr} {pins : List (Addr × Obj)} {σ : L2.St} {H : Hp} {s : Shared} (I : Inv X pins σ H s) (hs : H sysModules = none) : ∀ (ds : List PyData) (vs : List V) (us : List Value), finesQ ds → DqAll X.K p H vs ds → Vals vs us → ∃ as, ReadsAll s.heap us ds as ∧ sysModules ∉ as
  | [], _, us, _, h, r => by
    cases h
    generalize e : ([] : List V) = l at r
    cases r with
    | nil => exact ⟨_, .nil, by simp⟩
    | cons _ _ => cases e
  | d :: ds, _, us, f, h, r => by
    cases h with
    | cons h1 h2 =>
      rename_i v vs
      generalize e : v :: vs = l at r
      cases r with
      | nil => cases e
      | cons r1 r2 =>
        obtain ⟨rfl, rfl⟩ := List.cons.inj e
        simp only [finesQ] at f
        obtain ⟨as, ra, na⟩ := Dq.reads I hs d _ _ f.1 h1 r1
        obtain ⟨bs, rb, nb⟩ := DqAll.reads I hs ds _ _ f.2 h2 r2
        exact ⟨_, .cons ra rb, by simp [na, nb]⟩
end
/-- the written part holds the table of modules -/
def Sys (base : Heap) : Prop := ∃ o, base.get? sysModules = some o
theorem Inv.nosys {pins : List (Addr × Obj)} {σ : L2.St} {H : Hp} {s : Shared} (I : Inv X pins σ H s) (hb : Sys X.base) : H sysModules = none := by
  obtain ⟨o, hb⟩ := hb
  obtain ⟨h1, h2⟩ := I.ok.bs _ _ hb
  exact I.base.free _ _ h1 h2 (I.ok.noex _ _ hb)
def rReprQ (K : PySem.W.Frag) : List V → Hp → VK → Prop := fun xs H Q => ∃ (p : Addr) (v : V) (d : PyData), xs = [v] ∧ Dq K p H v d ∧ fineQ d ∧ d.depth ≤ 64 ∧ d.bulk ≤ 80000 ∧ Q (.str d.shown) H
theorem call_reprQ (hb : Sys X.base) (hg : X.A.guards = some []) (hu : X.A.units + 66 < cLine) : CallR X (.builtin "repr") (rReprQ X.K) := by
  intro pins s σ H xs us Q I r h
  obtain ⟨p, v, d, rfl, hd, hf, hdep, hw, q⟩ := h
  obtain ⟨hs, hl⟩ := fineQ_ok d hf
  have hz : d.shown.length ≤ sizeLine := by
    have := PyData.shown_le_bulk 200 (by decide) d hl
    rw [sizeLine_eq]
    omega
  obtain ⟨u, rfl, ru⟩ := vals1 r
  obtain ⟨as, hr, hsm⟩ := Dq.reads I (Inv.nosys I hb) d v u hf hd ru
  cases hr with
  | none => exact P.repr_of_none ⟨.str _, H, I.tok _, ⟨_, rfl⟩, q⟩
  | bool b => exact P.repr_of_bool ⟨.str _, H, I.tok _, ⟨_, rfl⟩, q⟩
  | int i t => exact P.repr_of_int (by simpa [PyData.showable] using hs) ⟨.str _, H, I.tok _, ⟨_, rfl⟩, q⟩
  | str x t => exact P.repr_of_str ⟨.str _, H, I.tok _, ⟨_, rfl⟩, q⟩ (by simpa only [PyData.shown] using hz)
  | list h1 h2 h3 h4 =>
    refine repr_of_reads' (h₀ := s.heap) (.list h1 h2 h3 h4) hs (fun _ => hsm) hg (by omega) (fun _ _ e => e) (fun h' u' tk hk => ?_) hz
    exact ⟨.str _, H, I.kept hk, ⟨_, rfl⟩, q⟩
  | tuple h1 h2 h3 h4 =>
    refine repr_of_reads' (h₀ := s.heap) (.tuple h1 h2 h3 h4) hs (fun _ => hsm) hg (by omega) (fun _ _ e => e) (fun h' u' tk hk => ?_) hz
    exact ⟨.str _, H, I.kept hk, ⟨_, rfl⟩, q⟩
  | dict h1 h2 h3 h4 h5 =>
    refine repr_of_reads' (h₀ := s.heap) (.dict h1 h2 h3 h4 h5) hs (fun _ => hsm) hg (by omega) (fun _ _ e => e) (fun h' u' tk hk => ?_) hz
    exact ⟨.str _, H, I.kept hk, ⟨_, rfl⟩, q⟩

def rInLD (K : PySem.W.Frag) : R2 := fun x y H Q => ∃ (ds : List PyData) (d : PyData), Dp K H y (.list ds) ∧ Dp K H x d ∧ PyData.canLayAll0 ds = true ∧ d.canLay0 = true ∧ d.depth ≤ 60 ∧ Q (.bl (ds.any fun e => e.eqv d)) H
theorem op_inLD (hu : X.A.units + 66 < cLine) : OpR X (compareOp .In) (rInLD X.K) := by
  rintro pins s σ H x y v u Q I rv ru ⟨ds, d, hy, hx, c1, c2, c3, q⟩
  obtain ⟨as, r1⟩ := Dp.reads I _ _ _ hy ru
  obtain ⟨bs, r2⟩ := Dp.reads I _ _ _ hx rv
  refine SeqAt.in_list_reads r1 r2 c1 c2 ?_ ⟨.bl _, H, I, rfl, q⟩
  have : min (PyData.depthAll ds) d.depth ≤ 60 := Nat.le_trans (Nat.min_le_right _ _) c3
  omega

end
end Rp

namespace Rp
open PySem L2 PyProof.Rows
theorem law_endS {l : PySem.W.OpenLaw} {n k : Nat} {q : Program} {loose : List Str} {XP : (Str → Option Value) → Heap → Prop} {YP : World → Heap → Prop} {d : DefRec} {K : Params → PySem.W.Frag} {sp : PySem.W.Frag → Sp} {x : Str}
    (hn : l.most = some n) (hn2 : n ≤ sizeLine) (hdf : d.params.defaults = []) (hr : Room k callerA) (himp : importsNone q = true)
    (hY : ∀ (w : World) (h : Heap), YP w h → (K w.params).In h)
    (F : ∀ (w : World) (mg : Str → Option Value) (fa : Addr) (h : Heap), (K w.params).In h → h.Ns mainGlobals mg → mg d.name = some (.ref fa) →
      ∃ fd : FuncData, (∀ (s : Shared) (u : Value), BindsTo s fd ⟨[u], []⟩ [(x, u)]) ∧
        ∀ base : Heap, (K w.params).In base → base.Ns mainGlobals mg → Sys base → FnG l.prog w (K w.params) mg base CX0 k fa fd [x] (sp (K w.params)))
    (hsp : ∀ (K : PySem.W.Frag) (H : Hp) (a : Addr) (ns : List Int), ns.length ≤ n → Only H → SqL K H a (ns.map V.int) → sp K [.ref a] H (fun v _ => v = .bl true) fun _ _ _ => False) :
    PySem.W.WalkO q loose XP YP l.row.toRowW d [] (fun f vs => PySem.call f vs) := by
  refine Att.attach_call hn hdf fun w s₀ s₁ mg mb fa o pm cd doc a vs ns G Y ho hd hcd hmg hobj hints hlen hgens => ?_
  have kin := hY w _ Y
  obtain ⟨fd, bd, FF⟩ := F w mg fa _ kin G.T.g hmg
  obtain ⟨H, hO, hS, hok, only, notK⟩ := script_heap (P := l.prog) (w := w) kin hobj hints (Nat.le_trans hlen hn2)
  have free : ∀ {b : Addr} {ob : Obj} {es : Array DictEntry} {ep : Nat}, s₁.heap.get? b = some ob → ob.data = .dict es ep → H b = none := by
    intro b ob es ep h1 h2
    cases c : H b with
    | none => rfl
    | some u =>
      have e : b = a := only b (by rw [c]; exact fun z => nomatch z)
      rw [e, hobj] at h1
      have h3 := congrArg Obj.data (Option.some.inj h1)
      rw [h2] at h3
      exact nomatch h3
  have ns' : ∀ {b : Addr} {m : Str → Option Value}, s₁.heap.Ns b m → (hidT s₁.heap H).Ns b m := by
    rintro b m ⟨ob, es, ep, h1, h2, h3⟩
    exact ⟨ob, es, ep, hidT_get h1 (free h1 h2), h2, h3⟩
  have kinB : (K w.params).In (hidT s₁.heap H) := fun b ob e => hidT_get (kin b ob e) (notK b ob e)
  have lim : (hidT s₁.heap H).NoLimit := by
    obtain ⟨mc, h1, h2⟩ := G.T.nolimit
    exact ⟨mc, ns' h1, h2⟩
  have sys : Sys (hidT s₁.heap H) := by
    obtain ⟨mm, hm, _⟩ := (G.T.seer himp).mods
    obtain ⟨ob, es, ep, h1, _⟩ := ns' hm
    exact ⟨ob, h1⟩
  have en : Env0 l.prog w (K w.params) mg (hidT s₁.heap H) callerA [] s₁ H :=
    ⟨rfl, ⟨kinB, ns' G.T.g, ⟨mb, ns' G.T.b, G.T.builtins⟩, lim⟩, fun b ob e => of_hidT e, Nat.le_of_eq (hidT_size _ _), trivial, (fun b z => nomatch z), hok, .of_eq hgens⟩
  refine codeAny_mono ((FF _ kinB (ns' G.T.g) sys).run callerA [] s₁ H ⟨[.ref a], []⟩ [.ref a] [.ref a] _ _ hr rfl en (bd s₁ (.ref a)) (.cons rfl .nil) (hsp _ H a ns hlen hO hS)) fun r s' z => ?_
  cases r with
  | error e => exact False.elim z
  | ok fl =>
    cases fl with
    | next => exact False.elim z
    | brk => exact False.elim z
    | cont => exact False.elim z
    | ret u =>
      obtain ⟨v, H', os, bare, un, hok', rr, e⟩ := z
      have e' : v = .bl true := e
      subst e'
      obtain rfl : u = Value.bool true := rr
      refine ⟨rfl, OldK.of_keep fun b ob hb => ?_, os, bare⟩
      cases c : H b with
      | none => exact un.keep b ob hb c (fun z => nomatch z) (fun z => nomatch z)
      | some u =>
        rcases hO b with z | ⟨ox, xs, z⟩
        · rw [c] at z
          cases z
        · obtain ⟨e1, _⟩ := hok b _ z
          obtain ⟨e2, _⟩ := hok' b _ (un.frzs b ox _ z)
          rw [hb] at e1
          cases e1
          exact e2
end Rp
/-! Rd: written data as one step: an expression of constants, tuples, lists, dicts and names of data. -/
namespace Rp
open PySem L2 PyProof.Rows
/-- an address in use, and data held in slots -/
def Nd (K : PySem.W.Frag) (E : List (Nat × PyData)) (p : Addr) (σ : L2.St) (H : Hp) : Prop := H p ≠ none ∧ ∀ e ∈ E, ∃ v, σ[e.1]? = some (some v) ∧ Dq K p H v e.2
theorem Nd.same {K : PySem.W.Frag} {E : List (Nat × PyData)} {p : Addr} {σ : L2.St} {H H' : Hp} (h : Nd K E p σ H) (s : Same H H') : Nd K E p σ H' := by
  refine ⟨?_, fun e he => ?_⟩
  · intro z
    cases c : H p with
    | none => exact h.1 c
    | some o =>
      rw [s _ _ c] at z
      cases z
  · obtain ⟨v, h1, h2⟩ := h.2 e he
    exact ⟨v, h1, h2.keep (Same.kp s)⟩
def tD (K : PySem.W.Frag) (E : List (Nat × PyData)) (d : PyData) : TE := fun σ H Q => ∃ p, Nd K E p σ H ∧ ∀ (H' : Hp) (v : V), Same H H' → Dq K p H' v d → Q v H'
def tDs (K : PySem.W.Frag) (E : List (Nat × PyData)) (ds : List PyData) : TA := fun σ H Q => ∃ p, Nd K E p σ H ∧ ∀ (H' : Hp) (vs : List V), Same H H' → DqAll K p H' vs ds → Q vs H'
section
variable {X : Cx} {E : List (Nat × PyData)}
theorem pe_mono {e : Expr} {t t' : TE} (h : PE X e t) (f : ∀ σ H Q, t' σ H Q → t σ H Q) : PE X e t' := ⟨fun pins s σ H Q I z => h.run pins s σ H Q I (f σ H Q z)⟩
theorem pa_mono {es : List Expr} {t t' : TA} (h : PA X es t) (f : ∀ σ H Q, t' σ H Q → t σ H Q) : PA X es t' := ⟨fun pos pins s σ H Q I z => h.run pos pins s σ H Q I (f σ H Q z)⟩
theorem pd_int {e : Expr} {t : TE} {m n : Int} (h : PE X e t) (hm : m = n) (f : ∀ σ H (Q : VK), Q (.int m) H → t σ H Q) : PE X e (tD X.K E (.int n)) := by
  refine pe_mono h fun σ H Q z => f σ H Q ?_
  obtain ⟨p, _, q⟩ := z
  subst hm
  exact q H _ (Same.refl _) (.int _)
theorem pd_str {x : Str} {j : Nat} {pos : Pos} : PE X (.Constant (.str x) j pos) (tD X.K E (.str x)) :=
  pe_mono pe_str fun σ H Q ⟨p, _, q⟩ => q H _ (Same.refl _) (.str _)
theorem pd_non {j : Nat} {pos : Pos} : PE X (.Constant .none j pos) (tD X.K E .none) :=
  pe_mono pe_non fun σ H Q ⟨p, _, q⟩ => q H _ (Same.refl _) .non
theorem pd_var {e : Expr} {i : Nat} {d : PyData} (h : PE X e (tVar i)) (m : (i, d) ∈ E) : PE X e (tD X.K E d) := by
  refine pe_mono h fun σ H Q z => ?_
  obtain ⟨p, n, q⟩ := z
  obtain ⟨v, h1, h2⟩ := n.2 _ m
  exact ⟨v, h1, q H _ (Same.refl _) h2⟩
theorem pds_nil : PA X [] (tDs X.K E []) :=
  pa_mono pa_nil fun σ H Q ⟨p, _, q⟩ => q H _ (Same.refl _) .nil
theorem pds_cons {e : Expr} {es : List Expr} {d : PyData} {ds : List PyData} (h : PE X e (tD X.K E d)) (t : PA X es (tDs X.K E ds)) (hs : starEach (e :: es) X.env = (false, eval e X.env) :: starEach es X.env := by rfl) : PA X (e :: es) (tDs X.K E (d :: ds)) := by
  refine pa_mono (pa_cons h t hs) fun σ H Q z => ?_
  obtain ⟨p, n, q⟩ := z
  exact ⟨p, n, fun H' v s hd => ⟨p, n.same s, fun H2 vs s2 hvs => q H2 _ (s.trans s2) (.cons (hd.keep (Same.kp s2)) hvs)⟩⟩
theorem pd_tup {es : List Expr} {ds : List PyData} {k : Nat} {pos : Pos} (h : PA X es (tDs X.K E ds)) (hl : ds.length ≤ 1000) : PE X (.Tuple es k pos) (tD X.K E (.tuple ds)) := by
  refine pe_mono (pe_tup h) fun σ H Q z => ?_
  obtain ⟨p, n, q⟩ := z
  refine ⟨p, n, fun H' vs s hvs => ⟨small (by rw [dqAll_length hvs]; exact hl), fun t ht => ?_⟩⟩
  obtain ⟨s2, hd⟩ := tupq ht hvs
  exact q _ _ (s.trans s2) hd
theorem pd_lst {es : List Expr} {ds : List PyData} {pos : Pos} (h : PA X es (tDs X.K E ds)) (hl : ds.length ≤ 1000) : PE X (.List es pos) (tD X.K E (.list ds)) := by
  refine pe_mono (pe_lst h) fun σ H Q z => ?_
  obtain ⟨p, n, q⟩ := z
  refine ⟨p, n, fun H' vs s hvs => ⟨small (by rw [dqAll_length hvs]; exact hl), fun t ht => ?_⟩⟩
  have np : t ≠ p := fun y => (n.same s).1 (y ▸ ht)
  obtain ⟨s2, hd⟩ := lstq np ht hvs
  exact q _ _ (s.trans s2) hd
theorem dqAll_rep {K : PySem.W.Frag} {p : Addr} {H : Hp} {vs : List V} {ds : List PyData} (h : DqAll K p H vs ds) : ∀ k : Nat, DqAll K p H (List.replicate k vs).flatten (List.replicate k ds).flatten
  | 0 => .nil
  | k + 1 => by
    simp only [List.replicate_succ, List.flatten_cons]
    exact dqAll_append h (dqAll_rep h k)
theorem pd_rep {a b : Expr} {ds : List PyData} {k : Nat} {pos : Pos} (h : PE X a (tD X.K E (.tuple ds))) (hb : PE X b (tC (.int (k : Int)))) (h2 : 2 ≤ k) (hk : k ≤ 1000) (h0 : ds ≠ []) (hl : ds.length ≤ 1000) :
    PE X (.BinOp a .Mult b pos) (tD X.K E (.tuple (List.replicate k ds).flatten)) := by
  refine pe_mono (pe_op (r := rRepT X.K) op_repT h hb) fun σ H Q z => ?_
  obtain ⟨p, n, q⟩ := z
  refine ⟨p, n, fun H' v s hd => ?_⟩
  obtain ⟨l, xs, rfl, hs, hall⟩ := dq_tup_inv hd
  refine ⟨l, _, xs, rfl, rfl, hs, ?_, by omega, by omega, by rw [dqAll_length hall]; exact hl, fun t ht => ?_⟩
  · intro z
    subst z
    cases hall
    exact h0 rfl
  · have e : ((k : Int)).toNat = k := by omega
    rw [e]
    obtain ⟨s2, hd2⟩ := tupq ht (dqAll_rep hall k)
    exact q _ _ (s.trans s2) hd2
theorem pd_cat {a b : Expr} {ds es : List PyData} {pos : Pos} (h : PE X a (tD X.K E (.tuple ds))) (h' : PE X b (tD X.K E (.tuple es))) (hl : ds.length + es.length ≤ 1000) :
    PE X (.BinOp a .Add b pos) (tD X.K E (.tuple (ds ++ es))) := by
  refine pe_mono (pe_op (r := rCatA X.K) op_catA h h') fun σ H Q z => ?_
  obtain ⟨p, n, q⟩ := z
  refine ⟨p, n, fun H1 v s1 hd => ⟨p, n.same s1, fun H2 u s2 hd2 => ?_⟩⟩
  obtain ⟨l, xs, rfl, hs, hall⟩ := dq_tup_inv (hd.keep (Same.kp s2))
  obtain ⟨l', ys, rfl, hs', hall'⟩ := dq_tup_inv hd2
  have hlen : xs.length + ys.length ≤ sizeLine := small (by rw [dqAll_length hall, dqAll_length hall']; exact hl)
  have hcat := dqAll_append hall hall'
  refine ⟨l, l', xs, ys, rfl, rfl, hs, hs', hlen, fun z => ?_, fun _ z => ?_, fun _ _ t ht => ?_⟩
  · subst z
    exact q _ _ (s1.trans s2) (.tup hs' hcat)
  · subst z
    rw [List.append_nil] at hcat
    exact q _ _ (s1.trans s2) (.tup hs hcat)
  · obtain ⟨s3, hd3⟩ := tupq ht hcat
    exact q _ _ (s1.trans (s2.trans s3)) hd3
/-- {text: int} -/
theorem pd_dct {x : Str} {i : Int} {j1 j2 : Nat} {p1 p2 pos : Pos} : PE X (.Dict [some (.Constant (.str x) j1 p1)] [.Constant (.int i) j2 p2] pos) (tD X.K E (.dict [(.str x, .int i)])) := by
  refine pe_mono (pe_disp (pps_cons pe_str pe_int pps_nil) (by rfl) (by rfl) (fun z => by cases z) (by simp)) fun σ H Q z => ?_
  obtain ⟨p, n, q⟩ := z
  intro t ht
  refine ⟨upd_same, [(.inr x, .int i)], rfl, (by show 1 ≤ 15; decide), ?_⟩
  have np : t ≠ p := fun y => n.1 (y ▸ ht)
  refine q _ _ ?_ (.dct np upd_same (fun z => by cases z))
  intro b o hb
  have nb : b ≠ t := ne_of_none hb ht
  rw [upd_ne nb, upd_ne nb]
  exact hb
end
end Rp
/-! Ex: errors: what a clause names, calls that raise nothing after all. -/
namespace Rp
open PySem L2 PyProof.Rows
/-- an error of the class S is what «except T» names, when S stands below T -/
theorem exm_sub {K : PySem.W.Frag} {S T : Addr} {b : Bool} (h1 : PySem.W.subIn K (.ref T) (.type "BaseException") = some true) (h2 : PySem.W.isClsIn K T = true) (h3 : PySem.W.typeIn K (.ref T) = some (.type "type")) (h4 : PySem.W.subIn K (.ref S) (.ref T) = some b) :
    PySem.W.exmOne K (.ref S) (.ref T) = some b := by
  have e1 : (PySem.W.subIn K (.ref T) (.type "BaseException") == some true) = true := by rw [h1] <;> rfl
  have e2 : ((PySem.W.clsIn K T).isSome && PySem.W.typeIn K (.ref T) == some (.type "type")) = true := by
    have h2' : (PySem.W.clsIn K T).isSome = true := h2
    rw [h2', h3] <;> rfl
  show (if (PySem.W.subIn K (.ref T) (.type "BaseException") == some true) = true then (if ((PySem.W.clsIn K T).isSome && PySem.W.typeIn K (.ref T) == some (.type "type")) = true then PySem.W.subIn K (.ref S) (.ref T) else none) else none) = some b
  rw [if_pos e1, if_pos e2]
  exact h4
/-- a def that may raise, called where it does not -/
theorem passN {X : Cx} : Passes (L2.CX X.prog X.w) X E0 := by
  rintro pins σ H s e s' _ ⟨_, _, _, _, _, _, _, _, _, _, _, _, h⟩
  exact h.elim
/-- the heap without what stands at L -/
def mask (H : Hp) (L : Addr) : Hp := fun b => if b = L then none else H b
theorem same_mask (H : Hp) (L : Addr) : Same (mask H L) H := fun b o h => by
  unfold mask at h
  split at h
  · cases h
  · exact h
theorem mask_new {H : Hp} {L : Addr} {o : HO} (h : H L = none) : Same H (mask (upd H L o) L) := fun b u e => by
  have n : b ≠ L := fun z => by rw [z, h] at e; cases e
  show (if b = L then none else upd H L o b) = some u
  rw [if_neg n, upd_ne n]
  exact e
theorem mask_upd {H : Hp} {L : Addr} {o : HO} : mask (upd H L o) L = mask H L := by
  funext b
  unfold mask
  split
  · rfl
  · rename_i n
    exact upd_ne n
theorem mask_mono {H H' : Hp} {L : Addr} (s : Same H H') : Same (mask H L) (mask H' L) := fun b o h => by
  unfold mask at h ⊢
  split at h
  · cases h
  · rename_i n
    rw [if_neg n]
    exact s b o h
theorem mask_at {H : Hp} {L b : Addr} {o : HO} (n : b ≠ L) (h : H b = some o) : mask H L b = some o := by
  unfold mask
  rw [if_neg n]
  exact h
theorem mask_none {H : Hp} {L : Addr} : mask H L L = none := by
  unfold mask
  rw [if_pos rfl]
theorem sx_mask {H : Hp} {L : Addr} : Sx L H (mask H L) := fun b o n h => mask_at n h
end Rp
/-! Ea: several clauses, some with a name for the error (ps_tryA goes the way of the library's ps_try_many and ps_try_as, which it joins); defs that are handed the error that is being handled. -/
namespace Rp
open PySem PySem.Spec L2 PyProof.Rows
abbrev TSA := Addr → Value → Option Addr → TS
/-- what clauses, each with a slot for its name or none, wish of an error of the body -/
def wMA (K : PySem.W.Frag) (Wout : WX) (D : Ends) : List (Value × Option Nat × TSA) → WX
  | [] => Wout
  | (c, none, ts) :: r => fun cls d σ H => ∃ b, PySem.W.exmOne K cls c = some b ∧ (b = true → ∀ a, H a = none → ts a cls d D σ H) ∧ (b = false → wMA K Wout D r cls d σ H)
  | (c, some i, ts) :: r => wAs K c i ts (wMA K Wout D r) D
inductive ClsOk (X : Cx) : List ExceptHandler → List (Value × Option Nat × TSA) → Prop
  | nil : ClsOk X [] []
  | bare {x : Str} {c : Value} {ts : TSA} {b₀ : Stmt} {su : List Stmt} {np pos' : Pos} {hs : List ExceptHandler} {l : List (Value × Option Nat × TSA)} (hc : Names X x c)
      (hsu : ∀ (a : Addr) (oe : Obj) (cls : Value) (d : Option Addr) (pn : List (Addr × Obj)), Zc cls d oe → (∃ vs, oe.data = .fields vs) → PSs (X.suite a ((a, oe) :: pn)) (b₀ :: su) (ts a cls d)) (r : ClsOk X hs l) :
      ClsOk X (.ExceptHandler (some (.Name x np)) none (b₀ :: su) pos' :: hs) ((c, none, ts) :: l)
  | named {x n : Str} {i : Nat} {c : Value} {ts : TSA} {b₀ : Stmt} {su : List Stmt} {np pos' : Pos} {hs : List ExceptHandler} {l : List (Value × Option Nat × TSA)} (hi : X.N[i]? = some n) (hln : X.env.kindOf n = some .local) (hc : Names X x c)
      (hsu : ∀ (a : Addr) (oe : Obj) (cls : Value) (d : Option Addr) (pn : List (Addr × Obj)), Zc cls d oe → (∃ vs, oe.data = .fields vs) → PSs (X.suite a ((a, oe) :: pn)) (b₀ :: su) (ts a cls d)) (r : ClsOk X hs l) :
      ClsOk X (.ExceptHandler (some (.Name x np)) (some n) (b₀ :: su) pos' :: hs) ((c, some i, ts) :: l)
section
variable {X : Cx} {body : List Stmt} {h₀ : ExceptHandler} {hs : List ExceptHandler} {l : List (Value × Option Nat × TSA)} {pos : Pos} {tb : WX → TS} {Wout : WX}
theorem ps_tryA (hst : X.stack = X.env :: X.outer) (hfr0 : X.env.frame = some X.env.locals) (hN : X.N.Nodup) (tk : Takes X Wout)
    (hb : ∀ (W : WX) (pn : List (Addr × Obj)) (xe : Value → Shared → Prop), Takes (X.tr pn xe) W → PassesOwn (model X.prog X.w) X.A X.env xe → PSs (X.tr pn xe) body (tb W))
    (hh : ClsOk X (h₀ :: cls0) l) : PS X (.Try body (h₀ :: cls0) [] [] pos) (fun D σ H => tb (wMA X.K Wout D l) D σ H) := by
  constructor
  intro pins s σ H D I want
  have ok := I.ok
  have frames : X.A.frames = some (X.env :: X.outer) := by rw [ok.frames, hst]
  refine wpAny_Try_except ?_
  refine wpAny_mono ((hb (wMA X.K Wout D l) (X.pn ++ pins) (fun e s₁ => wpAny (model X.prog X.w) X.A (noteFrame e X.env) (fun _ s₂ => wpAny (model X.prog X.w) X.A (setFlight e none) (fun _ s₃ =>
    wpAny (model X.prog X.w) X.A (handleBy e X.env (h₀ :: cls0)) (SP X pins D) X.xe s₃) X.xe s₂) X.xe s₁) (fun u s' up0 => ?caught) PassesOwn.looking).run [] s σ H D (I.toTry _) want) (fun f s1 out => ?went) (fun e s1 he => he)
  case went =>
    cases f with
    | next => obtain ⟨σ', H', It, q⟩ := out; exact wpAny_execs_nil ⟨σ', H', It.ofTry ok, q⟩
    | brk => obtain ⟨σ', H', It, q⟩ := out; exact ⟨σ', H', It.ofTry ok, q⟩
    | cont => obtain ⟨σ', H', It, q⟩ := out; exact ⟨σ', H', It.ofTry ok, q⟩
    | ret u => obtain ⟨v, σ', H', It, r, q⟩ := out; exact ⟨v, σ', H', It.ofTry ok, r, q⟩
  case caught =>
    obtain ⟨a, B, s0, ps0, σ', H', cls, d, rfl, It, apart, up, above, na, os, ag, w⟩ := up0
    have I1 : Inv X pins σ' H' s0 := It.ofTry ok
    have sky' : Sky B (X.env :: X.outer) a (Zc cls d) X.env.locals s'.heap := by rw [← hst]; exact above
    show wpAny (model X.prog X.w) X.A (noteFrame (.ref a) X.env) _ _ _
    refine Sky.land Zc.steady frames hfr0 sky' fun h3 land3 u3 => ?_
    have I3 : Inv X pins σ' H' { s' with heap := h3 } := I1.landed apart land3.1 (up.trans u3) os ag
    obtain ⟨o3, f3, g3, z3, k3⟩ := land3.there
    have offFr : a ∉ frs (X.env :: X.outer) := fun hm => by
      obtain ⟨_, o', e', hnf⟩ := land3.2.2.1.mem hm
      rw [g3] at e'
      cases e'
      exact hnf _ k3
    have offL : a ≠ X.env.locals := fun z => offFr (List.mem_filterMap.mpr ⟨X.env, List.mem_cons_self, by rw [hfr0, z]⟩)
    have offF : a ∉ X.fs := fun hm => by
      obtain ⟨e, he, q⟩ := List.mem_filterMap.mp hm
      exact offFr (List.mem_filterMap.mpr ⟨e, List.mem_cons_of_mem _ he, q⟩)
    have In3 := I3.suite g3 k3 na offL offF
    have looks : PySem.W.Looks (model X.prog X.w) h3 (typeOf (.ref a)) cls := fun A Q E s k q => wpAny_typeOf_ref (k _ _ g3) (by rw [z3.1]; exact q)
    have test : ∀ {x : Str} {c : Value} {np : Pos} {Q : Value → Shared → Prop} {E : Value → Shared → Prop}, Names X x c → Q c { s' with heap := h3 } → wpAny (model X.prog X.w) (X.A.mark (some (.ref a))) (eval (.Name x np) X.env) Q E { s' with heap := h3 } := fun {x c np Q E} hc q => by
      obtain ⟨hg, dbg, hm | ⟨hm, hv, nm⟩⟩ := hc
      · exact ld_glob (X := X.suite a ((a, o3) :: (X.pn ++ pins))) In3 hg hm q dbg
      · exact ld_blt (X := X.suite a ((a, o3) :: (X.pn ++ pins))) In3 hg hm hv q nm dbg
    have go : ∀ {hs' : List ExceptHandler} {l' : List (Value × Option Nat × TSA)}, ClsOk X hs' l' → wMA X.K Wout D l' cls d σ' H' →
        wpAny (model X.prog X.w) X.A (handleBy (.ref a) X.env hs') (SP X pins D) X.xe { s' with heap := h3 } := by
      intro hs' l' hk
      induction hk with
      | nil =>
        intro w
        refine wpAny_handleBy_nil ?_
        obtain ⟨_, _, _, oe, vs, T, oT, _, he, hz, hd, h1, hr⟩ := id land3
        unfold PySem.passOn
        refine wpAny_bind (wpAny_field he hd h1 ?_)
        rw [if_neg (show ¬ ((Value.ref T == Value.none) = true) from by simp)]
        have leave : wpAny (model X.prog X.w) X.A (setFlight (.ref a) X.env.frame) (fun _ s4 => wpAny (model X.prog X.w) X.A (throw (.ref a) : Sem Flow) (SP X pins D) X.xe s4) X.xe { s' with heap := h3 } := by
          rw [hfr0]
          refine HandSPX.setFlight_upZ land3 fun h4 hh4 u4 => wpAny_throw (tk _ _ ?_)
          exact ⟨a, B, s0, pins, σ', H', cls, d, rfl, I1, apart, (up.trans u3).trans u4, .inr (.inr (by rw [hst]; exact hh4)), na, os, ag, w⟩
        first
          | exact wpAny_bind (wpAny_pure (wpAny_bind leave))
          | exact wpAny_bind leave
      | @bare x c ts b₀ su np pos' hs2 l2 hc hsu r ih =>
        intro w
        obtain ⟨b, says, then_, else_⟩ := w
        refine wpAny_handleBy_cons (codeAny_handlers_test ?_) (by intro q; cases q)
        refine test hc ((PySem.W.exm_one (M := model X.prog X.w) I3.kIn looks says).here ?_)
        cases b with
        | false => exact ih (else_ rfl)
        | true =>
          refine codeAny_handlers_suite ?_
          refine HandSPX.lands_againZ land3 fun h4 land4 u4 => ?_
          have I4 : Inv X pins σ' H' { s' with heap := h4 } := I1.landed apart land4.1 ((up.trans u3).trans u4) os ag
          obtain ⟨o4, f4, g4, z4, k4⟩ := land4.there
          have In4 := I4.suite g4 k4 na offL offF
          refine wpAny_mono ((hsu a o4 cls d (X.pn ++ pins) z4 ⟨_, k4⟩).run [] _ _ H' _ In4 (then_ rfl a na)) (fun f s6 out => ?_) (fun _ _ z => False.elim z)
          cases f with
          | next => obtain ⟨σ6, H6, In6, q6⟩ := out; exact ⟨_, _, In6.unsuite ok, q6⟩
          | brk => obtain ⟨σ6, H6, In6, q6⟩ := out; exact ⟨_, _, In6.unsuite ok, q6⟩
          | cont => obtain ⟨σ6, H6, In6, q6⟩ := out; exact ⟨_, _, In6.unsuite ok, q6⟩
          | ret u => obtain ⟨v6, σ6, H6, In6, r6, q6⟩ := out; exact ⟨_, _, _, In6.unsuite ok, r6, q6⟩
      | @named x n i c ts b₀ su np pos' hs2 l2 hi hln hc hsu r ih =>
        intro w
        obtain ⟨b, says, then_, else_⟩ := w
        refine wpAny_handleBy_cons (codeAny_handlers_test ?_) (by intro q; cases q)
        refine test hc ((PySem.W.exm_one (M := model X.prog X.w) I3.kIn looks says).here ?_)
        cases b with
        | false => exact ih (else_ rfl)
        | true =>
          refine codeAny_handlers_suite_as ?_
          refine HandSPX.lands_againZ land3 fun h4 land4 u4 => ?_
          have I4 : Inv X pins σ' H' { s' with heap := h4 } := I1.landed apart land4.1 ((up.trans u3).trans u4) os ag
          obtain ⟨o4, f4, g4, z4, k4⟩ := land4.there
          have In4 := I4.suite g4 k4 na offL offF
          refine store_ok (X := X.suite a ((a, o4) :: (X.pn ++ pins))) (v := .ref a) In4 hN hi (.inl hln) rfl (fun s5 In5 => ?_) (.inr hln)
          refine wpAny_mono ((hsu a o4 cls d (X.pn ++ pins) z4 ⟨_, k4⟩).run [] s5 _ H' _ In5 (then_ rfl a na)) (fun f s6 out => ?_) (fun _ _ z => False.elim z)
          have end_ : ∀ {σ6 : L2.St} {H6 : Hp} {Q : Shared → Prop}, Inv (X.suite a ((a, o4) :: (X.pn ++ pins))) [] σ6 H6 s6 → (∀ s7, Inv X pins (σ6.set i none) H6 s7 → Q s7) →
              wpAny (model X.prog X.w) X.A (do bindName X.env n .none; unbindBehindTheSuite X.env n pos') (fun _ s7 => Q s7) X.xe s6 := fun In6 hq => gone_ok (In6.unsuite ok) hN hi hln hq
          cases f with
          | next => obtain ⟨σ6, H6, In6, q6⟩ := out; exact end_ In6 fun s7 J7 => ⟨_, _, J7, q6⟩
          | brk => obtain ⟨σ6, H6, In6, q6⟩ := out; exact end_ In6 fun s7 J7 => ⟨_, _, J7, q6⟩
          | cont => obtain ⟨σ6, H6, In6, q6⟩ := out; exact end_ In6 fun s7 J7 => ⟨_, _, J7, q6⟩
          | ret u => obtain ⟨v6, σ6, H6, In6, r6, q6⟩ := out; exact end_ In6 fun s7 J7 => ⟨_, _, _, J7, r6, q6⟩
    exact go hh w
end

/-! ### defs that are handed the error -/
/-- a def called in an except suite, told by the error: its address, its class, its dict -/
abbrev SpE := Addr → Value → Option Addr → Sp
structure FnE (P : Program) (w : World) (K : PySem.W.Frag) (mg : Str → Option Value) (base : Heap) (CX : CXT) (k : Nat) (f : Addr) (fd : FuncData) (ps : List Str) (sp : SpE) : Prop where
  len : ∀ a cls d vs H Q E, sp a cls d vs H Q E → vs.length = ps.length
  run : ∀ (A : Around) (outer : List Env) (s : Shared) (H : Hp) (args : Args) (us : List Value) (vs : List V) (Q : VK) (E : XK) (p : Addr × Obj) (cls : Value) (d : Option Addr), L2H.RoomH k A → L2H.PinOk outer H s p → Zc cls d p.2 → (∃ fs, p.2.data = .fields fs) →
    Env0 P w K mg base A outer s H → BindsTo s fd args (ps.zip us) → Vals vs us → sp p.1 cls d vs H Q E → codeAny (model P w) A (.call (.ref f) args) (CR CX outer P w H s Q E) s
section
variable {P : Program} {w : World} {K : PySem.W.Frag} {mg : Str → Option Value} {base : Heap}
theorem okE {CX : CXT} {name qual : Str} {st : Stmt} {f : Addr} {fd : FuncData} {N ps : List Str} {k : Nat} {sp : SpE} (F : Fun K name qual st f fd) (S : FnScope N ps (defScope st))
    (hlen : ∀ a cls d vs H Q E, sp a cls d vs H Q E → vs.length = ps.length)
    (hb : ∀ (cdv : Value) (A : Around) (outer : List Env) (s : Shared) (H : Hp) (vs : List V) (Q : VK) (E : XK) (p : Addr × Obj) (cls : Value) (d : Option Addr), Zc cls d p.2 → (∃ fs, p.2.data = .fields fs) →
      L2H.RoomH k (A.deeper (envOfC qual (defScope st) s.heap.objs.size f cdv)) → sp p.1 cls d vs H Q E →
      ∃ t, PSs (L2H.cxH CX P w K mg base N qual (defScope st) f cdv A outer s H E p) (defBody st) t ∧
        t { nx := fun _ H' => Q .non H', rt := Q } (start N vs) H) : FnE P w K mg base CX (k + 1) f fd ps sp := by
  obtain ⟨oc, od, kV, doc, pm, an, cdv, ct, osl, rfl, lk, hcd⟩ := F.ex
  refine ⟨hlen, fun A outer s H args us vs Q E p cls d room pin hz hf en bd rv want => ?_⟩
  have kin : K.In s.heap := en.mod.kin.keeps fun b o z => (en.bs b o z).1
  have nolim : s.heap.NoLimit := en.mod.nolimit.keeps fun b o z => (en.bs b o z).1
  have hl := hlen _ _ _ _ _ _ _ want
  refine Att.call_fn kin nolim lk hcd room.depth bd ?_ (fun s1 ic => ?_) S.co S.gen S.kind
  · refine List.all_eq_true.mpr fun y hy => ?_
    obtain ⟨a, b⟩ := y
    rcases S.par a (List.of_mem_zip hy).1 with z | z
    · simp [z]
    · simp [z]
  · obtain ⟨t, ht, hq⟩ := hb cdv A outer s H vs Q E p cls d hz hf (room.deeper _) want
    have I := L2H.inv_startH (CX := CX) (P := P) (w := w) (K := K) (mg := mg) (base := base) (E := E) S pin en hl rv ic
    refine wpAny_mono (ht.run [] s1 (start N vs) H _ I hq) (fun fl s' hs => ?_) (fun e s' hs => hs)
    cases fl with
    | ret u =>
      obtain ⟨v, σ', H', J, rr, q⟩ := hs
      exact ⟨v, H', J.os, J.bare, J.base, J.hok, rr, q⟩
    | next =>
      obtain ⟨σ', H', J, q⟩ := hs
      exact ⟨V.non, H', J.os, J.bare, J.base, J.hok, rfl, q⟩
    | brk =>
      obtain ⟨_, _, _, q⟩ := hs
      exact False.elim q
    | cont =>
      obtain ⟨_, _, _, q⟩ := hs
      exact False.elim q
end
section
variable {X : Cx} {CX : CXT} {k : Nat} {f : Addr} {fd : FuncData} {ps : List Str} {sp : SpE} {E : L2.St → XK} {x : Str} {q pos : Pos} {e : Expr} {es : List Expr} {t : TA} {a : Addr} {oe : Obj} {cls : Value} {d : Option Addr} {pn : List (Addr × Obj)}
theorem pe_callE (F : FnE X.prog X.w X.K X.mg X.base CX k f fd ps sp) (hr : L2H.RoomH k X.A) (hz : Zc cls d oe) (hf : ∃ vs, oe.data = .fields vs) (hg : Gl X x) (hm : X.mg x = some (.ref f)) (hk : PySem.W.keepIn X.K (.ref f) = true) (hb : Binds X.K fd ps [])
    (hx : ∀ σ, PassesAt CX (X.suite a ((a, oe) :: pn)) σ (E σ))
    (ha : PA (X.suite a ((a, oe) :: pn)) (e :: es) t) (hdb : (x == ("__debug__" : Str)) = false := by decide) (he : starEach (e :: es) X.env = (false, eval e X.env) :: starEach es X.env := by rfl) (hpl : (backTo pos (starEach es X.env)).any (·.1) = false := by rfl) :
    PE (X.suite a ((a, oe) :: pn)) (.Call (.Name x q) (e :: es) [] pos) (tCallS (sp a cls d) E t) := by
  constructor
  intro pins s σ H Q I want
  refine wpAny_Call_Name_kw (ld_glob (X := X.suite a ((a, oe) :: pn)) I hg hm ?_ hdb)
  refine PySem.W.callWith_K (h₀ := X.base) I.ok.mod.kin hk (thn (ha.run pos pins s σ H _ I want) ?_) he hpl
  rintro us s1 ⟨vs, H1, I1, rv, q⟩
  refine ⟨I1.kIn, ?_⟩
  have hl : us.length = ps.length := by
    rw [← rv.length]
    exact F.len _ _ _ _ _ _ _ q
  have b := hb s1 us I1.kIn (by rw [List.append_nil]; exact hl)
  rw [List.append_nil] at b
  have P1 := I1.pin (a, oe) (List.mem_append_left _ List.mem_cons_self)
  have pin : L2H.PinOk X.stack H1 s1 (a, oe) := ⟨P1.1, P1.2.1, fun hm => (List.mem_cons.mp (I1.stkSub a hm)).elim P1.2.2.1 P1.2.2.2.1, P1.2.2.2.2⟩
  refine wpAny_call (codeAny_mono (F.run (X.A.mark (some (.ref a))) X.stack s1 H1 ⟨us, []⟩ us vs Q (E σ) (a, oe) cls d ⟨hr.dp, hr.un⟩ pin hz hf I1.env0 b rv q) fun r s' hq => ?_)
  cases r with
  | error e => exact hx σ pins H1 s1 e s' I1 hq
  | ok fl =>
    cases fl with
    | ret u => exact I1.after hq
    | next => exact False.elim hq
    | brk => exact False.elim hq
    | cont => exact False.elim hq
/-- isinstance of an error that stands in the state, by its class -/
theorem cr_isE {X : Cx} {a D : Addr} {oe : Obj} (C : ExcC X.K D) (hm : (a, oe) ∈ X.pn) (hz : Zc (.ref D) none oe) (hf : ∃ vs, oe.data = .fields vs) : CallR X (.builtin "isinstance") (rIsE X.K D a) := by
  intro pins s σ H xs us Q I r h
  obtain ⟨c, cv, b, rfl, hcv, e, q⟩ := h
  cases r with
  | cons rx rr =>
    cases rr with
    | cons rt rr =>
      cases rr
      cases rx
      obtain rfl := hcv _ rt
      obtain ⟨hget, _⟩ := I.pin (a, oe) (List.mem_append.mpr (.inl hm))
      obtain ⟨vs, hv⟩ := hf
      obtain ⟨oc, od, oda, osl⟩ := oe
      obtain ⟨h1, h2⟩ := hz
      dsimp only at h1 h2 hv
      subst h1 h2 hv
      exact PySem.W.kia_one (PySem.W.handS_kitx_exc C.hg C.hk C.hs C.hd C.ha C.hn C.ht C.hm) I.kIn ⟨hget, rfl, rfl, trivial⟩ e (fun z => nomatch z) fun tk => ⟨.bl b, H, I.kept (t' := tk) fun _ _ z => z, rfl, q⟩
/-- a rule that is never asked -/
theorem cr_never {X : Cx} {f : Value} : CallR X f (fun _ _ _ => False) := fun _ _ _ _ _ _ _ _ _ h => False.elim h
theorem passE0 {X : Cx} {E : L2.St → XK} : ∀ σ, PassesAt CX0 X σ (E σ) := fun _ _ _ _ _ _ _ h => False.elim h
end
/-- isinstance by the class's line: what the written part tells of both -/
theorem kit_of {K : PySem.W.Frag} {C D : Addr} {b : Bool} (h : PySem.W.subIn K (.ref C) (.ref D) = some b) (hc : PySem.W.subIn K (.ref C) (.ref C) = some true) (i : PySem.W.isClsIn K D = true) (t : PySem.W.typeIn K (.ref D) = some (.type "type")) : PySem.W.kitOne K (.ref C) (.ref D) = some b := by
  have e : ((PySem.W.clsIn K D).isSome && PySem.W.typeIn K (.ref D) == some (.type "type")) = true := by
    have i' : (PySem.W.clsIn K D).isSome = true := i
    rw [i', t] <;> rfl
  unfold PySem.W.kitOne
  split
  · rename_i z
    obtain rfl : C = D := by simpa using z
    rw [hc] at h
    exact h
  · show (if ((PySem.W.clsIn K D).isSome && PySem.W.typeIn K (.ref D) == some (.type "type")) = true then PySem.W.subIn K (.ref C) (.ref D) else none) = some b
    rw [if_pos e]
    exact h
/-! ### a def picked out of data, called -/
structure HeldX (P : Program) (w : World) (K : PySem.W.Frag) (mg : Str → Option Value) (base : Heap) (k : Nat) (f : Addr) (sp : Sp) : Prop where
  ex : ∃ (fd : FuncData) (ps : List Str), FnOk P w K mg base (L2.CX P w) k f fd ps sp ∧ PySem.W.keepIn K (.ref f) = true ∧ Binds K fd ps []
def tCallP (S : Addr → Sp → Prop) (W : WX) (tf : TE) (t : TA) : TE := fun σ H Q => tf σ H fun v H1 => ∃ f sp, v = .ref f ∧ S f sp ∧ t σ H1 fun vs H2 => sp vs H2 Q (WE W σ)
section
variable {X : Cx} {k : Nat} {W : WX} {S : Addr → Sp → Prop} {fe e : Expr} {es : List Expr} {pos : Pos} {tf : TE} {t : TA}
theorem pe_callP (A : ∀ f sp, S f sp → HeldX X.prog X.w X.K X.mg X.base k f sp) (hr : Room k X.A) (tk : Takes X W) (hf : PE X fe tf) (ha : PA X (e :: es) t)
    (hc : eval (.Call fe (e :: es) [] pos) X.env = (do callWith pos (← eval fe X.env) [] (backTo pos (starEach (e :: es) X.env)) (backToKw pos (keywordEach [] X.env))) := by rfl)
    (he : starEach (e :: es) X.env = (false, eval e X.env) :: starEach es X.env := by rfl) (hpl : (backTo pos (starEach es X.env)).any (·.1) = false := by rfl) : PE X (.Call fe (e :: es) [] pos) (tCallP S W tf t) := by
  constructor
  intro pins s σ H Q I want
  refine Call_ (thn (hf.run pins s σ H _ I want) ?_) hc
  rintro u s1 ⟨v, H1, I1, rv, f, sp, rfl, hS, q⟩
  obtain rfl : u = Value.ref f := rv
  obtain ⟨fd, ps, F, hk, hb⟩ := (A f sp hS).ex
  refine PySem.W.callWith_K (h₀ := X.base) I.ok.mod.kin hk (thn (ha.run pos pins s1 σ H1 _ I1 q) ?_) he hpl
  rintro us s2 ⟨vs, H2, I2, r, q2⟩
  exact ⟨I2.kIn, run_fnS F hr hb (passAt tk σ) I2 r q2⟩
/-! ### list.count, flat items -/
def rCntF (K : PySem.W.Frag) : V → List V → Hp → VK → Prop := fun x xs H Q => ∃ (a : Addr) (ys : List V) (y : V), x = V.ref a ∧ xs = [y] ∧ SqL K H a ys ∧ flatV y = true ∧ ys.all flatV = true ∧ Q (.int ((ys.countP fun z => eqV z y : Nat) : Int)) H
theorem countP_eq {y : V} {uy : Value} : ∀ {ys : List V} {its : List Value}, Vals ys its → (∀ z u, z ∈ ys → RelV z u → eqU y u = eqV z y) → its.countP (eqU y) = ys.countP fun z => eqV z y := by
  intro ys its r
  induction r with
  | nil => intro _; rfl
  | cons r rs ih =>
    intro h
    rw [List.countP_cons, List.countP_cons, ih fun z' u' hz => h z' u' (List.mem_cons_of_mem _ hz), h _ _ (List.mem_cons_self ..) r]
theorem mt_cntF : MtR X "list.count" (rCntF X.K) := by
  intro pins s σ H x xs v us Q I rx rxs h
  obtain ⟨a, ys, y, rfl, rfl, hs, fy, fys, q⟩ := h
  cases rx
  cases rxs with
  | cons ry rt =>
    rename_i uy ut
    cases rt
    obtain ⟨its, rv, ⟨⟨cls, dd, data, sl⟩, n, ho, hc, hdn, hd⟩, hlen⟩ := I.list hs
    simp only at hc hd
    subst hc hd
    refine call_meets PySem.F.slot_list_count ⟨_, ho, rfl⟩ PySem.F.entry_list_count (PySem.F.args_list_count_2 _ _)
      (SeqAt.list_countAt a its.toArray n dd sl uy (eqU y)) ⟨ho, fun u' hu' => mem_eqAt ry fy rv fys u' (by simpa using hu'), ?_⟩
    have e : its.toArray.toList.countP (eqU y) = ys.countP fun z => eqV z y := countP_eq (uy := uy) rv fun z u hz r => eqU_of r (List.all_eq_true.mp fys z hz)
    refine ⟨.int ((ys.countP fun z => eqV z y : Nat) : Int), H, I.tok _, ⟨s.toks, ?_⟩, q⟩
    show Value.int ((its.toArray.toList.countP (eqU y) : Nat) : Int) s.toks = Value.int (((ys.countP fun z => eqV z y : Nat)) : Int) s.toks
    rw [e]
end
end Rp
/-! Ev: own errors over any built-in one, whose __init__ keeps a value: made, raised, the value read. The library's rules (ExcInit) speak of ValueError alone. -/
namespace Rp
open PySem PySem.Spec L2 PyProof.Rows
/-- what the written part says of such a class -/
structure OexB (K : PySem.W.Frag) (C : Addr) : Prop where
  base : ∃ (B newId initId : String) (bmB : List Value), ExcBaseFacts B newId initId bmB ∧ StoreFacts B bmB "object.__setattr__" "object" ∧ PySem.W.excInitIn K C bmB newId = true ∧ PySem.W.excOver K C bmB = true
  hd : PySem.W.hasDictIn K C = true
  sa : PySem.W.findIn K (.ref C) "__setattr__" = some (some (.builtin "object.__setattr__"))
  exC : PySem.W.subIn K (.ref C) (.type "BaseException") = some true
  tyC : PySem.W.typeIn K (.ref C) = some (.type "type")
  kC : PySem.W.keepIn K (.ref C) = true
theorem upd_swap {H : Hp} {a b : Addr} {o u v : HO} (n : b ≠ a) : upd (upd (upd H b o) a u) b v = upd (upd H b v) a u := by
  funext c
  by_cases h1 : c = b
  · subst h1
    rw [upd_same, upd_ne n, upd_same]
  · rw [upd_ne h1]
    by_cases h2 : c = a
    · subst h2
      rw [upd_same, upd_same]
    · rw [upd_ne h2, upd_ne h2, upd_ne h1, upd_ne h1]
section
variable {X : Cx} {pins : List (Addr × Obj)} {σ : L2.St} {H : Hp} {s : Shared} {a C : Addr} {f : Str} {y : V} {u : Value} {Q : Unit → Shared → Prop} {E : Value → Shared → Prop} {A : Around}
/-- self.f = y, the first field of an error that is being made -/
theorem keep_new (T : OexB X.K C) (I : Inv X pins σ H s) (e : H a = some (exo a C none)) (hno : PySem.W.findIn X.K (.ref C) f = some none) (ry : RelV y u)
    (h : ∀ dx s', H dx = none → dx ≠ a → Inv X pins σ (upd (upd H dx (exd dx [(f, y)])) a (exo a C (some dx))) s' → Q () s') : wpAny (model X.prog X.w) A (setAttr (.ref a) f u) Q E s := by
  obtain ⟨B, newId, initId, bmB, FB, SF, qi, qo⟩ := T.base
  obtain ⟨t1, ho⟩ := exo_at I.hok e
  obtain ⟨cd, hc, hcd⟩ := PySem.W.any_some T.hd
  obtain ⟨hp, g, d, t, os⟩ := s
  have tk0 : PySem.W.takerIn X.K C f = some none := by
    unfold PySem.W.takerIn
    rw [hno]
    rfl
  have inst : PySem.W.InstAt hp a { cls := .ref C, dict := none, data := .fields #[.ref t1, .none, .none, .none, .bool false, .none] } C none := ⟨ho, rfl, rfl, trivial⟩
  refine PySem.W.set_plain I.kIn (od := none) inst T.sa (PySem.W.osa_openX (od := none) SF I.kIn inst qo tk0 fun b => ?_)
  show wpAny _ _ (Builtin.ObjectAttr.storeInOwnDict (.ref a) (.ref C) (.str f t) f u b) _ _ _
  have fresh : H hp.objs.size = none := I.hok.fresh (Nat.le_refl _)
  have ne : a ≠ hp.objs.size := Nat.ne_of_lt (Heap.lt_size ho)
  refine wpAny_bind (wpAny_pure (wpAny_bind (PySem.W.instanceDict_exc (t := t1) (c2 := .none) ho (PySem.W.looks_clsIn I.kIn hc) hcd ?_)))
  -- the dict is new, the object gets it
  have I1 := I.laid (t' := t + 1) (a := hp.objs.size) (o := exd hp.objs.size []) (h' := hp.push (PySem.W.dictOf [] 0)) (fun b u e => Heap.get?_push_of_some _ e) (Nat.le_refl _)
    (exd_ok (Heap.Ns1.of_empty ⟨_, #[], 0, Heap.get?_push_size _ rfl, rfl, fun e he => absurd he (by simp), fun _ => rfl⟩) fun _ => True.intro)
  have e1 : upd H hp.objs.size (exd hp.objs.size []) a = some (exo a C none) := by
    rw [upd_ne ne]
    exact e
  have ha1 : (hp.push (PySem.W.dictOf [] 0)).get? a = some { cls := .ref C, dict := none, data := .fields #[.ref t1, .none, .none, .none, .bool false, .none] } := Heap.get?_push_of_some _ ho
  have ha2 : ((hp.push (PySem.W.dictOf [] 0)).update a fun o => { o with dict := some hp.objs.size }).get? a = some { cls := .ref C, dict := some hp.objs.size, data := .fields #[.ref t1, .none, .none, .none, .bool false, .none] } := Heap.get?_update_self _ ha1 rfl
  have I2 := I1.write (t' := t + 1) (x := a) (e := a) (o := exo a C (some hp.objs.size)) (h' := (hp.push (PySem.W.dictOf [] 0)).update a fun o => { o with dict := some hp.objs.size }) (by rw [e1]; exact True.intro) (.inl rfl)
    (fun b u n z => (Heap.get?_update_ne _ _ _ _ n).trans z) ⟨_, ha2⟩ (exo_ok ha2)
  have hdx : ((hp.push (PySem.W.dictOf [] 0)).update a fun o => { o with dict := some hp.objs.size }).Ns hp.objs.size fun _ => none :=
    ⟨_, #[], 0, (Heap.get?_update_ne _ _ _ _ ne.symm).trans (Heap.get?_push_size _ rfl), rfl, fun e he => absurd he (by simp), fun _ => rfl⟩
  show wpAny _ _ (Builtin.ObjectAttr.storeInDict hp.objs.size (.str f t) f u) _ _ _
  refine PySem.HandSPX.store_in_new hdx fun h' tk' hn hs => ?_
  have ed : upd (upd H hp.objs.size (exd hp.objs.size [])) a (exo a C (some hp.objs.size)) hp.objs.size = some (exd hp.objs.size []) := by
    rw [upd_ne ne.symm, upd_same]
  have I3 := I2.write (t' := tk') (x := hp.objs.size) (e := hp.objs.size) (o := exd hp.objs.size [(f, y)]) (h' := h') (by rw [ed]; exact True.intro) (.inl rfl) (fun b u n z => (hs.2 b n).trans z)
    (by obtain ⟨o, _, _, z, _⟩ := hn; exact ⟨o, z⟩) (exd_ok hn (relO_put (fs := []) ry fun _ => True.intro))
  rw [upd_swap ne.symm] at I3
  exact h _ _ fresh ne.symm I3
end
/-- self.f = e in an error's __init__ -/
def tKeepF (K : PySem.W.Frag) (f : Str) (to te : TE) : TS := fun D σ H => te σ H fun y H1 => to σ H1 fun x H2 => ∃ a C : Addr, x = .ref a ∧ OexB K C ∧ PySem.W.findIn K (.ref C) f = some none ∧
  H2 a = some (exo a C none) ∧ ∀ dx, H2 dx = none → dx ≠ a → D.nx σ (upd (upd H2 dx (exd dx [(f, y)])) a (exo a C (some dx)))
section
variable {X : Cx} {o e : Expr} {es : List Expr} {to te : TE} {ta : TA} {f : Str} {p p' pos : Pos}
theorem ps_keepF (ho : PE X o to) (he : PE X e te) (hs : swapsWith e (some (.Attribute o f p')) pos.line X.env = pure false := by rfl) : PS X (.Assign [.Attribute o f p'] e pos) (tKeepF X.K f to te) := by
  constructor
  intro pins s σ H D I want
  refine plainObj_wpAny_Assign_Attribute (thn (he.run pins s σ H _ I want) ?_) hs
  rintro v s1 ⟨y, H1, I1, r1, q1⟩
  refine thn (ho.run pins s1 σ H1 _ I1 q1) ?_
  rintro u s2 ⟨x, H2, I2, r2, a, C, rfl, T, hno, ea, q⟩
  obtain rfl : u = Value.ref a := r2
  exact keep_new T I2 ea hno r1 fun dx s' n ne J => ⟨σ, _, J, q dx n ne⟩
/-- what an __init__ that keeps its argument promises -/
def spKeep (C : Addr) (f : Str) : Sp := fun vs H Q _ => ∃ (a : Addr) (y : V), vs = [.ref a, y] ∧ H a = some (exo a C none) ∧ ∀ dx, H dx = none → dx ≠ a → Q .non (upd (upd H dx (exd dx [(f, y)])) a (exo a C (some dx)))
/-- C(e), the error as it is raised: its dict keeps the value -/
def tKeep (C : Addr) (f : Str) (ta : TA) : L2.St → Hp → XK → Prop := fun σ H Q => ta σ H fun vs H1 => ∃ y, vs = [y] ∧ ∀ d, H1 d = none → Q (.ref C) (some d) (upd H1 d (.xd [(f, y)]))
theorem pmk_keep {CX : CXT} {x : Str} {C fI : Addr} {k : Nat} {fd : FuncData} {ps : List Str} (T : OexB X.K C) (iC : PySem.W.findIn X.K (.ref C) "__init__" = some (some (.ref fI))) (tI : PySem.W.typeIn X.K (.ref fI) = some (.type "function"))
    (F1 : FnOk X.prog X.w X.K X.mg X.base CX k fI fd ps (spKeep C f)) (hr : Room (k + 1) X.A) (hb : Binds X.K fd ps []) (hx : Passes CX X (fun _ _ _ => False)) (hg : Gl X x) (hm : X.mg x = some (.ref C)) (ha : PA X (e :: es) ta)
    (hdb : (x == ("__debug__" : Str)) = false := by decide) (he : starEach (e :: es) X.env = (false, eval e X.env) :: starEach es X.env := by rfl) (hpl : (backTo pos (starEach es X.env)).any (·.1) = false := by rfl) :
    PMk X (.Call (.Name x p) (e :: es) [] pos) (tKeep C f ta) := by
  intro pins s σ H Q I want
  obtain ⟨B, newId, initId, bmB, FB, SF, qi, qo⟩ := T.base
  refine wpAny_Call_Name_kw (ld_glob I hg hm ?_ hdb)
  refine PySem.W.callWith_K (h₀ := X.base) I.ok.mod.kin T.kC (thn (ha.run pos pins s σ H _ I want) ?_) he hpl
  rintro us s1 ⟨vs, H1, I1, r1, y, rfl, q1⟩
  refine ⟨I1.kIn, ?_⟩
  show wpAny _ _ (call (.ref C) us) _ _ _
  obtain ⟨u, rfl, ru⟩ := vals1 r1
  obtain ⟨nm, N, qn, bs, bm, hdct, sn, sub, ab, col, dd, k0, k1, k2, k3, k5, hC, hT⟩ := PySem.W.excInit_of I1.kIn qi
  obtain ⟨hp, g, dr, tk, os⟩ := s1
  have up : hp.objs.size ≤ hp.objs.size + 1 := Nat.le_succ _
  have fresh : H1 (hp.objs.size + 1) = none := I1.hok.fresh up
  have kk : ∀ b o, hp.get? b = some o → ((hp.push (PySem.W.kdv_tup [u])).push (PySem.HandSPX.excO C hp.objs.size)).get? b = some o := fun b o e => Heap.get?_push_of_some _ (Heap.get?_push_of_some _ e)
  have hget : ((hp.push (PySem.W.kdv_tup [u])).push (PySem.HandSPX.excO C hp.objs.size)).get? (hp.objs.size + 1) = some (PySem.HandSPX.excO C hp.objs.size) := by heap_get
  have I2 := I1.laid (t' := tk) (a := hp.objs.size + 1) (o := exo (hp.objs.size + 1) C none) (h' := (hp.push (PySem.W.kdv_tup [u])).push (PySem.HandSPX.excO C hp.objs.size)) kk up (exo_ok hget)
  have r2 : Vals [V.ref (hp.objs.size + 1), y] [Value.ref (hp.objs.size + 1), u] := .cons rfl (.cons ru .nil)
  have hq : spKeep C f [V.ref (hp.objs.size + 1), y] (upd H1 (hp.objs.size + 1) (exo (hp.objs.size + 1) C none))
      (fun v H2 => v = .non ∧ ∃ (d : Addr) (fs : List (Str × V)), H2 (hp.objs.size + 1) = some (exo (hp.objs.size + 1) C (some d)) ∧ H2 d = some (exd d fs) ∧ H1 d = none ∧ Q (.ref C) (some d) (upd (del H2 (hp.objs.size + 1)) d (.xd fs))) (fun _ _ _ => False) := by
    refine ⟨_, y, rfl, upd_same, fun dx n ne => ⟨rfl, dx, [(f, y)], upd_same, by rw [upd_ne ne, upd_same], by rw [upd_ne ne] at n; exact n, ?_⟩⟩
    have n1 : H1 dx = none := by rw [upd_ne ne] at n; exact n
    have e : upd (del (upd (upd (upd H1 (hp.objs.size + 1) (exo (hp.objs.size + 1) C none)) dx (exd dx [(f, y)])) (hp.objs.size + 1) (exo (hp.objs.size + 1) C (some dx))) (hp.objs.size + 1)) dx (.xd [(f, y)]) = upd H1 dx (.xd [(f, y)]) := by
      funext b
      by_cases h1 : b = dx
      · subst h1
        rw [upd_same, upd_same]
      · rw [upd_ne h1, upd_ne h1]
        by_cases h2 : b = hp.objs.size + 1
        · subst h2
          rw [del_same, fresh]
        · rw [del_ne h2, upd_ne h2, upd_ne h1, upd_ne h2]
    rw [e]
    exact q1 dx n1
  have hl : [Value.ref (hp.objs.size + 1), u].length = ps.length := by
    have z := F1.len _ _ _ _ hq
    rw [← z]
    rfl
  have room := hr.make C [u] []
  refine wpAny_call (PySem.HandSPX.call_own FB hT hC (PySem.W.looks_findIn I1.kIn iC) (fun self => PySem.W.bind_fn I1.kIn self tI) (by rw [sizeLine_eq]; simp)
    (codeAny_mono (F1.run _ X.stack _ _ ⟨[Value.ref (hp.objs.size + 1), u], []⟩ [Value.ref (hp.objs.size + 1), u] _ _ (fun _ _ _ => False) (hr.make C [u] []) (I2.env0.make C [u] [])
      (by have z := hb _ [Value.ref (hp.objs.size + 1), u] I2.kIn (by rw [List.append_nil]; exact hl); rw [List.append_nil] at z; exact z) r2 hq) fun r s' hq' => ?_))
  cases r with
  | error er => exact hx pins σ _ _ er s' I2 hq'
  | ok fl =>
    cases fl with
    | ret v0 =>
      obtain ⟨v, H2, os2, bare2, un2, hok2, rv, rfl, d, fs, ea, ed, hd1, q2⟩ := hq'
      obtain ⟨h2, g2, d2, t2, os'⟩ := s'
      exact ⟨rv, mk_end (raises_own T.exC T.tyC) I1 up kk un2 hok2 os2 bare2 ea ed hd1 q2⟩
    | next => exact False.elim hq'
    | brk => exact False.elim hq'
    | cont => exact False.elim hq'
end
/-! ### an error that keeps a value: its field, isinstance; (a, oe) stands in the state -/
/-- isinstance(e, c) of such an error -/
def rIsX (K : PySem.W.Frag) (a : Addr) (cls : Value) (d : Option Addr) : List V → Hp → VK → Prop := fun xs H Q => ∃ (c : V) (cv : Value) (b : Bool) (D dx : Addr) (fs : List (Str × V)), xs = [.ref a, c] ∧ (∀ u, RelV c u → u = cv) ∧ cls = .ref D ∧ L2.ExcC K D ∧
  d = some dx ∧ H dx = some (.xd fs) ∧ PySem.W.kitOne K (.ref D) cv = some b ∧ Q (.bl b) H
/-- e.f of such an error -/
def tXfM (a : Addr) (cls : Value) (d : Option Addr) (C : Addr) (f : Str) (te : TE) : TE := fun σ H Q => te σ H fun x H1 => x = .ref a ∧ cls = .ref C ∧ ∃ (dd : Addr) (fs : List (Str × V)) (v : V), d = some dd ∧ H1 dd = some (.xd fs) ∧ fs.lookup f = some v ∧ Q v H1
section
variable {X : Cx} {a : Addr} {oe : Obj} {cls : Value} {d : Option Addr}
theorem cr_isED (hm : (a, oe) ∈ X.pn) (hz : Zc cls d oe) (hf : ∃ vs, oe.data = .fields vs) : CallR X (.builtin "isinstance") (rIsX X.K a cls d) := by
  intro pins s σ H xs us Q I r h
  obtain ⟨c, cv, b, D, dx, fs, rfl, hcv, rfl, C, rfl, hx, e, q⟩ := h
  cases r with
  | cons rx rr =>
    cases rr with
    | cons rt rr =>
      cases rr
      cases rx
      obtain rfl := hcv _ rt
      obtain ⟨hget, _⟩ := I.pin (a, oe) (List.mem_append.mpr (.inl hm))
      have ok : ObjOk X.prog X.w H s.heap dx (.xd fs) := I.hok dx _ hx
      obtain ⟨mA, ⟨od, es, ep, hod, _⟩, _⟩ := ok
      obtain ⟨vs, hv⟩ := hf
      obtain ⟨oc, ody, oda, osl⟩ := oe
      obtain ⟨z1, z2⟩ := hz
      dsimp only at z1 z2 hv
      subst z1 z2 hv
      have hcl : (PySem.W.clsIn X.K D).isSome = true := by
        obtain ⟨cd, hc, _⟩ := PySem.W.any_some C.hd
        rw [hc]
        rfl
      have J : PySem.W.InstAt s.heap a { cls := .ref D, dict := some dx, data := .fields vs, slots := osl } D (some od) := ⟨hget, rfl, rfl, hod⟩
      exact PySem.W.kia_one (PySem.W.kitx_exc hcl C.hg C.hk C.hs C.ha C.hn C.ht C.hm) I.kIn J e (fun z => nomatch z) fun tk => ⟨.bl b, H, I.kept (t' := tk) fun _ _ z => z, rfl, q⟩
theorem pe_xfM {C : Addr} {e : Expr} {te : TE} {pos : Pos} {n : Str} (T : XfC X.K C) (hno : PySem.W.findIn X.K (.ref C) n = some none) (hm : (a, oe) ∈ X.pn) (hz : Zc cls d oe) (hf : ∃ vs, oe.data = .fields vs) (he : PE X e te) (hb : attributeBase e n X.env (eval e X.env) = eval e X.env := by rfl) :
    PE X (.Attribute e n pos) (tXfM a cls d C n te) := by
  constructor
  intro pins s σ H Q I want
  refine attr_of hb (thn (he.run pins s σ H _ I want) ?_)
  rintro u s1 ⟨x, H1, I1, rx, rfl, rfl, dd, fs, v, rfl, ea, l, q⟩
  obtain rfl : u = Value.ref a := rx
  obtain ⟨ha, _⟩ := I1.pin (a, oe) (List.mem_append_left _ hm)
  obtain ⟨vs, hd⟩ := hf
  have ok : ObjOk X.prog X.w H1 s1.heap dd (.xd fs) := I1.hok dd _ ea
  obtain ⟨mA, hns, hr⟩ := ok
  obtain ⟨od, ho, hl⟩ := lookIn_ns hns
  obtain ⟨u, hu, ru⟩ := RelO.some_of (v := v) (o := mA n) (by rw [← l]; exact hr n)
  have J : PySem.W.InstAt s1.heap a oe C (some od) := ⟨ha, hz.1, by unfold PySem.W.notCls; rw [hd] <;> rfl, by rw [hz.2]; exact ho⟩
  exact HandSPX.exc_get I1.kIn J T.ga T.gg T.exC (PySem.W.findObj_own T.hdC hno rfl (by rw [hl, hu])) (handed_of ru) ⟨v, H1, I1.tok _, ru, q⟩
end
end Rp
/-! Td: the mathematics of the tidy form of a job: its shape, done twice is done once, steps, net and lowest usage stay. -/
namespace Lw
open PySem L2 Rp
mutual
def J.beq : J → J → Bool
  | .st i, .st j => i == j
  | .ps k xs, .ps l ys => k == l && J.beqL xs ys
  | .rn k n x, .rn l m y => k == l && n == m && x.beq y
  | _, _ => false
def J.beqL : List J → List J → Bool
  | [], [] => true
  | x :: xs, y :: ys => x.beq y && J.beqL xs ys
  | _, _ => false
end
mutual
theorem J.beq_refl : ∀ a : J, a.beq a = true
  | .st i => by simp [J.beq]
  | .ps k xs => by simp [J.beq, J.beqL_refl xs]
  | .rn k n x => by simp [J.beq, J.beq_refl x]
theorem J.beqL_refl : ∀ xs : List J, J.beqL xs xs = true
  | [] => by simp [J.beqL]
  | x :: xs => by simp [J.beqL, J.beq_refl x, J.beqL_refl xs]
end
mutual
theorem J.beq_eq : ∀ a b : J, a.beq b = true → a = b
  | .st i, .st j, h => by simp only [J.beq, beq_iff_eq] at h; rw [h]
  | .ps k xs, .ps l ys, h => by
    simp only [J.beq, Bool.and_eq_true, beq_iff_eq] at h
    rw [h.1, J.beqL_eq xs ys h.2]
  | .rn k n x, .rn l m y, h => by
    simp only [J.beq, Bool.and_eq_true, beq_iff_eq] at h
    rw [h.1.1, h.1.2, J.beq_eq x y h.2]
  | .st _, .ps _ _, h => by simp [J.beq] at h
  | .st _, .rn _ _ _, h => by simp [J.beq] at h
  | .ps _ _, .st _, h => by simp [J.beq] at h
  | .ps _ _, .rn _ _ _, h => by simp [J.beq] at h
  | .rn _ _ _, .st _, h => by simp [J.beq] at h
  | .rn _ _ _, .ps _ _, h => by simp [J.beq] at h
theorem J.beqL_eq : ∀ xs ys : List J, J.beqL xs ys = true → xs = ys
  | [], [], _ => rfl
  | x :: xs, y :: ys, h => by
    simp only [J.beqL, Bool.and_eq_true] at h
    rw [J.beq_eq x y h.1, J.beqL_eq xs ys h.2]
  | [], _ :: _, h => by simp [J.beqL] at h
  | _ :: _, [], h => by simp [J.beqL] at h
end
theorem J.beq_iff {a b : J} : a.beq b = true ↔ a = b := ⟨J.beq_eq a b, fun e => by rw [e]; exact J.beq_refl b⟩
/-! ### equal parallel parts as copies -/
def keyOf : J → Int × J
  | .rn true n x => (n, x)
  | j => (1, j)
def addG (n : Int) (x : J) : List (Int × J) → List (Int × J)
  | [] => [(n, x)]
  | (m, y) :: r => if y.beq x = true then (m + n, y) :: r else (m, y) :: addG n x r
def groupG : List (Int × J) → List J → List (Int × J)
  | acc, [] => acc
  | acc, p :: ps => groupG (addG (keyOf p).1 (keyOf p).2 acc) ps
def unkey (p : Int × J) : J := if p.1 = 1 then p.2 else .rn true p.1 p.2
def grouped (ps : List J) : List J := (groupG [] ps).map unkey
/-! ### the tidy form -/
def isE : J → Bool
  | .ps false [] => true
  | _ => false
def flatP (k : Bool) : J → List J
  | .ps l ys => if l = k then ys else if isE (.ps l ys) = true then [] else [.ps l ys]
  | j => [j]
def wrapP (k : Bool) : List J → J
  | [] => .ps false []
  | [x] => x
  | x :: y :: r => .ps k (x :: y :: r)
def tidyPs (k : Bool) (ps : List J) : J := wrapP k (if k = true then grouped (ps.flatMap (flatP k)) else ps.flatMap (flatP k))
def tidyRn (k : Bool) (n : Int) (x : J) : J := if n = 0 ∨ isE x = true then .ps false [] else
  match x with
  | .rn l m y => if l = k then .rn k (n * m) y else if n = 1 then x else .rn k n x
  | x => if n = 1 then x else .rn k n x
mutual
def J.tidy : J → J
  | .st i => .st i
  | .ps k xs => tidyPs k (J.tidyL xs)
  | .rn k n x => tidyRn k n x.tidy
def J.tidyL : List J → List J
  | [] => []
  | x :: xs => x.tidy :: J.tidyL xs
end
theorem J.tidyL_map : ∀ xs : List J, J.tidyL xs = xs.map J.tidy
  | [] => by simp [J.tidyL]
  | x :: xs => by simp [J.tidyL, J.tidyL_map xs]
/-! ### its shape -/
def notK (k : Bool) (y : J) : Prop := ∀ zs, y ≠ .ps k zs
def notR (k : Bool) (y : J) : Prop := ∀ m z, y ≠ .rn k m z
mutual
def J.nf : J → Prop
  | .st _ => True
  | .ps k ys => J.nfL ys ∧ (∀ y ∈ ys, notK k y ∧ isE y = false) ∧ (2 ≤ ys.length ∨ (k = false ∧ ys = [])) ∧ (k = true → (ys.map fun y => (keyOf y).2).Nodup)
  | .rn k n x => x.nf ∧ 2 ≤ n ∧ isE x = false ∧ notR k x
def J.nfL : List J → Prop
  | [] => True
  | x :: xs => x.nf ∧ J.nfL xs
end
theorem nfL_iff : ∀ {xs : List J}, J.nfL xs ↔ ∀ x ∈ xs, x.nf
  | [] => by simp [J.nfL]
  | x :: xs => by simp [J.nfL, nfL_iff (xs := xs)]
/-! counts that are not below 0 -/
mutual
def J.nn : J → Prop
  | .st _ => True
  | .ps _ ys => J.nnL ys
  | .rn _ n x => 0 ≤ n ∧ x.nn
def J.nnL : List J → Prop
  | [] => True
  | x :: xs => x.nn ∧ J.nnL xs
end
theorem nnL_iff : ∀ {xs : List J}, J.nnL xs ↔ ∀ x ∈ xs, x.nn
  | [] => by simp [J.nnL]
  | x :: xs => by simp [J.nnL, nnL_iff (xs := xs)]
theorem nf_E : J.nf (.ps false []) := by
  simp [J.nf, J.nfL]
theorem isE_iff {x : J} : isE x = true ↔ x = .ps false [] := by
  cases x with
  | st i => simp [isE]
  | rn k n x => simp [isE]
  | ps k ys =>
    cases k with
    | true => simp [isE]
    | false =>
      cases ys with
      | nil => simp [isE]
      | cons y ys => simp [isE]
/-- the groups that come out -/
structure GI (l : List (Int × J)) : Prop where
  all : ∀ p ∈ l, p.2.nf ∧ isE p.2 = false ∧ notR true p.2 ∧ 1 ≤ p.1 ∧ (p.1 = 1 → notK true p.2)
  nd : (l.map (·.2)).Nodup
theorem addG_old {n : Int} {x : J} : ∀ {l : List (Int × J)}, x ∈ l.map (·.2) → (addG n x l).map (·.2) = l.map (·.2)
  | [], h => by simp at h
  | (m, y) :: r, h => by
    simp only [addG]
    by_cases e : y = x
    · subst e
      rw [if_pos (J.beq_refl y)]
      rfl
    · rw [if_neg (fun z => e (J.beq_eq _ _ z)), List.map_cons, List.map_cons]
      rcases List.mem_cons.mp h with z | z
      · exact absurd z.symm e
      · rw [addG_old z]
theorem addG_new {n : Int} {x : J} : ∀ {l : List (Int × J)}, x ∉ l.map (·.2) → addG n x l = l ++ [(n, x)]
  | [], _ => rfl
  | (m, y) :: r, h => by
    simp only [List.map_cons, List.mem_cons, not_or] at h
    simp only [addG]
    rw [if_neg (fun z => h.1 (J.beq_eq _ _ z).symm), addG_new h.2]
    rfl
theorem addG_all {n : Int} {x : J} (hx : x.nf ∧ isE x = false ∧ notR true x ∧ 1 ≤ n ∧ (n = 1 → notK true x)) : ∀ {l : List (Int × J)}, (∀ p ∈ l, p.2.nf ∧ isE p.2 = false ∧ notR true p.2 ∧ 1 ≤ p.1 ∧ (p.1 = 1 → notK true p.2)) →
    ∀ p ∈ addG n x l, p.2.nf ∧ isE p.2 = false ∧ notR true p.2 ∧ 1 ≤ p.1 ∧ (p.1 = 1 → notK true p.2)
  | [], _, p, hp => by
    simp only [addG, List.mem_singleton] at hp
    subst hp
    exact hx
  | (m, y) :: r, h, p, hp => by
    have h0 := h (m, y) (List.mem_cons_self ..)
    have hr := fun p hp => h p (List.mem_cons_of_mem _ hp)
    simp only [addG] at hp
    split at hp
    · rcases List.mem_cons.mp hp with rfl | hp
      · exact ⟨h0.1, h0.2.1, h0.2.2.1, by have := h0.2.2.2.1; have := hx.2.2.2.1; dsimp only at *; omega, fun z => by have := h0.2.2.2.1; have := hx.2.2.2.1; dsimp only at *; omega⟩
      · exact hr p hp
    · rcases List.mem_cons.mp hp with rfl | hp
      · exact h0
      · exact addG_all hx hr p hp
theorem GI.add {n : Int} {x : J} {l : List (Int × J)} (g : GI l) (hx : x.nf ∧ isE x = false ∧ notR true x ∧ 1 ≤ n ∧ (n = 1 → notK true x)) : GI (addG n x l) := by
  refine ⟨addG_all hx g.all, ?_⟩
  by_cases h : x ∈ l.map (·.2)
  · rw [addG_old h]
    exact g.nd
  · rw [addG_new h, List.map_append]
    rw [List.nodup_append]
    refine ⟨g.nd, by simp, ?_⟩
    intro a ha b hb e
    have hb' : b = x := by simpa using hb
    subst e
    subst hb'
    exact h ha
/-- a part that may stand in a tidy parallel job -/
def PartOk (y : J) : Prop := y.nf ∧ notK true y ∧ isE y = false
theorem key_ok {y : J} (h : PartOk y) : (keyOf y).2.nf ∧ isE (keyOf y).2 = false ∧ notR true (keyOf y).2 ∧ 1 ≤ (keyOf y).1 ∧ ((keyOf y).1 = 1 → notK true (keyOf y).2) := by
  obtain ⟨h1, h2, h3⟩ := h
  cases y with
  | st i => exact ⟨h1, h3, (fun m z e => by cases e), Int.le_refl 1, fun _ => h2⟩
  | ps k ys => exact ⟨h1, h3, (fun m z e => by cases e), Int.le_refl 1, fun _ => h2⟩
  | rn k n x =>
    cases k with
    | true =>
      simp only [J.nf] at h1
      exact ⟨h1.1, h1.2.2.1, h1.2.2.2, by show 1 ≤ n; omega, fun e => by have e' : n = 1 := e; omega⟩
    | false => exact ⟨h1, h3, (fun m z e => by cases e), Int.le_refl 1, fun _ => h2⟩
theorem gi_group : ∀ (ps : List J) (acc : List (Int × J)), GI acc → (∀ p ∈ ps, PartOk p) → GI (groupG acc ps)
  | [], _, g, _ => g
  | p :: ps, acc, g, h => gi_group ps (addG (keyOf p).1 (keyOf p).2 acc) (g.add (key_ok (h p (List.mem_cons_self ..)))) fun q hq => h q (List.mem_cons_of_mem _ hq)
theorem unkey_ok {p : Int × J} (h : p.2.nf ∧ isE p.2 = false ∧ notR true p.2 ∧ 1 ≤ p.1 ∧ (p.1 = 1 → notK true p.2)) : PartOk (unkey p) ∧ keyOf (unkey p) = p := by
  obtain ⟨n, x⟩ := p
  obtain ⟨h1, h2, h3, h4, h5⟩ := h
  dsimp only at *
  unfold unkey
  dsimp only
  by_cases e : n = 1
  · subst e
    rw [if_pos rfl]
    refine ⟨⟨h1, h5 rfl, h2⟩, ?_⟩
    cases x with
    | rn k m z =>
      cases k with
      | true => exact absurd rfl (h3 m z)
      | false => rfl
    | st i => rfl
    | ps k ys => rfl
  · rw [if_neg e]
    refine ⟨⟨?_, (fun zs z => by cases z), rfl⟩, rfl⟩
    simp only [J.nf]
    exact ⟨h1, by omega, h2, h3⟩
theorem grouped_ok {ps : List J} (h : ∀ p ∈ ps, PartOk p) : (∀ y ∈ grouped ps, PartOk y) ∧ ((grouped ps).map fun y => (keyOf y).2).Nodup := by
  have g : GI (groupG [] ps) := gi_group _ _ ⟨fun p hp => by simp at hp, by simp⟩ h
  unfold grouped
  refine ⟨fun y hy => ?_, ?_⟩
  · obtain ⟨p, hp, rfl⟩ := List.mem_map.mp hy
    exact (unkey_ok (g.all p hp)).1
  · rw [List.map_map]
    have e : (groupG [] ps).map ((fun y => (keyOf y).2) ∘ unkey) = (groupG [] ps).map (·.2) := List.map_congr_left fun p hp => by
      show (keyOf (unkey p)).2 = p.2
      rw [(unkey_ok (g.all p hp)).2]
    rw [e]
    exact g.nd
theorem flatP_ok {k : Bool} {x : J} (h : x.nf) : ∀ y ∈ flatP k x, y.nf ∧ notK k y ∧ isE y = false := by
  intro y hy
  cases x with
  | st i =>
    simp only [flatP, List.mem_singleton] at hy
    subst hy
    exact ⟨h, (fun zs e => by cases e), rfl⟩
  | rn l n z =>
    simp only [flatP, List.mem_singleton] at hy
    subst hy
    exact ⟨h, (fun zs e => by cases e), rfl⟩
  | ps l ys =>
    simp only [flatP] at hy
    split at hy
    · rename_i e
      subst e
      simp only [J.nf] at h
      exact ⟨nfL_iff.mp h.1 y hy, (h.2.1 y hy).1, (h.2.1 y hy).2⟩
    · rename_i e
      split at hy
      · simp at hy
      · rename_i e2
        rw [List.mem_singleton] at hy
        subst hy
        exact ⟨h, (fun zs z => by cases z; exact e rfl), by simpa using e2⟩
theorem wrapP_nf {k : Bool} {l : List J} (h : ∀ y ∈ l, y.nf ∧ notK k y ∧ isE y = false) (hn : k = true → (l.map fun y => (keyOf y).2).Nodup) : (wrapP k l).nf := by
  match l, h, hn with
  | [], _, _ => exact nf_E
  | [x], h, _ => exact (h x (List.mem_singleton.mpr rfl)).1
  | x :: y :: r, h, hn =>
    simp only [wrapP, J.nf]
    exact ⟨nfL_iff.mpr fun z hz => (h z hz).1, fun z hz => (h z hz).2, .inl (by simp), hn⟩
theorem tidyPs_nf {k : Bool} {ps : List J} (h : ∀ p ∈ ps, p.nf) : (tidyPs k ps).nf := by
  have hf : ∀ y ∈ ps.flatMap (flatP k), y.nf ∧ notK k y ∧ isE y = false := fun y hy => by
    obtain ⟨p, hp, hy⟩ := List.mem_flatMap.mp hy
    exact flatP_ok (h p hp) y hy
  unfold tidyPs
  cases k with
  | true =>
    rw [if_pos rfl]
    obtain ⟨g1, g2⟩ := grouped_ok (ps := ps.flatMap (flatP true)) hf
    exact wrapP_nf g1 fun _ => g2
  | false =>
    rw [if_neg (by decide)]
    exact wrapP_nf hf fun z => by cases z
theorem tidyRn_nf {k : Bool} {n : Int} {x : J} (h : x.nf) (hn : 0 ≤ n) : (tidyRn k n x).nf := by
  unfold tidyRn
  split
  · exact nf_E
  · rename_i e
    simp only [not_or] at e
    have e2 : isE x = false := by simpa using e.2
    have plain : notR k x → (if n = 1 then x else J.rn k n x).nf := fun hr => by
      split
      · exact h
      · simp only [J.nf]
        exact ⟨h, by omega, e2, hr⟩
    cases x with
    | st i => exact plain fun m z q => by cases q
    | ps l ys => exact plain fun m z q => by cases q
    | rn l m y =>
      dsimp only
      split
      · rename_i el
        subst el
        simp only [J.nf] at h ⊢
        refine ⟨h.1, ?_, h.2.2.1, h.2.2.2⟩
        have h1 : 1 ≤ n := by omega
        have h2 : m ≤ n * m := by
          have := Int.mul_le_mul_of_nonneg_right h1 (by omega : 0 ≤ m)
          omega
        omega
      · rename_i el
        exact plain fun m' z q => by cases q; exact el rfl
mutual
theorem J.tidy_nf : ∀ j : J, j.nn → j.tidy.nf
  | .st i, _ => by simp [J.tidy, J.nf]
  | .ps k xs, h => by
    simp only [J.tidy]
    exact tidyPs_nf (J.tidyL_nf xs (by simpa only [J.nn] using h))
  | .rn k n x, h => by
    simp only [J.nn] at h
    simp only [J.tidy]
    exact tidyRn_nf (J.tidy_nf x h.2) h.1
theorem J.tidyL_nf : ∀ xs : List J, J.nnL xs → ∀ p ∈ J.tidyL xs, p.nf
  | [], _, p, hp => by simp [J.tidyL] at hp
  | x :: xs, h, p, hp => by
    simp only [J.nnL] at h
    simp only [J.tidyL] at hp
    rcases List.mem_cons.mp hp with rfl | hp
    · exact J.tidy_nf x h.1
    · exact J.tidyL_nf xs h.2 p hp
end
/-! ### what is tidy stays as it is -/
theorem flat_id {k : Bool} : ∀ {ys : List J}, (∀ y ∈ ys, notK k y ∧ isE y = false) → ys.flatMap (flatP k) = ys
  | [], _ => rfl
  | y :: ys, h => by
    rw [List.flatMap_cons, flat_id fun z hz => h z (List.mem_cons_of_mem _ hz)]
    obtain ⟨h1, h2⟩ := h y (List.mem_cons_self ..)
    have e : flatP k y = [y] := by
      cases y with
      | st i => rfl
      | rn l n z => rfl
      | ps l zs =>
        simp only [flatP]
        rw [if_neg (fun z => h1 zs (by rw [z])), if_neg (by rw [h2]; decide)]
    rw [e]
    rfl
theorem groupG_id : ∀ {ps : List J} {acc : List (Int × J)}, (acc.map (·.2) ++ ps.map fun y => (keyOf y).2).Nodup → groupG acc ps = acc ++ ps.map keyOf
  | [], acc, _ => by simp [groupG]
  | p :: ps, acc, h => by
    simp only [groupG]
    have hn : (keyOf p).2 ∉ acc.map (·.2) := fun z => by
      rw [List.nodup_append] at h
      exact h.2.2 _ z _ (by simp) rfl
    rw [addG_new hn, groupG_id (acc := acc ++ [((keyOf p).1, (keyOf p).2)]) (by simpa using h)]
    simp
theorem unkey_keyOf {y : J} (h : y.nf) : unkey (keyOf y) = y := by
  cases y with
  | st i => rfl
  | ps k ys => rfl
  | rn k n x =>
    cases k with
    | true =>
      simp only [J.nf] at h
      show (if n = 1 then x else J.rn true n x) = _
      rw [if_neg (by omega)]
    | false => rfl
theorem grouped_id {ps : List J} (h : ∀ p ∈ ps, p.nf) (hn : (ps.map fun y => (keyOf y).2).Nodup) : grouped ps = ps := by
  unfold grouped
  rw [groupG_id (acc := []) (by simpa using hn), List.nil_append, List.map_map]
  have e : ps.map (unkey ∘ keyOf) = ps.map id := List.map_congr_left fun p hp => unkey_keyOf (h p hp)
  rw [e, List.map_id]
mutual
theorem J.tidy_id : ∀ j : J, j.nf → j.tidy = j
  | .st i, _ => by simp [J.tidy]
  | .ps k ys, h => by
    simp only [J.nf] at h
    obtain ⟨h1, h2, h3, h4⟩ := h
    simp only [J.tidy]
    rw [J.tidyL_id ys h1]
    unfold tidyPs
    rw [flat_id h2]
    have e : (if k = true then grouped ys else ys) = ys := by
      split
      · rename_i hk
        exact grouped_id (nfL_iff.mp h1) (h4 hk)
      · rfl
    rw [e]
    match ys, h3 with
    | [], .inr ⟨hk, _⟩ => rw [hk]; rfl
    | [], .inl z => simp at z
    | [x], .inl z => simp at z
    | [x], .inr ⟨_, z⟩ => cases z
    | x :: y :: r, _ => rfl
  | .rn k n x, h => by
    simp only [J.nf] at h
    obtain ⟨h1, h2, h3, h4⟩ := h
    simp only [J.tidy]
    rw [J.tidy_id x h1]
    unfold tidyRn
    rw [if_neg (by simp only [not_or]; exact ⟨by omega, by rw [h3]; decide⟩)]
    cases x with
    | st i => dsimp only; rw [if_neg (by omega)]
    | ps l ys => dsimp only; rw [if_neg (by omega)]
    | rn l m y =>
      dsimp only
      rw [if_neg (fun z => h4 m y (by rw [z])), if_neg (by omega)]
theorem J.tidyL_id : ∀ xs : List J, J.nfL xs → J.tidyL xs = xs
  | [], _ => by simp [J.tidyL]
  | x :: xs, h => by
    simp only [J.nfL] at h
    simp only [J.tidyL]
    rw [J.tidy_id x h.1, J.tidyL_id xs h.2]
end
theorem J.tidy_twice {j : J} (h : j.nn) : j.tidy.tidy = j.tidy := J.tidy_id _ (J.tidy_nf j h)
/-! ### sums stay -/
section
variable {F : J → Int}
theorem sum_addG (n : Int) (x : J) : ∀ l : List (Int × J), ((addG n x l).map fun p => p.1 * F p.2).sum = n * F x + (l.map fun p => p.1 * F p.2).sum
  | [] => by simp [addG]
  | (m, y) :: r => by
    simp only [addG]
    split
    · rename_i e
      obtain rfl := J.beq_eq _ _ e
      simp only [List.map_cons, List.sum_cons]
      rw [Int.add_mul]
      omega
    · simp only [List.map_cons, List.sum_cons, sum_addG n x r]
      omega
theorem key_val (hF : ∀ n x, F (.rn true n x) = n * F x) (p : J) : (keyOf p).1 * F (keyOf p).2 = F p := by
  cases p with
  | st i => simp [keyOf]
  | ps k ys => simp [keyOf]
  | rn k n x =>
    cases k with
    | true => simp [keyOf, hF]
    | false => simp [keyOf]
theorem unkey_val (hF : ∀ n x, F (.rn true n x) = n * F x) (p : Int × J) : F (unkey p) = p.1 * F p.2 := by
  unfold unkey
  split
  · rename_i e
    rw [e, Int.one_mul]
  · rw [hF]
theorem sum_groupG (hF : ∀ n x, F (.rn true n x) = n * F x) : ∀ (ps : List J) (acc : List (Int × J)), ((groupG acc ps).map fun p => p.1 * F p.2).sum = (acc.map fun p => p.1 * F p.2).sum + (ps.map F).sum
  | [], acc => by simp [groupG]
  | p :: ps, acc => by
    simp only [groupG, List.map_cons, List.sum_cons]
    rw [sum_groupG hF ps, sum_addG, key_val hF]
    omega
theorem sum_grouped (hF : ∀ n x, F (.rn true n x) = n * F x) (ps : List J) : ((grouped ps).map F).sum = (ps.map F).sum := by
  unfold grouped
  rw [List.map_map]
  have e : (groupG [] ps).map (F ∘ unkey) = (groupG [] ps).map fun p => p.1 * F p.2 := List.map_congr_left fun p _ => unkey_val hF p
  rw [e, sum_groupG hF]
  simp
theorem sum_flat {k : Bool} (hS : ∀ ys, F (.ps k ys) = (ys.map F).sum) (hE : F (.ps false []) = 0) : ∀ ps : List J, ((ps.flatMap (flatP k)).map F).sum = (ps.map F).sum
  | [] => rfl
  | p :: ps => by
    rw [List.flatMap_cons, List.map_append, List.sum_append, sum_flat hS hE ps, List.map_cons, List.sum_cons]
    have e : ((flatP k p).map F).sum = F p := by
      cases p with
      | st i => simp [flatP]
      | rn l n x => simp [flatP]
      | ps l ys =>
        simp only [flatP]
        split
        · rename_i z
          subst z
          exact (hS ys).symm
        · split
          · rename_i z
            rw [isE_iff.mp z, hE]
            rfl
          · simp
    rw [e]
theorem sum_wrap {k : Bool} (hS : ∀ ys, F (.ps k ys) = (ys.map F).sum) (hE : F (.ps false []) = 0) : ∀ l : List J, F (wrapP k l) = (l.map F).sum
  | [] => by simp [wrapP, hE]
  | [x] => by simp [wrapP]
  | x :: y :: r => by simp only [wrapP]; exact hS _
theorem sum_tidyPs {k : Bool} (hF : ∀ n x, F (.rn true n x) = n * F x) (hS : ∀ ys, F (.ps k ys) = (ys.map F).sum) (hE : F (.ps false []) = 0) (ps : List J) : F (tidyPs k ps) = (ps.map F).sum := by
  unfold tidyPs
  rw [sum_wrap hS hE]
  split
  · rw [sum_grouped hF, sum_flat hS hE]
  · rw [sum_flat hS hE]
theorem sum_tidyRn {k : Bool} (hR : ∀ n x, F (.rn k n x) = n * F x) (hE : F (.ps false []) = 0) (n : Int) (x : J) : F (tidyRn k n x) = n * F x := by
  have plain : F (if n = 1 then x else J.rn k n x) = n * F x := by
    split
    · rename_i e
      rw [e, Int.one_mul]
    · exact hR n x
  unfold tidyRn
  split
  · rename_i e
    rw [hE]
    rcases e with e | e
    · rw [e, Int.zero_mul]
    · rw [isE_iff.mp e, hE, Int.mul_zero]
  · cases x with
    | st i => exact plain
    | ps l ys => exact plain
    | rn l m y =>
      dsimp only
      split
      · rename_i e
        subst e
        rw [hR, hR, Int.mul_assoc]
      · exact plain
end
theorem netL_map : ∀ xs : List J, J.netL xs = (xs.map J.net).sum
  | [] => by simp [J.netL]
  | x :: xs => by simp [J.netL, netL_map xs]
theorem stepsL_map : ∀ xs : List J, J.stepsL xs = (xs.map J.steps).sum
  | [] => by simp [J.stepsL]
  | x :: xs => by simp [J.stepsL, stepsL_map xs]
theorem lowL_map : ∀ xs : List J, J.lowL xs = (xs.map J.low).sum
  | [] => by simp [J.lowL]
  | x :: xs => by simp [J.lowL, lowL_map xs]
theorem net_ps (k : Bool) (ys : List J) : (J.ps k ys).net = (ys.map J.net).sum := by
  simp only [J.net]
  exact netL_map ys
theorem net_rn (k : Bool) (n : Int) (x : J) : (J.rn k n x).net = n * x.net := by
  simp only [J.net]
theorem steps_ps (k : Bool) (ys : List J) : (J.ps k ys).steps = (ys.map J.steps).sum := by
  simp only [J.steps]
  exact stepsL_map ys
theorem steps_rn (k : Bool) (n : Int) (x : J) : (J.rn k n x).steps = n * x.steps := by
  simp only [J.steps]
  exact Int.mul_comm _ _
theorem low_par (ys : List J) : (J.ps true ys).low = (ys.map J.low).sum := by
  simp only [J.low]
  exact lowL_map ys
theorem low_cop (n : Int) (x : J) : (J.rn true n x).low = n * x.low := by
  simp only [J.low]
theorem E_net : (J.ps false []).net = 0 := by simp [J.net, J.netL]
theorem E_steps : (J.ps false []).steps = 0 := by simp [J.steps, J.stepsL]
theorem E_low : (J.ps false []).low = 0 := by simp [J.low, J.lowS]
mutual
theorem J.tidy_net : ∀ j : J, j.tidy.net = j.net
  | .st i => by simp [J.tidy]
  | .ps k xs => by
    simp only [J.tidy]
    rw [sum_tidyPs (net_rn true) (net_ps k) E_net, net_ps, J.tidyL_net xs]
  | .rn k n x => by
    simp only [J.tidy]
    rw [sum_tidyRn (net_rn k) E_net, net_rn, J.tidy_net x]
theorem J.tidyL_net : ∀ xs : List J, (J.tidyL xs).map J.net = xs.map J.net
  | [] => by simp [J.tidyL]
  | x :: xs => by simp only [J.tidyL, List.map_cons, J.tidy_net x, J.tidyL_net xs]
end
mutual
theorem J.tidy_steps : ∀ j : J, j.tidy.steps = j.steps
  | .st i => by simp [J.tidy]
  | .ps k xs => by
    simp only [J.tidy]
    rw [sum_tidyPs (steps_rn true) (steps_ps k) E_steps, steps_ps, J.tidyL_steps xs]
  | .rn k n x => by
    simp only [J.tidy]
    rw [sum_tidyRn (steps_rn k) E_steps, steps_rn, J.tidy_steps x]
theorem J.tidyL_steps : ∀ xs : List J, (J.tidyL xs).map J.steps = xs.map J.steps
  | [] => by simp [J.tidyL]
  | x :: xs => by simp only [J.tidyL, List.map_cons, J.tidy_steps x, J.tidyL_steps xs]
end
/-! ### the lowest usage stays -/
mutual
theorem J.low_nn : ∀ j : J, j.nn → j.low ≤ 0 ∧ j.low ≤ j.net
  | .st i, _ => by simp only [J.low, J.net]; omega
  | .ps false xs, h => by
    simp only [J.low, J.net]
    exact J.lowS_nn xs (by simpa only [J.nn] using h)
  | .ps true xs, h => by
    simp only [J.low, J.net]
    exact J.lowL_nn xs (by simpa only [J.nn] using h)
  | .rn true n x, h => by
    simp only [J.nn] at h
    obtain ⟨h1, h2⟩ := J.low_nn x h.2
    simp only [J.low, J.net]
    have a := Int.mul_le_mul_of_nonneg_left h1 h.1
    have b := Int.mul_le_mul_of_nonneg_left h2 h.1
    rw [Int.mul_zero] at a
    exact ⟨a, b⟩
  | .rn false n x, h => by
    simp only [J.nn] at h
    obtain ⟨h1, h2⟩ := J.low_nn x h.2
    simp only [J.low, J.net]
    split
    · rename_i e
      subst e
      simp
    · rename_i e
      have a := Int.mul_le_mul_of_nonneg_left (show min 0 x.net ≤ 0 by omega) (show 0 ≤ n - 1 by omega)
      have b := Int.mul_le_mul_of_nonneg_left (show min 0 x.net ≤ x.net by omega) (show 0 ≤ n - 1 by omega)
      rw [Int.mul_zero] at a
      have c : n * x.net = x.net + (n - 1) * x.net := by
        rw [Int.sub_mul, Int.one_mul]
        omega
      rw [c]
      omega
theorem J.lowS_nn : ∀ xs : List J, J.nnL xs → J.lowS xs ≤ 0 ∧ J.lowS xs ≤ J.netL xs
  | [], _ => by simp [J.lowS, J.netL]
  | x :: xs, h => by
    simp only [J.nnL] at h
    have h1 := J.low_nn x h.1
    have h2 := J.lowS_nn xs h.2
    simp only [J.lowS, J.netL]
    omega
theorem J.lowL_nn : ∀ xs : List J, J.nnL xs → J.lowL xs ≤ 0 ∧ J.lowL xs ≤ J.netL xs
  | [], _ => by simp [J.lowL, J.netL]
  | x :: xs, h => by
    simp only [J.nnL] at h
    have h1 := J.low_nn x h.1
    have h2 := J.lowL_nn xs h.2
    simp only [J.lowL, J.netL]
    omega
end
mutual
theorem J.nf_nn : ∀ j : J, j.nf → j.nn
  | .st i, _ => by simp [J.nn]
  | .ps k xs, h => by
    simp only [J.nf] at h
    simp only [J.nn]
    exact J.nfL_nn xs h.1
  | .rn k n x, h => by
    simp only [J.nf] at h
    simp only [J.nn]
    exact ⟨by omega, J.nf_nn x h.1⟩
theorem J.nfL_nn : ∀ xs : List J, J.nfL xs → J.nnL xs
  | [], _ => by simp [J.nnL]
  | x :: xs, h => by
    simp only [J.nfL] at h
    simp only [J.nnL]
    exact ⟨J.nf_nn x h.1, J.nfL_nn xs h.2⟩
end
theorem lowS_app : ∀ {xs ys : List J}, J.nnL ys → J.lowS (xs ++ ys) = min (J.lowS xs) (J.netL xs + J.lowS ys)
  | [], ys, h => by
    have := (J.lowS_nn ys h).1
    simp only [List.nil_append, J.lowS, J.netL]
    omega
  | x :: xs, ys, h => by
    simp only [List.cons_append, J.lowS, J.netL, lowS_app (xs := xs) h]
    omega
theorem flat_nn {k : Bool} {ps : List J} (h : J.nnL ps) : J.nnL (ps.flatMap (flatP k)) := by
  refine nnL_iff.mpr fun y hy => ?_
  obtain ⟨p, hp, hy⟩ := List.mem_flatMap.mp hy
  have hpn := nnL_iff.mp h p hp
  cases p with
  | st i => simp only [flatP, List.mem_singleton] at hy; rw [hy]; exact hpn
  | rn l n x => simp only [flatP, List.mem_singleton] at hy; rw [hy]; exact hpn
  | ps l ys =>
    simp only [flatP] at hy
    split at hy
    · simp only [J.nn] at hpn
      exact nnL_iff.mp hpn y hy
    · split at hy
      · simp at hy
      · rw [List.mem_singleton] at hy
        rw [hy]
        exact hpn
theorem lowS_flat : ∀ {ps : List J}, J.nnL ps → J.lowS (ps.flatMap (flatP false)) = J.lowS ps
  | [], _ => rfl
  | p :: ps, h => by
    simp only [J.nnL] at h
    have ih := lowS_flat h.2
    have hr := flat_nn (k := false) h.2
    have h0 := (J.lowS_nn ps h.2).1
    have hp := J.low_nn p h.1
    rw [List.flatMap_cons, lowS_app hr, ih]
    simp only [J.lowS]
    cases p with
    | st i => simp only [flatP, J.lowS, J.netL] at *; omega
    | rn l n x => simp only [flatP, J.lowS, J.netL] at *; omega
    | ps l ys =>
      cases l with
      | false => simp only [flatP, if_true, J.low, J.net]
      | true =>
        have e : flatP false (J.ps true ys) = [.ps true ys] := by simp [flatP, isE]
        rw [e]
        simp only [J.lowS, J.netL]
        omega
theorem low_wrapS : ∀ {l : List J}, J.nnL l → (wrapP false l).low = J.lowS l
  | [], _ => by simp [wrapP, J.low]
  | [x], h => by
    simp only [J.nnL] at h
    have := J.low_nn x h.1
    simp only [wrapP, J.lowS]
    omega
  | x :: y :: r, _ => by simp only [wrapP, J.low]
theorem low_tidyS {ps : List J} (h : J.nnL ps) : (tidyPs false ps).low = J.lowS ps := by
  unfold tidyPs
  rw [if_neg (by decide), low_wrapS (flat_nn h), lowS_flat h]
theorem low_tidyR {n : Int} {x : J} (hn : 0 ≤ n) (hx : x.nf) : (tidyRn false n x).low = (J.rn false n x).low := by
  have plain : n ≠ 0 → (if n = 1 then x else J.rn false n x).low = (J.rn false n x).low := fun h0 => by
    split
    · rename_i e
      subst e
      simp [J.low]
    · rfl
  unfold tidyRn
  split
  · rename_i e
    rw [E_low]
    rcases e with e | e
    · simp [J.low, e]
    · rw [isE_iff.mp e]
      simp only [J.low, J.lowS, J.net, J.netL]
      split <;> simp
  · rename_i e
    simp only [not_or] at e
    cases x with
    | st i => exact plain e.1
    | ps l ys => exact plain e.1
    | rn l m y =>
      dsimp only
      split
      · rename_i el
        subst el
        simp only [J.nf] at hx
        have hm := hx.2.1
        have hp : n * m ≠ 0 := by
          have := Int.mul_le_mul_of_nonneg_right (show 1 ≤ n by omega) (show 0 ≤ m by omega)
          omega
        simp only [J.low, J.net]
        rw [if_neg hp, if_neg e.1, if_neg (show m ≠ 0 by omega)]
        have e1 : min 0 (m * y.net) = m * min 0 y.net := by
          rcases Int.le_total 0 y.net with z | z
          · have := Int.mul_nonneg (show 0 ≤ m by omega) z
            rw [Int.min_eq_left z, Int.min_eq_left this, Int.mul_zero]
          · have := Int.mul_nonpos_of_nonneg_of_nonpos (show 0 ≤ m by omega) z
            rw [Int.min_eq_right z, Int.min_eq_right this]
        rw [e1]
        have e2 : (n * m - 1) * min 0 y.net = (m - 1) * min 0 y.net + (n - 1) * (m * min 0 y.net) := by
          rw [← Int.mul_assoc, ← Int.add_mul]
          congr 1
          rw [Int.sub_mul, Int.one_mul]
          omega
        rw [e2]
        omega
      · exact plain e.1
mutual
theorem J.tidy_low : ∀ j : J, j.nn → j.tidy.low = j.low
  | .st i, _ => by simp [J.tidy]
  | .ps false xs, h => by
    simp only [J.nn] at h
    simp only [J.tidy]
    rw [low_tidyS (J.nfL_nn _ (nfL_iff.mpr (J.tidyL_nf xs h))), J.tidyL_lowS xs h]
    simp only [J.low]
  | .ps true xs, h => by
    simp only [J.nn] at h
    simp only [J.tidy]
    rw [sum_tidyPs low_cop low_par E_low, low_par, J.tidyL_low xs h]
  | .rn true n x, h => by
    simp only [J.nn] at h
    simp only [J.tidy]
    rw [sum_tidyRn low_cop E_low, low_cop, J.tidy_low x h.2]
  | .rn false n x, h => by
    simp only [J.nn] at h
    simp only [J.tidy]
    rw [low_tidyR h.1 (J.tidy_nf x h.2)]
    simp only [J.low]
    rw [J.tidy_low x h.2, J.tidy_net x]
theorem J.tidyL_low : ∀ xs : List J, J.nnL xs → (J.tidyL xs).map J.low = xs.map J.low
  | [], _ => by simp [J.tidyL]
  | x :: xs, h => by
    simp only [J.nnL] at h
    simp only [J.tidyL, List.map_cons, J.tidy_low x h.1, J.tidyL_low xs h.2]
theorem J.tidyL_lowS : ∀ xs : List J, J.nnL xs → J.lowS (J.tidyL xs) = J.lowS xs
  | [], _ => by simp [J.tidyL]
  | x :: xs, h => by
    simp only [J.nnL] at h
    simp only [J.tidyL, J.lowS, J.tidy_low x h.1, J.tidy_net x, J.tidyL_lowS xs h.2]
end
/-! ### equal as data, equal as jobs -/
theorem kwP_same (k l : Bool) : (kwP k == kwP l) = (k == l) := by cases k <;> cases l <;> decide +kernel
theorem kwR_same (k l : Bool) : (kwR k == kwR l) = (k == l) := by cases k <;> cases l <;> decide +kernel
mutual
theorem J.eqv_beq : ∀ a b : J, PyData.eqv a.toD b.toD = a.beq b
  | .st i, .st j => by simp [J.toD, PyData.eqv, J.beq]
  | .ps k xs, .ps l ys => by simp [J.toD, PyData.eqv, PyData.eqvAll, J.beq, kwP_same, J.eqv_beqL xs ys]
  | .rn k n x, .rn l m y => by simp [J.toD, PyData.eqv, PyData.eqvAll, J.beq, kwR_same, J.eqv_beq x y, Bool.and_assoc]
  | .st _, .ps _ _ => by simp [J.toD, PyData.eqv, J.beq]
  | .st _, .rn _ _ _ => by simp [J.toD, PyData.eqv, J.beq]
  | .ps _ _, .st _ => by simp [J.toD, PyData.eqv, J.beq]
  | .ps _ _, .rn _ _ _ => by simp [J.toD, PyData.eqv, PyData.eqvAll, J.beq]
  | .rn _ _ _, .st _ => by simp [J.toD, PyData.eqv, J.beq]
  | .rn _ _ _, .ps _ _ => by simp [J.toD, PyData.eqv, PyData.eqvAll, J.beq]
theorem J.eqv_beqL : ∀ xs ys : List J, PyData.eqvAll (J.toDs xs) (J.toDs ys) = J.beqL xs ys
  | [], [] => by simp [J.toDs, PyData.eqvAll, J.beqL]
  | x :: xs, y :: ys => by simp [J.toDs, PyData.eqvAll, J.beqL, J.eqv_beq x y, J.eqv_beqL xs ys]
  | [], _ :: _ => by simp [J.toDs, PyData.eqvAll, J.beqL]
  | _ :: _, [] => by simp [J.toDs, PyData.eqvAll, J.beqL]
end
/-- a job is in good order with counts that are not below 0 -/
theorem J.ok_nn : ∀ j : J, j.ok → j.nn := by
  intro j
  exact J.rec (motive_1 := fun j => j.ok → j.nn) (motive_2 := fun xs => J.okL xs → J.nnL xs)
    (fun i _ => by simp [J.nn]) (fun k xs ih h => by simp only [J.ok] at h; simp only [J.nn]; exact ih h.2.1)
    (fun k n x ih h => by simp only [J.ok] at h; simp only [J.nn]; exact ⟨h.1.1, ih h.2.1⟩) (fun _ => by simp [J.nnL])
    (fun x xs h1 h2 h => by simp only [J.okL] at h; simp only [J.nnL]; exact ⟨h1 h.1, h2 h.2⟩) j
/-! ### how great a tidy form may be -/
theorem nodes_pos : ∀ j : J, 1 ≤ j.nodes := by
  intro j
  exact J.rec (motive_1 := fun j => 1 ≤ j.nodes) (motive_2 := fun xs => 0 ≤ J.nodesL xs) (fun i => by simp [J.nodes]) (fun k xs ih => by simp only [J.nodes]; omega)
    (fun k n x ih => by simp only [J.nodes]; omega) (by simp [J.nodesL]) (fun x xs h1 h2 => by simp only [J.nodesL]; omega) j
theorem nodesL_map : ∀ xs : List J, J.nodesL xs = (xs.map J.nodes).sum
  | [] => by simp [J.nodesL]
  | x :: xs => by simp [J.nodesL, nodesL_map xs]
theorem nodesL_len : ∀ xs : List J, (xs.length : Int) ≤ J.nodesL xs
  | [] => by simp [J.nodesL]
  | x :: xs => by
    have h1 := nodes_pos x
    have h2 := nodesL_len xs
    simp only [J.nodesL, List.length_cons]
    omega
theorem unkey_nodes (n : Int) (x : J) : x.nodes ≤ (unkey (n, x)).nodes ∧ (unkey (n, x)).nodes ≤ x.nodes + 1 := by
  unfold unkey
  dsimp only
  split
  · omega
  · simp only [J.nodes]
    omega
theorem key_nodes (p : J) : (unkey (keyOf p)).nodes ≤ p.nodes := by
  cases p with
  | st i => exact Int.le_refl _
  | ps k ys => exact Int.le_refl _
  | rn k n x =>
    cases k with
    | true =>
      have := (unkey_nodes n x).2
      show (unkey (n, x)).nodes ≤ _
      simp only [J.nodes]
      omega
    | false => exact Int.le_refl _
theorem addG_nodes (n : Int) (x : J) : ∀ l : List (Int × J), (((addG n x l).map unkey).map J.nodes).sum ≤ (unkey (n, x)).nodes + ((l.map unkey).map J.nodes).sum
  | [] => by simp [addG]
  | (m, y) :: r => by
    simp only [addG]
    split
    · rename_i e
      obtain rfl := J.beq_eq _ _ e
      have h1 := unkey_nodes (m + n) y
      have h2 := unkey_nodes m y
      have h3 := unkey_nodes n y
      have h4 := nodes_pos y
      simp only [List.map_cons, List.sum_cons]
      omega
    · have := addG_nodes n x r
      simp only [List.map_cons, List.sum_cons]
      omega
theorem groupG_nodes : ∀ (ps : List J) (acc : List (Int × J)), (((groupG acc ps).map unkey).map J.nodes).sum ≤ ((acc.map unkey).map J.nodes).sum + (ps.map J.nodes).sum
  | [], acc => by simp [groupG]
  | p :: ps, acc => by
    have h1 := groupG_nodes ps (addG (keyOf p).1 (keyOf p).2 acc)
    have h2 := addG_nodes (keyOf p).1 (keyOf p).2 acc
    have h3 := key_nodes p
    simp only [groupG, List.map_cons, List.sum_cons]
    have e : unkey ((keyOf p).1, (keyOf p).2) = unkey (keyOf p) := rfl
    rw [e] at h2
    omega
theorem flat_nodes {k : Bool} : ∀ ps : List J, ((ps.flatMap (flatP k)).map J.nodes).sum ≤ (ps.map J.nodes).sum
  | [] => by simp
  | p :: ps => by
    have ih := flat_nodes (k := k) ps
    rw [List.flatMap_cons, List.map_append, List.sum_append, List.map_cons, List.sum_cons]
    have e : ((flatP k p).map J.nodes).sum ≤ p.nodes := by
      cases p with
      | st i => simp [flatP]
      | rn l n x => simp [flatP]
      | ps l ys =>
        simp only [flatP]
        split
        · rw [← nodesL_map]
          simp only [J.nodes]
          omega
        · split
          · have := nodes_pos (.ps l ys)
            simp only [List.map_nil, List.sum_nil]
            omega
          · simp
    omega
theorem wrap_nodes {k : Bool} : ∀ l : List J, (wrapP k l).nodes ≤ 1 + (l.map J.nodes).sum
  | [] => by simp [wrapP, J.nodes, J.nodesL]
  | [x] => by simp only [wrapP, List.map_cons, List.map_nil, List.sum_cons, List.sum_nil]; omega
  | x :: y :: r => by
    simp only [wrapP, J.nodes, nodesL_map]
    omega
theorem tidyPs_nodes {k : Bool} (ps : List J) : (tidyPs k ps).nodes ≤ 1 + (ps.map J.nodes).sum := by
  unfold tidyPs
  have h1 := flat_nodes (k := k) ps
  split
  · have h2 := groupG_nodes (ps.flatMap (flatP k)) []
    have h3 := wrap_nodes (k := k) (grouped (ps.flatMap (flatP k)))
    simp only [List.map_nil, List.sum_nil] at h2
    unfold grouped at h3 ⊢
    omega
  · have h3 := wrap_nodes (k := k) (ps.flatMap (flatP k))
    omega
theorem tidyRn_nodes {k : Bool} {n : Int} {x : J} : (tidyRn k n x).nodes ≤ x.nodes + 1 := by
  have hp := nodes_pos x
  have plain : (if n = 1 then x else J.rn k n x).nodes ≤ x.nodes + 1 := by
    split
    · omega
    · simp only [J.nodes]
      omega
  unfold tidyRn
  split
  · simp only [J.nodes, J.nodesL]
    omega
  · cases x with
    | st i => exact plain
    | ps l ys => exact plain
    | rn l m y =>
      dsimp only
      split
      · simp only [J.nodes]
        omega
      · exact plain
mutual
theorem J.tidy_nodes : ∀ j : J, j.tidy.nodes ≤ j.nodes
  | .st i => by simp [J.tidy]
  | .ps k xs => by
    have h1 := tidyPs_nodes (k := k) (J.tidyL xs)
    have h2 := J.tidyL_nodes xs
    simp only [J.tidy, J.nodes, nodesL_map] at *
    omega
  | .rn k n x => by
    have h1 := tidyRn_nodes (k := k) (n := n) (x := x.tidy)
    have h2 := J.tidy_nodes x
    simp only [J.tidy, J.nodes]
    omega
theorem J.tidyL_nodes : ∀ xs : List J, ((J.tidyL xs).map J.nodes).sum ≤ (xs.map J.nodes).sum
  | [] => by simp [J.tidyL]
  | x :: xs => by
    have h1 := J.tidy_nodes x
    have h2 := J.tidyL_nodes xs
    simp only [J.tidyL, List.map_cons, List.sum_cons]
    omega
end
theorem flat_len {k : Bool} (ps : List J) : ((ps.flatMap (flatP k)).length : Int) ≤ (ps.map J.nodes).sum := by
  have h1 := nodesL_len (ps.flatMap (flatP k))
  rw [nodesL_map] at h1
  exact Int.le_trans h1 (flat_nodes ps)
/-- levels -/
theorem deepL_le {xs : List J} {d : Nat} : (∀ x ∈ xs, x.deep ≤ d) → J.deepL xs ≤ d := by
  intro h
  induction xs with
  | nil => simp [J.deepL]
  | cons x xs ih =>
    have h1 := h x (List.mem_cons_self ..)
    have h2 := ih fun y hy => h y (List.mem_cons_of_mem _ hy)
    simp only [J.deepL]
    omega
theorem deepL_mem {xs : List J} {x : J} (h : x ∈ xs) : x.deep ≤ J.deepL xs := by
  induction xs with
  | nil => simp at h
  | cons y ys ih =>
    simp only [J.deepL]
    rcases List.mem_cons.mp h with rfl | h
    · omega
    · have := ih h
      omega
theorem key_lv (j : J) : (keyOf j).2.deep ≤ j.deep := by
  cases j with
  | st i => exact Nat.le_refl _
  | ps k ys => exact Nat.le_refl _
  | rn k n x =>
    cases k with
    | true => simp only [keyOf, J.deep]; omega
    | false => exact Nat.le_refl _
theorem addG_lv {n : Int} {x : J} {d : Nat} (hx : x.deep ≤ d) : ∀ {l : List (Int × J)}, (∀ p ∈ l, p.2.deep ≤ d) → ∀ p ∈ addG n x l, p.2.deep ≤ d
  | [], _, p, hp => by
    simp only [addG, List.mem_singleton] at hp
    rw [hp]
    exact hx
  | (m, y) :: r, h, p, hp => by
    have h0 := h (m, y) (List.mem_cons_self ..)
    simp only [addG] at hp
    split at hp
    · rcases List.mem_cons.mp hp with rfl | hp
      · exact h0
      · exact h p (List.mem_cons_of_mem _ hp)
    · rcases List.mem_cons.mp hp with rfl | hp
      · exact h0
      · exact addG_lv hx (fun q hq => h q (List.mem_cons_of_mem _ hq)) p hp
theorem groupG_lv {d : Nat} : ∀ (ps : List J) (acc : List (Int × J)), (∀ p ∈ acc, p.2.deep ≤ d) → (∀ p ∈ ps, p.deep ≤ d) → ∀ p ∈ groupG acc ps, p.2.deep ≤ d
  | [], acc, h, _ => h
  | p :: ps, acc, h, hp => groupG_lv ps _ (addG_lv (Nat.le_trans (key_lv p) (hp p (List.mem_cons_self ..))) h) fun q hq => hp q (List.mem_cons_of_mem _ hq)
theorem deep_pos (j : J) : 1 ≤ j.deep := by
  cases j <;> simp only [J.deep] <;> omega
theorem flat_lv {k : Bool} {d : Nat} {ps : List J} (h : ∀ p ∈ ps, p.deep ≤ d) : ∀ y ∈ ps.flatMap (flatP k), y.deep ≤ d := by
  intro y hy
  obtain ⟨p, hp, hy⟩ := List.mem_flatMap.mp hy
  have h1 := h p hp
  cases p with
  | st i => simp only [flatP, List.mem_singleton] at hy; rw [hy]; exact h1
  | rn l n x => simp only [flatP, List.mem_singleton] at hy; rw [hy]; exact h1
  | ps l ys =>
    simp only [flatP] at hy
    split at hy
    · have := deepL_mem hy
      simp only [J.deep] at h1
      omega
    · split at hy
      · simp at hy
      · rw [List.mem_singleton] at hy
        rw [hy]
        exact h1
theorem wrap_lv {k : Bool} {d : Nat} : ∀ {l : List J}, (∀ y ∈ l, y.deep ≤ d) → (wrapP k l).deep ≤ d + 1
  | [], _ => by simp [wrapP, J.deep, J.deepL]
  | [x], h => Nat.le_succ_of_le (h x (List.mem_singleton.mpr rfl))
  | x :: y :: r, h => by
    have := deepL_le h
    simp only [wrapP, J.deep]
    omega
theorem tidyPs_lv {k : Bool} {d : Nat} {ps : List J} (h : ∀ p ∈ ps, p.deep ≤ d) : (tidyPs k ps).deep ≤ d + 2 := by
  unfold tidyPs
  split
  · refine wrap_lv (d := d + 1) fun y hy => ?_
    unfold grouped at hy
    obtain ⟨p, hp, rfl⟩ := List.mem_map.mp hy
    have := groupG_lv _ [] (fun p hp => by simp at hp) (flat_lv (k := k) h) p hp
    unfold unkey
    split
    · omega
    · simp only [J.deep]
      omega
  · exact Nat.le_succ_of_le (wrap_lv (flat_lv h))
theorem tidyRn_lv {k : Bool} {n : Int} {x : J} : (tidyRn k n x).deep ≤ x.deep + 1 := by
  have hp := deep_pos x
  have plain : (if n = 1 then x else J.rn k n x).deep ≤ x.deep + 1 := by
    split
    · omega
    · simp only [J.deep]
      omega
  unfold tidyRn
  split
  · simp only [J.deep, J.deepL]
    omega
  · cases x with
    | st i => exact plain
    | ps l ys => exact plain
    | rn l m y =>
      dsimp only
      split
      · simp only [J.deep]
        omega
      · exact plain
mutual
theorem J.tidy_deep : ∀ j : J, j.tidy.deep ≤ 2 * j.deep
  | .st i => by simp [J.tidy, J.deep]
  | .ps k xs => by
    have h := J.tidyL_deep xs
    have h1 := tidyPs_lv (k := k) h
    simp only [J.tidy, J.deep]
    omega
  | .rn k n x => by
    have h1 := tidyRn_lv (k := k) (n := n) (x := x.tidy)
    have h2 := J.tidy_deep x
    simp only [J.tidy, J.deep]
    omega
theorem J.tidyL_deep : ∀ xs : List J, ∀ p ∈ J.tidyL xs, p.deep ≤ 2 * J.deepL xs
  | [], p, hp => by simp [J.tidyL] at hp
  | x :: xs, p, hp => by
    have h1 := J.tidy_deep x
    simp only [J.tidyL] at hp
    simp only [J.deepL]
    rcases List.mem_cons.mp hp with rfl | hp
    · omega
    · have := J.tidyL_deep xs p hp
      omega
end
end Lw
/-! Te: a list extended by a tuple. -/
namespace Rp
open PySem PySem.Spec L2 PyProof.Rows
theorem extend_tupAt (l : Addr) (items : Array Value) (n : Nat) (b : Addr) (more : Array Value) (m : Nat) (dd : Option Addr) (sl : Array (Option Value)) (h0 : ¬(!items.isEmpty && Builtin.List.listTooLong (items.size + more.size)) = true) (h1 : items.size ≤ sizeLine) (h2 : items.size + more.size ≤ sizeLine + 1) :
    Meets (Builtin.«list.extend» ⟨[.ref l, .ref b], []⟩) (fun _ R s => s.heap.get? l = some { cls := .type "list", dict := none, data := .seq items n, slots := #[] } ∧ s.heap.get? b = some { cls := .type "tuple", dict := dd, data := .seq more m, slots := sl } ∧ R (.ok (.ret Value.none)) { s with heap := s.heap.update l (Obj.mapSeq fun x => x ++ more) }) :=
  .of_wp fun prog w A R s h => by
    obtain ⟨hp, g, d, tk, os⟩ := s
    obtain ⟨hl, hb, h⟩ := h
    have f1 := AutoSeq1.idx_int
    have f2 := AutoSeq1.sub_tuple_tuple
    have f3 := AutoSeq1.sub_list_list
    have f4 := AutoSeq1.sub_tuple_list
    have f5 := AutoSeq1.sub_list_tuple
    have hz' : (items ++ more).size ≤ sizeLine + 1 := by
      rw [Array.size_append]
      exact h2
    wp_walk using (wpAny_updateSeq hl rfl (hz := h1) (_hz' := hz')), AutoSeq1.wpAny_loadPart' hl, AutoSeq1.wpAny_loadPart' hb
    exact ⟨_, rfl, h⟩
def rExtT (K : PySem.W.Frag) : V → List V → Hp → VK → Prop := fun x vs H Q => ∃ (l b : Addr) (xs zs : List V), x = .ref l ∧ vs = [.ref b] ∧ H l = some (.lst xs) ∧ SqT K H b zs ∧ xs.length + zs.length ≤ sizeLine ∧ Q .non (upd H l (.lst (xs ++ zs)))
theorem mt_extT {X : Cx} : MtR X "list.extend" (rExtT X.K) := by
  intro pins s σ H x vs v us Q I rx rv h
  obtain ⟨l, b, xs, zs, rfl, rfl, hH, hB, hz, q⟩ := h
  cases rx
  obtain ⟨u, rfl, ru⟩ := rv.one
  cases ru
  obtain ⟨z, its, n, r, hl, e⟩ := I.lstM hH
  obtain ⟨its2, r2, o, ho, hc, m, hd⟩ := isTuple_of I hB
  obtain ⟨oc, od, oda, osl⟩ := o
  dsimp only at hc hd
  subst hc hd
  have e1 := r.length
  have e2 := r2.length
  have hsz : its.toArray.size + its2.size ≤ sizeLine := by
    rw [List.size_toArray]
    have e3 : its2.toList.length = its2.size := by simp
    omega
  have hlong : ¬ (!its.toArray.isEmpty && Builtin.List.listTooLong (its.toArray.size + its2.size)) = true := by
    rw [notLongL hsz, Bool.and_false]
    exact Bool.false_ne_true
  refine call_meets F.slot_list_extend ⟨_, e, rfl⟩ F.entry_list_extend (F.args_list_extend_2 _ _)
    (extend_tupAt l its.toArray n b its2 m od osl hlong (by omega) (by omega)) ⟨e, ho, ?_⟩
  refine ⟨.non, _, I.lset (its' := its ++ its2.toList) hH e (by simp) (r.append r2) ?_, rfl, q⟩
  rw [List.length_append]
  omega
/-- o[i] of an augmented assignment, a list from its front -/
def rGetN (K : PySem.W.Frag) : V → V → Hp → VK → Prop := fun x y H Q => ∃ (p : Addr) (xs : List V) (j : Nat) (v : V), x = .ref p ∧ y = .int (j : Int) ∧ SqL K H p xs ∧ xs[j]? = some v ∧ Q v H
theorem get_list {X : Cx} : PGet X (rGetN X.K) := by
  intro pins s σ H o i ov iv Q I ro ri h
  obtain ⟨p, xs, j, v, rfl, rfl, hs, hv, q⟩ := h
  obtain rfl : ov = Value.ref p := ro
  obtain ⟨t, rfl⟩ := ri
  obtain ⟨its, r, pl, hz⟩ := I.list hs
  obtain ⟨u, hu, ru⟩ := r.get hv
  have hl := r.length
  have hn := line63
  have hj : j < xs.length := (List.getElem?_eq_some_iff.mp hv).1
  exact wpAny_getItem_list pl.isList (by omega) (by omega) (by rw [Int.toNat_natCast]; simpa using hu) ⟨v, H, I, ru, q⟩
/-- ("seq", ()) that lies in the written part -/
theorem dp_seqE {K : PySem.W.Frag} {a e : Addr} {o o2 : Option Addr} {n m : Nat} {s s2 : Array (Option Value)} {t : Tok} (h1 : K.lookup a = some ⟨.type "tuple", o, .seq #[.str "seq" t, .ref e] n, s⟩) (h2 : K.lookup e = some ⟨.type "tuple", o2, .seq #[] m, s2⟩) :
    ∀ H, Dp K H (.ref a) (.tuple [.str "seq", .tuple []]) := by
  intro H
  have v1 : Vals [V.str "seq", V.ref e] [Value.str "seq" t, Value.ref e] := .cons ⟨t, rfl⟩ (.cons rfl .nil)
  have t1 : SqT K H a [V.str "seq", V.ref e] := .inr ⟨_, _, _, h1, rfl, rfl, (by show 2 ≤ sizeLine; decide), v1⟩
  have t2 : SqT K H e [] := .inr ⟨_, _, _, h2, rfl, rfl, Nat.zero_le _, .nil⟩
  exact .tup t1 (.cons (.str _) (.cons (.tup t2 .nil) .nil))
end Rp
/-! Rl: written data (ints, texts, None, tuples, lists, names of data) as one step; as Rd, but over Dp, and it asks nothing of the heap. -/
namespace Rp
open PySem L2 PyProof.Rows
/-- data held in slots -/
def Ns (K : PySem.W.Frag) (E : List (Nat × PyData)) (σ : L2.St) (H : Hp) : Prop := ∀ e ∈ E, ∃ v, σ[e.1]? = some (some v) ∧ Dp K H v e.2
theorem Ns.same {K : PySem.W.Frag} {E : List (Nat × PyData)} {σ : L2.St} {H H' : Hp} (h : Ns K E σ H) (s : Same H H') : Ns K E σ H' := fun e he => by
  obtain ⟨v, h1, h2⟩ := h e he
  exact ⟨v, h1, dp_same s h2⟩
theorem Ns.nil {K : PySem.W.Frag} {σ : L2.St} {H : Hp} : Ns K [] σ H := fun e he => by cases he
theorem Ns.cons {K : PySem.W.Frag} {E : List (Nat × PyData)} {σ : L2.St} {H : Hp} {i : Nat} {v : V} {d : PyData} (h : σ[i]? = some (some v)) (hd : Dp K H v d) (t : Ns K E σ H) : Ns K ((i, d) :: E) σ H := fun e he => by
  rcases List.mem_cons.mp he with rfl | he
  · exact ⟨v, h, hd⟩
  · exact t e he
def tW (K : PySem.W.Frag) (E : List (Nat × PyData)) (d : PyData) : TE := fun σ H Q => Ns K E σ H ∧ ∀ (H' : Hp) (v : V), Same H H' → Dp K H' v d → Q v H'
def tWs (K : PySem.W.Frag) (E : List (Nat × PyData)) (ds : List PyData) : TA := fun σ H Q => Ns K E σ H ∧ ∀ (H' : Hp) (vs : List V), Same H H' → DpAll K H' vs ds → Q vs H'
section
variable {X : Cx} {E : List (Nat × PyData)}
theorem pw_mono {e : Expr} {t t' : TE} (h : PE X e t) (f : ∀ σ H Q, t' σ H Q → t σ H Q) : PE X e t' := ⟨fun pins s σ H Q I z => h.run pins s σ H Q I (f σ H Q z)⟩
theorem pws_mono {es : List Expr} {t t' : TA} (h : PA X es t) (f : ∀ σ H Q, t' σ H Q → t σ H Q) : PA X es t' := ⟨fun pos pins s σ H Q I z => h.run pos pins s σ H Q I (f σ H Q z)⟩
theorem pw_int {e : Expr} {t : TE} {m n : Int} (h : PE X e t) (hm : m = n) (f : ∀ σ H (Q : VK), Q (.int m) H → t σ H Q) : PE X e (tW X.K E (.int n)) := by
  refine pw_mono h fun σ H Q z => f σ H Q ?_
  obtain ⟨_, q⟩ := z
  subst hm
  exact q H _ (Same.refl _) (.int _)
theorem pw_str {x : Str} {j : Nat} {pos : Pos} : PE X (.Constant (.str x) j pos) (tW X.K E (.str x)) :=
  pw_mono pe_str fun σ H Q ⟨_, q⟩ => q H _ (Same.refl _) (.str _)
theorem pw_non {j : Nat} {pos : Pos} : PE X (.Constant .none j pos) (tW X.K E .none) :=
  pw_mono pe_non fun σ H Q ⟨_, q⟩ => q H _ (Same.refl _) .non
theorem pw_bl {b : Bool} {j : Nat} {pos : Pos} : PE X (.Constant (.bool b) j pos) (tW X.K E (.bool b)) :=
  pw_mono pe_bl fun σ H Q ⟨_, q⟩ => q H _ (Same.refl _) (.bl _)
theorem pw_var {e : Expr} {i : Nat} {d : PyData} (h : PE X e (tVar i)) (m : (i, d) ∈ E) : PE X e (tW X.K E d) := by
  refine pw_mono h fun σ H Q z => ?_
  obtain ⟨n, q⟩ := z
  obtain ⟨v, h1, h2⟩ := n _ m
  exact ⟨v, h1, q H _ (Same.refl _) h2⟩
theorem pws_nil : PA X [] (tWs X.K E []) :=
  pws_mono pa_nil fun σ H Q ⟨_, q⟩ => q H _ (Same.refl _) .nil
theorem pws_cons {e : Expr} {es : List Expr} {d : PyData} {ds : List PyData} (h : PE X e (tW X.K E d)) (t : PA X es (tWs X.K E ds)) (hs : starEach (e :: es) X.env = (false, eval e X.env) :: starEach es X.env := by rfl) : PA X (e :: es) (tWs X.K E (d :: ds)) := by
  refine pws_mono (pa_cons h t hs) fun σ H Q z => ?_
  obtain ⟨n, q⟩ := z
  exact ⟨n, fun H' v s hd => ⟨n.same s, fun H2 vs s2 hvs => q H2 _ (s.trans s2) (.cons (dp_same s2 hd) hvs)⟩⟩
theorem pw_tup {es : List Expr} {ds : List PyData} {k : Nat} {pos : Pos} (h : PA X es (tWs X.K E ds)) (hl : ds.length ≤ 1000) : PE X (.Tuple es k pos) (tW X.K E (.tuple ds)) := by
  refine pw_mono (pe_tup h) fun σ H Q z => ?_
  obtain ⟨n, q⟩ := z
  refine ⟨n, fun H' vs s hvs => ⟨small (by rw [dpAll_length hvs]; exact hl), fun t ht => ?_⟩⟩
  obtain ⟨s2, hd⟩ := tup_fresh ht hvs
  exact q _ _ (s.trans s2) hd
theorem pw_lst {es : List Expr} {ds : List PyData} {pos : Pos} (h : PA X es (tWs X.K E ds)) (hl : ds.length ≤ 1000) : PE X (.List es pos) (tW X.K E (.list ds)) := by
  refine pw_mono (pe_lst h) fun σ H Q z => ?_
  obtain ⟨n, q⟩ := z
  refine ⟨n, fun H' vs s hvs => ⟨small (by rw [dpAll_length hvs]; exact hl), fun t ht => ?_⟩⟩
  obtain ⟨s2, hd⟩ := lst_fresh ht hvs
  exact q _ _ (s.trans s2) hd
theorem dpAll_repW {K : PySem.W.Frag} {H : Hp} {vs : List V} {ds : List PyData} (h : DpAll K H vs ds) : ∀ k : Nat, DpAll K H (List.replicate k vs).flatten (List.replicate k ds).flatten
  | 0 => .nil
  | k + 1 => by
    simp only [List.replicate_succ, List.flatten_cons]
    exact dpAll_append h (dpAll_repW h k)
theorem pw_rep {a b : Expr} {ds : List PyData} {k : Nat} {pos : Pos} (h : PE X a (tW X.K E (.tuple ds))) (hb : PE X b (tC (.int (k : Int)))) (h2 : 2 ≤ k) (hk : k ≤ 1000) (h0 : ds ≠ []) (hl : ds.length ≤ 1000) :
    PE X (.BinOp a .Mult b pos) (tW X.K E (.tuple (List.replicate k ds).flatten)) := by
  refine pw_mono (pe_op (r := rRepT X.K) op_repT h hb) fun σ H Q z => ?_
  obtain ⟨n, q⟩ := z
  refine ⟨n, fun H' v s hd => ?_⟩
  obtain ⟨l, xs, rfl, hs, hall⟩ := dp_tup_inv hd
  refine ⟨l, _, xs, rfl, rfl, hs, ?_, by omega, by omega, by rw [dpAll_length hall]; exact hl, fun t ht => ?_⟩
  · intro z
    subst z
    cases hall
    exact h0 rfl
  · have e : ((k : Int)).toNat = k := by omega
    rw [e]
    obtain ⟨s2, hd2⟩ := tup_fresh ht (dpAll_repW hall k)
    exact q _ _ (s.trans s2) hd2
theorem pw_cat {a b : Expr} {ds es : List PyData} {pos : Pos} (h : PE X a (tW X.K E (.tuple ds))) (h' : PE X b (tW X.K E (.tuple es))) (hl : ds.length + es.length ≤ 1000) :
    PE X (.BinOp a .Add b pos) (tW X.K E (.tuple (ds ++ es))) := by
  refine pw_mono (pe_op (r := rCatA X.K) op_catA h h') fun σ H Q z => ?_
  obtain ⟨n, q⟩ := z
  refine ⟨n, fun H1 v s1 hd => ⟨n.same s1, fun H2 u s2 hd2 => ?_⟩⟩
  obtain ⟨l, xs, rfl, hs, hall⟩ := dp_tup_inv (dp_same s2 hd)
  obtain ⟨l', ys, rfl, hs', hall'⟩ := dp_tup_inv hd2
  have hlen : xs.length + ys.length ≤ sizeLine := small (by rw [dpAll_length hall, dpAll_length hall']; exact hl)
  have hcat := dpAll_append hall hall'
  refine ⟨l, l', xs, ys, rfl, rfl, hs, hs', hlen, fun z => ?_, fun _ z => ?_, fun _ _ t ht => ?_⟩
  · subst z
    exact q _ _ (s1.trans s2) (.tup hs' hcat)
  · subst z
    rw [List.append_nil] at hcat
    exact q _ _ (s1.trans s2) (.tup hs hcat)
  · obtain ⟨s3, hd3⟩ := tup_fresh ht hcat
    exact q _ _ (s1.trans (s2.trans s3)) hd3
end
end Rp
namespace Lw
open PySem L2 Rp
local macro_rules | `(tactic| walk_at "rd") => `(tactic| repeat (first | refine ⟨_, rfl, ?_⟩ | refine ⟨_, _, rfl, rfl, ?_⟩))
def top (i : Nat) : Stmt := PySem.Challenge.pw_roomprofile_k05_tidy_jobs.main.body.getD i (.Pass ⟨0, 0, 0, 0⟩)
abbrev s_is_integer : Stmt := top 5
abbrev N_is_integer : List Str := ["value"]
theorem sc_is_integer : FnScope N_is_integer ["value"] (defScope s_is_integer) := ⟨rfl, rfl, rfl, by decide +kernel, rfl, by decide +kernel, by decide +kernel⟩
abbrev s_is_within : Stmt := top 6
abbrev N_is_within : List Str := ["value", "least", "greatest"]
theorem sc_is_within : FnScope N_is_within ["value", "least", "greatest"] (defScope s_is_within) := ⟨rfl, rfl, rfl, by decide +kernel, rfl, by decide +kernel, by decide +kernel⟩
abbrev s_is_job : Stmt := top 14
abbrev N_is_job : List Str := ["value"]
theorem sc_is_job : FnScope N_is_job ["value"] (defScope s_is_job) := ⟨rfl, rfl, rfl, by decide +kernel, rfl, by decide +kernel, by decide +kernel⟩
abbrev s_step_count : Stmt := top 15
abbrev N_step_count : List Str := ["job"]
theorem sc_step_count : FnScope N_step_count ["job"] (defScope s_step_count) := ⟨rfl, rfl, rfl, by decide +kernel, rfl, by decide +kernel, by decide +kernel⟩
abbrev s_net : Stmt := top 16
abbrev N_net : List Str := ["job"]
theorem sc_net : FnScope N_net ["job"] (defScope s_net) := ⟨rfl, rfl, rfl, by decide +kernel, rfl, by decide +kernel, by decide +kernel⟩
abbrev s_lowest : Stmt := top 17
abbrev N_lowest : List Str := ["job"]
theorem sc_lowest : FnScope N_lowest ["job"] (defScope s_lowest) := ⟨rfl, rfl, rfl, by decide +kernel, rfl, by decide +kernel, by decide +kernel⟩
abbrev s_tidy : Stmt := top 18
abbrev N_tidy : List Str := ["job", "result"]
theorem sc_tidy : FnScope N_tidy ["job"] (defScope s_tidy) := ⟨rfl, rfl, rfl, by decide +kernel, rfl, by decide +kernel, by decide +kernel⟩
abbrev s_checked_sizes : Stmt := top 19
abbrev N_checked_sizes : List Str := ["job", "sizes"]
theorem sc_checked_sizes : FnScope N_checked_sizes ["job"] (defScope s_checked_sizes) := ⟨rfl, rfl, rfl, by decide +kernel, rfl, by decide +kernel, by decide +kernel⟩
abbrev s_steps_of_leaf : Stmt := top 20
abbrev N_steps_of_leaf : List Str := ["value"]
theorem sc_steps_of_leaf : FnScope N_steps_of_leaf ["value"] (defScope s_steps_of_leaf) := ⟨rfl, rfl, rfl, by decide +kernel, rfl, by decide +kernel, by decide +kernel⟩
abbrev s_sizes_of : Stmt := top 21
abbrev N_sizes_of : List Str := ["value", "leaf_steps"]
theorem sc_sizes_of : FnScope N_sizes_of ["value", "leaf_steps"] (defScope s_sizes_of) := ⟨rfl, rfl, rfl, by decide +kernel, rfl, by decide +kernel, by decide +kernel⟩
abbrev s__sizes : Stmt := top 22
abbrev N__sizes : List Str := ["value", "leaf_steps", "room", "levels", "steps"]
theorem sc__sizes : FnScope N__sizes ["value", "leaf_steps", "room", "levels"] (defScope s__sizes) := ⟨rfl, rfl, rfl, by decide +kernel, rfl, by decide +kernel, by decide +kernel⟩
abbrev s__sizes_of_parts : Stmt := top 23
abbrev N__sizes_of_parts : List Str := ["parts", "leaf_steps", "room", "levels", "nodes", "steps", "part", "sizes"]
theorem sc__sizes_of_parts : FnScope N__sizes_of_parts ["parts", "leaf_steps", "room", "levels"] (defScope s__sizes_of_parts) := ⟨rfl, rfl, rfl, by decide +kernel, rfl, by decide +kernel, by decide +kernel⟩
abbrev s__sizes_of_rounds : Stmt := top 24
abbrev N__sizes_of_rounds : List Str := ["n", "inner", "leaf_steps", "room", "levels", "sizes"]
theorem sc__sizes_of_rounds : FnScope N__sizes_of_rounds ["n", "inner", "leaf_steps", "room", "levels"] (defScope s__sizes_of_rounds) := ⟨rfl, rfl, rfl, by decide +kernel, rfl, by decide +kernel, by decide +kernel⟩
abbrev s__within_count : Stmt := top 25
abbrev N__within_count : List Str := ["nodes", "steps"]
theorem sc__within_count : FnScope N__within_count ["nodes", "steps"] (defScope s__within_count) := ⟨rfl, rfl, rfl, by decide +kernel, rfl, by decide +kernel, by decide +kernel⟩
abbrev s__net_and_lowest : Stmt := top 26
abbrev N__net_and_lowest : List Str := ["job", "pairs", "n", "inner_net", "inner_low", "part", "pair"]
theorem sc__net_and_lowest : FnScope N__net_and_lowest ["job"] (defScope s__net_and_lowest) := ⟨rfl, rfl, rfl, by decide +kernel, rfl, by decide +kernel, by decide +kernel⟩
abbrev s__net_and_lowest_of_seq : Stmt := top 27
abbrev N__net_and_lowest_of_seq : List Str := ["parts", "before", "low", "part", "part_net", "part_low"]
theorem sc__net_and_lowest_of_seq : FnScope N__net_and_lowest_of_seq ["parts"] (defScope s__net_and_lowest_of_seq) := ⟨rfl, rfl, rfl, by decide +kernel, rfl, by decide +kernel, by decide +kernel⟩
abbrev s_tidied : Stmt := top 28
abbrev N_tidied : List Str := ["job", "part"]
theorem sc_tidied : FnScope N_tidied ["job"] (defScope s_tidied) := ⟨rfl, rfl, rfl, by decide +kernel, rfl, by decide +kernel, by decide +kernel⟩
abbrev s__tidied_parts : Stmt := top 29
abbrev N__tidied_parts : List Str := ["kind", "tidy_parts", "parts", "part"]
theorem sc__tidied_parts : FnScope N__tidied_parts ["kind", "tidy_parts"] (defScope s__tidied_parts) := ⟨rfl, rfl, rfl, by decide +kernel, rfl, by decide +kernel, by decide +kernel⟩
abbrev s__grouped : Stmt := top 30
abbrev N__grouped : List Str := ["parts", "kinds", "counts", "part", "n", "inner"]
theorem sc__grouped : FnScope N__grouped ["parts"] (defScope s__grouped) := ⟨rfl, rfl, rfl, by decide +kernel, rfl, by decide +kernel, by decide +kernel⟩
abbrev s__tidied_rounds : Stmt := top 31
abbrev N__tidied_rounds : List Str := ["kind", "n", "inner"]
theorem sc__tidied_rounds : FnScope N__tidied_rounds ["kind", "n", "inner"] (defScope s__tidied_rounds) := ⟨rfl, rfl, rfl, by decide +kernel, rfl, by decide +kernel, by decide +kernel⟩
abbrev s__has_kind : Stmt := top 32
abbrev N__has_kind : List Str := ["job", "kind"]
theorem sc__has_kind : FnScope N__has_kind ["job", "kind"] (defScope s__has_kind) := ⟨rfl, rfl, rfl, by decide +kernel, rfl, by decide +kernel, by decide +kernel⟩
abbrev s__law_pot : Stmt := top 34
abbrev N__law_pot : List Str := ["_law_script", "_law_k", "_law_cell", "_law_mixed"]
theorem sc__law_pot : FnScope N__law_pot ["_law_script", "_law_k"] (defScope s__law_pot) := ⟨rfl, rfl, rfl, by decide +kernel, rfl, by decide +kernel, by decide +kernel⟩
abbrev s__law_take : Stmt := top 35
abbrev N__law_take : List Str := ["_law_pot_here", "_law_many", "_law_found", "_law_one", "_law_other"]
theorem sc__law_take : FnScope N__law_take ["_law_pot_here", "_law_many"] (defScope s__law_take) := ⟨rfl, rfl, rfl, by decide +kernel, rfl, by decide +kernel, by decide +kernel⟩
abbrev s__law_step : Stmt := top 36
abbrev N__law_step : List Str := ["_law_pot_here", "_law_way", "_law_great"]
theorem sc__law_step : FnScope N__law_step ["_law_pot_here"] (defScope s__law_step) := ⟨rfl, rfl, rfl, by decide +kernel, rfl, by decide +kernel, by decide +kernel⟩
abbrev s__law_job : Stmt := top 37
abbrev N__law_job : List Str := ["_law_pot_here", "_law_deep", "_law_counts", "_law_way", "_law_many", "_law_turn"]
theorem sc__law_job : FnScope N__law_job ["_law_pot_here", "_law_deep", "_law_counts"] (defScope s__law_job) := ⟨rfl, rfl, rfl, by decide +kernel, rfl, by decide +kernel, by decide +kernel⟩
abbrev s__law_joined : Stmt := top 38
abbrev N__law_joined : List Str := ["_law_parts", "_law_found", "_law_part", "_law_many", "_law_inner", "_law_same", "_law_at"]
theorem sc__law_joined : FnScope N__law_joined ["_law_parts"] (defScope s__law_joined) := ⟨rfl, rfl, rfl, by decide +kernel, rfl, by decide +kernel, by decide +kernel⟩
abbrev s__law_tidy : Stmt := top 39
abbrev N__law_tidy : List Str := ["_law_job_here", "_law_inner", "_law_parts", "_law_part", "_law_one"]
theorem sc__law_tidy : FnScope N__law_tidy ["_law_job_here"] (defScope s__law_tidy) := ⟨rfl, rfl, rfl, by decide +kernel, rfl, by decide +kernel, by decide +kernel⟩
abbrev s__law_few : Stmt := top 40
abbrev N__law_few : List Str := ["_law_pot_here", "_law_kinds", "_law_parts", "_law_turn", "_law_one", "_law_way"]
theorem sc__law_few : FnScope N__law_few ["_law_pot_here"] (defScope s__law_few) := ⟨rfl, rfl, rfl, by decide +kernel, rfl, by decide +kernel, by decide +kernel⟩
abbrev s__law_raised : Stmt := top 41
abbrev N__law_raised : List Str := ["_law_job_here", "e"]
theorem sc__law_raised : FnScope N__law_raised ["_law_job_here"] (defScope s__law_raised) := ⟨rfl, rfl, rfl, by decide +kernel, rfl, by decide +kernel, by decide +kernel⟩
abbrev s__law_nest : Stmt := top 42
abbrev N__law_nest : List Str := ["_law_many", "_law_job_here", "_law_turn"]
theorem sc__law_nest : FnScope N__law_nest ["_law_many"] (defScope s__law_nest) := ⟨rfl, rfl, rfl, by decide +kernel, rfl, by decide +kernel, by decide +kernel⟩
abbrev s__law_limits_right : Stmt := top 43
abbrev N__law_limits_right : List Str := ["_law_row"]
theorem sc__law_limits_right : FnScope N__law_limits_right [] (defScope s__law_limits_right) := ⟨rfl, rfl, rfl, by decide +kernel, rfl, by decide +kernel, by decide +kernel⟩
abbrev s_TooMany_init : Stmt := inClass (top 3) 0
abbrev N_TooMany_init : List Str := ["self", "limit"]
theorem sc_TooMany_init : FnScope N_TooMany_init ["self", "limit"] (defScope s_TooMany_init) := ⟨rfl, rfl, rfl, by decide +kernel, rfl, by decide +kernel, by decide +kernel⟩
abbrev s_law : Stmt := top 44
abbrev N_law : List Str := ["_law_script", "_law_k", "_law_pot_here", "_law_job_here", "_law_one", "_law_kept", "_law_due", "_law_found"]
theorem sc_law : FnScope N_law ["_law_script"] (defScope s_law) := ⟨rfl, rfl, rfl, by decide +kernel, rfl, by decide +kernel, by decide +kernel⟩
structure Txt (K : PySem.W.Frag) (mg : Str → Option Value) where
  f_is_integer : Addr
  d_is_integer : FuncData
  F_is_integer : Fun K "is_integer" "is_integer" s_is_integer f_is_integer d_is_integer
  b_is_integer : Binds K d_is_integer ["value"] []
  m_is_integer : mg "is_integer" = some (.ref f_is_integer)
  f_is_within : Addr
  d_is_within : FuncData
  F_is_within : Fun K "is_within" "is_within" s_is_within f_is_within d_is_within
  b_is_within : Binds K d_is_within ["value", "least", "greatest"] []
  m_is_within : mg "is_within" = some (.ref f_is_within)
  f_is_job : Addr
  d_is_job : FuncData
  F_is_job : Fun K "is_job" "is_job" s_is_job f_is_job d_is_job
  b_is_job : Binds K d_is_job ["value"] []
  m_is_job : mg "is_job" = some (.ref f_is_job)
  f_step_count : Addr
  d_step_count : FuncData
  F_step_count : Fun K "step_count" "step_count" s_step_count f_step_count d_step_count
  b_step_count : Binds K d_step_count ["job"] []
  m_step_count : mg "step_count" = some (.ref f_step_count)
  f_net : Addr
  d_net : FuncData
  F_net : Fun K "net" "net" s_net f_net d_net
  b_net : Binds K d_net ["job"] []
  m_net : mg "net" = some (.ref f_net)
  f_lowest : Addr
  d_lowest : FuncData
  F_lowest : Fun K "lowest" "lowest" s_lowest f_lowest d_lowest
  b_lowest : Binds K d_lowest ["job"] []
  m_lowest : mg "lowest" = some (.ref f_lowest)
  f_tidy : Addr
  d_tidy : FuncData
  F_tidy : Fun K "tidy" "tidy" s_tidy f_tidy d_tidy
  b_tidy : Binds K d_tidy ["job"] []
  m_tidy : mg "tidy" = some (.ref f_tidy)
  f_checked_sizes : Addr
  d_checked_sizes : FuncData
  F_checked_sizes : Fun K "checked_sizes" "checked_sizes" s_checked_sizes f_checked_sizes d_checked_sizes
  b_checked_sizes : Binds K d_checked_sizes ["job"] []
  m_checked_sizes : mg "checked_sizes" = some (.ref f_checked_sizes)
  f_steps_of_leaf : Addr
  d_steps_of_leaf : FuncData
  F_steps_of_leaf : Fun K "steps_of_leaf" "steps_of_leaf" s_steps_of_leaf f_steps_of_leaf d_steps_of_leaf
  b_steps_of_leaf : Binds K d_steps_of_leaf ["value"] []
  m_steps_of_leaf : mg "steps_of_leaf" = some (.ref f_steps_of_leaf)
  f_sizes_of : Addr
  d_sizes_of : FuncData
  F_sizes_of : Fun K "sizes_of" "sizes_of" s_sizes_of f_sizes_of d_sizes_of
  b_sizes_of : Binds K d_sizes_of ["value", "leaf_steps"] []
  m_sizes_of : mg "sizes_of" = some (.ref f_sizes_of)
  f__sizes : Addr
  d__sizes : FuncData
  F__sizes : Fun K "_sizes" "_sizes" s__sizes f__sizes d__sizes
  b__sizes : Binds K d__sizes ["value", "leaf_steps", "room", "levels"] []
  m__sizes : mg "_sizes" = some (.ref f__sizes)
  f__sizes_of_parts : Addr
  d__sizes_of_parts : FuncData
  F__sizes_of_parts : Fun K "_sizes_of_parts" "_sizes_of_parts" s__sizes_of_parts f__sizes_of_parts d__sizes_of_parts
  b__sizes_of_parts : Binds K d__sizes_of_parts ["parts", "leaf_steps", "room", "levels"] []
  m__sizes_of_parts : mg "_sizes_of_parts" = some (.ref f__sizes_of_parts)
  f__sizes_of_rounds : Addr
  d__sizes_of_rounds : FuncData
  F__sizes_of_rounds : Fun K "_sizes_of_rounds" "_sizes_of_rounds" s__sizes_of_rounds f__sizes_of_rounds d__sizes_of_rounds
  b__sizes_of_rounds : Binds K d__sizes_of_rounds ["n", "inner", "leaf_steps", "room", "levels"] []
  m__sizes_of_rounds : mg "_sizes_of_rounds" = some (.ref f__sizes_of_rounds)
  f__within_count : Addr
  d__within_count : FuncData
  F__within_count : Fun K "_within_count" "_within_count" s__within_count f__within_count d__within_count
  b__within_count : Binds K d__within_count ["nodes", "steps"] []
  m__within_count : mg "_within_count" = some (.ref f__within_count)
  f__net_and_lowest : Addr
  d__net_and_lowest : FuncData
  F__net_and_lowest : Fun K "_net_and_lowest" "_net_and_lowest" s__net_and_lowest f__net_and_lowest d__net_and_lowest
  b__net_and_lowest : Binds K d__net_and_lowest ["job"] []
  m__net_and_lowest : mg "_net_and_lowest" = some (.ref f__net_and_lowest)
  f__net_and_lowest_of_seq : Addr
  d__net_and_lowest_of_seq : FuncData
  F__net_and_lowest_of_seq : Fun K "_net_and_lowest_of_seq" "_net_and_lowest_of_seq" s__net_and_lowest_of_seq f__net_and_lowest_of_seq d__net_and_lowest_of_seq
  b__net_and_lowest_of_seq : Binds K d__net_and_lowest_of_seq ["parts"] []
  m__net_and_lowest_of_seq : mg "_net_and_lowest_of_seq" = some (.ref f__net_and_lowest_of_seq)
  f_tidied : Addr
  d_tidied : FuncData
  F_tidied : Fun K "tidied" "tidied" s_tidied f_tidied d_tidied
  b_tidied : Binds K d_tidied ["job"] []
  m_tidied : mg "tidied" = some (.ref f_tidied)
  f__tidied_parts : Addr
  d__tidied_parts : FuncData
  F__tidied_parts : Fun K "_tidied_parts" "_tidied_parts" s__tidied_parts f__tidied_parts d__tidied_parts
  b__tidied_parts : Binds K d__tidied_parts ["kind", "tidy_parts"] []
  m__tidied_parts : mg "_tidied_parts" = some (.ref f__tidied_parts)
  f__grouped : Addr
  d__grouped : FuncData
  F__grouped : Fun K "_grouped" "_grouped" s__grouped f__grouped d__grouped
  b__grouped : Binds K d__grouped ["parts"] []
  m__grouped : mg "_grouped" = some (.ref f__grouped)
  f__tidied_rounds : Addr
  d__tidied_rounds : FuncData
  F__tidied_rounds : Fun K "_tidied_rounds" "_tidied_rounds" s__tidied_rounds f__tidied_rounds d__tidied_rounds
  b__tidied_rounds : Binds K d__tidied_rounds ["kind", "n", "inner"] []
  m__tidied_rounds : mg "_tidied_rounds" = some (.ref f__tidied_rounds)
  f__has_kind : Addr
  d__has_kind : FuncData
  F__has_kind : Fun K "_has_kind" "_has_kind" s__has_kind f__has_kind d__has_kind
  b__has_kind : Binds K d__has_kind ["job", "kind"] []
  m__has_kind : mg "_has_kind" = some (.ref f__has_kind)
  f__law_pot : Addr
  d__law_pot : FuncData
  F__law_pot : Fun K "_law_pot" "_law_pot" s__law_pot f__law_pot d__law_pot
  b__law_pot : Binds K d__law_pot ["_law_script", "_law_k"] []
  m__law_pot : mg "_law_pot" = some (.ref f__law_pot)
  f__law_take : Addr
  d__law_take : FuncData
  F__law_take : Fun K "_law_take" "_law_take" s__law_take f__law_take d__law_take
  b__law_take : Binds K d__law_take ["_law_pot_here", "_law_many"] []
  m__law_take : mg "_law_take" = some (.ref f__law_take)
  f__law_step : Addr
  d__law_step : FuncData
  F__law_step : Fun K "_law_step" "_law_step" s__law_step f__law_step d__law_step
  b__law_step : Binds K d__law_step ["_law_pot_here"] []
  m__law_step : mg "_law_step" = some (.ref f__law_step)
  f__law_job : Addr
  d__law_job : FuncData
  F__law_job : Fun K "_law_job" "_law_job" s__law_job f__law_job d__law_job
  b__law_job : Binds K d__law_job ["_law_pot_here", "_law_deep", "_law_counts"] []
  m__law_job : mg "_law_job" = some (.ref f__law_job)
  f__law_joined : Addr
  d__law_joined : FuncData
  F__law_joined : Fun K "_law_joined" "_law_joined" s__law_joined f__law_joined d__law_joined
  b__law_joined : Binds K d__law_joined ["_law_parts"] []
  m__law_joined : mg "_law_joined" = some (.ref f__law_joined)
  f__law_tidy : Addr
  d__law_tidy : FuncData
  F__law_tidy : Fun K "_law_tidy" "_law_tidy" s__law_tidy f__law_tidy d__law_tidy
  b__law_tidy : Binds K d__law_tidy ["_law_job_here"] []
  m__law_tidy : mg "_law_tidy" = some (.ref f__law_tidy)
  f__law_few : Addr
  d__law_few : FuncData
  F__law_few : Fun K "_law_few" "_law_few" s__law_few f__law_few d__law_few
  b__law_few : Binds K d__law_few ["_law_pot_here"] []
  m__law_few : mg "_law_few" = some (.ref f__law_few)
  f__law_raised : Addr
  d__law_raised : FuncData
  F__law_raised : Fun K "_law_raised" "_law_raised" s__law_raised f__law_raised d__law_raised
  b__law_raised : Binds K d__law_raised ["_law_job_here"] []
  m__law_raised : mg "_law_raised" = some (.ref f__law_raised)
  f__law_nest : Addr
  d__law_nest : FuncData
  F__law_nest : Fun K "_law_nest" "_law_nest" s__law_nest f__law_nest d__law_nest
  b__law_nest : Binds K d__law_nest ["_law_many"] []
  m__law_nest : mg "_law_nest" = some (.ref f__law_nest)
  f__law_limits_right : Addr
  d__law_limits_right : FuncData
  F__law_limits_right : Fun K "_law_limits_right" "_law_limits_right" s__law_limits_right f__law_limits_right d__law_limits_right
  b__law_limits_right : Binds K d__law_limits_right [] []
  m__law_limits_right : mg "_law_limits_right" = some (.ref f__law_limits_right)
  t_MAX_STEP : Tok
  g_MAX_STEP : mg "MAX_STEP" = some (.int 1000000000000000000000000000000 t_MAX_STEP)
  t_MAX_COUNT : Tok
  g_MAX_COUNT : mg "MAX_COUNT" = some (.int 1000000000000000000000000000000 t_MAX_COUNT)
  t_MAX_PARTS : Tok
  g_MAX_PARTS : mg "MAX_PARTS" = some (.int 400 t_MAX_PARTS)
  t_MAX_NODES : Tok
  g_MAX_NODES : mg "MAX_NODES" = some (.int 400 t_MAX_NODES)
  t_MAX_DEPTH : Tok
  g_MAX_DEPTH : mg "MAX_DEPTH" = some (.int 13 t_MAX_DEPTH)
  c_TooMany : Addr
  g_TooMany : mg "TooMany" = some (.ref c_TooMany)
  f_TooMany_init : Addr
  d_TooMany_init : FuncData
  F_TooMany_init : Fun K "__init__" "TooMany.__init__" s_TooMany_init f_TooMany_init d_TooMany_init
  b_TooMany_init : Binds K d_TooMany_init ["self", "limit"] []
  ox_TooMany : OexB K c_TooMany
  iC_TooMany : PySem.W.findIn K (.ref c_TooMany) "__init__" = some (some (.ref f_TooMany_init))
  tI_TooMany : PySem.W.typeIn K (.ref f_TooMany_init) = some (.type "function")
  no_TooMany : PySem.W.findIn K (.ref c_TooMany) "limit" = some none
  xf_TooMany : XfC K c_TooMany
  xc_TooMany : L2.ExcC K c_TooMany
  e_TooMany_TooMany : PySem.W.exmOne K (.ref c_TooMany) (.ref c_TooMany) = some true
  t_EMPTY : Addr
  g_EMPTY : mg "EMPTY" = some (.ref t_EMPTY)
  d_EMPTY : ∀ H, Dp K H (.ref t_EMPTY) (.tuple [.str "seq", .tuple []])
  c_JobError : Addr
  g_JobError : mg "JobError" = some (.ref c_JobError)
  q_TooMany_JobError : PySem.W.kitOne K (.ref c_TooMany) (.ref c_JobError) = some false
  n_abs : mg "abs" = none
  n_bool : mg "bool" = none
  n_int : mg "int" = none
  n_isinstance : mg "isinstance" = none
  n_len : mg "len" = none
  n_list : mg "list" = none
  n_max : mg "max" = none
  n_min : mg "min" = none
  n_range : mg "range" = none
  n_repr : mg "repr" = none
  n_sum : mg "sum" = none
  n_tuple : mg "tuple" = none
  n_zip : mg "zip" = none
/-! block SizesN (of the later code): is_integer, is_within, steps_of_leaf, sizes_of, _within_count, _sizes and its two helpers, is_job, checked_sizes -/
def spIsInt (K : PySem.W.Frag) : Sp := fun vs H Q _ => ∃ (v : V) (d : PyData), vs = [v] ∧ Dp K H v d ∧ Q (.bl (isInt d && !isBoo d)) H
/-- a pair of ints, or None -/
def RepSz (H : Hp) (r : V) : Option (Int × Int) → Prop
  | none => r = .non
  | some (a, b) => ∃ t, r = .ref t ∧ H t = some (.tup [.int a, .int b])
def spWithin : Sp := fun vs H Q _ => ∃ a b : Int, vs = [.int a, .int b] ∧ ∀ (H' : Hp) (r : V), Same H H' → RepSz H' r (within a b) → Q r H'
def inW : PyData → Int → Int → Bool
  | .int i, a, b => decide (a ≤ i) && decide (i ≤ b)
  | _, _, _ => false
theorem inW_int {i a b : Int} : inW (.int i) a b = (decide (a ≤ i) && decide (i ≤ b)) := rfl
def spWi (K : PySem.W.Frag) : Sp := fun vs H Q _ => ∃ (v : V) (d : PyData) (a b : Int), vs = [v, .int a, .int b] ∧ Dp K H v d ∧ Q (.bl (inW d a b)) H
def spLeaf (K : PySem.W.Frag) : Sp := fun vs H Q _ => ∃ (v : V) (d : PyData), vs = [v] ∧ Dp K H v d ∧ Q (if inW d (-M30) M30 = true then .int 1 else .non) H
def spSz (K : PySem.W.Frag) (L : Addr) (n : Nat) : Sp := fun vs H Q _ => ∃ (v : V) (j : J) (room lv : Int), vs = [v, .ref L, .int room, .int lv] ∧ Dp K H v j.toD ∧ 0 ≤ lv ∧ lv < (n : Int) ∧
  ∀ (H' : Hp) (r : V), Same H H' → RepSz H' r (szJ j room lv) → Q r H'
def spSzs (K : PySem.W.Frag) (L : Addr) (n : Nat) : Sp := fun vs H Q _ => ∃ (v : V) (js : List J) (room lv : Int), vs = [v, .ref L, .int room, .int lv] ∧ Dp K H v (.tuple (J.toDs js)) ∧ 1 ≤ lv ∧ lv ≤ (n : Int) ∧
  ∀ (H' : Hp) (r : V), Same H H' → RepSz H' r (if (js.length : Int) > 400 then none else szJs js 1 0 room lv) → Q r H'
def spSzr (K : PySem.W.Frag) (L : Addr) (n : Nat) : Sp := fun vs H Q _ => ∃ (v : V) (c : Int) (j : J) (room lv : Int), vs = [.int c, v, .ref L, .int room, .int lv] ∧ Dp K H v j.toD ∧ 1 ≤ lv ∧ lv ≤ (n : Int) ∧
  ∀ (H' : Hp) (r : V), Same H H' → RepSz H' r (if ¬ (0 ≤ c ∧ c ≤ M30) then none else match szJ j (room - 1) (lv - 1) with | none => none | some (a, b) => within (a + 1) (b * c)) → Q r H'
section
variable {P : Program} {w : World} {K : PySem.W.Frag} {mg : Str → Option Value} {base : Heap}
theorem ok_isint (T : Txt K mg) : FnOk P w K mg base CX0 1 T.f_is_integer T.d_is_integer ["value"] (spIsInt K) := by
  refine T.F_is_integer.ok sc_is_integer (fun vs H Q E h => ?_) (fun cdv A outer s H vs Q E hr h => ?_)
  · obtain ⟨v, d, rfl, _⟩ := h
    rfl
  obtain ⟨v, d, rfl, hd, q⟩ := h
  refine ⟨_, (pss_one (ps_ret (pe_and (pe_callB (r := rIsD K) call_isD (by rfl) T.n_isinstance (by decide +kernel) (pa_cons (pv 0) (pa_cons (pe_bltn (v := .ty "int") (by rfl) T.n_int (by decide +kernel) rfl) pa_nil))) (pe_one (pe_not (pe_callB (r := rIsD K) call_isD (by rfl) T.n_isinstance (by decide +kernel) (pa_cons (pv 0) (pa_cons (pe_bltn (v := .ty "bool") (by rfl) T.n_bool (by decide +kernel) rfl) pa_nil)))))))), ?_⟩
  refine ⟨_, rfl, v, _, d, _, rfl, hd, kit_int d, _, rfl, ?_⟩
  cases e : isInt d with
  | false =>
    refine iteF ?_
    rw [e] at q
    exact q
  | true =>
    refine iteT ⟨_, rfl, v, _, d, _, rfl, hd, kit_bool d, _, rfl, ?_⟩
    rw [e] at q
    exact q
theorem ok_wi (T : Txt K mg) : FnOk P w K mg base CX0 2 T.f_is_within T.d_is_within ["value", "least", "greatest"] (spWi K) := by
  have g_is_integer : FnOk P w K mg base CX0 1 T.f_is_integer T.d_is_integer ["value"] (spIsInt K) := ok_isint T
  refine T.F_is_within.ok sc_is_within (fun vs H Q E h => ?_) (fun cdv A outer s H vs Q E hr h => ?_)
  · obtain ⟨v, d, a, b, rfl, _⟩ := h
    rfl
  obtain ⟨v, d, a, b, rfl, hd, q⟩ := h
  refine ⟨_, (pss_one (ps_ret (pe_and (pe_call g_is_integer (hr.mono (by omega)) rfl T.m_is_integer T.F_is_integer.kp T.b_is_integer .nil pass0 (pa_cons (pv 0) pa_nil)) (pe_one (pe_chain op_le op_le (pv 1) (pv 0) (pv 2)))))), ?_⟩
  refine ⟨_, rfl, v, d, rfl, hd, _, rfl, ?_⟩
  by_cases e : ∃ i, d = .int i
  · obtain ⟨i, rfl⟩ := e
    obtain rfl := dp_int_inv hd
    refine iteT ?_
    refine ⟨_, rfl, _, rfl, _, _, rfl, rfl, _, rfl, ?_⟩
    rw [inW_int] at q
    cases e1 : decide (a ≤ i) with
    | true =>
      refine iteT ?_
      rw [e1, Bool.true_and] at q
      exact ⟨_, rfl, _, _, rfl, rfl, q⟩
    | false =>
      refine iteF ?_
      rw [e1, Bool.false_and] at q
      exact q
  · have e1 : (isInt d && !isBoo d) = false ∧ inW d a b = false := by
      cases d <;> first | exact absurd ⟨_, rfl⟩ e | exact ⟨rfl, rfl⟩
    rw [e1.1]
    rw [e1.2] at q
    refine iteF ?_
    exact q
theorem ok_leaf (T : Txt K mg) : FnOk P w K mg base CX0 3 T.f_steps_of_leaf T.d_steps_of_leaf ["value"] (spLeaf K) := by
  have g_is_within := ok_wi (P := P) (w := w) (base := base) T
  refine T.F_steps_of_leaf.ok sc_steps_of_leaf (fun vs H Q E h => ?_) (fun cdv A outer s H vs Q E hr h => ?_)
  · obtain ⟨v, d, rfl, _⟩ := h
    rfl
  obtain ⟨v, d, rfl, hd, q⟩ := h
  refine ⟨_, (pss_one (ps_ret (pe_ifExp (pt_val (pe_call g_is_within (hr.mono (by omega)) rfl T.m_is_within T.F_is_within.kp T.b_is_within .nil pass0 (pa_cons (pv 0) (pa_cons (pe_un un_neg (pe_glob (v := .int 1000000000000000000000000000000) rfl T.g_MAX_STEP ⟨_, rfl⟩)) (pa_cons (pe_glob (v := .int 1000000000000000000000000000000) rfl T.g_MAX_STEP ⟨_, rfl⟩) pa_nil))))) pe_int pe_non))), ?_⟩
  refine ⟨_, rfl, _, rfl, v, d, -M30, M30, rfl, hd, _, rfl, ?_⟩
  cases e : inW d (-M30) M30 with
  | true =>
    rw [e] at q
    refine iteT ?_
    exact q
  | false =>
    rw [e] at q
    refine iteF ?_
    exact q
theorem ok_within (T : Txt K mg) : FnOk P w K mg base CX0 1 T.f__within_count T.d__within_count ["nodes", "steps"] spWithin := by
  refine T.F__within_count.ok sc__within_count (fun vs H Q E h => ?_) (fun cdv A outer s H vs Q E hr h => ?_)
  · obtain ⟨a, b, rfl, _⟩ := h
    rfl
  obtain ⟨a, b, rfl, q⟩ := h
  refine ⟨_, (pss_one (ps_ret (pe_ifExp (pt_cmpR op_le (pv 1) (pe_glob (v := .int 1000000000000000000000000000000) rfl T.g_MAX_COUNT ⟨_, rfl⟩) (nomark _)) (pe_tup (pa_cons (pv 0) (pa_cons (pv 1) pa_nil))) pe_non))), ?_⟩
  refine ⟨_, rfl, _, _, rfl, rfl, _, rfl, ?_⟩
  unfold within at q
  refine ite2 (fun g => ?_) (fun g => ?_)
  · rw [if_pos (of_decide_eq_true g)] at q
    refine ⟨_, rfl, _, rfl, (by show 2 ≤ sizeLine; decide), fun t ht => ?_⟩
    exact q _ _ (same_new ht) ⟨t, rfl, upd_same⟩
  · rw [if_neg (fun z => g (decide_eq_true z))] at q
    exact q _ _ (Same.refl _) rfl
theorem ok_szs (T : Txt K mg) {n : Nat} (g__sizes : FnOk P w K mg base CX0 (2 * n + 2) T.f__sizes T.d__sizes ["value", "leaf_steps", "room", "levels"] (spSz K T.f_steps_of_leaf n)) :
    FnOk P w K mg base CX0 (2 * n + 3) T.f__sizes_of_parts T.d__sizes_of_parts ["parts", "leaf_steps", "room", "levels"] (spSzs K T.f_steps_of_leaf n) := by
  have g__within_count : FnOk P w K mg base CX0 1 T.f__within_count T.d__within_count ["nodes", "steps"] spWithin := ok_within T
  refine T.F__sizes_of_parts.ok sc__sizes_of_parts (fun vs H Q E h => ?_) (fun cdv A outer s H vs Q E hr h => ?_)
  · obtain ⟨v, js, room, lv, rfl, _⟩ := h
    rfl
  obtain ⟨v, js, room, lv, rfl, hd, hn1, hn, q⟩ := h
  refine ⟨_, (pss_cons (ps_if (PW.pt (pw_or (pt_not (pt_val (pe_callB (r := rIsD K) call_isD (by rfl) T.n_isinstance (by decide +kernel) (pa_cons (pv 0) (pa_cons (pe_bltn (v := .ty "tuple") (by rfl) T.n_tuple (by decide +kernel) rfl) pa_nil))))) (pw_or1 (pt_cmpR op_gt (pe_callB (r := rLenS K) call_lenS (by rfl) T.n_len (by decide +kernel) (pa_cons (pv 0) pa_nil)) (pe_glob (v := .int 400) rfl T.g_MAX_PARTS ⟨_, rfl⟩) (nomark _))))) (pss_one (ps_ret pe_non)) pss_nil)
      (pss_cons (ps_set (i := 4) sc__sizes_of_parts.nd rfl (Or.inl rfl) pe_int)
      (pss_cons (ps_set (i := 5) sc__sizes_of_parts.nd rfl (Or.inl rfl) pe_int)
      (pss_cons (ps_for PassesOwn.never rfl (pi_tup (pv 0)) (pg_name (i := 6) sc__sizes_of_parts.nd rfl (Or.inl rfl))
        (pss_cons (ps_set (i := 7) sc__sizes_of_parts.nd rfl (Or.inl rfl) (pe_call g__sizes (hr.mono (by omega)) rfl T.m__sizes T.F__sizes.kp T.b__sizes .nil pass0 (pa_cons (pv 6) (pa_cons (pv 1) (pa_cons (pe_op op_sub (pv 2) (pv 4)) (pa_cons (pe_op op_sub (pv 3) pe_int) pa_nil))))))
        (pss_cons (ps_if (pt_cmpR op_isN (pv 7) pe_non (nomark _)) (pss_one (ps_ret pe_non)) pss_nil)
        (pss_cons (ps_aug (i := 4) sc__sizes_of_parts.nd rfl (Or.inl rfl) (pe_ix (r := rIxT K) ix_tup (pv 7) pe_int (fun _ _ => rfl)) ip_add)
        (pss_one (ps_aug (i := 5) sc__sizes_of_parts.nd rfl (Or.inl rfl) (pe_ix (r := rIxT K) ix_tup (pv 7) pe_int (fun _ _ => rfl)) ip_add))))))
      (pss_one (ps_ret (pe_call g__within_count (hr.mono (by omega)) rfl T.m__within_count T.F__within_count.kp T.b__within_count .nil pass0 (pa_cons (pv 4) (pa_cons (pv 5) pa_nil))))))))), ?_⟩
  obtain ⟨a, xs, rfl, hxs, hall⟩ := dp_tup_inv hd
  have hlen : xs.length = js.length := by rw [dpAll_length hall, J.toDs_eq, List.length_map]
  refine ⟨_, rfl, _, _, _, _, rfl, hd, kit_tuple _, _, rfl, ?_⟩
  refine iteF ?_
  refine ⟨_, rfl, a, xs, rfl, .inr hxs, _, _, rfl, rfl, _, rfl, ?_⟩
  refine ite2 (fun g => ?_) (fun g => ?_)
  · have g' : (400 : Int) < (xs.length : Int) := of_decide_eq_true g
    rw [if_pos (by omega)] at q
    exact q _ _ (Same.refl _) rfl
  have g' : ¬ (400 : Int) < (xs.length : Int) := fun z => g (decide_eq_true z)
  rw [if_neg (by omega)] at q
  refine ⟨_, rfl, a, rfl, ⟨xs, hxs⟩, ?_⟩
  -- the loop: what is left of the parts gives what is left of the sizes
  refine for_tup (K := K) (a := a) (xs := xs) (fun i σ H' => ∃ (nodes steps : Int) (y5 y6 : Option V), σ = [some (.ref a), some (.ref T.f_steps_of_leaf), some (.int room), some (.int lv), some (.int nodes), some (.int steps), y5, y6] ∧ Same H H' ∧
    szJs js 1 0 room lv = szJs (js.drop i) nodes steps room lv) ⟨1, 0, none, none, rfl, Same.refl _, rfl⟩ (fun i σ H' _ ⟨_, _, _, _, _, s1, _⟩ => same_sqT s1 hxs) ?_ ?_
  · rintro i x σ H' hi ⟨nodes, steps, y5, y6, rfl, s1, es⟩
    obtain ⟨d, ed, hd'⟩ := dpAll_get hall hi
    have hij : i < js.length := by
      rw [← hlen]
      exact (List.getElem?_eq_some_iff.mp hi).1
    have ej : d = (js[i]).toD := by
      rw [J.toDs_eq, List.getElem?_map, List.getElem?_eq_getElem hij] at ed
      exact (Option.some.inj ed).symm
    subst ej
    have hdrop : js.drop i = js[i] :: js.drop (i + 1) := List.drop_eq_getElem_cons hij
    rw [hdrop] at es
    refine ⟨_, rfl, _, rfl, _, rfl, _, rfl, _, _, rfl, rfl, _, rfl, _, _, rfl, rfl, x, js[i], room - nodes, lv - 1, rfl, dp_same s1 hd', by omega, by omega, fun H2 r2 s2 h2 => ?_⟩
    simp only [szJs] at es
    cases ez : szJ js[i] (room - nodes) (lv - 1) with
    | none =>
      rw [ez] at h2 es
      obtain rfl : r2 = .non := h2
      refine ⟨_, rfl, rfl, _, rfl, ?_⟩
      refine iteT ?_
      rw [es] at q
      exact q _ _ (s1.trans s2) rfl
    | some ab =>
      obtain ⟨a1, b1⟩ := ab
      rw [ez] at h2 es
      obtain ⟨t, rfl, ht⟩ := h2
      refine ⟨_, rfl, rfl, _, rfl, ?_⟩
      refine iteF ?_
      refine ⟨_, rfl, _, rfl, _, _, _, _, rfl, rfl, SqT.of ht, rfl, _, _, rfl, rfl, ?_⟩
      refine ⟨_, rfl, _, rfl, _, _, _, _, rfl, rfl, SqT.of ht, rfl, _, _, rfl, rfl, ?_⟩
      exact ⟨_, _, _, _, rfl, s1.trans s2, es⟩
  · rintro σ H' ⟨nodes, steps, y5, y6, rfl, s1, es⟩
    rw [hlen, List.drop_length] at es
    simp only [szJs] at es
    refine ⟨_, rfl, _, rfl, nodes, steps, rfl, fun H2 r2 s2 h2 => ?_⟩
    rw [es] at q
    exact q _ _ (s1.trans s2) h2
theorem ok_szr (T : Txt K mg) {n : Nat} (g__sizes : FnOk P w K mg base CX0 (2 * n + 2) T.f__sizes T.d__sizes ["value", "leaf_steps", "room", "levels"] (spSz K T.f_steps_of_leaf n)) :
    FnOk P w K mg base CX0 (2 * n + 3) T.f__sizes_of_rounds T.d__sizes_of_rounds ["n", "inner", "leaf_steps", "room", "levels"] (spSzr K T.f_steps_of_leaf n) := by
  have g__within_count : FnOk P w K mg base CX0 1 T.f__within_count T.d__within_count ["nodes", "steps"] spWithin := ok_within T
  have g_is_within := ok_wi (P := P) (w := w) (base := base) T
  refine T.F__sizes_of_rounds.ok sc__sizes_of_rounds (fun vs H Q E h => ?_) (fun cdv A outer s H vs Q E hr h => ?_)
  · obtain ⟨v, c, j, room, lv, rfl, _⟩ := h
    rfl
  obtain ⟨v, c, j, room, lv, rfl, hd, hn1, hn, q⟩ := h
  refine ⟨_, (pss_cons (ps_if (pt_not (pt_val (pe_call g_is_within (hr.mono (by omega)) rfl T.m_is_within T.F_is_within.kp T.b_is_within .nil pass0 (pa_cons (pv 0) (pa_cons pe_int (pa_cons (pe_glob (v := .int 1000000000000000000000000000000) rfl T.g_MAX_COUNT ⟨_, rfl⟩) pa_nil)))))) (pss_one (ps_ret pe_non)) pss_nil)
      (pss_cons (ps_set (i := 5) sc__sizes_of_rounds.nd rfl (Or.inl rfl) (pe_call g__sizes (hr.mono (by omega)) rfl T.m__sizes T.F__sizes.kp T.b__sizes .nil pass0 (pa_cons (pv 1) (pa_cons (pv 2) (pa_cons (pe_op op_sub (pv 3) pe_int) (pa_cons (pe_op op_sub (pv 4) pe_int) pa_nil))))))
      (pss_cons (ps_if (pt_cmpR op_isN (pv 5) pe_non (nomark _)) (pss_one (ps_ret pe_non)) pss_nil)
      (pss_one (ps_ret (pe_call g__within_count (hr.mono (by omega)) rfl T.m__within_count T.F__within_count.kp T.b__within_count .nil pass0 (pa_cons (pe_op op_add (pe_ix (r := rIxT K) ix_tup (pv 5) pe_int (fun _ _ => rfl)) pe_int) (pa_cons (pe_op op_mulW (pe_ix (r := rIxT K) ix_tup (pv 5) pe_int (fun _ _ => rfl)) (pv 0)) pa_nil)))))))), ?_⟩
  refine ⟨_, rfl, .int c, .int c, 0, M30, rfl, .int c, _, rfl, ?_⟩
  show if (!(decide (0 ≤ c) && decide (c ≤ M30))) = true then _ else _
  refine ite2 (fun g => ?_) (fun g => ?_)
  · rw [if_pos (fun z => by rw [decide_eq_true z.1, decide_eq_true z.2] at g; cases g)] at q
    exact q _ _ (Same.refl _) rfl
  obtain ⟨g0, g1⟩ : 0 ≤ c ∧ c ≤ M30 := by
    by_cases z : 0 ≤ c ∧ c ≤ M30
    · exact z
    · exfalso
      apply g
      rw [Bool.not_eq_true', Bool.and_eq_false_iff]
      by_cases z0 : 0 ≤ c
      · exact .inr (decide_eq_false fun y => z ⟨z0, y⟩)
      · exact .inl (decide_eq_false z0)
  rw [if_neg (fun z => z ⟨g0, g1⟩)] at q
  refine ⟨_, rfl, _, rfl, _, rfl, _, _, rfl, rfl, _, rfl, _, _, rfl, rfl, v, j, room - 1, lv - 1, rfl, hd, by omega, by omega, fun H2 r2 s2 h2 => ?_⟩
  cases ez : szJ j (room - 1) (lv - 1) with
  | none =>
    rw [ez] at h2 q
    obtain rfl : r2 = .non := h2
    refine ⟨_, rfl, rfl, _, rfl, ?_⟩
    refine iteT ?_
    exact q _ _ s2 rfl
  | some ab =>
    obtain ⟨a1, b1⟩ := ab
    rw [ez] at h2 q
    obtain ⟨t, rfl, ht⟩ := h2
    refine ⟨_, rfl, rfl, _, rfl, ?_⟩
    refine iteF ?_
    obtain ⟨jo, _, _, ea, eb⟩ := szJ_inv j _ _ _ _ ez
    have hb0 := J.steps_nn j jo
    have hb1 := J.steps_le j jo
    rw [← eb] at hb0 hb1
    refine ⟨_, rfl, _, _, _, _, rfl, rfl, SqT.of ht, rfl, _, _, rfl, rfl, _, rfl, _, _, _, _, rfl, rfl, SqT.of ht, rfl, _, rfl, _, _, rfl, rfl, ?_, ?_⟩
    · have e1 : b1.natAbs < 2 ^ 128 := Nat.lt_of_le_of_lt (show b1.natAbs ≤ 1000000000000000000000000000000 by simp only [M30] at hb1; omega) (by decide)
      have e2 : c.natAbs < 2 ^ 128 := Nat.lt_of_le_of_lt (show c.natAbs ≤ 1000000000000000000000000000000 by simp only [M30] at g1; omega) (by decide)
      exact wide_mul (a := 128) (b := 128) e1 e2 (by decide) (by decide) (by decide)
    refine ⟨_, _, rfl, fun H3 r3 s3 h3 => ?_⟩
    exact q _ _ (s2.trans s3) h3
theorem in_parts (k : Bool) : inV (.str (kwP k)) [.str "seq", .str "par"] = true := by cases k <;> decide +kernel
theorem in_parts_no (k : Bool) : inV (.str (kwR k)) [.str "seq", .str "par"] = false := by cases k <;> decide +kernel
theorem in_rounds (k : Bool) : inV (.str (kwR k)) [.str "repeat", .str "copies"] = true := by cases k <;> decide +kernel
theorem ok_sz (T : Txt K mg) {n : Nat} (g__sizes_of_parts : FnOk P w K mg base CX0 (2 * n + 3) T.f__sizes_of_parts T.d__sizes_of_parts ["parts", "leaf_steps", "room", "levels"] (spSzs K T.f_steps_of_leaf n))
    (g__sizes_of_rounds : FnOk P w K mg base CX0 (2 * n + 3) T.f__sizes_of_rounds T.d__sizes_of_rounds ["n", "inner", "leaf_steps", "room", "levels"] (spSzr K T.f_steps_of_leaf n)) :
    FnOk P w K mg base CX0 (2 * (n + 1) + 2) T.f__sizes T.d__sizes ["value", "leaf_steps", "room", "levels"] (spSz K T.f_steps_of_leaf (n + 1)) := by
  have g_steps_of_leaf := ok_leaf (P := P) (w := w) (base := base) T
  refine T.F__sizes.ok sc__sizes (fun vs H Q E h => ?_) (fun cdv A outer s H vs Q E hr h => ?_)
  · obtain ⟨v, j, room, lv, rfl, _⟩ := h
    rfl
  obtain ⟨v, j, room, lv, rfl, hd, hn1, hn, q⟩ := h
  refine ⟨_, (pss_cons (ps_if (PW.pt (pw_or (pt_cmpR op_lt (pv 2) pe_int (nomark _)) (pw_or1 (pt_cmpR op_lt (pv 3) pe_int (nomark _))))) (pss_one (ps_ret pe_non)) pss_nil)
      (pss_cons (ps_set (i := 4) sc__sizes.nd rfl (Or.inl rfl) (pe_callL (i := 1) g_steps_of_leaf (hr.mono (by omega)) rfl (.inl rfl) T.F_steps_of_leaf.kp T.b_steps_of_leaf .nil pass0 (pa_cons (pv 0) pa_nil)))
      (pss_cons (ps_if (pt_cmpR op_notN (pv 4) pe_non (nomark _)) (pss_one (ps_ret (pe_tup (pa_cons pe_int (pa_cons (pv 4) pa_nil))))) pss_nil)
      (pss_cons (ps_if (pt_not (pt_val (pe_callB (r := rIsD K) call_isD (by rfl) T.n_isinstance (by decide +kernel) (pa_cons (pv 0) (pa_cons (pe_bltn (v := .ty "tuple") (by rfl) T.n_tuple (by decide +kernel) rfl) pa_nil))))) (pss_one (ps_ret pe_non)) pss_nil)
      (pss_cons (ps_if (PW.pt (pw_and (pt_cmpR op_eq (pe_callB (r := rLenS K) call_lenS (by rfl) T.n_len (by decide +kernel) (pa_cons (pv 0) pa_nil)) pe_int (nomark _)) (pw_and1 (pt_cmpR (r := rIn K false) op_in_seq (pe_ix (r := rIxT K) ix_tup (pv 0) pe_int (fun _ _ => rfl)) (pe_tup (pa_cons pe_str (pa_cons pe_str pa_nil))) (by rfl))))) (pss_one (ps_ret (pe_call g__sizes_of_parts (hr.mono (by omega)) rfl T.m__sizes_of_parts T.F__sizes_of_parts.kp T.b__sizes_of_parts .nil pass0 (pa_cons (pe_ix (r := rIxT K) ix_tup (pv 0) pe_int (fun _ _ => rfl)) (pa_cons (pv 1) (pa_cons (pv 2) (pa_cons (pv 3) pa_nil))))))) pss_nil)
      (pss_cons (ps_if (PW.pt (pw_and (pt_cmpR op_eq (pe_callB (r := rLenS K) call_lenS (by rfl) T.n_len (by decide +kernel) (pa_cons (pv 0) pa_nil)) pe_int (nomark _)) (pw_and1 (pt_cmpR (r := rIn K false) op_in_seq (pe_ix (r := rIxT K) ix_tup (pv 0) pe_int (fun _ _ => rfl)) (pe_tup (pa_cons pe_str (pa_cons pe_str pa_nil))) (by rfl))))) (pss_one (ps_ret (pe_call g__sizes_of_rounds (hr.mono (by omega)) rfl T.m__sizes_of_rounds T.F__sizes_of_rounds.kp T.b__sizes_of_rounds .nil pass0 (pa_cons (pe_ix (r := rIxT K) ix_tup (pv 0) pe_int (fun _ _ => rfl)) (pa_cons (pe_ix (r := rIxT K) ix_tup (pv 0) pe_int (fun _ _ => rfl)) (pa_cons (pv 1) (pa_cons (pv 2) (pa_cons (pv 3) pa_nil)))))))) pss_nil)
      (pss_one (ps_ret pe_non)))))))), ?_⟩
  -- room < 1 or levels < 1
  have no : ∀ R : V → Hp → Prop, R = Q → (room < 1 ∨ lv < 1) → R .non H := by
    rintro R rfl z
    have e : szJ j room lv = none := by cases j <;> simp only [szJ] <;> rw [if_pos z]
    rw [e] at q
    exact q _ _ (Same.refl _) rfl
  refine ⟨_, rfl, _, _, rfl, rfl, _, rfl, ?_⟩
  refine ite2 (fun g => ?_) (fun g => ?_)
  · refine iteT ?_
    exact no _ rfl (.inl (of_decide_eq_true g))
  refine ⟨_, rfl, _, _, rfl, rfl, _, rfl, ?_⟩
  refine ite2 (fun g2 => ?_) (fun g2 => ?_)
  · exact no _ rfl (.inr (of_decide_eq_true g2))
  have g' : ¬ (room < 1 ∨ lv < 1) := fun z => z.elim (fun y => g (decide_eq_true y)) (fun y => g2 (decide_eq_true y))
  clear no
  cases j with
  | st i =>
    obtain rfl := dp_int_inv hd
    simp only [szJ] at q
    rw [if_neg g'] at q
    refine ⟨rfl, _, rfl, .int i, .int i, rfl, .int i, ?_⟩
    by_cases z : -M30 ≤ i ∧ i ≤ M30
    · rw [if_pos z] at q
      have e : inW (.int i) (-M30) M30 = true := by
        rw [inW_int, decide_eq_true z.1, decide_eq_true z.2] <;> rfl
      rw [if_pos e]
      refine ⟨_, rfl, rfl, _, rfl, ?_⟩
      refine iteT ?_
      refine ⟨_, rfl, (by show 2 ≤ sizeLine; decide), fun t ht => ?_⟩
      exact q _ _ (same_new ht) ⟨t, rfl, upd_same⟩
    · rw [if_neg z] at q
      have e : ¬ inW (.int i) (-M30) M30 = true := by
        rw [inW_int, Bool.and_eq_true, decide_eq_true_eq, decide_eq_true_eq]
        exact z
      rw [if_neg e]
      refine ⟨_, rfl, rfl, _, rfl, ?_⟩
      refine iteF ?_
      refine ⟨_, rfl, _, _, _, _, rfl, .int i, kit_tuple _, _, rfl, ?_⟩
      refine iteT ?_
      exact q _ _ (Same.refl _) rfl
  | ps k xs =>
    simp only [szJ] at q
    rw [if_neg g'] at q
    have hd0 := hd
    rw [J.toD] at hd
    obtain ⟨a, ys, rfl, hys, hall⟩ := dp_tup_inv hd
    cases hall with
    | cons e1 hall =>
      obtain rfl := dp_str_inv e1
      cases hall with
      | cons e2 hall =>
        cases hall
        rename_i vp
        refine ⟨rfl, _, rfl, .ref a, _, rfl, hd, ?_⟩
        refine ⟨_, rfl, rfl, _, rfl, ?_⟩
        refine iteF ?_
        refine ⟨_, rfl, _, _, _, _, rfl, hd, kit_tuple _, _, rfl, ?_⟩
        refine iteF ?_
        refine ⟨_, rfl, a, _, rfl, .inr hys, rfl, _, rfl, ?_⟩
        refine iteT ?_
        refine ⟨_, rfl, _, _, _, _, rfl, rfl, hys, rfl, (by show 2 ≤ sizeLine; decide), fun t ht => ?_⟩
        refine ⟨t, _, rfl, .inr (SqT.of upd_same), rfl, rfl, _, rfl, ?_⟩
        have s1 : Same H (upd H t (.tup [.str "seq", .str "par"])) := same_new ht
        show if inV (.str (kwP k)) [.str "seq", .str "par"] = true then _ else _
        rw [in_parts]
        refine iteT ?_
        refine ⟨_, rfl, _, _, _, _, rfl, rfl, same_sqT s1 hys, rfl, _, rfl, _, rfl, _, rfl, vp, xs, room, lv, rfl, dp_same s1 e2, by omega, by omega, fun H2 r2 s2 h2 => ?_⟩
        exact q _ _ (s1.trans s2) h2
  | rn k c x =>
    simp only [szJ] at q
    rw [if_neg g'] at q
    rw [J.toD] at hd
    obtain ⟨a, ys, rfl, hys, hall⟩ := dp_tup_inv hd
    cases hall with
    | cons e1 hall =>
      obtain rfl := dp_str_inv e1
      cases hall with
      | cons e2 hall =>
        obtain rfl := dp_int_inv e2
        cases hall with
        | cons e3 hall =>
          cases hall
          rename_i vx
          refine ⟨rfl, _, rfl, .ref a, _, rfl, hd, ?_⟩
          refine ⟨_, rfl, rfl, _, rfl, ?_⟩
          refine iteF ?_
          refine ⟨_, rfl, _, _, _, _, rfl, hd, kit_tuple _, _, rfl, ?_⟩
          refine iteF ?_
          refine ⟨_, rfl, a, _, rfl, .inr hys, rfl, _, rfl, ?_⟩
          refine iteF ?_
          refine ⟨_, rfl, a, _, rfl, .inr hys, rfl, _, rfl, ?_⟩
          refine iteT ?_
          refine ⟨_, rfl, _, _, _, _, rfl, rfl, hys, rfl, (by show 2 ≤ sizeLine; decide), fun t ht => ?_⟩
          refine ⟨t, _, rfl, .inr (SqT.of upd_same), rfl, rfl, _, rfl, ?_⟩
          have s1 : Same H (upd H t (.tup [.str "repeat", .str "copies"])) := same_new ht
          show if inV (.str (kwR k)) [.str "repeat", .str "copies"] = true then _ else _
          rw [in_rounds]
          refine iteT ?_
          refine ⟨_, rfl, _, _, _, _, rfl, rfl, same_sqT s1 hys, rfl, _, rfl, _, _, _, _, rfl, rfl, same_sqT s1 hys, rfl, _, rfl, _, rfl, _, rfl, vx, c, x, room, lv, rfl, dp_same s1 e3, by omega, by omega, fun H2 r2 s2 h2 => ?_⟩
          exact q _ _ (s1.trans s2) h2
theorem ok_sizes (T : Txt K mg) : ∀ n : Nat, FnOk P w K mg base CX0 (2 * n + 2) T.f__sizes T.d__sizes ["value", "leaf_steps", "room", "levels"] (spSz K T.f_steps_of_leaf n)
  | 0 => by
    have no : ∀ vs H Q E, ¬ spSz K T.f_steps_of_leaf 0 vs H Q E := by
      rintro vs H Q E ⟨v, j, room, lv, _, _, h1, h2, _⟩
      omega
    exact ⟨fun vs H Q E h => absurd h (no vs H Q E), fun A outer s H args us vs Q E _ _ _ _ h => absurd h (no vs H Q E)⟩
  | n + 1 => ok_sz T (ok_szs T (ok_sizes T n)) (ok_szr T (ok_sizes T n))
/-- jobs of at most thirteen levels -/
def spIsJob (K : PySem.W.Frag) : Sp := fun vs H Q _ => ∃ (v : V) (j : J), vs = [v] ∧ Dp K H v j.toD ∧ j.deep ≤ 30 ∧ ∀ H', Same H H' → Q (.bl (szJ j 400 13).isSome) H'
def spChecked (K : PySem.W.Frag) : Sp := fun vs H Q _ => ∃ (v : V) (j : J) (a b : Int), vs = [v] ∧ Dp K H v j.toD ∧ j.deep ≤ 30 ∧ szJ j 400 13 = some (a, b) ∧
  ∀ (H' : Hp) (t : Addr), Same H H' → H' t = some (.tup [.int a, .int b]) → Q (.ref t) H'
def spSzOf (K : PySem.W.Frag) (L : Addr) : Sp := fun vs H Q _ => ∃ (v : V) (j : J), vs = [v, .ref L] ∧ Dp K H v j.toD ∧ ∀ (H' : Hp) (r : V), Same H H' → RepSz H' r (szJ j 400 13) → Q r H'
theorem ok_szof (T : Txt K mg) : FnOk P w K mg base CX0 31 T.f_sizes_of T.d_sizes_of ["value", "leaf_steps"] (spSzOf K T.f_steps_of_leaf) := by
  have g__sizes := ok_sizes (P := P) (w := w) (base := base) T 14
  refine T.F_sizes_of.ok sc_sizes_of (fun vs H Q E h => ?_) (fun cdv A outer s H vs Q E hr h => ?_)
  · obtain ⟨v, j, rfl, _⟩ := h
    rfl
  obtain ⟨v, j, rfl, hd, q⟩ := h
  refine ⟨_, (pss_one (ps_ret (pe_call g__sizes (hr.mono (by omega)) rfl T.m__sizes T.F__sizes.kp T.b__sizes .nil pass0 (pa_cons (pv 0) (pa_cons (pv 1) (pa_cons (pe_glob (v := .int 400) rfl T.g_MAX_NODES ⟨_, rfl⟩) (pa_cons (pe_glob (v := .int 13) rfl T.g_MAX_DEPTH ⟨_, rfl⟩) pa_nil))))))), ?_⟩
  exact ⟨_, rfl, _, rfl, v, j, 400, 13, rfl, hd, by decide, by decide, q⟩
theorem ok_isjob (T : Txt K mg) : FnOk P w K mg base CX0 63 T.f_is_job T.d_is_job ["value"] (spIsJob K) := by
  have g_sizes_of := ok_szof (P := P) (w := w) (base := base) T
  refine T.F_is_job.ok sc_is_job (fun vs H Q E h => ?_) (fun cdv A outer s H vs Q E hr h => ?_)
  · obtain ⟨v, j, rfl, _⟩ := h
    rfl
  obtain ⟨v, j, rfl, hd, hn, q⟩ := h
  refine ⟨_, (pss_one (ps_ret (pe_cmpR op_notN (pe_call g_sizes_of (hr.mono (by omega)) rfl T.m_sizes_of T.F_sizes_of.kp T.b_sizes_of .nil pass0 (pa_cons (pv 0) (pa_cons (pe_glob (v := .ref T.f_steps_of_leaf) rfl T.m_steps_of_leaf rfl) pa_nil))) pe_non (nomark _)))), ?_⟩
  refine ⟨_, rfl, v, j, rfl, hd, fun H2 r2 s2 h2 => ?_⟩
  cases ez : szJ j 400 13 with
  | none =>
    rw [ez] at h2 q
    obtain rfl : r2 = .non := h2
    exact ⟨rfl, q _ s2⟩
  | some ab =>
    obtain ⟨a, b⟩ := ab
    rw [ez] at h2 q
    obtain ⟨t, rfl, ht⟩ := h2
    exact ⟨rfl, q _ s2⟩
theorem ok_checked (T : Txt K mg) : FnOk P w K mg base CX0 63 T.f_checked_sizes T.d_checked_sizes ["job"] (spChecked K) := by
  have g_sizes_of := ok_szof (P := P) (w := w) (base := base) T
  refine T.F_checked_sizes.ok sc_checked_sizes (fun vs H Q E h => ?_) (fun cdv A outer s H vs Q E hr h => ?_)
  · obtain ⟨v, j, a, b, rfl, _⟩ := h
    rfl
  obtain ⟨v, j, a, b, rfl, hd, hn, ez, q⟩ := h
  refine ⟨_, (pss_cons (ps_set (i := 1) sc_checked_sizes.nd rfl (Or.inl rfl) (pe_call g_sizes_of (hr.mono (by omega)) rfl T.m_sizes_of T.F_sizes_of.kp T.b_sizes_of .nil pass0 (pa_cons (pv 0) (pa_cons (pe_glob (v := .ref T.f_steps_of_leaf) rfl T.m_steps_of_leaf rfl) pa_nil))))
      (pss_cons (ps_if (pt_cmpR op_isN (pv 1) pe_non (nomark _)) (pss_one ps_never) pss_nil)
      (pss_one (ps_ret (pv 1))))), ?_⟩
  refine ⟨_, rfl, v, j, rfl, hd, fun H2 r2 s2 h2 => ?_⟩
  rw [ez] at h2
  obtain ⟨t, rfl, ht⟩ := h2
  refine ⟨_, rfl, rfl, _, rfl, ?_⟩
  refine iteF ?_
  exact ⟨_, rfl, q _ t s2 ht⟩
end
/-! block Pot: _law_pot, _law_take, _law_step -/
/-- a pot at p: what is left of the cell, the mixed number, how many were taken (at most n) -/
def Pot (H : Hp) (p : Addr) (n : Nat) : Prop := ∃ a b c : Int, H p = some (.lst [.int a, .int b, .int c]) ∧ (0 ≤ a ∧ a.natAbs < 2 ^ 3000) ∧ (0 ≤ b ∧ b < 2305843009213693951) ∧ (0 ≤ c ∧ c ≤ (n : Int))
theorem Pot.lst {H : Hp} {p : Addr} {n : Nat} (h : Pot H p n) : ∃ l, H p = some (.lst l) := by
  obtain ⟨a, b, c, h, _⟩ := h
  exact ⟨_, h⟩
theorem Pot.mono {H : Hp} {p : Addr} {n m : Nat} (h : Pot H p n) (e : n ≤ m) : Pot H p m := by
  obtain ⟨a, b, c, h1, h2, h3, h4⟩ := h
  exact ⟨a, b, c, h1, h2, h3, h4.1, by omega⟩
theorem Pot.same {H H' : Hp} {p : Addr} {n : Nat} (h : Pot H p n) (s : Same H H') : Pot H' p n := by
  obtain ⟨a, b, c, h1, h2⟩ := h
  exact ⟨a, b, c, s _ _ h1, h2⟩
def spPot (K : PySem.W.Frag) : Sp := fun vs H Q _ => ∃ (a : Addr) (ns : List Int) (k : Int), vs = [.ref a, .int k] ∧ SqL K H a (ns.map V.int) ∧ ns.length ≤ 1000 ∧ 0 ≤ k ∧ k ≤ 1000 ∧
  ∀ (H' : Hp) (p : Addr), Same H H' → H p = none → Pot H' p 0 → Q (.ref p) H'
def spTake : Sp := fun vs H Q _ => ∃ (p : Addr) (n : Nat) (m : Int), vs = [.ref p, .int m] ∧ Pot H p n ∧ n ≤ 1099511627776 ∧ 0 < m ∧ m.natAbs < 2 ^ 200 ∧
  ∀ (H' : Hp) (r : Int), Sx p H H' → Pot H' p (n + 1) → 0 ≤ r → r < m → Q (.int r) H'
def spStep : Sp := fun vs H Q _ => ∃ (p : Addr) (n : Nat), vs = [.ref p] ∧ Pot H p n ∧ n + 4 ≤ 1099511627776 ∧
  ∀ (H' : Hp) (r : Int), Sx p H H' → Pot H' p (n + 4) → -M30 ≤ r → r ≤ M30 → Q (.int r) H'
theorem natAbs_lt {i : Int} {B : Nat} (h0 : 0 ≤ i) (h : i < (B : Int)) : i.natAbs < B := by omega
theorem big14 : ((((10 : Int) ^ (60 : Int).toNat) ^ (14 : Int).toNat)).natAbs < 2 ^ 3000 := by decide +kernel
theorem pos14 : 0 < ((10 : Int) ^ (60 : Int).toNat) ^ (14 : Int).toNat := by decide +kernel
theorem mod_big {z m : Int} {B : Nat} (hm : 0 < m) (hB : m.natAbs < B) : 0 ≤ z % m ∧ (z % m).natAbs < B := by
  have h1 := Int.emod_nonneg z (Int.ne_of_gt hm)
  have h2 := Int.emod_lt_of_pos z hm
  exact ⟨h1, by omega⟩
section
variable {P : Program} {w : World} {K : PySem.W.Frag} {mg : Str → Option Value} {base : Heap}
theorem ok_pot (T : Txt K mg) : FnOk P w K mg base CX0 1 T.f__law_pot T.d__law_pot ["_law_script", "_law_k"] (spPot K) := by
  refine T.F__law_pot.ok sc__law_pot (fun vs H Q E h => ?_) (fun cdv A outer s H vs Q E hr h => ?_)
  · obtain ⟨a, ns, k, rfl, _⟩ := h
    rfl
  obtain ⟨a, ns, k, rfl, hS, hlen, hk0, hk1, q⟩ := h
  refine ⟨_, (pss_cons (ps_set (i := 2) sc__law_pot.nd rfl (Or.inl rfl) pe_int)
      (C8.pss_cut (ps_if (pt_cmpR op_lt (pv 1) (pe_callB (r := rLenS K) call_lenS (by rfl) T.n_len (by decide +kernel) (pa_cons (pv 0) pa_nil)) (nomark _)) (pss_one (ps_set (i := 2) sc__law_pot.nd rfl (Or.inl rfl) (pe_op op_mod (pe_callB call_abs (by rfl) T.n_abs (by decide +kernel) (pa_cons (pe_ix (r := rIxL K) ix_list (pv 0) (pv 1) (fun _ _ => rfl)) pa_nil)) (pe_op op_powW (pe_op op_powW pe_int pe_int) pe_int)))) pss_nil)
      (pss_cons (ps_set (i := 3) sc__law_pot.nd rfl (Or.inl rfl) (pe_op op_mod (pe_op op_powW (pe_op op_add (pe_op op_add (pe_op op_mod (pv 2) pe_int) (pe_op op_mulW pe_int (pv 1))) pe_int) pe_int) pe_int))
      (pss_one (ps_ret (pe_lst (pa_cons (pe_op op_mulW (pv 2) (pe_callTy call_int1 (by rfl) T.n_int (by decide +kernel) (pa_cons (pe_cmpR op_ge (pv 2) (pe_op op_powW pe_int pe_int) (nomark _)) pa_nil))) (pa_cons (pv 3) (pa_cons pe_int pa_nil))))))))), ?_⟩
  refine ⟨fun σ' H' => ∃ cell : Int, σ' = [some (.ref a), some (.int k), some (.int cell), none] ∧ H' = H ∧ 0 ≤ cell ∧ cell.natAbs < 2 ^ 3000, ?_, ?_⟩
  · refine ⟨_, rfl, _, rfl, a, _, rfl, .inl hS, _, _, rfl, rfl, _, rfl, ?_⟩
    refine ite2 (fun c => ?_) (fun c => ?_)
    · have c' := of_decide_eq_true c
      rw [List.length_map] at c'
      obtain ⟨z, _, hz⟩ := atI_int (ns := ns) hk0 c'
      refine ⟨_, rfl, _, rfl, _, _, _, _, rfl, rfl, hS, hz, _, rfl, _, _, rfl, rfl, powW_of 4 (by decide) (by decide) (by decide), _, _, rfl, rfl, powW_of 200 (by decide) (by decide +kernel) (by decide), _, _, rfl, rfl, pos14, ?_⟩
      have hb := mod_big (z := if z < 0 then -z else z) pos14 big14
      exact ⟨_, rfl, rfl, hb⟩
    · exact ⟨0, rfl, rfl, by decide, by decide⟩
  · rintro σ' H' ⟨cell, rfl, rfl, hc0, hc1⟩
    walk_at "rd"
    refine ⟨(by show (0 : Int) < 2147483587; decide), ?_⟩
    walk_at "rd"
    refine ⟨wide_mul (a := 64) (b := 64) (by decide) (by omega) (by decide) (by decide) (by decide), ?_⟩
    walk_at "rd"
    refine ⟨powW_of 64 (by decide) (by omega) (by decide), ?_⟩
    walk_at "rd"
    refine ⟨(by show (0 : Int) < 2305843009213693951; decide), ?_⟩
    dsimp only
    generalize (cell % 2147483587 + 6151 * k + 3) ^ (5 : Int).toNat = pw
    have hm0 : 0 ≤ pw % 2305843009213693951 := by omega
    have hm1 : pw % 2305843009213693951 < 2305843009213693951 := by omega
    generalize pw % 2305843009213693951 = mixed at hm0 hm1 ⊢
    walk_at "rd"
    refine ⟨powW_of 4 (by decide) (by decide) (by decide), ?_⟩
    walk_at "rd"
    refine .inr ⟨_, rfl, ?_⟩
    walk_at "rd"
    refine ⟨wide_mul (a := 3000) (b := 1) hc1 (by split <;> decide) (by decide) (by decide) (by decide), ?_⟩
    dsimp only
    have hk : 0 ≤ cell * (if decide ((10 : Int) ^ (18 : Int).toNat ≤ cell) = true then 1 else 0) ∧ (cell * (if decide ((10 : Int) ^ (18 : Int).toNat ≤ cell) = true then 1 else 0)).natAbs < 2 ^ 3000 := by
      split
      · rw [Int.mul_one]
        exact ⟨hc0, hc1⟩
      · rw [Int.mul_zero]
        exact ⟨Int.le_refl _, by decide⟩
    generalize cell * (if decide ((10 : Int) ^ (18 : Int).toNat ≤ cell) = true then 1 else 0) = c2 at hk ⊢
    walk_at "rd"
    refine ⟨(by show 3 ≤ sizeLine; decide), fun p hp => ?_⟩
    exact q _ p (same_new hp) hp ⟨_, _, _, upd_same, hk, ⟨hm0, hm1⟩, by decide, by decide⟩
theorem ok_take (T : Txt K mg) : FnOk P w K mg base CX0 1 T.f__law_take T.d__law_take ["_law_pot_here", "_law_many"] spTake := by
  refine T.F__law_take.ok sc__law_take (fun vs H Q E h => ?_) (fun cdv A outer s H vs Q E hr h => ?_)
  · obtain ⟨p, n, m, rfl, _⟩ := h
    rfl
  obtain ⟨p, n, m, rfl, ⟨a, b, c, hp, ⟨a0, a1⟩, ⟨b0, b1⟩, c0, c1⟩, hn, hm, hm2, q⟩ := h
  refine ⟨_, (pss_cons (ps_if (pt_cmpR op_gt (pe_ix (r := rIxL K) ix_list (pv 0) pe_int (fun _ _ => rfl)) pe_int (nomark _)) (pss_cons (ps_set (i := 2) sc__law_take.nd rfl (Or.inl rfl) (pe_op op_mod (pe_ix (r := rIxL K) ix_list (pv 0) pe_int (fun _ _ => rfl)) (pv 1)))
        (pss_cons (ps_asg (pe_op op_fdivW (pe_ix (r := rIxL K) ix_list (pv 0) pe_int (fun _ _ => rfl)) (pv 1)) (pg_sub (pv 0) pe_int set_list))
        (pss_one (ps_ret (pv 2))))) pss_nil)
      (pss_cons (ps_asg (pe_op op_add (pe_ix (r := rIxL K) ix_list (pv 0) pe_int (fun _ _ => rfl)) pe_int) (pg_sub (pv 0) pe_int set_list))
      (pss_cons (ps_set (i := 3) sc__law_take.nd rfl (Or.inl rfl) (pe_op op_mod (pe_op op_powW (pe_op op_add (pe_ix (r := rIxL K) ix_list (pv 0) pe_int (fun _ _ => rfl)) (pe_op op_mulW pe_int (pe_ix (r := rIxL K) ix_list (pv 0) pe_int (fun _ _ => rfl)))) pe_int) pe_int))
      (pss_cons (ps_set (i := 4) sc__law_take.nd rfl (Or.inl rfl) (pe_op op_mod (pe_op op_powW (pe_op op_add (pe_op op_add (pv 3) (pe_op op_mod (pe_ix (r := rIxL K) ix_list (pv 0) pe_int (fun _ _ => rfl)) pe_int)) (pe_op op_mulW pe_int (pe_ix (r := rIxL K) ix_list (pv 0) pe_int (fun _ _ => rfl)))) pe_int) pe_int))
      (pss_one (ps_ret (pe_op op_mod (pe_op op_fdivW (pv 4) pe_int) (pv 1)))))))), ?_⟩
  refine ⟨_, rfl, _, _, _, _, rfl, rfl, SqL.of hp, rfl, _, _, rfl, rfl, _, rfl, ?_⟩
  refine ite2 (fun g => ?_) (fun g => ?_)
  · refine ⟨_, rfl, _, _, _, _, rfl, rfl, SqL.of hp, rfl, _, rfl, _, _, rfl, rfl, hm, ?_⟩
    refine ⟨_, rfl, _, _, _, _, rfl, rfl, SqL.of hp, rfl, _, rfl, _, _, rfl, rfl, wide_div hm hm2 (by decide) (by decide), ?_⟩
    refine ⟨_, rfl, _, _, _, _, rfl, rfl, hp, rfl, ?_⟩
    refine ⟨_, rfl, ?_⟩
    have d0 : 0 ≤ a / m := Int.ediv_nonneg a0 (by omega)
    have d1 : a / m ≤ a := Int.ediv_le_self m a0
    exact q _ _ sx_upd ⟨_, _, _, upd_same, ⟨d0, Nat.lt_of_le_of_lt (by omega) a1⟩, ⟨b0, b1⟩, c0, by omega⟩ (Int.emod_nonneg _ (by omega)) (Int.emod_lt_of_pos _ hm)
  · refine ⟨_, rfl, _, _, _, _, rfl, rfl, SqL.of hp, rfl, _, _, rfl, rfl, ?_⟩
    refine ⟨_, rfl, _, _, _, _, rfl, rfl, hp, rfl, ?_⟩
    dsimp only
    have hq : (upd H p (.lst [.int a, .int b, .int (c + 1)])) p = some (.lst [.int a, .int b, .int (c + 1)]) := upd_same
    refine ⟨_, rfl, _, _, _, _, rfl, rfl, SqL.of hq, rfl, _, rfl, _, _, _, _, rfl, rfl, SqL.of hq, rfl, _, _, rfl, rfl, wide_mul (a := 64) (b := 64) (by decide) (by omega) (by decide) (by decide) (by decide), ?_⟩
    walk_at "rd"
    refine ⟨powW_of 64 (by decide) (by omega) (by decide), ?_⟩
    walk_at "rd"
    refine ⟨(by show (0 : Int) < 2305843009213693921; decide), ?_⟩
    dsimp only
    generalize (b + 98317 * (c + 1)) ^ (3 : Int).toNat = pw
    have o0 : 0 ≤ pw % 2305843009213693921 := by omega
    have o1 : pw % 2305843009213693921 < 2305843009213693921 := by omega
    generalize pw % 2305843009213693921 = one at o0 o1 ⊢
    refine ⟨_, rfl, _, rfl, _, _, _, _, rfl, rfl, SqL.of hq, rfl, _, _, rfl, rfl, (by show (0 : Int) < 65521; decide), _, _, rfl, rfl, _, rfl, _, _, _, _, rfl, rfl, SqL.of hq, rfl, _, _, rfl, rfl, wide_mul (a := 64) (b := 64) (by decide) (by omega) (by decide) (by decide) (by decide), ?_⟩
    walk_at "rd"
    refine ⟨powW_of 64 (by decide) (by omega) (by decide), ?_⟩
    walk_at "rd"
    refine ⟨(by show (0 : Int) < 2305843009213693907; decide), ?_⟩
    dsimp only
    generalize (one + b % 65521 + 37 * (c + 1)) ^ (5 : Int).toNat % 2305843009213693907 = two
    walk_at "rd"
    refine ⟨wide_div (b := 12) (by decide) (by decide) (by decide) (by decide), ?_⟩
    walk_at "rd"
    refine ⟨hm, ?_⟩
    exact q _ _ sx_upd ⟨_, _, _, upd_same, ⟨a0, a1⟩, ⟨b0, b1⟩, by omega, by omega⟩ (Int.emod_nonneg _ (by omega)) (Int.emod_lt_of_pos _ hm)
theorem ok_step (T : Txt K mg) : FnOk P w K mg base CX0 2 T.f__law_step T.d__law_step ["_law_pot_here"] spStep := by
  have g__law_take : FnOk P w K mg base CX0 1 T.f__law_take T.d__law_take ["_law_pot_here", "_law_many"] spTake := ok_take T
  refine T.F__law_step.ok sc__law_step (fun vs H Q E h => ?_) (fun cdv A outer s H vs Q E hr h => ?_)
  · obtain ⟨p, n, rfl, _⟩ := h
    rfl
  obtain ⟨p, n, rfl, hp, hn, q⟩ := h
  refine ⟨_, (pss_cons (ps_set (i := 1) sc__law_step.nd rfl (Or.inl rfl) (pe_call g__law_take (hr.mono (by omega)) rfl T.m__law_take T.F__law_take.kp T.b__law_take .nil pass0 (pa_cons (pv 0) (pa_cons pe_int pa_nil))))
      (pss_cons (ps_if (pt_cmpR op_eq (pv 1) pe_int (nomark _)) (pss_one (ps_ret pe_int)) pss_nil)
      (pss_cons (ps_if (pt_cmpR op_eq (pv 1) pe_int (nomark _)) (pss_cons (ps_set (i := 2) sc__law_step.nd rfl (Or.inl rfl) (pe_op op_add (pe_op op_mulW (pe_call g__law_take (hr.mono (by omega)) rfl T.m__law_take T.F__law_take.kp T.b__law_take .nil pass0 (pa_cons (pv 0) (pa_cons (pe_op op_powW pe_int pe_int) pa_nil))) (pe_op op_powW pe_int pe_int)) (pe_call g__law_take (hr.mono (by omega)) rfl T.m__law_take T.F__law_take.kp T.b__law_take .nil pass0 (pa_cons (pv 0) (pa_cons (pe_op op_powW pe_int pe_int) pa_nil)))))
        (pss_one (ps_ret (pe_ix (r := rIxL K) ix_list (pe_lst (pa_cons (pv 2) (pa_cons (pe_op op_sub pe_int (pv 2)) (pa_cons (pe_op op_powW pe_int pe_int) (pa_cons (pe_op op_sub pe_int (pe_op op_powW pe_int pe_int)) pa_nil))))) (pe_call g__law_take (hr.mono (by omega)) rfl T.m__law_take T.F__law_take.kp T.b__law_take .nil pass0 (pa_cons (pv 0) (pa_cons pe_int pa_nil))) (fun _ _ => rfl))))) pss_nil)
      (pss_one (ps_ret (pe_op op_sub (pe_call g__law_take (hr.mono (by omega)) rfl T.m__law_take T.F__law_take.kp T.b__law_take .nil pass0 (pa_cons (pv 0) (pa_cons pe_int pa_nil))) pe_int)))))), ?_⟩
  refine ⟨_, rfl, p, n, 14, rfl, hp, by omega, by decide, by decide, fun H1 r1 s1 hp1 h0 h1 => ?_⟩
  refine ⟨_, rfl, rfl, _, rfl, ?_⟩
  refine ite2 (fun g => ?_) (fun g => ?_)
  · exact q _ _ s1 (hp1.mono (by omega)) (by decide) (by decide)
  refine ⟨_, rfl, rfl, _, rfl, ?_⟩
  refine ite2 (fun g => ?_) (fun g => ?_)
  · refine ⟨_, rfl, _, _, rfl, rfl, powW_of 4 (by decide) (by decide) (by decide), p, n + 1, _, rfl, hp1, by omega, by decide, by decide, fun H2 r2 s2 hp2 k0 k1 => ?_⟩
    walk_at "rd"
    refine ⟨powW_of 4 (by decide) (by decide) (by decide), ?_⟩
    have k1' : r2 < 1000000000000000 := k1
    refine ⟨_, _, rfl, rfl, wide_mul (a := 64) (b := 64) (by omega) (by decide) (by decide) (by decide) (by decide), ?_⟩
    refine ⟨_, rfl, _, _, rfl, rfl, powW_of 4 (by decide) (by decide) (by decide), p, n + 2, _, rfl, hp2, by omega, by decide, by decide, fun H3 r3 s3 hp3 j0 j1 => ?_⟩
    have j1' : r3 < 1000000000000000 := j1
    walk_at "rd"
    dsimp only
    have e15 : (10 : Int) ^ (15 : Int).toNat = 1000000000000000 := by decide
    rw [e15]
    have b0 : 0 ≤ r2 * 1000000000000000 + r3 := by omega
    have b1 : r2 * 1000000000000000 + r3 < M30 := by
      show _ < (1000000000000000000000000000000 : Int)
      omega
    generalize r2 * 1000000000000000 + r3 = great at b0 b1 ⊢
    walk_at "rd"
    refine ⟨powW_of 4 (by decide) (by decide) (by decide), ?_⟩
    walk_at "rd"
    refine ⟨powW_of 4 (by decide) (by decide) (by decide), ?_⟩
    walk_at "rd"
    have e30 : (10 : Int) ^ (30 : Int).toNat = M30 := by decide
    dsimp only
    rw [e30]
    refine ⟨(by show 4 ≤ sizeLine; decide), fun l hl => ?_⟩
    have hp4 := hp3.same (same_new (o := .lst [.int great, .int (0 - great), .int M30, .int (0 - M30)]) hl)
    refine ⟨_, rfl, p, n + 3, _, rfl, hp4, by omega, by decide, by decide, fun H4 r4 s4 hp5 i0 i1 => ?_⟩
    obtain ⟨z, hz, ez⟩ := atI_int (ns := [great, 0 - great, M30, 0 - M30]) i0 i1
    obtain ⟨lp, hlp⟩ := hp3.lst
    have nlp : l ≠ p := fun e => by rw [e, hlp] at hl; cases hl
    refine ⟨_, _, _, _, rfl, rfl, SqL.of (s4 l _ nlp upd_same), ez, ?_⟩
    refine q _ _ (s1.trans (s2.trans (s3.trans ((sx_new hl).trans s4)))) hp5 ?_ ?_
    · simp only [List.mem_cons, List.not_mem_nil, or_false] at hz
      rcases hz with rfl | rfl | rfl | rfl <;> (try simp only [M30] at *) <;> omega
    · simp only [List.mem_cons, List.not_mem_nil, or_false] at hz
      rcases hz with rfl | rfl | rfl | rfl <;> (try simp only [M30] at *) <;> omega
  · refine ⟨_, rfl, p, n + 1, _, rfl, hp1, by omega, by decide, by decide, fun H2 r2 s2 hp2 k0 k1 => ?_⟩
    walk_at "rd"
    refine q _ _ (s1.trans s2) (hp2.mono (by omega)) ?_ ?_
    · show -(1000000000000000000000000000000 : Int) ≤ _
      omega
    · show _ ≤ (1000000000000000000000000000000 : Int)
      omega
end
/-! block Job: _law_job, the drawn jobs -/
def TB : Nat → Nat
  | 0 => 20
  | n + 1 => 20 + 3 * TB n
def NB : Nat → Int
  | 0 => 1
  | 1 => 1
  | 2 => 5
  | n + 3 => 1 + 3 * NB (n + 2)
mutual
/-- all numbers in bounds, few parts -/
def J.small : J → Prop
  | .st i => -M30 ≤ i ∧ i ≤ M30
  | .ps _ xs => xs.length ≤ 4 ∧ J.smallL xs
  | .rn _ n x => (0 ≤ n ∧ n ≤ M30) ∧ x.small
def J.smallL : List J → Prop
  | [] => True
  | x :: xs => x.small ∧ J.smallL xs
end
mutual
/-- all numbers of rounds and copies are among these -/
def J.cin (cs : List Int) : J → Prop
  | .st _ => True
  | .ps _ xs => J.cinL cs xs
  | .rn _ n x => n ∈ cs ∧ J.cin cs x
def J.cinL (cs : List Int) : List J → Prop
  | [] => True
  | x :: xs => J.cin cs x ∧ J.cinL cs xs
end
theorem J.cinL_app (cs : List Int) : ∀ xs ys : List J, J.cinL cs (xs ++ ys) ↔ J.cinL cs xs ∧ J.cinL cs ys
  | [], ys => by simp [J.cinL]
  | x :: xs, ys => by simp only [List.cons_append, J.cinL, J.cinL_app cs xs ys, and_assoc]
structure GenOk (cs : List Int) (n : Nat) (j : J) : Prop where
  cin : j.cin cs
  deep : j.deep ≤ max n 1
  nodes : j.nodes ≤ NB n
  small : j.small
structure GensOk (cs : List Int) (n : Nat) (js : List J) : Prop where
  cin : J.cinL cs js
  deep : J.deepL js ≤ max n 1
  nodes : J.nodesL js ≤ js.length * NB n
  small : J.smallL js
theorem NB_pos : ∀ n, 1 ≤ NB n
  | 0 => by decide
  | 1 => by decide
  | 2 => by decide
  | n + 3 => by
    have := NB_pos (n + 2)
    simp only [NB]
    omega
theorem J.deepL_app : ∀ xs ys : List J, J.deepL (xs ++ ys) = max (J.deepL xs) (J.deepL ys)
  | [], ys => by simp [J.deepL]
  | x :: xs, ys => by simp only [List.cons_append, J.deepL, J.deepL_app xs ys]; omega
theorem J.nodesL_app : ∀ xs ys : List J, J.nodesL (xs ++ ys) = J.nodesL xs + J.nodesL ys
  | [], ys => by simp [J.nodesL]
  | x :: xs, ys => by simp only [List.cons_append, J.nodesL, J.nodesL_app xs ys]; omega
theorem J.smallL_app : ∀ xs ys : List J, J.smallL (xs ++ ys) ↔ J.smallL xs ∧ J.smallL ys
  | [], ys => by simp [J.smallL]
  | x :: xs, ys => by simp only [List.cons_append, J.smallL, J.smallL_app xs ys, and_assoc]
theorem J.toDs_app : ∀ xs ys : List J, J.toDs (xs ++ ys) = J.toDs xs ++ J.toDs ys
  | [], ys => by simp [J.toDs]
  | x :: xs, ys => by simp only [List.cons_append, J.toDs, J.toDs_app xs ys]
theorem GensOk.nil {cs : List Int} {n : Nat} : GensOk cs n [] := ⟨trivial, by simp [J.deepL], by simp [J.nodesL], trivial⟩
theorem GensOk.snoc {cs : List Int} {n : Nat} {js : List J} {j : J} (h : GensOk cs n js) (g : GenOk cs n j) : GensOk cs n (js ++ [j]) := by
  refine ⟨(J.cinL_app _ _ _).mpr ⟨h.cin, g.cin, trivial⟩, ?_, ?_, ?_⟩
  · rw [J.deepL_app]
    have := h.deep
    have := g.deep
    simp only [J.deepL]
    omega
  · rw [J.nodesL_app, List.length_append, List.length_singleton]
    have h1 := h.nodes
    have h2 := g.nodes
    simp only [J.nodesL]
    have e : (((js.length + 1 : Nat) : Int)) * NB n = js.length * NB n + NB n := by
      rw [Int.natCast_add, Int.add_mul]
      simp
    rw [e]
    omega
  · rw [J.smallL_app]
    exact ⟨h.small, g.small, trivial⟩
theorem GenOk.step {cs : List Int} {n : Nat} {i : Int} (h1 : -M30 ≤ i) (h2 : i ≤ M30) : GenOk cs n (.st i) := by
  refine ⟨trivial, ?_, ?_, ?_⟩
  · simp only [J.deep]
    omega
  · simp only [J.nodes]
    exact NB_pos n
  · simp only [J.small]
    exact ⟨h1, h2⟩
/-- up to four steps in a row -/
theorem GenOk.row {cs : List Int} {n : Nat} {js : List J} (h : GensOk cs 1 js) (hl : js.length ≤ 4) : GenOk cs (n + 2) (.ps false js) := by
  have h1 := h.deep
  have h2 := h.nodes
  refine ⟨h.cin, ?_, ?_, ?_⟩
  · simp only [J.deep]
    omega
  · simp only [J.nodes]
    have e : NB 1 = 1 := rfl
    rw [e] at h2
    have : 5 ≤ NB (n + 2) := by
      cases n with
      | zero => decide
      | succ n =>
        have : ∀ n, 5 ≤ NB (n + 2) := by
          intro n
          induction n with
          | zero => decide
          | succ n ih => simp only [NB] at *; omega
        exact this _
    omega
  · simp only [J.small]
    exact ⟨hl, h.small⟩
theorem GenOk.parts {cs : List Int} {n : Nat} {k : Bool} {js : List J} (h : GensOk cs (n + 1) js) (hl : js.length ≤ 3) : GenOk cs (n + 2) (.ps k js) := by
  have h1 := h.deep
  have h2 := h.nodes
  refine ⟨h.cin, ?_, ?_, ?_⟩
  · simp only [J.deep]
    omega
  · simp only [J.nodes]
    have p := NB_pos (n + 1)
    have b : (js.length : Int) * NB (n + 1) ≤ 3 * NB (n + 1) := Int.mul_le_mul_of_nonneg_right (by omega) (by omega)
    cases n with
    | zero => simp only [NB] at *; omega
    | succ n =>
      have e : NB (n + 1 + 1) = NB (n + 2) := rfl
      rw [e] at *
      simp only [NB]
      omega
  · simp only [J.small]
    exact ⟨by omega, h.small⟩
theorem GenOk.rounds {cs : List Int} {n : Nat} {k : Bool} {c : Int} {x : J} (h : GenOk cs (n + 1) x) (h0 : 0 ≤ c) (h1 : c ≤ M30) (hc : c ∈ cs) : GenOk cs (n + 2) (.rn k c x) := by
  have h2 := h.deep
  have h3 := h.nodes
  refine ⟨⟨hc, h.cin⟩, ?_, ?_, ?_⟩
  · simp only [J.deep]
    omega
  · simp only [J.nodes]
    have p := NB_pos (n + 1)
    cases n with
    | zero => simp only [NB] at *; omega
    | succ n =>
      have e : NB (n + 1 + 1) = NB (n + 2) := rfl
      rw [e] at *
      simp only [NB]
      omega
  · simp only [J.small]
    exact ⟨⟨h0, h1⟩, h.small⟩
theorem pick2 {r : Int} (f : Bool → Str) (h0 : 0 ≤ r) (h1 : r < 2) : ∃ b : Bool, atI [V.str (f false), V.str (f true)] r = some (.str (f b)) := by
  have : r = 0 ∨ r = 1 := by omega
  rcases this with rfl | rfl
  · exact ⟨false, rfl⟩
  · exact ⟨true, rfl⟩
theorem dp_ps {K : PySem.W.Frag} {H : Hp} {t : Addr} {k : Bool} {v : V} {js : List J} (h : H t = some (.tup [.str (kwP k), v])) (d : Dp K H v (.tuple (J.toDs js))) : Dp K H (.ref t) (J.ps k js).toD := by
  rw [J.toD]
  exact .tup (.inl (.inl h)) (.cons (.str _) (.cons d .nil))
theorem dp_rn {K : PySem.W.Frag} {H : Hp} {t : Addr} {k : Bool} {n : Int} {v : V} {j : J} (h : H t = some (.tup [.str (kwR k), .int n, v])) (d : Dp K H v j.toD) : Dp K H (.ref t) (J.rn k n j).toD := by
  rw [J.toD]
  exact .tup (.inl (.inl h)) (.cons (.str _) (.cons (.int _) (.cons d .nil)))
def spJob (K : PySem.W.Frag) (n : Nat) : Sp := fun vs H Q _ => ∃ (p a : Addr) (m : Nat) (cs : List Int), vs = [.ref p, .int (n : Int), .ref a] ∧ Pot H p m ∧ m + TB n ≤ 1099511627776 ∧ H a = some (.lst (cs.map V.int)) ∧ a ≠ p ∧
  0 < cs.length ∧ cs.length ≤ 100 ∧ (∀ c ∈ cs, 0 ≤ c ∧ c ≤ M30) ∧
  ∀ (H' : Hp) (r : V) (j : J), Sx p H H' → Pot H' p (m + TB n) → Dp K H' r j.toD → GenOk cs n j → Q r H'
section
variable {P : Program} {w : World} {K : PySem.W.Frag} {mg : Str → Option Value} {base : Heap}
/-- the list that a comprehension fills beside a pot: what its turns keep -/
structure Row (K : PySem.W.Frag) (cs : List Int) (H0 : Hp) (p D : Addr) (n m : Nat) (js : List J) (H : Hp) : Prop where
  sx : Sx p H0 H
  pot : Pot H p m
  gen : GensOk cs n js
  lst : ∃ vs, H D = some (.lst vs) ∧ DpAll K H vs (J.toDs js)
theorem Row.snoc {cs : List Int} {H0 H H' : Hp} {p D : Addr} {n m m' : Nat} {js : List J} {r : V} {j : J} (R : Row K cs H0 p D n m js H) (d0 : H0 D = none) (nDp : D ≠ p) (s : Sx p H H') (hp : Pot H' p m') (hd : Dp K H' r j.toD) (g : GenOk cs n j) :
    ∃ acc, H' D = some (.lst acc) ∧ acc.length = js.length ∧ Row K cs H0 p D n m' (js ++ [j]) (upd H' D (.lst (acc ++ [r]))) := by
  obtain ⟨vs, h1, h2⟩ := R.lst
  obtain ⟨l, hl⟩ := R.pot.lst
  have h3 : H' D = some (.lst vs) := s D _ nDp h1
  refine ⟨vs, h3, ?_, ?_, ?_, R.gen.snoc g, _, upd_same, ?_⟩
  · rw [dpAll_length h2, J.toDs_eq, List.length_map]
  · intro b o nb hb
    have nbD : b ≠ D := fun e => by rw [e, d0] at hb; cases hb
    rw [upd_ne nbD]
    exact s b o nb (R.sx b o nb hb)
  · obtain ⟨a, b, c, z1, z2⟩ := hp
    exact ⟨a, b, c, by rw [upd_ne nDp.symm]; exact z1, z2⟩
  · have k1 : ∀ a xs, SqT K H a xs → SqT K H' a xs := fun a xs z => s.sqT hl z
    have k2 : ∀ a xs, SqT K H' a xs → SqT K (upd H' D (.lst (vs ++ [r]))) a xs := fun a xs z => (sx_upd (p := D)).sqT h3 z
    rw [J.toDs_app]
    exact dpAll_append (dpAll_keep k2 (J.noLs _) (dpAll_keep k1 (J.noLs _) h2)) (dpAll_one (dp_keep k2 j.noL hd))
/-- the jobs drawn with a smaller depth than n -/
def spJobs (K : PySem.W.Frag) (n : Nat) : Sp := fun vs H Q E => ∃ d, d < n ∧ spJob K d vs H Q E
theorem ok_job_next (T : Txt K mg) {n : Nat} (g__law_job : FnOk P w K mg base CX0 (n + 2) T.f__law_job T.d__law_job ["_law_pot_here", "_law_deep", "_law_counts"] (spJobs K n)) :
    FnOk P w K mg base CX0 (n + 3) T.f__law_job T.d__law_job ["_law_pot_here", "_law_deep", "_law_counts"] (spJobs K (n + 1)) := by
  have g__law_take : FnOk P w K mg base CX0 1 T.f__law_take T.d__law_take ["_law_pot_here", "_law_many"] spTake := ok_take T
  have g__law_step : FnOk P w K mg base CX0 2 T.f__law_step T.d__law_step ["_law_pot_here"] spStep := ok_step T
  refine T.F__law_job.ok sc__law_job (fun vs H Q E h => ?_) (fun cdv A outer s H vs Q E hr h => ?_)
  · obtain ⟨d, _, p, a, m, cs, rfl, _⟩ := h
    rfl
  obtain ⟨d, hd, p, a, m, cs, rfl, hp, hm, ha, nap, c0, c1, hcs, q⟩ := h
  refine ⟨_, (pss_cons (ps_set (i := 3) sc__law_job.nd rfl (Or.inl rfl) (pe_call g__law_take (hr.mono (by omega)) rfl T.m__law_take T.F__law_take.kp T.b__law_take .nil pass0 (pa_cons (pv 0) (pa_cons pe_int pa_nil))))
      (pss_cons (ps_if (PW.pt (pw_or (pt_cmpR op_lt (pv 1) pe_int (nomark _)) (pw_or1 (pt_cmpR op_eq (pv 3) pe_int (nomark _))))) (pss_one (ps_ret (pe_call g__law_step (hr.mono (by omega)) rfl T.m__law_step T.F__law_step.kp T.b__law_step .nil pass0 (pa_cons (pv 0) pa_nil)))) pss_nil)
      (pss_cons (ps_if (pt_cmpR op_lt (pv 3) pe_int (nomark _)) (pss_cons (ps_set (i := 4) sc__law_job.nd rfl (Or.inl rfl) (pe_ix (r := rIxL K) ix_list (pe_lst (pa_cons pe_int (pa_cons pe_int (pa_cons pe_int (pa_cons pe_int pa_nil))))) (pe_call g__law_take (hr.mono (by omega)) rfl T.m__law_take T.F__law_take.kp T.b__law_take .nil pass0 (pa_cons (pv 0) (pa_cons pe_int pa_nil))) (fun _ _ => rfl)))
        (pss_one (ps_ret (pe_tup (pa_cons pe_str (pa_cons (pe_callTy (r := rTupS K) call_tupS (by rfl) T.n_tuple (by decide +kernel) (pa_cons (pe_lc (own := [("_law_turn", 5)]) (g := (gName 5)) (by rfl) sc__law_job.nd (pi_range1 rfl T.n_range (pa_cons (pv 4) pa_nil)) (blkOk_by (N := N__law_job) (sc := (defScope s__law_job)) (by decide +kernel)) (fun _ _ _ _ _ => (pg_name (i := 5) sc__law_job.nd rfl (Or.inl rfl))) (fun _ _ _ _ _ => pts_nil) (fun _ _ _ _ _ => (pe_call g__law_step (hr.mono (by omega)) rfl T.m__law_step T.F__law_step.kp T.b__law_step .nil pass0 (pa_cons (pv 0) pa_nil)))) pa_nil)) pa_nil)))))) pss_nil)
      (pss_cons (ps_if (pt_cmpR op_lt (pv 3) pe_int (nomark _)) (pss_cons (ps_set (i := 4) sc__law_job.nd rfl (Or.inl rfl) (pe_ix (r := rIxL K) ix_list (pe_lst (pa_cons pe_int (pa_cons pe_int (pa_cons pe_int (pa_cons pe_int (pa_cons pe_int (pa_cons pe_int pa_nil))))))) (pe_call g__law_take (hr.mono (by omega)) rfl T.m__law_take T.F__law_take.kp T.b__law_take .nil pass0 (pa_cons (pv 0) (pa_cons pe_int pa_nil))) (fun _ _ => rfl)))
        (pss_one (ps_ret (pe_tup (pa_cons (pe_ix (r := rIxL K) ix_list (pe_lst (pa_cons pe_str (pa_cons pe_str pa_nil))) (pe_op op_mod (pv 3) pe_int) (fun _ _ => rfl)) (pa_cons (pe_callTy (r := rTupS K) call_tupS (by rfl) T.n_tuple (by decide +kernel) (pa_cons (pe_lc (own := [("_law_turn", 5)]) (g := (gName 5)) (by rfl) sc__law_job.nd (pi_range1 rfl T.n_range (pa_cons (pv 4) pa_nil)) (blkOk_by (N := N__law_job) (sc := (defScope s__law_job)) (by decide +kernel)) (fun _ _ _ _ _ => (pg_name (i := 5) sc__law_job.nd rfl (Or.inl rfl))) (fun _ _ _ _ _ => pts_nil) (fun _ _ _ _ _ => (pe_call g__law_job (hr.mono (by omega)) rfl T.m__law_job T.F__law_job.kp T.b__law_job .nil pass0 (pa_cons (pv 0) (pa_cons (pe_op op_sub (pv 1) pe_int) (pa_cons (pv 2) pa_nil)))))) pa_nil)) pa_nil)))))) pss_nil)
      (pss_one (ps_ret (pe_tup (pa_cons (pe_ix (r := rIxL K) ix_list (pe_lst (pa_cons pe_str (pa_cons pe_str pa_nil))) (pe_op op_mod (pv 3) pe_int) (fun _ _ => rfl)) (pa_cons (pe_ix (r := rIxL K) ix_list (pv 2) (pe_call g__law_take (hr.mono (by omega)) rfl T.m__law_take T.F__law_take.kp T.b__law_take .nil pass0 (pa_cons (pv 0) (pa_cons (pe_callB (r := rLenS K) call_lenS (by rfl) T.n_len (by decide +kernel) (pa_cons (pv 2) pa_nil)) pa_nil))) (fun _ _ => rfl)) (pa_cons (pe_call g__law_job (hr.mono (by omega)) rfl T.m__law_job T.F__law_job.kp T.b__law_job .nil pass0 (pa_cons (pv 0) (pa_cons (pe_op op_sub (pv 1) pe_int) (pa_cons (pv 2) pa_nil)))) pa_nil)))))))))), ?_⟩
  have tb : 20 ≤ TB d := by cases d <;> simp only [TB] <;> omega
  refine ⟨_, rfl, p, m, 9, rfl, hp, by omega, by decide, by decide, fun H1 r1 s1 hp1 h0 h1 => ?_⟩
  have ha1 := s1 a _ nap ha
  refine ⟨_, rfl, _, _, rfl, rfl, _, rfl, ?_⟩
  -- one step
  have one : ∀ (R : V → Hp → Prop), R = Q → spStep [.ref p] H1 R E0 := by
    rintro R rfl
    exact ⟨p, m + 1, rfl, hp1, by omega, fun H2 r2 s2 hp2 k0 k1 => q _ _ (.st r2) (s1.trans s2) (hp2.mono (by omega)) (.int _) (.step k0 k1)⟩
  refine ite2 (fun g => ?_) (fun g => ?_)
  · refine iteT ⟨_, rfl, ?_⟩
    exact one _ rfl
  have d2 : 2 ≤ d := by
    have g' : ¬ ((d : Int) < 2) := fun z => g (decide_eq_true z)
    omega
  obtain ⟨e, rfl⟩ : ∃ e, d = e + 2 := ⟨d - 2, by omega⟩
  refine ⟨_, rfl, rfl, _, rfl, ?_⟩
  refine ite2 (fun g => ?_) (fun g => ?_)
  · refine ⟨_, rfl, ?_⟩
    exact one _ rfl
  refine ⟨_, rfl, _, _, rfl, rfl, _, rfl, ?_⟩
  have etb : TB (e + 2) = 20 + 3 * TB (e + 1) := rfl
  have tb1 : 20 ≤ TB (e + 1) := by simp only [TB]; omega
  refine ite2 (fun g => ?_) (fun g => ?_)
  · -- a row of steps
    refine ⟨(by show 4 ≤ sizeLine; decide), fun l hl => ?_⟩
    obtain ⟨lp, hlp⟩ := hp1.lst
    have nlp : l ≠ p := fun z => by rw [z, hlp] at hl; cases hl
    refine ⟨_, rfl, p, m + 1, _, rfl, hp1.same (same_new hl), by omega, by decide, by decide, fun H2 r2 s2 hp2 k0 k1 => ?_⟩
    obtain ⟨z, hz, ez⟩ := atI_int (ns := [3, 2, 4, 0]) k0 k1
    have hz4 : 0 ≤ z ∧ z ≤ 4 := by
      simp only [List.mem_cons, List.not_mem_nil, or_false] at hz
      omega
    refine ⟨_, _, _, _, rfl, rfl, SqL.of (s2 l _ nlp upd_same), ez, ?_⟩
    have s02 : Sx p H H2 := s1.trans ((sx_new hl).trans s2)
    have h2n : m + 1 + 1 + 4 * z.toNat ≤ m + TB (e + 2) := by omega
    refine ⟨_, rfl, z, rfl, by omega, by omega, fun D hD => ?_⟩
    have nDp : D ≠ p := fun y => by
      obtain ⟨_, y2⟩ := hp2.lst
      rw [y, y2] at hD
      cases hD
    refine lc_range (lo := 0) (n := z.toNat) (fun i H' => ∃ js, js.length = i ∧ Row K cs H2 p D 1 (m + 1 + 1 + 4 * i) js H') ?_ ?_ ?_
    · exact ⟨[], rfl, fun b o nb hb => by rw [upd_ne (ne_of_none hb hD)]; exact hb, (hp2.same (same_new hD)), .nil, [], upd_same, .nil⟩
    · rintro i H' hi ⟨js, ejs, R⟩
      refine ⟨rfl, ?_⟩
      unfold tYes
      refine iteT ?_
      refine ⟨_, rfl, p, m + 1 + 1 + 4 * i, rfl, R.pot, by omega, fun H4 r4 s4 hp4 j0 j1 => ?_⟩
      obtain ⟨acc, x1, x2, x3⟩ := R.snoc hD nDp s4 hp4 (.int _) (GenOk.step (cs := cs) (n := 1) j0 j1)
      exact ⟨acc, x1, small1000 (by omega), _, by rw [List.length_append, List.length_singleton, ejs], x3⟩
    · rintro H' ⟨js, ejs, R⟩
      obtain ⟨vs, y1, y2⟩ := R.lst
      refine ⟨D, vs, rfl, .inl ⟨SqL.of y1, fun t ht => ?_⟩⟩
      refine ⟨(by show 2 ≤ sizeLine; decide), fun u hu => ?_⟩
      have st : Same H' (upd (upd H' t (.tup vs)) u (.tup [.str "seq", .ref t])) := (same_new ht).trans (same_new hu)
      refine q _ _ (.ps false js) (s02.trans (R.sx.trans (Same.sx st))) ((R.pot.same st).mono (by omega)) ?_ (GenOk.row R.gen (by omega))
      refine dp_ps (k := false) (v := .ref t) upd_same (.tup (.inl (.inl ?_)) (dpAll_same st y2))
      exact same_new hu _ _ upd_same
  refine ⟨_, rfl, _, _, rfl, rfl, _, rfl, ?_⟩
  refine ite2 (fun g => ?_) (fun g => ?_)
  · -- parts
    refine ⟨(by show 6 ≤ sizeLine; decide), fun l hl => ?_⟩
    obtain ⟨lp, hlp⟩ := hp1.lst
    have nlp : l ≠ p := fun z => by rw [z, hlp] at hl; cases hl
    refine ⟨_, rfl, p, m + 1, _, rfl, hp1.same (same_new hl), by omega, by decide, by decide, fun H2 r2 s2 hp2 k0 k1 => ?_⟩
    obtain ⟨z, hz, ez⟩ := atI_int (ns := [2, 3, 2, 1, 3, 0]) k0 k1
    have hz4 : 0 ≤ z ∧ z ≤ 3 := by
      simp only [List.mem_cons, List.not_mem_nil, or_false] at hz
      omega
    refine ⟨_, _, _, _, rfl, rfl, SqL.of (s2 l _ nlp upd_same), ez, ?_⟩
    have s02 : Sx p H H2 := s1.trans ((sx_new hl).trans s2)
    -- the kind
    refine ⟨(by show 2 ≤ sizeLine; decide), fun l2 hl2 => ?_⟩
    obtain ⟨lp2, hlp2⟩ := hp2.lst
    refine ⟨_, rfl, _, _, rfl, rfl, (by show (0 : Int) < 2; decide), ?_⟩
    obtain ⟨kb, ekb⟩ := pick2 kwP (r := r1 % 2) (by omega) (by omega)
    refine ⟨_, _, _, _, rfl, rfl, SqL.of upd_same, ekb, ?_⟩
    have s03 : Sx p H (upd H2 l2 (.lst [.str "seq", .str "par"])) := s02.trans (sx_new hl2)
    have hp3 := hp2.same (same_new (o := .lst [.str "seq", .str "par"]) hl2)
    generalize (upd H2 l2 (.lst [.str "seq", .str "par"])) = H3 at s03 hp3 ⊢
    refine ⟨_, rfl, z, rfl, by omega, by omega, fun D hD => ?_⟩
    have nDp : D ≠ p := fun y => by
      obtain ⟨_, y2⟩ := hp3.lst
      rw [y, y2] at hD
      cases hD
    refine lc_range (lo := 0) (n := z.toNat) (fun i H' => ∃ js, js.length = i ∧ Row K cs H3 p D (e + 1) (m + 1 + 1 + TB (e + 1) * i) js H') ?_ ?_ ?_
    · exact ⟨[], rfl, fun b o nb hb => by rw [upd_ne (ne_of_none hb hD)]; exact hb, (hp3.same (same_new hD)), .nil, [], upd_same, .nil⟩
    · rintro i H' hi ⟨js, ejs, R⟩
      have hi3 : i ≤ 2 := by omega
      have hmul : TB (e + 1) * i ≤ TB (e + 1) * 2 := Nat.mul_le_mul_left _ hi3
      have hmul2 : TB (e + 1) * (i + 1) = TB (e + 1) * i + TB (e + 1) := Nat.mul_succ _ _
      refine ⟨rfl, ?_⟩
      unfold tYes
      refine iteT ?_
      refine ⟨_, rfl, _, rfl, _, _, rfl, rfl, _, rfl, e + 1, by omega, p, a, m + 1 + 1 + TB (e + 1) * i, cs, ?_, R.pot, by omega, R.sx a _ nap (s03 a _ nap ha), nap, c0, c1, hcs, fun H4 r4 j4 s4 hp4 d4 g4 => ?_⟩
      · have ee : ((e + 2 : Nat) : Int) - 1 = ((e + 1 : Nat) : Int) := by omega
        rw [← ee]
        rfl
      obtain ⟨acc, x1, x2, x3⟩ := R.snoc hD nDp s4 hp4 d4 g4
      rw [Nat.add_assoc _ (TB (e + 1) * i), ← hmul2] at x3
      exact ⟨acc, x1, small1000 (by omega), _, by rw [List.length_append, List.length_singleton, ejs], x3⟩
    · rintro H' ⟨js, ejs, R⟩
      obtain ⟨vs, y1, y2⟩ := R.lst
      refine ⟨D, vs, rfl, .inl ⟨SqL.of y1, fun t ht => ?_⟩⟩
      refine ⟨(by show 2 ≤ sizeLine; decide), fun u hu => ?_⟩
      have st : Same H' (upd (upd H' t (.tup vs)) u (.tup [.str (kwP kb), .ref t])) := (same_new ht).trans (same_new hu)
      have hz3 : z.toNat ≤ 3 := by omega
      have hmul : TB (e + 1) * z.toNat ≤ TB (e + 1) * 3 := Nat.mul_le_mul_left _ hz3
      refine q _ _ (.ps kb js) (s03.trans (R.sx.trans (Same.sx st))) ((R.pot.same st).mono (by omega)) ?_ (GenOk.parts R.gen (by omega))
      refine dp_ps (k := kb) (v := .ref t) upd_same (.tup (.inl (.inl ?_)) (dpAll_same st y2))
      exact same_new hu _ _ upd_same
  -- rounds, copies
  refine ⟨(by show 2 ≤ sizeLine; decide), fun l hl => ?_⟩
  refine ⟨_, rfl, _, _, rfl, rfl, (by show (0 : Int) < 2; decide), ?_⟩
  obtain ⟨kb, ekb⟩ := pick2 kwR (r := r1 % 2) (by omega) (by omega)
  refine ⟨_, _, _, _, rfl, rfl, SqL.of upd_same, ekb, ?_⟩
  have s02 : Sx p H (upd H1 l (.lst [.str "repeat", .str "copies"])) := s1.trans (sx_new hl)
  have hp2 := hp1.same (same_new (o := .lst [.str "repeat", .str "copies"]) hl)
  generalize (upd H1 l (.lst [.str "repeat", .str "copies"])) = H2 at s02 hp2 ⊢
  have ha2 := s02 a _ nap ha
  refine ⟨_, rfl, _, rfl, _, rfl, a, _, rfl, .inl (SqL.of ha2), p, m + 1, _, rfl, hp2, by omega, ?_, ?_, fun H3 r3 s3 hp3 k0 k1 => ?_⟩
  · show (0 : Int) < ((cs.map V.int).length : Int)
    rw [List.length_map]
    omega
  · show (((cs.map V.int).length : Int)).natAbs < 2 ^ 200
    rw [List.length_map]
    exact Nat.lt_of_le_of_lt (show ((cs.length : Int)).natAbs ≤ 100 by omega) (by decide)
  rw [List.length_map] at k1
  obtain ⟨z, hz, ez⟩ := atI_int (ns := cs) k0 k1
  have ha3 := s3 a _ nap ha2
  refine ⟨_, _, _, _, rfl, rfl, SqL.of ha3, ez, ?_⟩
  refine ⟨_, rfl, _, rfl, _, _, rfl, rfl, _, rfl, e + 1, by omega, p, a, m + 1 + 1, cs, ?_, hp3, by omega, ha3, nap, c0, c1, hcs, fun H4 r4 j4 s4 hp4 d4 g4 => ?_⟩
  · have ee : ((e + 2 : Nat) : Int) - 1 = ((e + 1 : Nat) : Int) := by omega
    rw [← ee]
    rfl
  refine ⟨(by show 3 ≤ sizeLine; decide), fun u hu => ?_⟩
  have st : Same H4 (upd H4 u (.tup [.str (kwR kb), .int z, r4])) := same_new hu
  have hcz := hcs z hz
  exact q _ _ (.rn kb z j4) (s02.trans (s3.trans (s4.trans (Same.sx st)))) ((hp4.same st).mono (by omega)) (dp_rn upd_same (dp_same st d4)) (GenOk.rounds g4 hcz.1 hcz.2 hz)
theorem ok_jobs (T : Txt K mg) : ∀ n : Nat, FnOk P w K mg base CX0 (n + 2) T.f__law_job T.d__law_job ["_law_pot_here", "_law_deep", "_law_counts"] (spJobs K n)
  | 0 => ⟨fun vs H Q E h => (nomatch h.choose_spec.1), fun A outer s H args us vs Q E _ _ _ _ h => (nomatch h.choose_spec.1)⟩
  | n + 1 => ok_job_next T (ok_jobs T n)
theorem ok_job (T : Txt K mg) (n : Nat) : FnOk P w K mg base CX0 (n + 3) T.f__law_job T.d__law_job ["_law_pot_here", "_law_deep", "_law_counts"] (spJob K n) :=
  (ok_jobs T (n + 1)).imp fun vs H Q E h => ⟨n, Nat.lt_succ_self n, h⟩
end
/-! block TidyP: tidied and what it stands on (behind bSizes) -/
def hasK : J → Str → Bool
  | .st _, _ => false
  | .ps k _, s => kwP k == s
  | .rn k _ _, s => kwR k == s
def spHas (K : PySem.W.Frag) : Sp := fun vs H Q _ => ∃ (v : V) (j : J) (s : Str), vs = [v, .str s] ∧ Dp K H v j.toD ∧ Q (.bl (hasK j s)) H
def spTRn (K : PySem.W.Frag) : Sp := fun vs H Q _ => ∃ (v : V) (j : J) (k : Bool) (n : Int), vs = [.str (kwR k), .int n, v] ∧ Dp K H v j.toD ∧ j.deep ≤ 30 ∧ 0 ≤ n ∧ n ≤ M30 ∧ (∀ l m y, j = .rn l m y → 0 ≤ m ∧ m ≤ M30) ∧ ∀ (H' : Hp) (r : V), Same H H' → Dp K H' r (tidyRn k n j).toD → Q r H'
section
variable {P : Program} {w : World} {K : PySem.W.Frag} {mg : Str → Option Value} {base : Heap}
theorem ok_has (T : Txt K mg) : FnOk P w K mg base CX0 1 T.f__has_kind T.d__has_kind ["job", "kind"] (spHas K) := by
  refine T.F__has_kind.ok sc__has_kind (fun vs H Q E h => ?_) (fun cdv A outer s H vs Q E hr h => ?_)
  · obtain ⟨v, j, s, rfl, _⟩ := h
    rfl
  obtain ⟨v, j, s, rfl, hd, q⟩ := h
  refine ⟨_, (pss_one (ps_ret (pe_and (pe_callB (r := rIsD K) call_isD (by rfl) T.n_isinstance (by decide +kernel) (pa_cons (pv 0) (pa_cons (pe_bltn (v := .ty "tuple") (by rfl) T.n_tuple (by decide +kernel) rfl) pa_nil))) (pe_one (pe_cmpR op_eq (pe_ix (r := rIxT K) ix_tup (pv 0) pe_int (fun _ _ => rfl)) (pv 1) (nomark _)))))), ?_⟩
  refine ⟨_, rfl, _, _, _, _, rfl, hd, kit_tuple _, _, rfl, ?_⟩
  cases j with
  | st i =>
    refine iteF ?_
    exact q
  | ps k ys =>
    refine iteT ?_
    obtain ⟨a, b, xs, rfl, ha, hb, hall⟩ := ps_inv hd
    refine ⟨_, rfl, _, _, _, _, rfl, rfl, ha, rfl, _, rfl, rfl, ?_⟩
    have e : decide (V.str (kwP k) = V.str s) = hasK (.ps k ys) s := by
      show _ = (kwP k == s)
      by_cases z : kwP k = s
      · rw [z]
        simp
      · simp [z]
    rw [e]
    exact q
  | rn k n x =>
    refine iteT ?_
    obtain ⟨a, vx, rfl, ha, hx⟩ := rn_inv hd
    refine ⟨_, rfl, _, _, _, _, rfl, rfl, ha, rfl, _, rfl, rfl, ?_⟩
    have e : decide (V.str (kwR k) = V.str s) = hasK (.rn k n x) s := by
      show _ = (kwR k == s)
      by_cases z : kwR k = s
      · rw [z]
        simp
      · simp [z]
    rw [e]
    exact q
theorem ok_tRn (T : Txt K mg) : FnOk P w K mg base CX0 3 T.f__tidied_rounds T.d__tidied_rounds ["kind", "n", "inner"] (spTRn K) := by
  have g__has_kind := ok_has (P := P) (w := w) (base := base) T
  refine T.F__tidied_rounds.ok sc__tidied_rounds (fun vs H Q E h => ?_) (fun cdv A outer s H vs Q E hr h => ?_)
  · obtain ⟨v, j, k, n, rfl, _⟩ := h
    rfl
  obtain ⟨v, j, k, n, rfl, hd, hdp, hn0, hn1, hm, q⟩ := h
  refine ⟨_, (pss_cons (ps_if (PW.pt (pw_or (pt_cmpR op_eq (pv 1) pe_int (nomark _)) (pw_or1 (pt_cmpR (r := rEqD K) (op_eqD hr.units) (pv 2) (pe_glob (v := .ref T.t_EMPTY) rfl T.g_EMPTY rfl) (nomark _))))) (pss_one (ps_ret (pe_glob (v := .ref T.t_EMPTY) rfl T.g_EMPTY rfl))) pss_nil)
      (pss_cons (ps_if (pt_val (pe_call g__has_kind (hr.mono (by omega)) rfl T.m__has_kind T.F__has_kind.kp T.b__has_kind .nil pass0 (pa_cons (pv 2) (pa_cons (pv 0) pa_nil)))) (pss_one (ps_ret (pe_tup (pa_cons (pv 0) (pa_cons (pe_op op_mulW (pv 1) (pe_ix (r := rIxT K) ix_tup (pv 2) pe_int (fun _ _ => rfl))) (pa_cons (pe_ix (r := rIxT K) ix_tup (pv 2) pe_int (fun _ _ => rfl)) pa_nil)))))) pss_nil)
      (pss_one (ps_ret (pe_ifExp (pt_cmpR op_eq (pv 1) pe_int (nomark _)) (pv 2) (pe_tup (pa_cons (pv 0) (pa_cons (pv 1) (pa_cons (pv 2) pa_nil))))))))), ?_⟩
  have plain : notR k j → ¬ (n = 0 ∨ isE j = true) → tidyRn k n j = if n = 1 then j else .rn k n j := fun hr ne => by
    unfold tidyRn
    rw [if_neg ne]
    cases j with
    | rn l m y => dsimp only; rw [if_neg (fun z => hr m y (by rw [z]))]
    | st i => rfl
    | ps l ys => rfl
  have eE : PyData.eqv j.toD (.tuple [.str "seq", .tuple []]) = isE j := by
    have e := J.eqv_beq j (.ps false [])
    rw [show (J.ps false []).toD = .tuple [.str "seq", .tuple []] from by simp only [J.toD, J.toDs]; rfl] at e
    rw [e, Bool.eq_iff_iff, J.beq_iff, isE_iff]
  have last : notR k j → ¬ (n = 0 ∨ isE j = true) → tIf (tTest (tOp rEq (tVar 1) (tC (V.int 1)))) (tVar 2) (tTup (tCons (tVar 0) (tCons (tVar 1) (tCons (tVar 2) tNil)))) (L2.start N__tidied_rounds [V.str (kwR k), V.int n, v]) H Q := fun hr ne => by
    refine ⟨_, rfl, rfl, _, rfl, ?_⟩
    have e := plain hr ne
    refine ite2 (fun g => ?_) (fun g => ?_)
    · have n1 : n = 1 := by simpa using g
      rw [if_pos n1] at e
      exact ⟨_, rfl, q _ _ (Same.refl _) (by rw [e]; exact hd)⟩
    · have n1 : ¬ n = 1 := by simpa using g
      rw [if_neg n1] at e
      refine ⟨_, rfl, _, rfl, _, rfl, (by show 3 ≤ sizeLine; decide), fun t ht => ?_⟩
      exact q _ _ (same_new ht) (by rw [e]; exact dp_rn upd_same (dp_same (same_new ht) hd))
  have dE : ∀ G, Dp K G (.ref T.t_EMPTY) (J.ps false []).toD := fun G => by
    rw [show (J.ps false []).toD = .tuple [.str "seq", .tuple []] from by simp only [J.toD, J.toDs]; rfl]
    exact T.d_EMPTY G
  have out : (n = 0 ∨ isE j = true) → Dp K H (.ref T.t_EMPTY) (tidyRn k n j).toD := fun z => by
    unfold tidyRn
    rw [if_pos z]
    exact dE H
  have rest : ¬ (n = 0 ∨ isE j = true) → tSeq (tIfS (tB (tCall (spHas K) [] E0 (tCons (tVar 2) (tCons (tVar 0) tNil))))
        (tRet (tTup (tCons (tVar 0) (tCons (tOp (rI CMulW fun i j => V.int (i * j)) (tVar 1) (tOp (rIxT K) (tVar 2) (tC (V.int 1)))) (tCons (tOp (rIxT K) (tVar 2) (tC (V.int 2))) tNil)))))
        tNext) (tRet (tIf (tTest (tOp rEq (tVar 1) (tC (V.int 1)))) (tVar 2) (tTup (tCons (tVar 0) (tCons (tVar 1) (tCons (tVar 2) tNil))))))
      { nx := fun x H' => Q V.non H', rt := Q } (L2.start N__tidied_rounds [V.str (kwR k), V.int n, v]) H := fun ne => by
    refine ⟨_, rfl, _, rfl, v, j, kwR k, rfl, hd, _, rfl, ?_⟩
    cases j with
    | st i =>
      refine iteF ?_
      exact last (fun m y z => by cases z) ne
    | ps l ys =>
      have e : hasK (.ps l ys) (kwR k) = false := by
        show (kwP l == kwR k) = false
        cases l <;> cases k <;> decide +kernel
      rw [e]
      refine iteF ?_
      exact last (fun m y z => by cases z) ne
    | rn l m y =>
      by_cases el : l = k
      · subst el
        have e : hasK (.rn l m y) (kwR l) = true := by simp [hasK]
        rw [e]
        refine iteT ?_
        obtain ⟨a, vy, rfl, ha, hy⟩ := rn_inv hd
        obtain ⟨m0, m1⟩ := hm l m y rfl
        have cm : CMulW n m := by
          have b : ∀ i : Int, 0 ≤ i → i ≤ M30 → i.natAbs.log2 < 200 := fun i h0 h1 => by
            rcases Nat.eq_zero_or_pos i.natAbs with z | z
            · rw [z]
              decide
            · refine (Nat.log2_lt (by omega)).mpr ?_
              have h2 : i.natAbs ≤ 1000000000000000000000000000000 := by
                simp only [M30] at h1
                omega
              exact Nat.lt_of_le_of_lt h2 (by decide)
          have h1 := b n hn0 hn1
          have h2 := b m m0 m1
          show _ < _
          omega
        refine ⟨_, rfl, _, rfl, _, rfl, _, _, _, _, rfl, rfl, ha, rfl, _, _, rfl, rfl, cm, _, rfl, _, _, _, _, rfl, rfl, ha, rfl, (by show 3 ≤ sizeLine; decide), fun t ht => ?_⟩
        have eT : tidyRn l n (.rn l m y) = .rn l (n * m) y := by
          unfold tidyRn
          rw [if_neg ne]
          dsimp only
          rw [if_pos rfl]
        exact q _ _ (same_new ht) (by rw [eT]; exact dp_rn upd_same (dp_same (same_new ht) hy))
      · have e : hasK (.rn l m y) (kwR k) = false := by
          show (kwR l == kwR k) = false
          rw [kwR_same]
          simpa using el
        rw [e]
        refine iteF ?_
        exact last (fun m' y' z => by cases z; exact el rfl) ne
  refine ⟨_, rfl, rfl, _, rfl, ?_⟩
  refine ite2 (fun g => ?_) (fun g => ?_)
  · have n0 : n = 0 := by simpa using g
    refine iteT ?_
    exact q _ _ (Same.refl _) (out (.inl n0))
  · have n0 : ¬ n = 0 := by simpa using g
    refine ⟨_, rfl, j.toD, _, hd, T.d_EMPTY H, J.shaped j hdp, by decide +kernel, _, rfl, ?_⟩
    rw [eE]
    cases ej : isE j with
    | true =>
      refine iteT ?_
      exact q _ _ (Same.refl _) (out (.inr ej))
    | false =>
      refine iteF ?_
      refine rest ?_
      rw [ej]
      simp only [not_or]
      exact ⟨n0, by decide⟩
end
/-! block TidyG: _grouped -/
theorem ite_midT {c : Bool} {te1 te2 : TE} {σ : L2.St} {H : Hp} {Q : VK} (R : V → Hp → Prop) (h1 : c = true → ∀ Q : VK, (∀ x H', R x H' → Q x H') → te1 σ H Q) (h2 : c = false → ∀ Q : VK, (∀ x H', R x H' → Q x H') → te2 σ H Q)
    (h : ∀ x H', R x H' → Q x H') : if c = true then te1 σ H Q else te2 σ H Q := by
  cases c with
  | true => exact h1 rfl Q h
  | false => exact h2 rfl Q h
theorem addG_set (n : Int) (x : J) : ∀ l : List (Int × J), x ∈ l.map (·.2) → ∃ (i : Nat) (m : Int), l[i]? = some (m, x) ∧ (∀ (k : Nat) (p : Int × J), k < i → l[k]? = some p → p.2 ≠ x) ∧ addG n x l = l.set i (m + n, x)
  | [], h => by simp at h
  | (m, y) :: r, h => by
    by_cases e : y = x
    · subst e
      refine ⟨0, m, rfl, fun k p hk => absurd hk (Nat.not_lt_zero _), ?_⟩
      simp only [addG]
      rw [if_pos (J.beq_refl y)]
      rfl
    · have h' : x ∈ r.map (·.2) := by
        rcases List.mem_cons.mp h with z | z
        · exact absurd z.symm e
        · exact z
      obtain ⟨i, m', e1, e2, e3⟩ := addG_set n x r h'
      refine ⟨i + 1, m', e1, fun k p hk hp => ?_, ?_⟩
      · cases k with
        | zero =>
          have hp' : (m, y) = p := Option.some.inj hp
          rw [← hp']
          exact e
        | succ k => exact e2 k p (by omega) hp
      · simp only [addG]
        rw [if_neg (fun z => e (J.beq_eq _ _ z)), e3]
        rfl
theorem groupG_snoc (p : J) : ∀ (ps : List J) (acc : List (Int × J)), groupG acc (ps ++ [p]) = addG (keyOf p).1 (keyOf p).2 (groupG acc ps)
  | [], acc => rfl
  | q :: ps, acc => by
    simp only [List.cons_append, groupG]
    exact groupG_snoc p ps _
theorem addG_len (n : Int) (x : J) : ∀ l : List (Int × J), (addG n x l).length ≤ l.length + 1
  | [] => by simp [addG]
  | (m, y) :: r => by
    simp only [addG]
    have := addG_len n x r
    split <;> simp only [List.length_cons] <;> omega
theorem any_keys {x : J} : ∀ {ks : List J}, ((J.toDs ks).any fun e => e.eqv x.toD) = true ↔ x ∈ ks
  | [] => by simp [J.toDs]
  | k :: ks => by
    simp only [J.toDs, List.any_cons, Bool.or_eq_true, any_keys (ks := ks), List.mem_cons, J.eqv_beq, J.beq_iff]
    exact or_congr eq_comm Iff.rfl
theorem addG_mem {n : Int} {x : J} : ∀ {l : List (Int × J)} {y : J}, y ∈ (addG n x l).map (·.2) → y = x ∨ y ∈ l.map (·.2) := by
  intro l y h
  by_cases e : x ∈ l.map (·.2)
  · rw [addG_old e] at h
    exact .inr h
  · rw [addG_new e, List.map_append] at h
    rcases List.mem_append.mp h with h | h
    · exact .inr h
    · exact .inl (by simpa using h)
theorem groupG_mem : ∀ (ps : List J) (acc : List (Int × J)) (y : J), y ∈ (groupG acc ps).map (·.2) → y ∈ acc.map (·.2) ∨ ∃ p ∈ ps, y = (keyOf p).2
  | [], acc, y, h => .inl h
  | p :: ps, acc, y, h => by
    rcases groupG_mem ps _ y h with h | ⟨q, hq, e⟩
    · rcases addG_mem h with h | h
      · exact .inr ⟨p, List.mem_cons_self .., h⟩
      · exact .inl h
    · exact .inr ⟨q, List.mem_cons_of_mem _ hq, e⟩
theorem groupG_len : ∀ (ps : List J) (acc : List (Int × J)), (groupG acc ps).length ≤ acc.length + ps.length
  | [], acc => by simp [groupG]
  | p :: ps, acc => by
    have h1 := groupG_len ps (addG (keyOf p).1 (keyOf p).2 acc)
    have h2 := addG_len (keyOf p).1 (keyOf p).2 acc
    simp only [groupG, List.length_cons]
    omega
theorem key_deep (j : J) : (keyOf j).2.deep ≤ j.deep := by
  cases j with
  | st i => exact Nat.le_refl _
  | ps k ys => exact Nat.le_refl _
  | rn k n x =>
    cases k with
    | true => simp only [keyOf, J.deep]; omega
    | false => exact Nat.le_refl _
theorem keys_shaped {ks : List J} (h : ∀ k ∈ ks, k.deep ≤ 30) : SeqAt.shaped (.list (J.toDs ks)) = true := by
  have h1 := J.canLays ks
  have h2 : PyData.depthAll (J.toDs ks) ≤ 60 := by
    induction ks with
    | nil => simp [J.toDs, PyData.depthAll]
    | cons k ks ih =>
      have a := J.depth k
      have b := h k (List.mem_cons_self ..)
      have c := ih (fun x hx => h x (List.mem_cons_of_mem _ hx)) (J.canLays ks)
      simp only [J.toDs, PyData.depthAll]
      omega
  unfold SeqAt.shaped
  rw [Bool.and_eq_true, decide_eq_true_eq]
  refine ⟨by simp only [PyData.canLay0]; exact h1, ?_⟩
  simp only [PyData.depth]
  omega
theorem toDs_at {ks : List J} {i : Nat} {k : J} (h : ks[i]? = some k) : (J.toDs ks)[i]? = some k.toD := by
  have e : J.toDs ks = ks.map J.toD := by
    clear h
    induction ks with
    | nil => rfl
    | cons k ks ih => simp only [J.toDs, List.map_cons, ih]
  rw [e, List.getElem?_map, h]
  rfl
theorem toDs_of {ks : List J} {i : Nat} {d : PyData} (h : (J.toDs ks)[i]? = some d) : ∃ k, ks[i]? = some k ∧ d = k.toD := by
  have e : J.toDs ks = ks.map J.toD := by
    clear h
    induction ks with
    | nil => rfl
    | cons k ks ih => simp only [J.toDs, List.map_cons, ih]
  rw [e, List.getElem?_map] at h
  cases ek : ks[i]? with
  | none => rw [ek] at h; cases h
  | some k => rw [ek] at h; exact ⟨k, rfl, (Option.some.inj h).symm⟩
def spGrp (K : PySem.W.Frag) : Sp := fun vs H Q _ => ∃ (l : Addr) (us : List V) (js : List J), vs = [.ref l] ∧ SqL K H l us ∧ DpAll K H us (J.toDs js) ∧ js.length ≤ 100000 ∧ (∀ j ∈ js, j.deep ≤ 30) ∧
  ∀ (H' : Hp) (t : Addr) (ws : List V), Same H H' → H' t = some (.lst ws) → DpAll K H' ws (J.toDs (grouped js)) → H t = none → Q (.ref t) H'
section
variable {P : Program} {w : World} {K : PySem.W.Frag} {mg : Str → Option Value} {base : Heap}
theorem ok_grp (T : Txt K mg) : FnOk P w K mg base CX0 3 T.f__grouped T.d__grouped ["parts"] (spGrp K) := by
  have g__has_kind := ok_has (P := P) (w := w) (base := base) T
  refine T.F__grouped.ok sc__grouped (fun vs H Q E h => ?_) (fun cdv A outer s H vs Q E hr h => ?_)
  · obtain ⟨l, us, js, rfl, _⟩ := h
    rfl
  obtain ⟨l, us, js, rfl, hl, hall, hlen, hdp, q⟩ := h
  refine ⟨_, (pss_cons (ps_set (i := 1) sc__grouped.nd rfl (Or.inl rfl) (pe_lst pa_nil))
      (pss_cons (ps_set (i := 2) sc__grouped.nd rfl (Or.inl rfl) (pe_lst pa_nil))
      (pss_cons (ps_for PassesOwn.never rfl (pi_list (pv 0)) (pg_name (i := 3) sc__grouped.nd rfl (Or.inl rfl))
        (pss_cons (ps_asg (pe_ifExp (pt_val (pe_call g__has_kind (hr.mono (by omega)) rfl T.m__has_kind T.F__has_kind.kp T.b__has_kind .nil pass0 (pa_cons (pv 3) (pa_cons pe_str pa_nil)))) (pe_tup (pa_cons (pe_ix (r := rIxT K) ix_tup (pv 3) pe_int (fun _ _ => rfl)) (pa_cons (pe_ix (r := rIxT K) ix_tup (pv 3) pe_int (fun _ _ => rfl)) pa_nil))) (pe_tup (pa_cons pe_int (pa_cons (pv 3) pa_nil)))) (pg_tup (by rfl) (pgs_cons (pg_name (i := 4) sc__grouped.nd rfl (Or.inl rfl)) (pgs_cons (pg_name (i := 5) sc__grouped.nd rfl (Or.inl rfl)) pgs_nil))))
        (pss_one (ps_if (pt_cmpR (r := rInLD K) (op_inLD (room66 hr)) (pv 5) (pv 1) (by rfl)) (pss_one (ps_augS (pv 2) (pe_bm PySem.F.plainAttrs_list PySem.F.slot_list_index PySem.F.type_list_index (mt_indexD (Nat.lt_of_le_of_lt (Nat.add_le_add_left (by decide) _) (room66 hr))) (pv 1) (pa_cons (pv 5) pa_nil)) get_list (pv 4) ip_add set_list)) (pss_cons (ps_expr (pe_bm PySem.F.plainAttrs_list PySem.F.slot_list_append PySem.F.type_list_append mt_append (pv 1) (pa_cons (pv 5) pa_nil)))
          (pss_one (ps_expr (pe_bm PySem.F.plainAttrs_list PySem.F.slot_list_append PySem.F.type_list_append mt_append (pv 2) (pa_cons (pv 4) pa_nil)))))))))
      (pss_one (ps_ret (pe_lc (own := [("n", 4), ("inner", 5)]) (g := (gTup K 2 (gCons (gName 4) (gCons (gName 5) gNil)))) (by rfl) sc__grouped.nd (pi_zip (by rfl) T.n_zip (pa_cons (pv 2) (pa_cons (pv 1) pa_nil))) (blkOk_by (N := N__grouped) (sc := (defScope s__grouped)) (by decide +kernel)) (fun _ _ _ _ _ => (pg_tup (by rfl) (pgs_cons (pg_name (i := 4) sc__grouped.nd rfl (Or.inl rfl)) (pgs_cons (pg_name (i := 5) sc__grouped.nd rfl (Or.inl rfl)) pgs_nil)))) (fun _ _ _ _ _ => pts_nil) (fun _ _ _ _ _ => (pe_ifExp (pt_cmpR op_eq (pv 4) pe_int (nomark _)) (pv 5) (pe_tup (pa_cons pe_str (pa_cons (pv 4) (pa_cons (pv 5) pa_nil)))))))))))), ?_⟩
  have el : us.length = js.length := parts_len hall
  refine ⟨(by show 0 ≤ sizeLine; decide), fun l1 h1 => ?_⟩
  refine ⟨(by show 0 ≤ sizeLine; decide), fun l2 h2 => ?_⟩
  have n21 : l2 ≠ l1 := fun z => by rw [z, upd_same] at h2; cases h2
  have h2' : H l2 = none := by rw [upd_ne n21] at h2; exact h2
  have S0 : Same H (upd (upd H l1 (.lst [])) l2 (.lst [])) := (same_new h1).trans (same_new h2)
  refine ⟨_, rfl, l, rfl, ⟨us, S0.seq hl⟩, ?_⟩
  refine for_list (K := K) (a := l) (xs := us) (fun i σ G => ∃ (vk : List V) (y3 y4 y5 : Option V), σ = [some (.ref l), some (.ref l1), some (.ref l2), y3, y4, y5] ∧ Same H G ∧ G l1 = some (.lst vk) ∧
    G l2 = some (.lst ((groupG [] (js.take i)).map fun p => V.int p.1)) ∧ DpAll K H vk (J.toDs ((groupG [] (js.take i)).map (·.2)))) ⟨[], none, none, none, rfl, S0, by rw [upd_ne n21.symm, upd_same], upd_same, .nil⟩ (fun i σ G _ ⟨_, _, _, _, _, s, _⟩ => s.seq hl) ?_ ?_
  · rintro i x σ G hi ⟨vk, y3, y4, y5, rfl, s1, g1, g2, hk⟩
    obtain ⟨j, ej, mj, dj⟩ := parts_at hall hi
    have hij : i < js.length := (List.getElem?_eq_some_iff.mp ej).1
    have djG := dp_same s1 dj
    have hd := hdp j mj
    have etk : js.take (i + 1) = js.take i ++ [j] := by rw [List.take_add_one, ej]; rfl
    refine ⟨_, rfl, x, j, "copies", rfl, djG, _, rfl, ?_⟩
    refine ite_midT (fun x' G' => ∃ (t : Addr) (vi : V), x' = .ref t ∧ Same G G' ∧ SqT K G' t [.int (keyOf j).1, vi] ∧ Dp K H vi (keyOf j).2.toD) (fun hc Q' go => ?_) (fun hc Q' go => ?_) ?_
    · cases j with
      | st i => cases hc
      | ps k ys => exact absurd hc (by show ¬ (kwP k == ("copies" : Str)) = true; cases k <;> decide +kernel)
      | rn k n z =>
        cases k with
        | false => exact absurd hc (by show ¬ (kwR false == ("copies" : Str)) = true; decide +kernel)
        | true =>
          obtain ⟨a, vz, rfl, ha, hz⟩ := rn_inv dj
          have haG := same_sqT s1 ha
          refine ⟨_, rfl, _, _, _, _, rfl, rfl, haG, rfl, _, rfl, _, _, _, _, rfl, rfl, haG, rfl, (by show 2 ≤ sizeLine; decide), fun t ht => ?_⟩
          exact go _ _ ⟨t, vz, rfl, same_new ht, SqT.of upd_same, hz⟩
    · have e : keyOf j = (1, j) := by
        cases j with
        | st i => rfl
        | ps k ys => rfl
        | rn k n z =>
          cases k with
          | false => rfl
          | true => exact absurd hc (by show ¬ (kwR true == ("copies" : Str)) = false; decide +kernel)
      refine ⟨_, rfl, (by show 2 ≤ sizeLine; decide), fun t ht => ?_⟩
      exact go _ _ ⟨t, x, rfl, same_new ht, by rw [e]; exact SqT.of upd_same, by rw [e]; exact dj⟩
    · rintro x' G' ⟨t, vi, rfl, s2, hs2, hvi⟩
      have s12 := s1.trans s2
      have g1' := s2 _ _ g1
      have g2' := s2 _ _ g2
      refine ⟨t, _, rfl, hs2, rfl, _, _, rfl, _, _, rfl, rfl, ?_⟩
      have kd : ∀ k ∈ (groupG [] (js.take i)).map (·.2), k.deep ≤ 30 := fun k hk' => by
        rcases groupG_mem _ _ _ hk' with z | ⟨p, hp, rfl⟩
        · simp at z
        · exact Nat.le_trans (key_deep p) (hdp p (List.mem_of_mem_take hp))
      have glen : (groupG [] (js.take i)).length ≤ i := by
        have := groupG_len (js.take i) []
        rw [List.length_take] at this
        simp only [List.length_nil] at this
        omega
      have eg : groupG [] (js.take (i + 1)) = addG (keyOf j).1 (keyOf j).2 (groupG [] (js.take i)) := by rw [etk, groupG_snoc]
      have klen : vk.length = ((groupG [] (js.take i)).map (·.2)).length := parts_len hk
      have zd : (keyOf j).2.deep ≤ 30 := Nat.le_trans (key_deep j) hd
      generalize (keyOf j).1 = n at hs2 eg ⊢
      generalize (keyOf j).2 = z at hvi eg zd ⊢
      generalize groupG [] (js.take i) = acc at hk kd glen eg klen g2' g2 ⊢
      have dl : Dp K G' (.ref l1) (.list (J.toDs (acc.map (·.2)))) := .lst (SqL.of g1') (dpAll_same s12 hk)
      have dz := dp_same s12 hvi
      refine ⟨_, rfl, _, rfl, J.toDs (acc.map (·.2)), z.toD, dl, dz, J.canLays _, J.canLay z, by have := J.depth z; omega, _, rfl, ?_⟩
      have nH1 : ∀ {b : Addr} {o : HO}, H b = some o → b ≠ l1 := fun e q => by rw [q, h1] at e; cases e
      have nH2 : ∀ {b : Addr} {o : HO}, H b = some o → b ≠ l2 := fun e q => by rw [q, h2'] at e; cases e
      cases em : ((J.toDs (acc.map (·.2))).any fun e => e.eqv z.toD) with
      | true =>
        have hmem := any_keys.mp em
        obtain ⟨i', m, a1, a2, a3⟩ := addG_set n z acc hmem
        refine iteT ?_
        have hkz : (J.toDs (acc.map (·.2)))[i']? = some z.toD := toDs_at (by rw [List.getElem?_map, a1]; rfl)
        refine ⟨_, rfl, _, rfl, ⟨.inl ⟨rfl, _, SqL.of g1'⟩, _, rfl, l1, vi, z.toD, _, i', z.toD, rfl, rfl, dl, dz, keys_shaped kd, J.shaped z (by omega), hkz, J.eqv z, fun m' z' hm hz' => ?_, ?_⟩⟩
        · obtain ⟨k, ek, rfl⟩ := toDs_of hz'
          rw [J.eqv_beq]
          cases eb : k.beq z with
          | false => rfl
          | true =>
            exfalso
            rw [List.getElem?_map] at ek
            cases ea : acc[m']? with
            | none => rw [ea] at ek; cases ek
            | some p =>
              rw [ea] at ek
              have e : p.2 = k := Option.some.inj ek
              exact a2 m' p hm ea (by rw [e]; exact J.beq_eq _ _ eb)
        have hget : (acc.map fun p => V.int p.1)[i']? = some (.int m) := by rw [List.getElem?_map, a1]; rfl
        have hlt : i' < acc.length := (List.getElem?_eq_some_iff.mp a1).1
        refine ⟨l2, _, i', .int m, rfl, rfl, SqL.of g2', hget, _, rfl, m, n, rfl, rfl, l2, _, (i' : Int), i', rfl, rfl, g2', ?_, ?_⟩
        · unfold ixN
          simp [hlt]
        refine ⟨vk, _, _, _, rfl, fun b o e => by rw [upd_ne (nH2 e)]; exact s12 b o e, by rw [upd_ne n21.symm]; exact g1', ?_, ?_⟩
        · rw [upd_same, eg, a3, List.map_set]
        · rw [eg, addG_old hmem]
          exact hk
      | false =>
        have hno : z ∉ acc.map (·.2) := fun q => by rw [any_keys.mpr q] at em; cases em
        refine iteF ?_
        have al := acc.length_map (f := fun p : Int × J => p.2)
        refine ⟨_, rfl, ⟨.inl ⟨rfl, _, SqL.of g1'⟩, _, rfl, l1, vk, vi, rfl, rfl, g1', (by rw [klen, al, sizeLine_eq]; omega), ?_⟩⟩
        have g2n : upd G' l1 (.lst (vk ++ [vi])) l2 = some (.lst (acc.map fun p => V.int p.1)) := by rw [upd_ne n21]; exact g2'
        refine ⟨_, rfl, ⟨.inl ⟨rfl, _, SqL.of g2n⟩, _, rfl, l2, _, _, rfl, rfl, g2n, (by rw [List.length_map, sizeLine_eq]; omega), ?_⟩⟩
        refine ⟨vk ++ [vi], _, _, _, rfl, fun b o e => by rw [upd_ne (nH2 e), upd_ne (nH1 e)]; exact s12 b o e, by rw [upd_ne n21.symm, upd_same], ?_, ?_⟩
        · rw [upd_same, eg, addG_new hno, List.map_append]
          rfl
        · rw [eg, addG_new hno, List.map_append, J.toDs_app]
          exact dpAll_append hk (.cons hvi .nil)
  · rintro σ G ⟨vk, y3, y4, y5, rfl, s1, g1, g2, hk⟩
    rw [el, List.take_length] at g2 hk
    have glen := groupG_len js []
    simp only [List.length_nil, Nat.zero_add] at glen
    have klen : vk.length = ((groupG [] js).map (·.2)).length := parts_len hk
    rw [List.length_map] at klen
    have gdef : grouped js = (groupG [] js).map unkey := rfl
    rw [gdef] at q
    generalize groupG [] js = acc at g2 hk glen klen q
    refine ⟨_, rfl, _, rfl, l2, l1, _, _, rfl, SqL.of g2, SqL.of g1, fun C hC => ?_⟩
    have nC : ∀ {b : Addr} {o : HO}, G b = some o → b ≠ C := fun e z => by rw [z, hC] at e; cases e
    have nl2 : l2 ≠ C := nC g2
    have nl1 : l1 ≠ C := nC g1
    have hCH : H C = none := s1.free hC
    refine lc_it (walk_zip (xs := acc.map fun p => V.int p.1) (ys := vk) (n := acc.length) (by rw [List.length_map, klen, Nat.min_self])) (fun i F => Same G F ∧ ∃ ws : List V, F C = some (.lst ws) ∧ DpAll K F ws (J.toDs ((acc.take i).map unkey))) ?_ ?_ ?_ ?_
    · exact ⟨same_new hC, [], upd_same, .nil⟩
    · rintro i F _ ⟨s, _⟩
      exact ⟨s.seq (SqL.of g2), s.seq (SqL.of g1)⟩
    · rintro i z F F' hi ⟨s3, ws, eC, hws⟩ ⟨t2, x, y, rfl, ht2, rfl, hx, hy⟩
      dsimp only at hx hy
      rw [List.getElem?_map] at hx
      obtain ⟨pr, epr, rfl⟩ := Option.map_eq_some_iff.mp hx
      obtain ⟨k, ek, _, dk⟩ := parts_at hk hy
      have ek' : pr.2 = k := by
        rw [List.getElem?_map, epr] at ek
        exact Option.some.inj ek
      subst ek'
      have s4 : Same F (upd F t2 (.tup [.int pr.1, y])) := same_new ht2
      have kt : SqT K (upd F t2 (.tup [.int pr.1, y])) t2 [.int pr.1, y] := SqT.of upd_same
      have eC4 := s4 _ _ eC
      generalize (upd F t2 (.tup [.int pr.1, y])) = F2 at s4 kt eC4 ⊢
      have s34 := s3.trans s4
      have dkF := dp_same (s1.trans s34) dk
      have etk : acc.take (i + 1) = acc.take i ++ [pr] := by rw [List.take_add_one, epr]; rfl
      have wl : ws.length ≤ i := by
        have := parts_len hws
        rw [List.length_map, List.length_take] at this
        omega
      have fin : ∀ (F3 : Hp) (v : V), Same F2 F3 → Dp K F3 v (unkey pr).toD → ∃ acc', F3 C = some (.lst acc') ∧ acc'.length < sizeLine ∧ Same G (upd F3 C (.lst (acc' ++ [v]))) ∧ ∃ ws, upd F3 C (.lst (acc' ++ [v])) C = some (.lst ws) ∧ DpAll K (upd F3 C (.lst (acc' ++ [v]))) ws (J.toDs ((acc.take (i + 1)).map unkey)) := fun F3 v s5 dv => by
        have e3 := s5 _ _ eC4
        have kk : ∀ b xs, SqT K F3 b xs → SqT K (upd F3 C (.lst (ws ++ [v]))) b xs := fun b xs h => (sx_upd (p := C)).sqT e3 h
        refine ⟨ws, e3, by rw [sizeLine_eq]; omega, fun b o e => by rw [upd_ne (nC e)]; exact s5 _ _ (s34 _ _ e), _, upd_same, ?_⟩
        rw [etk, List.map_append, J.toDs_app]
        exact dpAll_append (dpAll_keep kk (J.noLs _) (dpAll_same (s4.trans s5) hws)) (.cons (dp_keep kk (J.noL _) dv) .nil)
      refine ⟨t2, _, rfl, kt, rfl, _, _, rfl, _, _, rfl, rfl, rfl, ?_⟩
      refine ⟨_, rfl, rfl, _, rfl, ?_⟩
      refine ite2 (fun g => ?_) (fun g => ?_)
      · have n1 : pr.1 = 1 := by simpa using g
        have e : unkey pr = pr.2 := by unfold unkey; rw [if_pos n1]
        exact ⟨_, rfl, fin _ _ (Same.refl _) (by rw [e]; exact dkF)⟩
      · have n1 : ¬ pr.1 = 1 := by simpa using g
        have e : unkey pr = .rn true pr.1 pr.2 := by unfold unkey; rw [if_neg n1]
        refine ⟨_, rfl, _, rfl, (by show 3 ≤ sizeLine; decide), fun t ht => ?_⟩
        exact fin _ _ (same_new ht) (by rw [e]; exact dp_rn upd_same (dp_same (same_new ht) dkF))
    · rintro F ⟨s3, ws, eC, hws⟩
      rw [List.take_length] at hws
      exact q _ C ws (s1.trans s3) eC hws hCH
end
/-! block TidyT: _tidied_parts -/
def spTPs (K : PySem.W.Frag) : Sp := fun vs H Q _ => ∃ (l : Addr) (us : List V) (js : List J) (k : Bool), vs = [.str (kwP k), .ref l] ∧ SqL K H l us ∧ DpAll K H us (J.toDs js) ∧ (js.flatMap (flatP k)).length ≤ 100000 ∧ (∀ j ∈ js, j.deep ≤ 30) ∧
  ∀ (H' : Hp) (r : V), Same H H' → Dp K H' r (tidyPs k js).toD → Q r H'
theorem hasP {j : J} {k : Bool} : hasK j (kwP k) = true ↔ ∃ ys, j = .ps k ys := by
  cases j with
  | st i => exact ⟨(fun h => by cases h), (fun ⟨_, e⟩ => by cases e)⟩
  | rn l n x =>
    refine ⟨fun h => ?_, fun ⟨_, e⟩ => by cases e⟩
    have : (kwR l == kwP k) = false := by cases l <;> cases k <;> decide +kernel
    have h' : (kwR l == kwP k) = true := h
    rw [this] at h'
    cases h'
  | ps l ys =>
    show (kwP l == kwP k) = true ↔ _
    rw [kwP_same, beq_iff_eq]
    exact ⟨fun e => ⟨ys, by rw [e]⟩, fun ⟨_, e⟩ => by cases e; rfl⟩
theorem flatP_not {j : J} {k : Bool} (h : hasK j (kwP k) = false) : flatP k j = if isE j = true then [] else [j] := by
  cases j with
  | st i => rfl
  | rn l n x => rfl
  | ps l ys =>
    have n : ¬ l = k := fun e => by
      subst e
      have z : hasK (.ps l ys) (kwP l) = true := hasP.mpr ⟨ys, rfl⟩
      rw [z] at h
      cases h
    simp only [flatP]
    rw [if_neg n]
theorem flat_deep {k : Bool} {js : List J} (h : ∀ j ∈ js, j.deep ≤ 30) : ∀ y ∈ js.flatMap (flatP k), y.deep ≤ 30 := by
  intro y hy
  obtain ⟨j, hj, hy⟩ := List.mem_flatMap.mp hy
  have := h j hj
  cases j with
  | st i => simp only [flatP, List.mem_singleton] at hy; rw [hy]; exact this
  | rn l n x => simp only [flatP, List.mem_singleton] at hy; rw [hy]; exact this
  | ps l ys =>
    simp only [flatP] at hy
    split at hy
    · have := deep_mem hy
      simp only [J.deep] at *
      omega
    · split at hy
      · simp at hy
      · rw [List.mem_singleton] at hy
        rw [hy]
        exact this
section
variable {P : Program} {w : World} {K : PySem.W.Frag} {mg : Str → Option Value} {base : Heap}
theorem ok_tPs (T : Txt K mg) : FnOk P w K mg base CX0 5 T.f__tidied_parts T.d__tidied_parts ["kind", "tidy_parts"] (spTPs K) := by
  have g__has_kind := ok_has (P := P) (w := w) (base := base) T
  have g__grouped := ok_grp (P := P) (w := w) (base := base) T
  refine T.F__tidied_parts.ok sc__tidied_parts (fun vs H Q E h => ?_) (fun cdv A outer s H vs Q E hr h => ?_)
  · obtain ⟨l, us, js, k, rfl, _⟩ := h
    rfl
  obtain ⟨l, us, js, k, rfl, hl, hall, hlen, hdp, q⟩ := h
  refine ⟨_, (pss_cons (ps_set (i := 2) sc__tidied_parts.nd rfl (Or.inl rfl) (pe_lst pa_nil))
      (pss_cons (ps_for PassesOwn.never rfl (pi_list (pv 1)) (pg_name (i := 3) sc__tidied_parts.nd rfl (Or.inl rfl))
        (pss_one (ps_if (pt_val (pe_call g__has_kind (hr.mono (by omega)) rfl T.m__has_kind T.F__has_kind.kp T.b__has_kind .nil pass0 (pa_cons (pv 3) (pa_cons (pv 0) pa_nil)))) (pss_one (ps_expr (pe_bm PySem.F.plainAttrs_list PySem.F.slot_list_extend PySem.F.type_list_extend mt_extT (pv 2) (pa_cons (pe_ix (r := rIxT K) ix_tup (pv 3) pe_int (fun _ _ => rfl)) pa_nil)))) (pss_one (ps_if (pt_cmpR (r := rNeD K) (op_neD hr.units) (pv 3) (pe_glob (v := .ref T.t_EMPTY) rfl T.g_EMPTY rfl) (nomark _)) (pss_one (ps_expr (pe_bm PySem.F.plainAttrs_list PySem.F.slot_list_append PySem.F.type_list_append mt_append (pv 2) (pa_cons (pv 3) pa_nil)))) pss_nil)))))
      (C8.pss_cut (ps_if (pt_cmpR op_eq (pv 0) pe_str (nomark _)) (pss_one (ps_set (i := 2) sc__tidied_parts.nd rfl (Or.inl rfl) (pe_call g__grouped (hr.mono (by omega)) rfl T.m__grouped T.F__grouped.kp T.b__grouped .nil pass0 (pa_cons (pv 2) pa_nil)))) pss_nil)
      (pss_cons (ps_if (pt_cmpR op_eq (pe_callB (r := rLenS K) call_lenS (by rfl) T.n_len (by decide +kernel) (pa_cons (pv 2) pa_nil)) pe_int (nomark _)) (pss_one (ps_ret (pe_ix (r := rIxL K) ix_list (pv 2) pe_int (fun _ _ => rfl)))) pss_nil)
      (pss_one (ps_ret (pe_ifExp (pt_truth (pv 2) (by intro _; rfl)) (pe_tup (pa_cons (pv 0) (pa_cons (pe_callTy (r := rTupS K) call_tupS (by rfl) T.n_tuple (by decide +kernel) (pa_cons (pv 2) pa_nil)) pa_nil))) (pe_glob (v := .ref T.t_EMPTY) rfl T.g_EMPTY rfl)))))))), ?_⟩
  have el : us.length = js.length := parts_len hall
  refine ⟨(by show 0 ≤ sizeLine; decide), fun l1 h1 => ?_⟩
  have S0 : Same H (upd H l1 (.lst [])) := same_new h1
  have nH : ∀ {b : Addr} {o : HO}, H b = some o → b ≠ l1 := fun e q => by rw [q, h1] at e; cases e
  refine ⟨_, rfl, l, rfl, ⟨us, S0.seq hl⟩, ?_⟩
  refine for_list (K := K) (a := l) (xs := us) (fun i σ G => ∃ (ws : List V) (y3 : Option V), σ = [some (.str (kwP k)), some (.ref l), some (.ref l1), y3] ∧ Same H G ∧ G l1 = some (.lst ws) ∧
    DpAll K H ws (J.toDs ((js.take i).flatMap (flatP k)))) ⟨[], none, rfl, S0, upd_same, .nil⟩ (fun i σ G _ ⟨_, _, _, s, _⟩ => s.seq hl) ?_ ?_
  · rintro i x σ G hi ⟨ws, y3, rfl, s1, g1, hw⟩
    obtain ⟨j, ej, mj, dj⟩ := parts_at hall hi
    have djG := dp_same s1 dj
    have hd := hdp j mj
    have etk : (js.take (i + 1)).flatMap (flatP k) = (js.take i).flatMap (flatP k) ++ flatP k j := by
      rw [List.take_add_one, ej, List.flatMap_append]
      simp
    have wl := parts_len hw
    have tot : ((js.take i).flatMap (flatP k)).length + (flatP k j).length ≤ 100000 := by
      rw [← List.length_append, ← etk]
      have e := List.take_append_drop (i + 1) js
      have e2 : js.flatMap (flatP k) = (js.take (i + 1)).flatMap (flatP k) ++ (js.drop (i + 1)).flatMap (flatP k) := by
        rw [← List.flatMap_append, e]
      rw [e2, List.length_append] at hlen
      omega
    refine ⟨_, rfl, _, rfl, x, j, kwP k, rfl, djG, _, rfl, ?_⟩
    cases eh : hasK j (kwP k) with
    | true =>
      obtain ⟨ys, rfl⟩ := hasP.mp eh
      refine iteT ?_
      obtain ⟨a, b, zs, rfl, ha, hb, hz⟩ := ps_inv dj
      have zl := parts_len hz
      have ef : flatP k (.ps k ys) = ys := by simp [flatP]
      rw [ef] at etk tot
      refine ⟨_, rfl, ⟨.inl ⟨rfl, _, SqL.of g1⟩, _, rfl, _, _, _, _, rfl, rfl, same_sqT s1 ha, rfl, l1, b, ws, zs, rfl, rfl, g1, same_sqT s1 hb, (by rw [wl, zl, sizeLine_eq]; omega), ?_⟩⟩
      refine ⟨ws ++ zs, _, rfl, fun b o e => by rw [upd_ne (nH e)]; exact s1 b o e, upd_same, ?_⟩
      rw [etk, J.toDs_app]
      exact dpAll_append hw hz
    | false =>
      refine iteF ?_
      have ef := flatP_not eh
      have eE : PyData.eqv j.toD (.tuple [.str "seq", .tuple []]) = isE j := by
        have e := J.eqv_beq j (.ps false [])
        rw [show (J.ps false []).toD = .tuple [.str "seq", .tuple []] from by simp only [J.toD, J.toDs]; rfl] at e
        rw [e, Bool.eq_iff_iff, J.beq_iff, isE_iff]
      refine ⟨_, rfl, j.toD, _, djG, T.d_EMPTY G, J.shaped j (by omega), by decide +kernel, _, rfl, ?_⟩
      rw [eE]
      cases ej : isE j with
      | true =>
        rw [ej] at ef
        have ef' : flatP k j = [] := ef
        refine iteF ?_
        refine ⟨ws, _, rfl, s1, g1, ?_⟩
        rw [etk, ef', List.append_nil]
        exact hw
      | false =>
        rw [ej] at ef
        have ef' : flatP k j = [j] := ef
        rw [ef'] at tot
        simp only [List.length_singleton] at tot
        refine iteT ?_
        refine ⟨_, rfl, ⟨.inl ⟨rfl, _, SqL.of g1⟩, _, rfl, l1, ws, x, rfl, rfl, g1, (by rw [wl, sizeLine_eq]; omega), ?_⟩⟩
        refine ⟨ws ++ [x], _, rfl, fun b o e => by rw [upd_ne (nH e)]; exact s1 b o e, upd_same, ?_⟩
        rw [etk, ef', J.toDs_app]
        exact dpAll_append hw (.cons dj .nil)
  · rintro σ G ⟨ws, y3, rfl, s1, g1, hw⟩
    rw [el, List.take_length] at hw
    refine ⟨fun σ F => ∃ (lp : Addr) (zs : List V) (res : List J), σ = [some (.str (kwP k)), some (.ref l), some (.ref lp), y3] ∧ Same H F ∧ F lp = some (.lst zs) ∧ DpAll K F zs (J.toDs res) ∧ tidyPs k js = wrapP k res, ?_, ?_⟩
    · refine ⟨_, rfl, rfl, _, rfl, ?_⟩
      cases k with
      | true =>
        refine iteT ?_
        refine ⟨_, rfl, l1, ws, js.flatMap (flatP true), rfl, SqL.of g1, dpAll_same s1 hw, hlen, flat_deep hdp, fun F t zs s2 ht hz hn => ?_⟩
        exact ⟨t, zs, grouped (js.flatMap (flatP true)), rfl, s1.trans s2, ht, hz, rfl⟩
      | false =>
        refine iteF ?_
        exact ⟨l1, ws, js.flatMap (flatP false), rfl, s1, g1, dpAll_same s1 hw, rfl⟩
    · rintro σ F ⟨lp, zs, res, rfl, s2, f1, hz, et⟩
      have zl := parts_len hz
      rw [et] at q
      refine ⟨_, rfl, lp, _, rfl, .inl (SqL.of f1), rfl, _, rfl, ?_⟩
      refine ite2 (fun g => ?_) (fun g => ?_)
      · have g1 : zs.length = 1 := by
          have := of_decide_eq_true g
          have e : ((zs.length : Nat) : Int) = 1 := by simpa using this
          omega
        match zs, res, hz, g1, zl with
        | [z], [x], hz, _, _ =>
          cases hz with
          | cons e1 _ =>
            refine ⟨_, rfl, lp, _, _, _, rfl, rfl, SqL.of f1, rfl, ?_⟩
            exact q _ _ s2 e1
      · have g1 : ¬ zs.length = 1 := by
          intro e
          apply g
          simp [e]
        refine ⟨_, rfl, ?_⟩
        match zs, res, hz, g1, zl with
        | [], [], _, _, _ =>
          refine ⟨false, .inl ⟨_, SqL.of f1, rfl⟩, ?_⟩
          refine iteF ?_
          refine q _ _ s2 ?_
          show Dp K F (.ref T.t_EMPTY) (J.ps false []).toD
          rw [show (J.ps false []).toD = .tuple [.str "seq", .tuple []] from by simp only [J.toD, J.toDs]; rfl]
          exact T.d_EMPTY F
        | [z], _, _, g1, _ => exact absurd rfl g1
        | z1 :: z2 :: zs, x1 :: x2 :: res, hz, _, _ =>
          refine ⟨true, .inl ⟨_, SqL.of f1, rfl⟩, ?_⟩
          refine iteT ?_
          refine ⟨_, rfl, _, rfl, lp, _, rfl, .inl ⟨SqL.of f1, fun tt htt => ?_⟩⟩
          refine ⟨(by show 2 ≤ sizeLine; decide), fun t ht => ?_⟩
          have st1 : Same F (upd F tt (.tup (z1 :: z2 :: zs))) := same_new htt
          have dt : Dp K (upd F tt (.tup (z1 :: z2 :: zs))) (.ref tt) (.tuple (J.toDs (x1 :: x2 :: res))) := .tup (SqT.of upd_same) (dpAll_same st1 hz)
          refine q _ _ (s2.trans (st1.trans (same_new ht))) ?_
          show Dp K _ (.ref t) (J.ps k (x1 :: x2 :: res)).toD
          exact dp_ps upd_same (dp_same (same_new ht) dt)
end
/-! block TidyD: tidied (behind bTidyP) -/
mutual
theorem nf_steps0 : ∀ j : J, j.nf → 0 ≤ j.steps ∧ (isE j = false → 1 ≤ j.steps)
  | .st i, _ => by simp [J.steps]
  | .ps k ys, h => by
    simp only [J.nf] at h
    obtain ⟨h1, h2, h3, _⟩ := h
    simp only [J.steps]
    refine ⟨nfL_steps0 ys h1, fun e => ?_⟩
    rcases h3 with h3 | ⟨rfl, rfl⟩
    · match ys, h1, h2, h3 with
      | y :: ys, h1, h2, _ =>
        simp only [J.nfL] at h1
        have a := (nf_steps0 y h1.1).2 (h2 y (List.mem_cons_self ..)).2
        have b := nfL_steps0 ys h1.2
        simp only [J.stepsL]
        omega
    · simp [isE] at e
  | .rn k n x, h => by
    simp only [J.nf] at h
    have a := (nf_steps0 x h.1).2 h.2.2.1
    simp only [J.steps]
    have b := Int.mul_le_mul a (show 1 ≤ n by omega) (by omega) (by omega)
    rw [Int.one_mul] at b
    exact ⟨by omega, fun _ => by omega⟩
theorem nfL_steps0 : ∀ xs : List J, J.nfL xs → 0 ≤ J.stepsL xs
  | [], _ => by simp [J.stepsL]
  | x :: xs, h => by
    simp only [J.nfL] at h
    have a := (nf_steps0 x h.1).1
    have b := nfL_steps0 xs h.2
    simp only [J.stepsL]
    omega
end
/-- the count of a tidy form is within bounds -/
theorem tidy_count {j : J} (h : j.ok) {l : Bool} {m : Int} {y : J} (e : j.tidy = .rn l m y) : 0 ≤ m ∧ m ≤ M30 := by
  have hf := J.tidy_nf j (J.ok_nn j h)
  have hs := J.tidy_steps j
  have hl := J.steps_le j h
  rw [e] at hf hs
  simp only [J.nf] at hf
  simp only [J.steps] at hs
  have a := (nf_steps0 y hf.1).2 hf.2.2.1
  have b := Int.mul_le_mul_of_nonneg_right a (show 0 ≤ m by omega)
  rw [Int.one_mul] at b
  exact ⟨by omega, by omega⟩
theorem nodes_mem' {xs : List J} {x : J} (h : x ∈ xs) : x.nodes ≤ J.nodesL xs := by
  induction xs with
  | nil => simp at h
  | cons y ys ih =>
    have a := nodes_pos y
    have b := nodesL_len ys
    simp only [J.nodesL]
    rcases List.mem_cons.mp h with rfl | h
    · omega
    · have := ih h
      omega
def spTd (K : PySem.W.Frag) (n : Nat) : Sp := fun vs H Q _ => ∃ (v : V) (j : J), vs = [v] ∧ Dp K H v j.toD ∧ j.deep ≤ n ∧ j.deep ≤ 15 ∧ j.ok ∧ j.nodes ≤ 100000 ∧ ∀ (H' : Hp) (r : V), Same H H' → Dp K H' r j.tidy.toD → Q r H'
section
variable {P : Program} {w : World} {K : PySem.W.Frag} {mg : Str → Option Value} {base : Heap}
theorem ok_td_next (T : Txt K mg) {n : Nat} (g_tidied : FnOk P w K mg base CX0 (n + 6) T.f_tidied T.d_tidied ["job"] (spTd K n)) :
    FnOk P w K mg base CX0 (n + 7) T.f_tidied T.d_tidied ["job"] (spTd K (n + 1)) := by
  have g_is_integer : FnOk P w K mg base CX0 1 T.f_is_integer T.d_is_integer ["value"] (spIsInt K) := ok_isint T
  have g__tidied_parts := ok_tPs (P := P) (w := w) (base := base) T
  have g__tidied_rounds := ok_tRn (P := P) (w := w) (base := base) T
  refine T.F_tidied.ok sc_tidied (fun vs H Q E h => ?_) (fun cdv A outer s H vs Q E hr h => ?_)
  · obtain ⟨v, j, rfl, _⟩ := h
    rfl
  obtain ⟨v, j, rfl, hd, hn, hn15, hok, hnd, q⟩ := h
  refine ⟨_, (pss_cons (ps_if (pt_val (pe_call g_is_integer (hr.mono (by omega)) rfl T.m_is_integer T.F_is_integer.kp T.b_is_integer .nil pass0 (pa_cons (pv 0) pa_nil))) (pss_one (ps_ret (pv 0))) pss_nil)
      (pss_cons (ps_if (pt_cmpR (r := rIn K false) op_in_seq (pe_ix (r := rIxT K) ix_tup (pv 0) pe_int (fun _ _ => rfl)) (pe_tup (pa_cons pe_str (pa_cons pe_str pa_nil))) (by rfl)) (pss_one (ps_ret (pe_call g__tidied_parts (hr.mono (by omega)) rfl T.m__tidied_parts T.F__tidied_parts.kp T.b__tidied_parts .nil pass0 (pa_cons (pe_ix (r := rIxT K) ix_tup (pv 0) pe_int (fun _ _ => rfl)) (pa_cons (pe_lc (own := [("part", 1)]) (g := (gName 1)) (by rfl) sc_tidied.nd (pi_tup (pe_ix (r := rIxT K) ix_tup (pv 0) pe_int (fun _ _ => rfl))) (blkOk_by (N := N_tidied) (sc := (defScope s_tidied)) (by decide +kernel)) (fun _ _ _ _ _ => (pg_name (i := 1) sc_tidied.nd rfl (Or.inl rfl))) (fun _ _ _ _ _ => pts_nil) (fun _ _ _ _ _ => (pe_call g_tidied (hr.mono (by omega)) rfl T.m_tidied T.F_tidied.kp T.b_tidied .nil pass0 (pa_cons (pv 1) pa_nil)))) pa_nil))))) pss_nil)
      (pss_one (ps_ret (pe_call g__tidied_rounds (hr.mono (by omega)) rfl T.m__tidied_rounds T.F__tidied_rounds.kp T.b__tidied_rounds .nil pass0 (pa_cons (pe_ix (r := rIxT K) ix_tup (pv 0) pe_int (fun _ _ => rfl)) (pa_cons (pe_ix (r := rIxT K) ix_tup (pv 0) pe_int (fun _ _ => rfl)) (pa_cons (pe_call g_tidied (hr.mono (by omega)) rfl T.m_tidied T.F_tidied.kp T.b_tidied .nil pass0 (pa_cons (pe_ix (r := rIxT K) ix_tup (pv 0) pe_int (fun _ _ => rfl)) pa_nil)) pa_nil)))))))), ?_⟩
  cases j with
  | st i =>
    obtain rfl := dp_int_inv hd
    refine ⟨_, rfl, _, .int i, rfl, .int i, _, rfl, ?_⟩
    refine iteT ?_
    refine ⟨_, rfl, ?_⟩
    exact q _ _ (Same.refl _) (by simp only [J.tidy]; exact .int _)
  | rn k c x =>
    simp only [J.deep] at hn hn15
    simp only [J.nodes] at hnd
    have hok0 := hok
    simp only [J.ok] at hok
    have hd0 := hd
    obtain ⟨a, v, rfl, hys, hx⟩ := rn_inv hd
    refine ⟨_, rfl, _, _, rfl, hd0, _, rfl, ?_⟩
    rw [J.toD]
    refine iteF ?_
    refine ⟨_, rfl, _, _, _, _, rfl, rfl, hys, rfl, (by show 2 ≤ sizeLine; decide), fun t ht => ?_⟩
    refine ⟨t, _, rfl, .inr (SqT.of upd_same), rfl, rfl, _, rfl, ?_⟩
    have s1 : Same H (upd H t (.tup [.str "seq", .str "par"])) := same_new ht
    show if inV (.str (kwR k)) [.str "seq", .str "par"] = true then _ else _
    rw [w_in_parts_no]
    refine iteF ?_
    generalize (upd H t (.tup [.str "seq", .str "par"])) = H1 at s1 ⊢
    have h1 := same_sqT s1 hys
    refine ⟨_, rfl, _, _, _, _, rfl, rfl, h1, rfl, _, rfl, _, _, _, _, rfl, rfl, h1, rfl, _, rfl, _, _, _, _, rfl, rfl, h1, rfl, _, x, rfl, dp_same s1 hx, by omega, by omega, hok.2.1, by omega, fun H2 r2 s2 d2 => ?_⟩
    have xd := J.tidy_deep x
    refine ⟨r2, x.tidy, k, c, rfl, d2, by omega, hok.1.1, hok.1.2, fun l m y e => tidy_count hok.2.1 e, fun H3 r3 s3 d3 => ?_⟩
    refine q _ _ (s1.trans (s2.trans s3)) ?_
    simp only [J.tidy]
    exact d3
  | ps k xs =>
    simp only [J.deep] at hn hn15
    simp only [J.nodes] at hnd
    simp only [J.ok] at hok
    have hd0 := hd
    obtain ⟨a, b, vs, rfl, hys, hvs, hall⟩ := ps_inv hd
    refine ⟨_, rfl, _, _, rfl, hd0, _, rfl, ?_⟩
    rw [J.toD]
    refine iteF ?_
    refine ⟨_, rfl, _, _, _, _, rfl, rfl, hys, rfl, (by show 2 ≤ sizeLine; decide), fun t ht => ?_⟩
    refine ⟨t, _, rfl, .inr (SqT.of upd_same), rfl, rfl, _, rfl, ?_⟩
    have s1 : Same H (upd H t (.tup [.str "seq", .str "par"])) := same_new ht
    show if inV (.str (kwP k)) [.str "seq", .str "par"] = true then _ else _
    rw [w_in_parts]
    refine iteT ?_
    generalize (upd H t (.tup [.str "seq", .str "par"])) = H1 at s1 ⊢
    have h1 := same_sqT s1 hys
    have hb := same_sqT s1 hvs
    refine ⟨_, rfl, _, _, _, _, rfl, rfl, h1, rfl, _, rfl, _, _, _, _, rfl, rfl, h1, rfl, b, rfl, ⟨vs, hb⟩, fun D hD => ?_⟩
    refine lc_tup (K := K) (a := b) (xs := vs) (fun i H' => Same H1 H' ∧ ∃ ws, H' D = some (.lst ws) ∧ DpAll K H' ws (J.toDs ((xs.take i).map J.tidy))) ?_ ?_ ?_ ?_
    · exact ⟨same_new hD, [], upd_same, .nil⟩
    · rintro i H' _ ⟨s2, _⟩
      exact same_sqT s2 hb
    · rintro i x H' hi ⟨s2, ws, eD, dws⟩
      obtain ⟨j, ej, mj, dj⟩ := parts_at hall hi
      refine ⟨rfl, ?_⟩
      unfold tYes
      refine iteT ?_
      have jn := nodes_mem' mj
      refine ⟨_, rfl, x, j, rfl, dp_same (s1.trans s2) dj, by have := deep_mem mj; omega, by have := deep_mem mj; omega, ok_mem hok.2.1 mj, by omega, fun H3 r3 s3 d3 => ?_⟩
      have il : i < vs.length := (List.getElem?_eq_some_iff.mp hi).1
      have hl := parts_len hall
      have k2 : ∀ a xs, SqT K H3 a xs → SqT K (upd H3 D (.lst (ws ++ [r3]))) a xs := fun a xs z => (sx_upd (p := D)).sqT (s3 _ _ eD) z
      have wl := parts_len dws
      rw [List.length_map, List.length_take] at wl
      refine ⟨_, s3 _ _ eD, small1000 (by omega), ?_, _, upd_same, ?_⟩
      · intro c o hc
        rw [upd_ne (ne_of_none hc hD)]
        exact s3 _ _ (s2 _ _ hc)
      · have etk : xs.take (i + 1) = xs.take i ++ [j] := by rw [List.take_add_one, ej]; rfl
        rw [etk, List.map_append, J.toDs_app]
        exact dpAll_append (dpAll_keep k2 (J.noLs _) (dpAll_same s3 dws)) (.cons (dp_keep k2 (J.noL _) d3) .nil)
    · rintro H' ⟨s2, ws, eD, dws⟩
      rw [parts_len hall, List.take_length, ← J.tidyL_map] at dws
      have fl := flat_len (k := k) (J.tidyL xs)
      have tn := J.tidyL_nodes xs
      rw [← nodesL_map] at tn
      refine ⟨D, ws, J.tidyL xs, k, rfl, SqL.of eD, dws, by rw [nodesL_map] at *; omega, fun y hy => ?_, fun H3 r3 s3 d3 => ?_⟩
      · have := J.tidyL_deep xs y hy
        omega
      · refine q _ _ (s1.trans (s2.trans s3)) ?_
        simp only [J.tidy]
        exact d3
theorem ok_td (T : Txt K mg) : ∀ n : Nat, FnOk P w K mg base CX0 (n + 6) T.f_tidied T.d_tidied ["job"] (spTd K n)
  | 0 => by
    have no : ∀ vs H Q E, ¬ spTd K 0 vs H Q E := by
      rintro vs H Q E ⟨v, j, _, _, h, _⟩
      have := deep_pos j
      omega
    exact ⟨fun vs H Q E h => absurd h (no vs H Q E), fun A outer s H args us vs Q E _ _ _ _ h => absurd h (no vs H Q E)⟩
  | n + 1 => ok_td_next T (ok_td T n)
end
/-! block TidyE: TooMany made, tidy (behind bTidyD) -/
/-- the tidy form, or TooMany with its limit -/
def spTidy (K : PySem.W.Frag) (C : Addr) : Sp := fun vs H Q E => ∃ (v : V) (j : J), vs = [v] ∧ Dp K H v j.toD ∧ j.ok ∧ j.nodes ≤ 400 ∧ j.deep ≤ 13 ∧
  ((szJ j.tidy 400 13).isSome = true → ∀ (H' : Hp) (r : V), Same H H' → Dp K H' r j.tidy.toD → Q r H') ∧
  ((szJ j.tidy 400 13).isSome = false → ∀ (H' : Hp) (d : Addr), Same H H' → H' d = none → E (.ref C) (some d) (upd H' d (.xd [("limit", .int 400)])))
section
variable {P : Program} {w : World} {K : PySem.W.Frag} {mg : Str → Option Value} {base : Heap}
theorem ok_many (T : Txt K mg) : FnOk P w K mg base CX0 1 T.f_TooMany_init T.d_TooMany_init ["self", "limit"] (spKeep T.c_TooMany "limit") := by
  refine T.F_TooMany_init.ok sc_TooMany_init (fun vs H Q E h => ?_) (fun cdv A outer s H vs Q E hr h => ?_)
  · obtain ⟨a, y, rfl, _⟩ := h
    rfl
  obtain ⟨a, y, rfl, ha, q⟩ := h
  refine ⟨_, (pss_one (ps_keepF (pv 0) (pv 1))), ?_⟩
  exact ⟨_, rfl, _, rfl, a, T.c_TooMany, rfl, T.ox_TooMany, T.no_TooMany, ha, fun dx n ne => q dx n ne⟩
theorem ok_tidy (T : Txt K mg) : FnOk P w K mg base (L2.CX P w) 64 T.f_tidy T.d_tidy ["job"] (spTidy K T.c_TooMany) := by
  have g_checked_sizes := ok_checked (P := P) (w := w) (base := base) T
  have g_tidied := ok_td (P := P) (w := w) (base := base) T 15
  have g_is_job := ok_isjob (P := P) (w := w) (base := base) T
  have g_TooMany_init := ok_many (P := P) (w := w) (base := base) T
  refine T.F_tidy.okX sc_tidy (fun vs H Q E h => ?_) (fun cdv A outer s H vs Q E hr h => ?_)
  · obtain ⟨v, j, rfl, _⟩ := h
    rfl
  obtain ⟨v, j, rfl, hd, ho, hn, hdp, q, qe⟩ := h
  have e := szJ_some j 400 13 ho hn (by omega)
  refine ⟨_, (pss_cons (ps_expr (pe_call g_checked_sizes (hr.mono (by omega)) rfl T.m_checked_sizes T.F_checked_sizes.kp T.b_checked_sizes .nil pass0 (pa_cons (pv 0) pa_nil)))
      (pss_cons (ps_set (i := 1) sc_tidy.nd rfl (Or.inl rfl) (pe_call g_tidied (hr.mono (by omega)) rfl T.m_tidied T.F_tidied.kp T.b_tidied .nil pass0 (pa_cons (pv 0) pa_nil)))
      (pss_cons (ps_if (pt_not (pt_val (pe_call g_is_job (hr.mono (by omega)) rfl T.m_is_job T.F_is_job.kp T.b_is_job .nil pass0 (pa_cons (pv 1) pa_nil)))) (pss_one (ps_raise rfl (takes_of rfl rfl rfl rfl) (pmk_keep T.ox_TooMany T.iC_TooMany T.tI_TooMany g_TooMany_init (hr.mono (by omega)) T.b_TooMany_init pass0 rfl T.g_TooMany (pa_cons (pe_glob (v := .int 400) rfl T.g_MAX_NODES ⟨_, rfl⟩) pa_nil)))) pss_nil)
      (pss_one (ps_ret (pv 1)))))), ?_⟩
  have td := J.tidy_deep j
  refine ⟨_, rfl, v, j, j.nodes, j.steps, rfl, hd, by omega, e, fun H1 t s1 _ => ?_⟩
  refine ⟨_, rfl, v, j, rfl, dp_same s1 hd, by omega, by omega, ho, by omega, fun H2 r s2 dr => ?_⟩
  have s12 := s1.trans s2
  refine ⟨_, rfl, r, j.tidy, rfl, dr, by omega, fun H3 s3 => ?_⟩
  refine ⟨_, rfl, ?_⟩
  cases ez : (szJ j.tidy 400 13).isSome with
  | true =>
    refine iteF ?_
    exact ⟨_, rfl, q ez _ _ (s12.trans s3) (dp_same s3 dr)⟩
  | false =>
    refine iteT ?_
    exact ⟨_, rfl, fun d hd' => qe ez _ d (s12.trans s3) hd'⟩
end
/-! block TidyR: _law_raised (behind bTidyE) -/
def spRaised (K : PySem.W.Frag) : Sp := fun vs H Q _ => ∃ (v : V) (j : J), vs = [v] ∧ Dp K H v j.toD ∧ j.ok ∧ j.nodes ≤ 400 ∧ j.deep ≤ 13 ∧ ∀ H', Same H H' → Q (.bl (!(szJ j.tidy 400 13).isSome)) H'
section
variable {P : Program} {w : World} {K : PySem.W.Frag} {mg : Str → Option Value} {base : Heap}
theorem ok_raised (T : Txt K mg) : FnOk P w K mg base CX0 65 T.f__law_raised T.d__law_raised ["_law_job_here"] (spRaised K) := by
  have g_tidy := ok_tidy (P := P) (w := w) (base := base) T
  refine T.F__law_raised.ok sc__law_raised (fun vs H Q E h => ?_) (fun cdv A outer s H vs Q E hr h => ?_)
  · obtain ⟨v, j, rfl, _⟩ := h
    rfl
  obtain ⟨v, j, rfl, hd, ho, hn, hdp, q⟩ := h
  refine ⟨_, (pss_cons (ps_tryA rfl rfl sc__law_raised.nd takes0 (fun W pn xe tk _ => (pss_one (ps_expr (pe_callS g_tidy (hr.mono (by omega)) rfl T.m_tidy T.F_tidy.kp T.b_tidy (fun σ => passAt tk σ) (pa_cons (pv 0) pa_nil))))) (.named (i := 1) rfl rfl ⟨rfl, by decide, .inl T.g_TooMany⟩ (fun a oe cls d pn hz hf => (pss_one (ps_ret (pe_and (pe_cmpR op_eq (pe_xfM T.xf_TooMany T.no_TooMany (List.mem_cons_self ..) hz hf (pv 1)) pe_int (nomark _)) (pe_one (pe_not (pe_callB (r := rIsX K a cls d) (cr_isED (List.mem_cons_self ..) hz hf) (by rfl) T.n_isinstance (by decide +kernel) (pa_cons (pv 1) (pa_cons (pe_glob (v := .ref T.c_JobError) rfl T.g_JobError rfl) pa_nil))))))))) .nil))
      (pss_one (ps_ret pe_bl))), ?_⟩
  refine ⟨_, rfl, v, j, rfl, hd, ho, hn, hdp, fun ez H1 r s1 _ => ?_, fun ez H1 d s1 hd1 => ?_⟩
  · have q1 := q H1 s1
    rw [ez] at q1
    exact q1
  · have s2 : Same H (upd H1 d (.xd [("limit", .int 400)])) := s1.trans (same_new hd1)
    have q1 := q _ s2
    rw [ez] at q1
    refine ⟨true, T.e_TooMany_TooMany, fun _ a ha => ?_, fun z => by cases z⟩
    refine ⟨_, rfl, rfl, rfl, d, _, .int 400, rfl, upd_same, rfl, rfl, _, rfl, ?_⟩
    refine iteT ?_
    refine ⟨_, rfl, .ref T.c_JobError, .ref T.c_JobError, false, T.c_TooMany, d, _, rfl, fun u h => h, rfl, T.xc_TooMany, rfl, upd_same, T.q_TooMany_JobError, ?_⟩
    exact ⟨_, rfl, q1⟩
end
/-! block TidyN: _law_nest -/
def nestT (m : Nat) : Nat → J
  | 0 => .st 5
  | i + 1 => if ((m : Int) - (i : Int)) % 2 = 1 then .ps false [nestT m i, .st 1] else .ps true [nestT m i, .st 2]
def spNest (K : PySem.W.Frag) : Sp := fun vs H Q _ => ∃ m : Nat, vs = [.int (m : Int)] ∧ m ≤ 1000 ∧ ∀ (H' : Hp) (r : V), Same H H' → Dp K H' r (nestT m m).toD → Q r H'
section
variable {P : Program} {w : World} {K : PySem.W.Frag} {mg : Str → Option Value} {base : Heap}
theorem ok_nest (T : Txt K mg) : FnOk P w K mg base CX0 1 T.f__law_nest T.d__law_nest ["_law_many"] (spNest K) := by
  refine T.F__law_nest.ok sc__law_nest (fun vs H Q E h => ?_) (fun cdv A outer s H vs Q E hr h => ?_)
  · obtain ⟨m, rfl, _⟩ := h
    rfl
  obtain ⟨m, rfl, hm, q⟩ := h
  refine ⟨_, (pss_cons (ps_set (i := 1) sc__law_nest.nd rfl (Or.inl rfl) pe_int)
      (pss_cons (ps_for PassesOwn.never rfl (pi_range1 rfl T.n_range (pa_cons (pv 0) pa_nil)) (pg_name (i := 2) sc__law_nest.nd rfl (Or.inl rfl))
        (pss_one (ps_set (i := 1) sc__law_nest.nd rfl (Or.inl rfl) (pe_ifExp (pt_cmpR op_eq (pe_op op_mod (pe_op op_sub (pv 0) (pv 2)) pe_int) pe_int (nomark _)) (pe_tup (pa_cons pe_str (pa_cons (pe_tup (pa_cons (pv 1) (pa_cons pe_int pa_nil))) pa_nil))) (pe_tup (pa_cons pe_str (pa_cons (pe_tup (pa_cons (pv 1) (pa_cons pe_int pa_nil))) pa_nil)))))))
      (pss_one (ps_ret (pv 1))))), ?_⟩
  refine ⟨_, rfl, _, rfl, by omega, by omega, ?_⟩
  refine for_range (lo := 0) (n := m) (fun i σ G => ∃ (v : V) (y : Option V), σ = [some (.int (m : Int)), some v, y] ∧ Same H G ∧ Dp K G v (nestT m i).toD) ⟨_, none, rfl, Same.refl _, .int 5⟩ ?_ ?_
  · rintro i σ G hi ⟨v, y, rfl, s1, dv⟩
    have pair : ∀ (c : Int) (t1 t2 : Addr) (k : Bool), G t1 = none → (upd G t1 (.tup [v, .int c])) t2 = none → Dp K (upd (upd G t1 (.tup [v, .int c])) t2 (.tup [.str (kwP k), .ref t1])) (.ref t2) (J.ps k [nestT m i, .st c]).toD := fun c t1 t2 k h1 h2 => by
      have d1 : Dp K (upd G t1 (.tup [v, .int c])) (.ref t1) (.tuple (J.toDs [nestT m i, .st c])) := by
        refine .tup (SqT.of upd_same) ?_
        simp only [J.toDs]
        exact .cons (dp_same (same_new h1) dv) (.cons (by simp only [J.toD]; exact .int c) .nil)
      exact dp_ps upd_same (dp_same (same_new h2) d1)
    have sw : ∀ (c : Int) (t1 t2 : Addr) (k : Bool), G t1 = none → (upd G t1 (.tup [v, .int c])) t2 = none → Same H (upd (upd G t1 (.tup [v, .int c])) t2 (.tup [.str (kwP k), .ref t1])) := fun c t1 t2 k h1 h2 => s1.trans ((same_new h1).trans (same_new h2))
    have e0 : (m : Int) - (0 + (i : Int)) = (m : Int) - (i : Int) := by omega
    refine ⟨_, rfl, _, rfl, _, _, rfl, rfl, _, _, rfl, rfl, (by show (0 : Int) < 2; decide), rfl, _, rfl, ?_⟩
    rw [e0]
    refine ite2 (fun g => ?_) (fun g => ?_)
    · have g' : ((m : Int) - (i : Int)) % 2 = 1 := by simpa using g
      have e : nestT m (i + 1) = .ps false [nestT m i, .st 1] := by simp only [nestT]; rw [if_pos g']
      refine ⟨_, rfl, (by show 2 ≤ sizeLine; decide), fun t1 h1 => ?_⟩
      refine ⟨(by show 2 ≤ sizeLine; decide), fun t2 h2 => ?_⟩
      exact ⟨_, _, rfl, sw 1 t1 t2 false h1 h2, by rw [e]; exact pair 1 t1 t2 false h1 h2⟩
    · have g' : ¬ ((m : Int) - (i : Int)) % 2 = 1 := by simpa using g
      have e : nestT m (i + 1) = .ps true [nestT m i, .st 2] := by simp only [nestT]; rw [if_neg g']
      refine ⟨_, rfl, (by show 2 ≤ sizeLine; decide), fun t1 h1 => ?_⟩
      refine ⟨(by show 2 ≤ sizeLine; decide), fun t2 h2 => ?_⟩
      exact ⟨_, _, rfl, sw 2 t1 t2 true h1 h2, by rw [e]; exact pair 2 t1 t2 true h1 h2⟩
  · rintro σ G ⟨v, y, rfl, s1, dv⟩
    exact ⟨_, rfl, q _ _ s1 dv⟩
end
/-! block TidyJ: _law_joined (behind bTidyN) -/
/-- the groups as lists of two, at the addresses cs -/
def Cells (K : PySem.W.Frag) (H0 G : Hp) (l1 : Addr) (cs : List V) (gs : List (Int × J)) : Prop :=
  cs.length = gs.length ∧ ∀ (i : Nat) (p : Int × J), gs[i]? = some p → ∃ (a : Addr) (v : V), cs[i]? = some (.ref a) ∧ a ≠ l1 ∧ G a = some (.lst [.int p.1, v]) ∧ Dp K H0 v p.2.toD
theorem Cells.nil {K : PySem.W.Frag} {H0 G : Hp} {l1 : Addr} : Cells K H0 G l1 [] [] := ⟨rfl, fun i p h => by simp at h⟩
theorem Cells.keep {K : PySem.W.Frag} {H0 G G' : Hp} {l1 : Addr} {cs : List V} {gs : List (Int × J)} (h : Cells K H0 G l1 cs gs) (k : ∀ a o, a ≠ l1 → G a = some o → G' a = some o) : Cells K H0 G' l1 cs gs :=
  ⟨h.1, fun i p e => by obtain ⟨a, v, e1, e2, e3, e4⟩ := h.2 i p e; exact ⟨a, v, e1, e2, k _ _ e2 e3, e4⟩⟩
theorem Cells.snoc {K : PySem.W.Frag} {H0 G : Hp} {l1 a : Addr} {v : V} {p : Int × J} {cs : List V} {gs : List (Int × J)} (h : Cells K H0 G l1 cs gs) (n : a ≠ l1) (e : G a = some (.lst [.int p.1, v])) (d : Dp K H0 v p.2.toD) : Cells K H0 G l1 (cs ++ [.ref a]) (gs ++ [p]) := by
  refine ⟨by simp [h.1], fun i q hq => ?_⟩
  rcases Nat.lt_or_ge i gs.length with z | z
  · rw [List.getElem?_append_left z] at hq
    rw [List.getElem?_append_left (by rw [h.1]; exact z)]
    exact h.2 i q hq
  · rw [List.getElem?_append_right z] at hq
    have e0 : i - gs.length = 0 := by
      rcases Nat.eq_zero_or_pos (i - gs.length) with y | y
      · exact y
      · rw [List.getElem?_eq_none (by simp only [List.length_singleton]; omega)] at hq
        cases hq
    rw [e0] at hq
    obtain rfl : p = q := Option.some.inj hq
    rw [List.getElem?_append_right (by rw [h.1]; exact z), h.1, e0]
    exact ⟨a, v, rfl, n, e, d⟩
theorem Cells.set {K : PySem.W.Frag} {H0 G : Hp} {l1 a : Addr} {v : V} {p : Int × J} {cs : List V} {gs : List (Int × J)} {i : Nat} (h : Cells K H0 G l1 cs gs) (n : a ≠ l1) (e : G a = some (.lst [.int p.1, v])) (d : Dp K H0 v p.2.toD) : Cells K H0 G l1 (cs.set i (.ref a)) (gs.set i p) := by
  refine ⟨by simp [h.1], fun k q hq => ?_⟩
  rw [List.getElem?_set] at hq ⊢
  by_cases z : i = k
  · subst z
    rw [if_pos rfl] at hq ⊢
    rw [h.1]
    split at hq
    · rename_i y
      rw [if_pos y]
      obtain rfl : p = q := Option.some.inj hq
      exact ⟨a, v, rfl, n, e, d⟩
    · cases hq
  · rw [if_neg z] at hq ⊢
    exact h.2 k q hq
/-- the places of the groups with this key: none, or the first one ahead -/
def sameAt (x : J) (gs : List (Int × J)) (i : Nat) : Bool := match gs[i]? with | some p => p.2.beq x | none => false
theorem same_first {x : J} {gs : List (Int × J)} {i : Nat} {m : Int} (h1 : gs[i]? = some (m, x)) (h2 : ∀ (k : Nat) (p : Int × J), k < i → gs[k]? = some p → p.2 ≠ x) : ∃ r, (List.range gs.length).filter (sameAt x gs) = i :: r := by
  have hi : i < gs.length := (List.getElem?_eq_some_iff.mp h1).1
  have e : List.range gs.length = List.range i ++ (i :: (List.range' (i + 1) (gs.length - (i + 1)))) := by
    rw [List.range_eq_range', List.range_eq_range', ← List.range'_succ]
    have := List.range'_append (s := 0) (m := i) (n := gs.length - (i + 1) + 1) (step := 1)
    simp only [Nat.one_mul, Nat.zero_add] at this
    rw [this]
    congr 1
    omega
  rw [e, List.filter_append, List.filter_cons_of_pos (by show sameAt x gs i = true; unfold sameAt; rw [h1]; exact J.beq_refl x)]
  rw [List.filter_eq_nil_iff.mpr fun k hk => ?_]
  · exact ⟨_, rfl⟩
  · rw [List.mem_range] at hk
    unfold sameAt
    have kl : k < gs.length := by omega
    rw [List.getElem?_eq_getElem kl]
    intro z
    exact h2 k gs[k] hk (List.getElem?_eq_getElem kl) (J.beq_eq _ _ z)
theorem same_nil {x : J} {gs : List (Int × J)} (h : x ∉ gs.map (·.2)) : (List.range gs.length).filter (sameAt x gs) = [] := by
  rw [List.filter_eq_nil_iff]
  intro i hi
  rw [List.mem_range] at hi
  unfold sameAt
  rw [List.getElem?_eq_getElem hi]
  intro z
  exact h (List.mem_map.mpr ⟨gs[i], List.getElem_mem hi, J.beq_eq _ _ z⟩)
theorem iteFx {c : Bool} {A B : Prop} (h : c = false) (b : B) : if c = true then A else B := by
  subst h
  exact b
theorem iteTx {c : Bool} {A B : Prop} (h : c = true) (a : A) : if c = true then A else B := by
  subst h
  exact a
theorem decStrNe {a b : Str} (h : (a == b) = false) : decide (V.str a = V.str b) = false := by
  rw [decide_eq_false_iff_not]
  intro z
  have e : a = b := by cases z; rfl
  rw [e] at h
  simp at h
theorem nums_dp {K : PySem.W.Frag} {H : Hp} : ∀ is : List Nat, DpAll K H (is.map fun i : Nat => V.int (i : Int)) (J.toDs (is.map fun i : Nat => J.st (i : Int)))
  | [] => .nil
  | i :: is => by
    simp only [List.map_cons, J.toDs]
    exact .cons (by simp only [J.toD]; exact .int _) (nums_dp is)
theorem keys_nil {ks : List J} : PyData.eqv (.list (J.toDs ks)) (.list []) = decide (ks = []) := by
  cases ks <;> simp [J.toDs, PyData.eqv, PyData.eqvAll]
def spJnd (K : PySem.W.Frag) : Sp := spGrp K
section
variable {P : Program} {w : World} {K : PySem.W.Frag} {mg : Str → Option Value} {base : Heap}
theorem ok_jnd (T : Txt K mg) : FnOk P w K mg base CX0 1 T.f__law_joined T.d__law_joined ["_law_parts"] (spJnd K) := by
  refine T.F__law_joined.ok sc__law_joined (fun vs H Q E h => ?_) (fun cdv A outer s H vs Q E hr h => ?_)
  · obtain ⟨l, us, js, rfl, _⟩ := h
    rfl
  obtain ⟨l, us, js, rfl, hl, hall, hlen, hdp, q⟩ := h
  refine ⟨_, (pss_cons (ps_set (i := 1) sc__law_joined.nd rfl (Or.inr rfl) (pe_lst pa_nil))
      (pss_cons (ps_for PassesOwn.never rfl (pi_list (pv 0)) (pg_name (i := 2) sc__law_joined.nd rfl (Or.inl rfl))
        (pss_cons (ps_asg (pe_tup (pa_cons pe_int (pa_cons (pv 2) pa_nil))) (pg_tup (by rfl) (pgs_cons (pg_name (i := 3) sc__law_joined.nd rfl (Or.inl rfl)) (pgs_cons (pg_name (i := 4) sc__law_joined.nd rfl (Or.inr rfl)) pgs_nil))))
        (C8.pss_cut (ps_if (PW.pt (pw_and (pt_val (pe_callB (r := rIsD K) call_isD (by rfl) T.n_isinstance (by decide +kernel) (pa_cons (pv 2) (pa_cons (pe_bltn (v := .ty "tuple") (by rfl) T.n_tuple (by decide +kernel) rfl) pa_nil)))) (pw_and1 (pt_cmpR op_eq (pe_ix (r := rIxT K) ix_tup (pv 2) pe_int (fun _ _ => rfl)) pe_str (nomark _))))) (pss_one (ps_asg (pe_tup (pa_cons (pe_ix (r := rIxT K) ix_tup (pv 2) pe_int (fun _ _ => rfl)) (pa_cons (pe_ix (r := rIxT K) ix_tup (pv 2) pe_int (fun _ _ => rfl)) pa_nil))) (pg_tup (by rfl) (pgs_cons (pg_name (i := 3) sc__law_joined.nd rfl (Or.inl rfl)) (pgs_cons (pg_name (i := 4) sc__law_joined.nd rfl (Or.inr rfl)) pgs_nil))))) pss_nil)
        (pss_cons (ps_setLc (i := 5) (own := [("_law_at", 6)]) (g := (gName 6)) (by rfl) sc__law_joined.nd rfl rfl (sw_true rfl rfl rfl (by decide +kernel)) (pi_range1 rfl T.n_range (pa_cons (pe_callB (r := rLenS K) call_lenS (by rfl) T.n_len (by decide +kernel) (pa_cons (pv 1) pa_nil)) pa_nil)) (blkOk_by (N := N__law_joined) (sc := (defScope s__law_joined)) (by decide +kernel)) (fun _ _ _ _ _ => (pg_name (i := 6) sc__law_joined.nd rfl (Or.inl rfl))) (fun _ _ _ _ _ => (pts_one (pt_cmpR (r := rEqD K) (op_eqD hr.units) (pe_ix (r := rIxL K) ix_list (pe_ix (r := rIxL K) ix_list (pv 1) (pv 6) (fun _ _ => rfl)) pe_int (fun _ _ => rfl)) (pv 4) (nomark _)))) (fun _ _ _ _ _ => (pv 6)))
        (pss_one (ps_if (pt_cmpR (r := rEqD K) (op_eqD hr.units) (pv 5) (pe_lst pa_nil) (nomark _)) (pss_one (ps_expr (pe_bm PySem.F.plainAttrs_list PySem.F.slot_list_append PySem.F.type_list_append mt_append (pv 1) (pa_cons (pe_lst (pa_cons (pv 3) (pa_cons (pv 4) pa_nil))) pa_nil)))) (pss_one (ps_asg (pe_lst (pa_cons (pe_op op_add (pe_ix (r := rIxL K) ix_list (pe_ix (r := rIxL K) ix_list (pv 1) (pe_ix (r := rIxL K) ix_list (pv 5) pe_int (fun _ _ => rfl)) (fun _ _ => rfl)) pe_int (fun _ _ => rfl)) (pv 3)) (pa_cons (pv 4) pa_nil))) (pg_sub (pv 1) (pe_ix (r := rIxL K) ix_list (pv 5) pe_int (fun _ _ => rfl)) set_list)))))))))
      (pss_one (ps_ret (pe_lc (own := [("_law_many", 3), ("_law_inner", 4)]) (g := (gLst K 2 (gCons (gName 3) (gCons (gName 4) gNil)))) (by rfl) sc__law_joined.nd (pi_list (pv 1)) (blkOk_by (N := N__law_joined) (sc := (defScope s__law_joined)) (by decide +kernel)) (fun _ _ _ _ _ => (pg_lst (by rfl) (pgs_cons (pg_name (i := 3) sc__law_joined.nd rfl (Or.inl rfl)) (pgs_cons (pg_name (i := 4) sc__law_joined.nd rfl (Or.inl rfl)) pgs_nil)))) (fun _ _ _ _ _ => pts_nil) (fun _ _ _ _ _ => (pe_ifExp (pt_cmpR op_eq (pv 3) pe_int (nomark _)) (pv 4) (pe_tup (pa_cons pe_str (pa_cons (pv 3) (pa_cons (pv 4) pa_nil))))))))))), ?_⟩
  have el : us.length = js.length := parts_len hall
  refine ⟨(by show 0 ≤ sizeLine; decide), fun l1 h1 => ?_⟩
  have S0 : Same H (upd H l1 (.lst [])) := same_new h1
  have nH : ∀ {b : Addr} {o : HO}, H b = some o → b ≠ l1 := fun e q => by rw [q, h1] at e; cases e
  refine ⟨_, rfl, l, rfl, ⟨us, S0.seq hl⟩, ?_⟩
  refine for_list (K := K) (a := l) (xs := us) (fun i σ G => ∃ (cs : List V) (y2 y3 y4 y5 y6 : Option V), σ = [some (.ref l), some (.ref l1), y2, y3, y4, y5, y6] ∧ Same H G ∧ G l1 = some (.lst cs) ∧
    Cells K H G l1 cs (groupG [] (js.take i))) ⟨[], none, none, none, none, none, rfl, S0, upd_same, Cells.nil⟩ (fun i σ G _ ⟨_, _, _, _, _, _, _, s, _⟩ => s.seq hl) ?_ ?_
  · rintro i x σ G hi ⟨cs, y2, y3, y4, y5, y6, rfl, s1, g1, hc⟩
    obtain ⟨j, ej, mj, dj⟩ := parts_at hall hi
    have djG := dp_same s1 dj
    have hd := hdp j mj
    have etk : js.take (i + 1) = js.take i ++ [j] := by rw [List.take_add_one, ej]; rfl
    refine ⟨_, rfl, (by show 2 ≤ sizeLine; decide), fun t ht => ?_⟩
    have s2 : Same G (upd G t (.tup [.int 1, x])) := same_new ht
    refine ⟨t, _, rfl, SqT.of upd_same, rfl, _, _, rfl, _, _, rfl, rfl, ?_⟩
    generalize (upd G t (.tup [.int 1, x])) = G1 at s2 ⊢
    have s12 := s1.trans s2
    refine ⟨fun σ F => ∃ v : V, σ = [some (.ref l), some (.ref l1), some x, some (.int (keyOf j).1), some v, y5, y6] ∧ Same H F ∧ F l1 = some (.lst cs) ∧ Cells K H F l1 cs (groupG [] (js.take i)) ∧ Dp K H v (keyOf j).2.toD, ?_, ?_⟩
    · have plain : keyOf j = (1, j) → ∃ v : V, [some (V.ref l), some (.ref l1), some x, some (.int 1), some x, y5, y6] = [some (.ref l), some (.ref l1), some x, some (.int (keyOf j).1), some v, y5, y6] ∧ Same H G1 ∧ G1 l1 = some (.lst cs) ∧ Cells K H G1 l1 cs (groupG [] (js.take i)) ∧ Dp K H v (keyOf j).2.toD := fun e => by
        rw [e]
        exact ⟨x, rfl, s12, s2 _ _ g1, hc.keep fun _ _ _ h => s2 _ _ h, dj⟩
      refine ⟨_, rfl, _, _, _, _, rfl, dp_same s2 djG, kit_tuple _, _, rfl, ?_⟩
      cases j with
      | st m =>
        refine iteF ?_
        exact plain rfl
      | ps k ys =>
        refine iteT ?_
        obtain ⟨a, b, zs, rfl, ha, hb, hz⟩ := ps_inv dj
        refine ⟨_, rfl, _, _, _, _, rfl, rfl, same_sqT s12 ha, rfl, rfl, _, rfl, ?_⟩
        refine iteFx (decStrNe (by cases k <;> decide +kernel)) ?_
        exact plain rfl
      | rn k n z =>
        refine iteT ?_
        obtain ⟨a, vz, rfl, ha, hz⟩ := rn_inv dj
        have ha1 := same_sqT s12 ha
        refine ⟨_, rfl, _, _, _, _, rfl, rfl, ha1, rfl, rfl, _, rfl, ?_⟩
        cases k with
        | false =>
          refine iteFx (decStrNe (by decide +kernel)) ?_
          exact plain rfl
        | true =>
          refine iteTx (by decide +kernel) ?_
          refine ⟨_, rfl, _, _, _, _, rfl, rfl, ha1, rfl, _, rfl, _, _, _, _, rfl, rfl, ha1, rfl, (by show 2 ≤ sizeLine; decide), fun u hu => ?_⟩
          have s3 : Same G1 (upd G1 u (.tup [.int n, vz])) := same_new hu
          refine ⟨u, _, rfl, SqT.of upd_same, rfl, _, _, rfl, _, _, rfl, rfl, ?_⟩
          exact ⟨vz, rfl, s12.trans s3, s3 _ _ (s2 _ _ g1), hc.keep fun _ _ _ h => s3 _ _ (s2 _ _ h), hz⟩
    · rintro σ F ⟨v, rfl, s3, f1, hcF, dv⟩
      have eg : groupG [] (js.take (i + 1)) = addG (keyOf j).1 (keyOf j).2 (groupG [] (js.take i)) := by rw [etk, groupG_snoc]
      have kd : ∀ p ∈ groupG [] (js.take i), p.2.deep ≤ 30 := groupG_lv _ [] (fun p hp => by simp at hp) fun p hp => hdp p (List.mem_of_mem_take hp)
      have zd : (keyOf j).2.deep ≤ 30 := Nat.le_trans (key_lv j) hd
      have glen : (groupG [] (js.take i)).length ≤ i := by
        have := groupG_len (js.take i) []
        rw [List.length_take] at this
        simp only [List.length_nil] at this
        omega
      have ilt : i < us.length := (List.getElem?_eq_some_iff.mp hi).1
      rw [eg]
      generalize (keyOf j).1 = n at ⊢
      generalize (keyOf j).2 = z at dv zd ⊢
      generalize groupG [] (js.take i) = acc at hcF kd glen ⊢
      have cl := hcF.1
      refine ⟨_, rfl, l1, cs, rfl, .inl (SqL.of f1), _, rfl, by omega, by omega, fun D hD => ?_⟩
      have nD : ∀ {b : Addr} {o : HO}, F b = some o → b ≠ D := fun e q => by rw [q, hD] at e; cases e
      refine lc_range (lo := 0) (n := cs.length) (fun k F' => Same F F' ∧ F' D = some (.lst (((List.range k).filter (sameAt z acc)).map fun i : Nat => V.int (i : Int)))) ⟨same_new hD, upd_same⟩ ?_ ?_
      · rintro k F' hk ⟨s4, eD⟩
        have f1' := s4 _ _ f1
        have hk' : k < acc.length := by rw [← cl]; exact hk
        obtain ⟨ca, cv, e1, e2, e3, e4⟩ := hcF.2 k acc[k] (List.getElem?_eq_getElem hk')
        have e3' := s4 _ _ e3
        refine ⟨rfl, ?_⟩
        have dk := dp_same (s3.trans s4) e4
        have dz := dp_same (s3.trans s4) dv
        have zk := kd acc[k] (List.getElem_mem hk')
        refine ⟨_, rfl, _, rfl, l1, cs, _, _, rfl, rfl, SqL.of f1', atI_at (by omega) e1, ca, _, _, _, rfl, rfl, SqL.of e3', rfl, _, rfl, acc[k].2.toD, z.toD, dk, dz, J.shaped _ zk, J.shaped _ zd, _, rfl, ?_⟩
        rw [J.eqv_beq]
        have es : sameAt z acc k = acc[k].2.beq z := by
          unfold sameAt
          rw [List.getElem?_eq_getElem hk']
        rw [← es]
        have lenD : (((List.range k).filter (sameAt z acc)).map fun i : Nat => V.int (i : Int)).length ≤ k := by
          rw [List.length_map]
          have := List.length_filter_le (sameAt z acc) (List.range k)
          rw [List.length_range] at this
          exact this
        cases eb : sameAt z acc k with
        | true =>
          refine iteT ?_
          refine ⟨_, rfl, _, eD, by rw [sizeLine_eq]; omega, fun b o e => by rw [upd_ne (nD e)]; exact s4 _ _ e, ?_⟩
          rw [upd_same, List.range_succ, List.filter_append, List.filter_cons_of_pos eb, List.filter_nil, List.map_append]
          simp only [List.map_cons, List.map_nil, Int.zero_add]
        | false =>
          refine iteF ?_
          refine ⟨s4, ?_⟩
          rw [eD, List.range_succ, List.filter_append, List.filter_cons_of_neg (by rw [eb]; exact Bool.false_ne_true), List.filter_nil, List.append_nil]
      · rintro F' ⟨s4, eD⟩
        rw [cl] at eD
        have f1' := s4 _ _ f1
        have s34 := s3.trans s4
        refine ⟨_, rfl, (by show 0 ≤ sizeLine; decide), fun u hu => ?_⟩
        have s5 : Same F' (upd F' u (.lst [])) := same_new hu
        have eu : upd F' u (.lst []) u = some (.lst []) := upd_same
        have eD5 := s5 _ _ eD
        have f15 := s5 _ _ f1'
        have hc5 : Cells K H (upd F' u (.lst [])) l1 cs acc := hcF.keep fun _ _ _ h => s5 _ _ (s4 _ _ h)
        have s345 := s34.trans s5
        generalize (upd F' u (.lst [])) = G5 at s5 eu eD5 f15 hc5 s345 ⊢
        refine ⟨.list (J.toDs (((List.range acc.length).filter (sameAt z acc)).map fun i : Nat => J.st (i : Int))), .list [], .lst (SqL.of eD5) (nums_dp _), .lst (SqL.of eu) .nil, keys_shaped (fun k hk => by obtain ⟨i, _, rfl⟩ := List.mem_map.mp hk; simp [J.deep]), by decide +kernel, _, rfl, ?_⟩
        rw [keys_nil]
        by_cases hm : z ∈ acc.map (·.2)
        · obtain ⟨i', m, a1, a2, a3⟩ := addG_set n z acc hm
          obtain ⟨r, er⟩ := same_first a1 a2
          rw [er]
          refine iteFx (by simp) ?_
          rw [er] at eD5
          obtain ⟨ca, cv, e1, e2, e3, e4⟩ := hc5.2 i' (m, z) a1
          have hlt : i' < acc.length := (List.getElem?_eq_some_iff.mp a1).1
          refine ⟨_, rfl, _, rfl, D, _, _, _, rfl, rfl, SqL.of eD5, atI_at (j := 0) rfl rfl, l1, cs, _, _, rfl, rfl, SqL.of f15, atI_at rfl e1, ca, _, _, _, rfl, rfl, SqL.of e3, rfl, _, rfl, m, n, rfl, rfl, _, rfl, (by show 2 ≤ sizeLine; decide), fun u2 hu2 => ?_⟩
          have s6 : Same G5 (upd G5 u2 (.lst [.int (m + n), v])) := same_new hu2
          have n2 : u2 ≠ l1 := fun e => by rw [e, f15] at hu2; cases hu2
          refine ⟨_, rfl, _, rfl, D, _, _, _, rfl, rfl, SqL.of (s6 _ _ eD5), atI_at (j := 0) rfl rfl, l1, cs, (i' : Int), i', rfl, rfl, s6 _ _ f15, ?_, ?_⟩
          · unfold ixN
            simp [cl, hlt]
          · refine ⟨_, _, _, _, _, _, rfl, fun b o e => by rw [upd_ne (nH e)]; exact s6 _ _ (s345 _ _ e), upd_same, ?_⟩
            rw [a3]
            refine Cells.set (v := v) (p := (m + n, z)) (hc5.keep fun b o nb e => by rw [upd_ne nb]; exact s6 _ _ e) n2 ?_ dv
            rw [upd_ne n2, upd_same]
        · rw [same_nil hm]
          refine iteTx (by simp) ?_
          rw [addG_new hm]
          refine ⟨_, rfl, ⟨.inl ⟨rfl, _, SqL.of f15⟩, _, rfl, _, rfl, (by show 2 ≤ sizeLine; decide), fun u2 hu2 => ?_⟩⟩
          have s6 : Same G5 (upd G5 u2 (.lst [.int n, v])) := same_new hu2
          have n2 : u2 ≠ l1 := fun e => by rw [e, f15] at hu2; cases hu2
          refine ⟨l1, cs, _, rfl, rfl, s6 _ _ f15, by rw [cl, sizeLine_eq]; omega, ?_⟩
          refine ⟨_, _, _, _, _, _, rfl, fun b o e => by rw [upd_ne (nH e)]; exact s6 _ _ (s345 _ _ e), upd_same, ?_⟩
          refine Cells.snoc (v := v) (p := (n, z)) (hc5.keep fun b o nb e => by rw [upd_ne nb]; exact s6 _ _ e) n2 ?_ dv
          rw [upd_ne n2, upd_same]
  · rintro σ G ⟨cs, y2, y3, y4, y5, y6, rfl, s1, g1, hc⟩
    rw [el, List.take_length] at hc
    have glen := groupG_len js []
    simp only [List.length_nil, Nat.zero_add] at glen
    have gdef : grouped js = (groupG [] js).map unkey := rfl
    rw [gdef] at q
    generalize groupG [] js = acc at hc glen q
    have cl := hc.1
    refine ⟨_, rfl, l1, rfl, ⟨cs, SqL.of g1⟩, fun C hC => ?_⟩
    have hCH : H C = none := s1.free hC
    have nC : ∀ {b : Addr} {o : HO}, G b = some o → b ≠ C := fun e z => by rw [z, hC] at e; cases e
    refine lc_list (K := K) (a := l1) (xs := cs) (fun i F => Same G F ∧ ∃ ws : List V, F C = some (.lst ws) ∧ DpAll K F ws (J.toDs ((acc.take i).map unkey))) ⟨same_new hC, [], upd_same, .nil⟩ (fun i F _ ⟨s, _⟩ => s.seq (SqL.of g1)) ?_ ?_
    · rintro i x F hi ⟨s3, ws, eC, hws⟩
      have ilt : i < acc.length := by rw [← cl]; exact (List.getElem?_eq_some_iff.mp hi).1
      obtain ⟨ca, cv, e1, e2, e3, e4⟩ := hc.2 i acc[i] (List.getElem?_eq_getElem ilt)
      obtain rfl : x = .ref ca := by rw [hi] at e1; exact Option.some.inj e1
      have epr : acc[i]? = some acc[i] := List.getElem?_eq_getElem ilt
      generalize acc[i] = pr at e3 e4 epr
      have etk : acc.take (i + 1) = acc.take i ++ [pr] := by rw [List.take_add_one, epr]; rfl
      have wl : ws.length ≤ i := by
        have := parts_len hws
        rw [List.length_map, List.length_take] at this
        omega
      have dkF := dp_same (s1.trans s3) e4
      have fin : ∀ (F3 : Hp) (v : V), Same F F3 → Dp K F3 v (unkey pr).toD → ∃ acc', F3 C = some (.lst acc') ∧ acc'.length < sizeLine ∧ Same G (upd F3 C (.lst (acc' ++ [v]))) ∧ ∃ ws, upd F3 C (.lst (acc' ++ [v])) C = some (.lst ws) ∧ DpAll K (upd F3 C (.lst (acc' ++ [v]))) ws (J.toDs ((acc.take (i + 1)).map unkey)) := fun F3 v s5 dv => by
        have e3 := s5 _ _ eC
        have kk : ∀ b xs, SqT K F3 b xs → SqT K (upd F3 C (.lst (ws ++ [v]))) b xs := fun b xs h => (sx_upd (p := C)).sqT e3 h
        refine ⟨ws, e3, by rw [sizeLine_eq]; omega, fun b o e => by rw [upd_ne (nC e)]; exact s5 _ _ (s3 _ _ e), _, upd_same, ?_⟩
        rw [etk, List.map_append, J.toDs_app]
        exact dpAll_append (dpAll_keep kk (J.noLs _) (dpAll_same s5 hws)) (.cons (dp_keep kk (J.noL _) dv) .nil)
      refine ⟨ca, _, rfl, SqL.of (s3 _ _ e3), rfl, _, _, rfl, _, _, rfl, rfl, rfl, ?_⟩
      unfold tYes
      refine iteT ?_
      refine ⟨_, rfl, rfl, _, rfl, ?_⟩
      refine ite2 (fun g => ?_) (fun g => ?_)
      · have n1 : pr.1 = 1 := by simpa using g
        have e : unkey pr = pr.2 := by unfold unkey; rw [if_pos n1]
        exact ⟨_, rfl, fin _ _ (Same.refl _) (by rw [e]; exact dkF)⟩
      · have n1 : ¬ pr.1 = 1 := by simpa using g
        have e : unkey pr = .rn true pr.1 pr.2 := by unfold unkey; rw [if_neg n1]
        refine ⟨_, rfl, _, rfl, (by show 3 ≤ sizeLine; decide), fun t ht => ?_⟩
        exact fin _ _ (same_new ht) (by rw [e]; exact dp_rn upd_same (dp_same (same_new ht) dkF))
    · rintro F ⟨s3, ws, eC, hws⟩
      rw [cl, List.take_length] at hws
      exact q _ C ws (s1.trans s3) eC hws hCH
end
/-! block TidyLT: _law_tidy (behind bTidyJ) -/
theorem cmul30 {n m : Int} (h1 : 0 ≤ n) (h2 : n ≤ M30) (h3 : 0 ≤ m) (h4 : m ≤ M30) : CMulW n m := by
  have b : ∀ i : Int, 0 ≤ i → i ≤ M30 → i.natAbs.log2 < 200 := fun i h0 h1 => by
    rcases Nat.eq_zero_or_pos i.natAbs with z | z
    · rw [z]
      decide
    · refine (Nat.log2_lt (by omega)).mpr ?_
      have h2 : i.natAbs ≤ 1000000000000000000000000000000 := by
        simp only [M30] at h1
        omega
      exact Nat.lt_of_le_of_lt h2 (by decide)
  have a1 := b n h1 h2
  have a2 := b m h3 h4
  show _ < _
  omega
theorem tidyRn_same {k : Bool} {n : Int} {m : Int} {y : J} (ne : ¬ (n = 0 ∨ isE (.rn k m y) = true)) : tidyRn k n (.rn k m y) = .rn k (n * m) y := by
  unfold tidyRn
  rw [if_neg ne]
  dsimp only
  rw [if_pos rfl]
theorem tidyRn_plain {k : Bool} {n : Int} {j : J} (hr : notR k j) (ne : ¬ (n = 0 ∨ isE j = true)) : tidyRn k n j = if n = 1 then j else .rn k n j := by
  unfold tidyRn
  rw [if_neg ne]
  cases j with
  | rn l m y => dsimp only; rw [if_neg (fun z => hr m y (by rw [z]))]
  | st i => rfl
  | ps l ys => rfl
theorem eqv_E (j : J) : PyData.eqv j.toD (J.ps false []).toD = isE j := by
  rw [J.eqv_beq j (.ps false []), Bool.eq_iff_iff, J.beq_iff, isE_iff]
theorem dp_E {K : PySem.W.Frag} {H : Hp} {e t : Addr} (h1 : H e = some (.tup [])) (h2 : H t = some (.tup [.str "seq", .ref e])) : Dp K H (.ref t) (J.ps false []).toD :=
  dp_ps (k := false) h2 (.tup (SqT.of h1) .nil)
theorem and_else {c : Bool} {A B : Prop} (R : Prop) (hB : R → B) (h0 : c = false → R) (hA : c = true → (R → B) → A) : if c = true then A else B := by
  cases c with
  | false => exact hB (h0 rfl)
  | true => exact hA rfl hB
theorem upd_some {H : Hp} {a b : Addr} {o u : HO} (h : H a = some o) : ∃ o', upd H b u a = some o' := by
  by_cases e : a = b
  · subst e
    exact ⟨_, upd_same⟩
  · exact ⟨_, by rw [upd_ne e]; exact h⟩
section
variable {P : Program} {w : World} {K : PySem.W.Frag} {mg : Str → Option Value} {base : Heap}
theorem ok_ltd_next (T : Txt K mg) {n : Nat} (g__law_tidy : FnOk P w K mg base CX0 (n + 2) T.f__law_tidy T.d__law_tidy ["_law_job_here"] (spTd K n)) :
    FnOk P w K mg base CX0 (n + 3) T.f__law_tidy T.d__law_tidy ["_law_job_here"] (spTd K (n + 1)) := by
  have g__law_joined := ok_jnd (P := P) (w := w) (base := base) T
  refine T.F__law_tidy.ok sc__law_tidy (fun vs H Q E h => ?_) (fun cdv A outer s H vs Q E hr h => ?_)
  · obtain ⟨v, j, rfl, _⟩ := h
    rfl
  obtain ⟨v, j, rfl, hd, hn, hn15, hok, hnd, q⟩ := h
  refine ⟨_, (pss_cons (ps_if (pt_not (pt_val (pe_callB (r := rIsD K) call_isD (by rfl) T.n_isinstance (by decide +kernel) (pa_cons (pv 0) (pa_cons (pe_bltn (v := .ty "tuple") (by rfl) T.n_tuple (by decide +kernel) rfl) pa_nil))))) (pss_one (ps_ret (pv 0))) pss_nil)
      (pss_cons (ps_if (pt_cmpR (r := rIn K false) op_in_seq (pe_ix (r := rIxT K) ix_tup (pv 0) pe_int (fun _ _ => rfl)) (pe_tup (pa_cons pe_str (pa_cons pe_str pa_nil))) (by rfl)) (pss_cons (ps_set (i := 1) sc__law_tidy.nd rfl (Or.inl rfl) (pe_call g__law_tidy (hr.mono (by omega)) rfl T.m__law_tidy T.F__law_tidy.kp T.b__law_tidy .nil pass0 (pa_cons (pe_ix (r := rIxT K) ix_tup (pv 0) pe_int (fun _ _ => rfl)) pa_nil)))
        (pss_cons (ps_if (PW.pt (pw_or (pt_cmpR (r := rEqD K) (op_eqD hr.units) (pe_ix (r := rIxT K) ix_tup (pv 0) pe_int (fun _ _ => rfl)) pe_int (nomark _)) (pw_or1 (pt_cmpR (r := rEqD K) (op_eqD hr.units) (pv 1) (pe_tup (pa_cons pe_str (pa_cons (pe_tup pa_nil) pa_nil))) (nomark _))))) (pss_one (ps_ret (pe_tup (pa_cons pe_str (pa_cons (pe_tup pa_nil) pa_nil))))) pss_nil)
        (pss_cons (ps_if (PW.pt (pw_and (pt_val (pe_callB (r := rIsD K) call_isD (by rfl) T.n_isinstance (by decide +kernel) (pa_cons (pv 1) (pa_cons (pe_bltn (v := .ty "tuple") (by rfl) T.n_tuple (by decide +kernel) rfl) pa_nil)))) (pw_and1 (pt_cmpR op_eq (pe_ix (r := rIxT K) ix_tup (pv 1) pe_int (fun _ _ => rfl)) (pe_ix (r := rIxT K) ix_tup (pv 0) pe_int (fun _ _ => rfl)) (nomark _))))) (pss_one (ps_ret (pe_tup (pa_cons (pe_ix (r := rIxT K) ix_tup (pv 0) pe_int (fun _ _ => rfl)) (pa_cons (pe_op op_mulW (pe_ix (r := rIxT K) ix_tup (pv 0) pe_int (fun _ _ => rfl)) (pe_ix (r := rIxT K) ix_tup (pv 1) pe_int (fun _ _ => rfl))) (pa_cons (pe_ix (r := rIxT K) ix_tup (pv 1) pe_int (fun _ _ => rfl)) pa_nil)))))) pss_nil)
        (pss_one (ps_ret (pe_ifExp (pt_cmpR (r := rEqD K) (op_eqD hr.units) (pe_ix (r := rIxT K) ix_tup (pv 0) pe_int (fun _ _ => rfl)) pe_int (nomark _)) (pv 1) (pe_tup (pa_cons (pe_ix (r := rIxT K) ix_tup (pv 0) pe_int (fun _ _ => rfl)) (pa_cons (pe_ix (r := rIxT K) ix_tup (pv 0) pe_int (fun _ _ => rfl)) (pa_cons (pv 1) pa_nil)))))))))) pss_nil)
      (pss_cons (ps_set (i := 2) sc__law_tidy.nd rfl (Or.inl rfl) (pe_lst pa_nil))
      (pss_cons (ps_for PassesOwn.never rfl (pi_list (pe_lc (own := [("_law_one", 4)]) (g := (gName 4)) (by rfl) sc__law_tidy.nd (pi_tup (pe_ix (r := rIxT K) ix_tup (pv 0) pe_int (fun _ _ => rfl))) (blkOk_by (N := N__law_tidy) (sc := (defScope s__law_tidy)) (by decide +kernel)) (fun _ _ _ _ _ => (pg_name (i := 4) sc__law_tidy.nd rfl (Or.inl rfl))) (fun _ _ _ _ _ => pts_nil) (fun _ _ _ _ _ => (pe_call g__law_tidy (hr.mono (by omega)) rfl T.m__law_tidy T.F__law_tidy.kp T.b__law_tidy .nil pass0 (pa_cons (pv 4) pa_nil))))) (pg_name (i := 3) sc__law_tidy.nd rfl (Or.inl rfl))
        (pss_one (ps_if (PW.pt (pw_and (pt_val (pe_callB (r := rIsD K) call_isD (by rfl) T.n_isinstance (by decide +kernel) (pa_cons (pv 3) (pa_cons (pe_bltn (v := .ty "tuple") (by rfl) T.n_tuple (by decide +kernel) rfl) pa_nil)))) (pw_and1 (pt_cmpR op_eq (pe_ix (r := rIxT K) ix_tup (pv 3) pe_int (fun _ _ => rfl)) (pe_ix (r := rIxT K) ix_tup (pv 0) pe_int (fun _ _ => rfl)) (nomark _))))) (pss_one (ps_set (i := 2) sc__law_tidy.nd rfl (Or.inl rfl) (pe_op op_cat (pv 2) (pe_callTy (r := rListS K) call_listS (by rfl) T.n_list (by decide +kernel) (pa_cons (pe_ix (r := rIxT K) ix_tup (pv 3) pe_int (fun _ _ => rfl)) pa_nil))))) (pss_one (ps_if (pt_cmpR (r := rNeD K) (op_neD hr.units) (pv 3) (pe_tup (pa_cons pe_str (pa_cons (pe_tup pa_nil) pa_nil))) (nomark _)) (pss_one (ps_expr (pe_bm PySem.F.plainAttrs_list PySem.F.slot_list_append PySem.F.type_list_append mt_append (pv 2) (pa_cons (pv 3) pa_nil)))) pss_nil)))))
      (C8.pss_cut (ps_if (pt_cmpR op_eq (pe_ix (r := rIxT K) ix_tup (pv 0) pe_int (fun _ _ => rfl)) pe_str (nomark _)) (pss_one (ps_set (i := 2) sc__law_tidy.nd rfl (Or.inl rfl) (pe_call g__law_joined (hr.mono (by omega)) rfl T.m__law_joined T.F__law_joined.kp T.b__law_joined .nil pass0 (pa_cons (pv 2) pa_nil)))) pss_nil)
      (pss_cons (ps_if (pt_cmpR op_eq (pe_callB (r := rLenS K) call_lenS (by rfl) T.n_len (by decide +kernel) (pa_cons (pv 2) pa_nil)) pe_int (nomark _)) (pss_one (ps_ret (pe_ix (r := rIxL K) ix_list (pv 2) pe_int (fun _ _ => rfl)))) pss_nil)
      (pss_one (ps_ret (pe_ifExp (pt_cmpR (r := rEqD K) (op_eqD hr.units) (pv 2) (pe_lst pa_nil) (nomark _)) (pe_tup (pa_cons pe_str (pa_cons (pe_tup pa_nil) pa_nil))) (pe_tup (pa_cons (pe_ix (r := rIxT K) ix_tup (pv 0) pe_int (fun _ _ => rfl)) (pa_cons (pe_callTy (r := rTupS K) call_tupS (by rfl) T.n_tuple (by decide +kernel) (pa_cons (pv 2) pa_nil)) pa_nil)))))))))))), ?_⟩
  refine ⟨_, rfl, _, _, _, _, rfl, hd, kit_tuple _, _, rfl, ?_⟩
  cases j with
  | st i =>
    refine iteT ?_
    exact ⟨_, rfl, q _ _ (Same.refl _) (by simp only [J.tidy]; exact hd)⟩
  | rn k c x =>
    simp only [J.deep] at hn hn15
    simp only [J.nodes] at hnd
    simp only [J.ok] at hok
    obtain ⟨a, vx, rfl, ha, hx⟩ := rn_inv hd
    simp only [J.tidy] at q
    refine iteF ?_
    refine ⟨_, rfl, _, _, _, _, rfl, rfl, ha, rfl, (by show 2 ≤ sizeLine; decide), fun t ht => ?_⟩
    refine ⟨t, _, rfl, .inr (SqT.of upd_same), rfl, rfl, _, rfl, ?_⟩
    have s1 : Same H (upd H t (.tup [.str "repeat", .str "copies"])) := same_new ht
    show if inV (.str (kwR k)) [.str "repeat", .str "copies"] = true then _ else _
    rw [w_in_rounds]
    refine iteT ?_
    generalize (upd H t (.tup [.str "repeat", .str "copies"])) = H1 at s1 ⊢
    have h1 := same_sqT s1 ha
    refine ⟨_, rfl, _, _, _, _, rfl, rfl, h1, rfl, _, x, rfl, dp_same s1 hx, by omega, by omega, hok.2.1, by omega, fun H2 r2 s2 d2 => ?_⟩
    have xd := J.tidy_deep x
    have xc := fun l m y e => tidy_count hok.2.1 (l := l) (m := m) (y := y) e
    generalize x.tidy = y at q d2 xd xc ⊢
    have s12 := s1.trans s2
    have h2 := same_sqT s2 h1
    have emp : ∀ G, Same H G → (c = 0 ∨ isE y = true) → ∀ e t, G e = none → (upd G e (.tup [])) t = none → Q (.ref t) (upd (upd G e (.tup [])) t (.tup [.str "seq", .ref e])) := fun G s hE e t he ht => by
      refine q _ _ (s.trans ((same_new he).trans (same_new ht))) ?_
      have z : tidyRn k c y = .ps false [] := by unfold tidyRn; rw [if_pos hE]
      rw [z]
      exact dp_E (same_new ht _ _ upd_same) upd_same
    refine ⟨_, rfl, _, _, _, _, rfl, rfl, h2, rfl, .int c, .int 0, .int _, .int _, by rfl, by rfl, _, rfl, ?_⟩
    by_cases c0 : c = 0
    · refine iteTx (by simp [PyData.eqv, c0]) ?_
      refine ⟨(by show 0 ≤ sizeLine; decide), fun e he => ⟨(by show 2 ≤ sizeLine; decide), fun t ht => ?_⟩⟩
      exact emp _ s12 (.inl c0) e t he ht
    refine iteFx (by simp [PyData.eqv, c0]) ?_
    refine ⟨_, rfl, (by show 0 ≤ sizeLine; decide), fun e he => ⟨(by show 2 ≤ sizeLine; decide), fun t ht => ?_⟩⟩
    have s3 : Same H2 (upd (upd H2 e (.tup [])) t (.tup [.str "seq", .ref e])) := (same_new he).trans (same_new ht)
    have dE : Dp K (upd (upd H2 e (.tup [])) t (.tup [.str "seq", .ref e])) (.ref t) (J.ps false []).toD := dp_E (same_new ht _ _ upd_same) upd_same
    generalize (upd (upd H2 e (.tup [])) t (.tup [.str "seq", .ref e])) = H3 at s3 dE ⊢
    have s123 := s12.trans s3
    refine ⟨y.toD, _, dp_same s3 d2, dE, J.shaped y (by omega), by decide +kernel, _, rfl, ?_⟩
    rw [eqv_E]
    cases ey : isE y with
    | true =>
      refine iteT ?_
      refine ⟨(by show 0 ≤ sizeLine; decide), fun e he => ⟨(by show 2 ≤ sizeLine; decide), fun t ht => ?_⟩⟩
      exact emp _ s123 (.inr ey) e t he ht
    | false =>
    have ne : ¬ (c = 0 ∨ isE y = true) := by rw [ey]; simp [c0]
    refine iteF ?_
    have h3 := same_sqT s3 h2
    have d3 := dp_same s3 d2
    -- the last row
    have last : notR k y → tRet (tIf (tTest (tOp (rEqD K) (tOp (rIxT K) (tVar 0) (tC (V.int 1))) (tC (V.int 1)))) (tVar 1) (tTup (tCons (tOp (rIxT K) (tVar 0) (tC (V.int 0))) (tCons (tOp (rIxT K) (tVar 0) (tC (V.int 1))) (tCons (tVar 1) tNil)))))
        { nx := fun x H' => Q V.non H', rt := Q } ((L2.start N__law_tidy [V.ref a]).set 1 (some r2)) H3 := fun nr => by
      have e := tidyRn_plain nr ne
      refine ⟨_, rfl, _, _, _, _, rfl, rfl, h3, rfl, .int c, .int 1, .int _, .int _, by rfl, by rfl, _, rfl, ?_⟩
      by_cases c1 : c = 1
      · refine iteTx (by simp [PyData.eqv, c1]) ?_
        rw [if_pos c1] at e
        exact ⟨_, rfl, q _ _ s123 (by rw [e]; exact d3)⟩
      · refine iteFx (by simp [PyData.eqv, c1]) ?_
        rw [if_neg c1] at e
        refine ⟨_, rfl, _, _, _, _, rfl, rfl, h3, rfl, _, rfl, _, _, _, _, rfl, rfl, h3, rfl, _, rfl, (by show 3 ≤ sizeLine; decide), fun t ht => ?_⟩
        exact q _ _ (s123.trans (same_new ht)) (by rw [e]; exact dp_rn upd_same (dp_same (same_new ht) d3))
    refine ⟨_, rfl, _, _, _, _, rfl, d3, kit_tuple _, _, rfl, ?_⟩
    cases y with
    | st i =>
      refine iteF ?_
      exact last (fun m y z => by cases z)
    | ps l ys =>
      refine iteT ?_
      obtain ⟨a', b', zs, rfl, ha', hb', hz'⟩ := ps_inv d3
      refine ⟨_, rfl, _, _, _, _, rfl, rfl, ha', rfl, _, rfl, _, _, _, _, rfl, rfl, h3, rfl, rfl, _, rfl, ?_⟩
      refine iteFx (decStrNe (by cases l <;> cases k <;> decide +kernel)) ?_
      exact last (fun m y z => by cases z)
    | rn l m y =>
      refine iteT ?_
      obtain ⟨a', vy, rfl, ha', hy'⟩ := rn_inv d3
      refine ⟨_, rfl, _, _, _, _, rfl, rfl, ha', rfl, _, rfl, _, _, _, _, rfl, rfl, h3, rfl, rfl, _, rfl, ?_⟩
      by_cases lk : l = k
      · subst lk
        refine iteTx (by simp) ?_
        obtain ⟨m0, m1⟩ := xc l m y rfl
        refine ⟨_, rfl, _, _, _, _, rfl, rfl, h3, rfl, _, rfl, _, _, _, _, rfl, rfl, h3, rfl, _, rfl, _, _, _, _, rfl, rfl, ha', rfl, _, _, rfl, rfl, cmul30 hok.1.1 hok.1.2 m0 m1, _, rfl, _, _, _, _, rfl, rfl, ha', rfl, (by show 3 ≤ sizeLine; decide), fun t ht => ?_⟩
        exact q _ _ (s123.trans (same_new ht)) (by rw [tidyRn_same ne]; exact dp_rn upd_same (dp_same (same_new ht) hy'))
      · refine iteFx (decStrNe (by rw [kwR_same]; simpa using lk)) ?_
        exact last (fun m' y' z => by cases z; exact lk rfl)
  | ps k xs =>
    simp only [J.deep] at hn hn15
    simp only [J.nodes] at hnd
    simp only [J.ok] at hok
    obtain ⟨a, b, vs, rfl, ha, hb, hall⟩ := ps_inv hd
    simp only [J.tidy] at q
    refine iteF ?_
    refine ⟨_, rfl, _, _, _, _, rfl, rfl, ha, rfl, (by show 2 ≤ sizeLine; decide), fun t ht => ?_⟩
    refine ⟨t, _, rfl, .inr (SqT.of upd_same), rfl, rfl, _, rfl, ?_⟩
    have s1 : Same H (upd H t (.tup [.str "repeat", .str "copies"])) := same_new ht
    show if inV (.str (kwP k)) [.str "repeat", .str "copies"] = true then _ else _
    rw [w_in_rounds_no]
    refine iteF ?_
    generalize (upd H t (.tup [.str "repeat", .str "copies"])) = H1 at s1 ⊢
    refine ⟨(by show 0 ≤ sizeLine; decide), fun l1 hl1 => ?_⟩
    have nl1 : H l1 = none := s1.free hl1
    have s2 : Same H1 (upd H1 l1 (.lst [])) := same_new hl1
    have e1 : upd H1 l1 (.lst []) l1 = some (.lst []) := upd_same
    generalize (upd H1 l1 (.lst [])) = H2 at s2 e1 ⊢
    have s12 := s1.trans s2
    have h2 := same_sqT s12 ha
    have b2 := same_sqT s12 hb
    refine ⟨_, rfl, _, _, _, _, rfl, rfl, h2, rfl, b, rfl, ⟨vs, b2⟩, fun D hD => ?_⟩
    have hl := parts_len hall
    refine lc_tup (K := K) (a := b) (xs := vs) (fun i F => Same H2 F ∧ ∃ ws, F D = some (.lst ws) ∧ DpAll K F ws (J.toDs ((xs.take i).map J.tidy))) ⟨same_new hD, [], upd_same, .nil⟩ (fun i F _ ⟨s3, _⟩ => same_sqT s3 b2) ?_ ?_
    · rintro i x F hi ⟨s3, ws, eD, dws⟩
      obtain ⟨j, ej, mj, dj⟩ := parts_at hall hi
      refine ⟨rfl, ?_⟩
      unfold tYes
      refine iteT ?_
      have jn := nodes_mem' mj
      refine ⟨_, rfl, x, j, rfl, dp_same (s12.trans s3) dj, by have := deep_mem mj; omega, by have := deep_mem mj; omega, ok_mem hok.2.1 mj, by omega, fun H3 r3 s4 d3 => ?_⟩
      have il : i < vs.length := (List.getElem?_eq_some_iff.mp hi).1
      have k2 : ∀ a xs, SqT K H3 a xs → SqT K (upd H3 D (.lst (ws ++ [r3]))) a xs := fun a xs z => (sx_upd (p := D)).sqT (s4 _ _ eD) z
      have wl := parts_len dws
      rw [List.length_map, List.length_take] at wl
      refine ⟨_, s4 _ _ eD, small1000 (by omega), ?_, _, upd_same, ?_⟩
      · intro c o hc
        rw [upd_ne (ne_of_none hc hD)]
        exact s4 _ _ (s3 _ _ hc)
      · have etk : xs.take (i + 1) = xs.take i ++ [j] := by rw [List.take_add_one, ej]; rfl
        rw [etk, List.map_append, J.toDs_app]
        exact dpAll_append (dpAll_keep k2 (J.noLs _) (dpAll_same s4 dws)) (.cons (dp_keep k2 (J.noL _) d3) .nil)
    rintro F ⟨s3, ws, eD, dws⟩
    rw [hl, List.take_length, ← J.tidyL_map] at dws
    have fl := flat_len (k := k) (J.tidyL xs)
    have tn := J.tidyL_nodes xs
    rw [← nodesL_map] at tn
    have tdp : ∀ y ∈ J.tidyL xs, y.deep ≤ 28 := fun y hy => by have := J.tidyL_deep xs y hy; omega
    have flen : ((J.tidyL xs).flatMap (flatP k)).length ≤ 100000 := by rw [nodesL_map] at *; omega
    generalize J.tidyL xs = js at q dws tdp flen
    have el : ws.length = js.length := parts_len dws
    have f1 := s3 _ _ e1
    have nD : D ≠ l1 := fun z => by rw [z, e1] at hD; cases hD
    have hF := same_sqT (s12.trans s3) ha
    have sHF := s12.trans s3
    refine ⟨D, rfl, ⟨ws, SqL.of eD⟩, ?_⟩
    refine for_list (K := K) (a := D) (xs := ws) (fun i σ G => ∃ (lp : Addr) (zs : List V) (y3 : Option V), σ = [some (.ref a), none, some (.ref lp), y3, none] ∧ Sx l1 F G ∧ (lp = l1 ∨ F lp = none) ∧ (∃ o, G l1 = some o) ∧ G lp = some (.lst zs) ∧
      DpAll K G zs (J.toDs ((js.take i).flatMap (flatP k)))) ⟨l1, [], none, rfl, Sx.refl, .inl rfl, ⟨_, f1⟩, f1, .nil⟩ (fun i σ G _ ⟨_, _, _, _, s, _⟩ => SqL.of (s D _ nD eD)) ?_ ?_
    · rintro i x σ G hi ⟨lp, zs, y3, rfl, sG, hlp, ⟨o1, g1⟩, gl, hz⟩
      obtain ⟨j, ej, mj, dj0⟩ := parts_at dws hi
      have dj : Dp K G x j.toD := sG.dp f1 (J.noL _) dj0
      have hG := sG.sqT f1 hF
      have jd := tdp j mj
      have etk : (js.take (i + 1)).flatMap (flatP k) = (js.take i).flatMap (flatP k) ++ flatP k j := by
        rw [List.take_add_one, ej, List.flatMap_append]
        simp
      have wl := parts_len hz
      have tot : ((js.take i).flatMap (flatP k)).length + (flatP k j).length ≤ 100000 := by
        rw [← List.length_append, ← etk]
        have e := List.take_append_drop (i + 1) js
        have e2 : js.flatMap (flatP k) = (js.take (i + 1)).flatMap (flatP k) ++ (js.drop (i + 1)).flatMap (flatP k) := by
          rw [← List.flatMap_append, e]
        rw [e2, List.length_append] at flen
        omega
      rw [etk]
      refine ⟨_, rfl, _, _, _, _, rfl, dj, kit_tuple _, _, rfl, ?_⟩
      have nlp : ∀ {b : Addr} {o : HO}, b ≠ l1 → F b = some o → b ≠ lp := fun n e z => by
        rcases hlp with y | y
        · exact n (z.trans y)
        · rw [z, y] at e; cases e
      refine and_else (hasK j (kwP k) = false) (fun eh => ?_) (fun hc => ?_) (fun hc other => ?_)
      · have ef := flatP_not eh
        refine ⟨_, rfl, (by show 0 ≤ sizeLine; decide), fun e he => ⟨(by show 2 ≤ sizeLine; decide), fun t ht => ?_⟩⟩
        have s4 : Same G (upd (upd G e (.tup [])) t (.tup [.str "seq", .ref e])) := (same_new he).trans (same_new ht)
        have dE : Dp K (upd (upd G e (.tup [])) t (.tup [.str "seq", .ref e])) (.ref t) (J.ps false []).toD := dp_E (same_new ht _ _ upd_same) upd_same
        generalize (upd (upd G e (.tup [])) t (.tup [.str "seq", .ref e])) = G4 at s4 dE ⊢
        refine ⟨j.toD, _, dp_same s4 dj, dE, J.shaped j (by omega), by decide +kernel, _, rfl, ?_⟩
        rw [eqv_E]
        cases ej' : isE j with
        | true =>
          rw [ej'] at ef
          have ef' : flatP k j = [] := ef
          refine iteFx (by simp) ?_
          refine ⟨lp, zs, _, rfl, fun b o n h => s4 _ _ (sG b o n h), hlp, ⟨_, s4 _ _ g1⟩, s4 _ _ gl, ?_⟩
          rw [ef', List.append_nil]
          exact dpAll_same s4 hz
        | false =>
          rw [ej'] at ef
          have ef' : flatP k j = [j] := ef
          rw [ef'] at tot ⊢
          simp only [List.length_singleton] at tot
          refine iteTx (by simp) ?_
          have gl4 := s4 _ _ gl
          have kk : ∀ b xs, SqT K G4 b xs → SqT K (upd G4 lp (.lst (zs ++ [x]))) b xs := fun b xs h => (sx_upd (p := lp)).sqT gl4 h
          refine ⟨_, rfl, ⟨.inl ⟨rfl, _, SqL.of gl4⟩, _, rfl, lp, zs, x, rfl, rfl, gl4, (by rw [wl, sizeLine_eq]; omega), ?_⟩⟩
          refine ⟨lp, zs ++ [x], _, rfl, fun b o n h => by rw [upd_ne (nlp n h)]; exact s4 _ _ (sG b o n h), hlp, upd_some (s4 _ _ g1), upd_same, ?_⟩
          rw [J.toDs_app]
          exact dpAll_append (dpAll_keep kk (J.noLs _) (dpAll_same s4 hz)) (.cons (dp_keep kk (J.noL _) (dp_same s4 dj)) .nil)
      · cases j with
        | st i => rfl
        | ps l ys => cases hc
        | rn l n x => cases hc
      · cases j with
        | st i => cases hc
        | rn l n y =>
          obtain ⟨a', vy, rfl, ha', hy'⟩ := rn_inv dj
          refine ⟨_, rfl, _, _, _, _, rfl, rfl, ha', rfl, _, rfl, _, _, _, _, rfl, rfl, hG, rfl, rfl, _, rfl, ?_⟩
          have en : (kwR l == kwP k) = false := by cases l <;> cases k <;> decide +kernel
          exact iteFx (decStrNe en) (other en)
        | ps l ys =>
          obtain ⟨a', b', us, rfl, ha', hb', hz'⟩ := ps_inv dj
          refine ⟨_, rfl, _, _, _, _, rfl, rfl, ha', rfl, _, rfl, _, _, _, _, rfl, rfl, hG, rfl, rfl, _, rfl, ?_⟩
          by_cases lk : l = k
          · subst lk
            refine iteTx (by simp) ?_
            have ef : flatP l (.ps l ys) = ys := by simp [flatP]
            rw [ef] at tot ⊢
            have zl := parts_len hz'
            refine ⟨_, rfl, _, rfl, _, _, _, _, rfl, rfl, ha', rfl, b', us, rfl, .inr hb', fun u hu => ?_⟩
            have s4 : Same G (upd G u (.lst us)) := same_new hu
            have eu : upd G u (.lst us) u = some (.lst us) := upd_same
            generalize (upd G u (.lst us)) = G4 at s4 eu ⊢
            refine ⟨lp, u, zs, us, rfl, rfl, s4 _ _ gl, eu, by rw [wl, zl, sizeLine_eq]; omega, fun u2 hu2 => ?_⟩
            have s5 : Same G4 (upd G4 u2 (.lst (zs ++ us))) := same_new hu2
            have s45 := s4.trans s5
            have nf : F u2 = none := by
              cases eF : F u2 with
              | none => rfl
              | some o =>
                exfalso
                by_cases z : u2 = l1
                · rw [z, s4 _ _ g1] at hu2; cases hu2
                · rw [s4 _ _ (sG _ _ z eF)] at hu2; cases hu2
            refine ⟨u2, zs ++ us, _, rfl, fun b o n h => s45 _ _ (sG b o n h), .inr nf, ⟨_, s45 _ _ g1⟩, upd_same, ?_⟩
            rw [J.toDs_app]
            exact dpAll_append (dpAll_same s45 hz) (dpAll_same s45 hz')
          · have en : (kwP l == kwP k) = false := by rw [kwP_same]; simpa using lk
            exact iteFx (decStrNe en) (other en)
    · rintro σ G ⟨lp, zs, y3, rfl, sG, hlp, _, gl, hz⟩
      rw [el, List.take_length] at hz
      have hG := sG.sqT f1 hF
      have SG : Same H G := fun b o e => sG b o (fun z => by rw [z, nl1] at e; cases e) (sHF b o e)
      refine ⟨fun σ G' => ∃ (lp : Addr) (zs : List V) (res : List J) (y3 : Option V), σ = [some (.ref a), none, some (.ref lp), y3, none] ∧ Same G G' ∧ G' lp = some (.lst zs) ∧ DpAll K G' zs (J.toDs res) ∧ (∀ r ∈ res, r.deep ≤ 30) ∧ tidyPs k js = wrapP k res, ?_, ?_⟩
      · refine ⟨_, rfl, _, _, _, _, rfl, rfl, hG, rfl, rfl, _, rfl, ?_⟩
        have fd : ∀ y ∈ js.flatMap (flatP k), y.deep ≤ 28 := flat_lv tdp
        have fd30 : ∀ y ∈ js.flatMap (flatP k), y.deep ≤ 30 := fun y hy => Nat.le_trans (fd y hy) (by decide)
        cases k with
        | true =>
          refine iteTx (by decide +kernel) ?_
          refine ⟨_, rfl, lp, zs, js.flatMap (flatP true), rfl, SqL.of gl, hz, flen, fd30, fun G2 t ws' s6 et hw' ht => ?_⟩
          refine ⟨t, ws', grouped (js.flatMap (flatP true)), _, rfl, s6, et, hw', ?_, rfl⟩
          intro r hr'
          unfold grouped at hr'
          obtain ⟨p, hp, rfl⟩ := List.mem_map.mp hr'
          have pd := groupG_lv _ [] (fun p hp => by simp at hp) fd p hp
          unfold unkey
          split
          · omega
          · simp only [J.deep]
            omega
        | false =>
          refine iteFx (by decide +kernel) ?_
          exact ⟨lp, zs, js.flatMap (flatP false), _, rfl, Same.refl _, gl, hz, fd30, rfl⟩
      · rintro σ G' ⟨lp, zs, res, y3, rfl, s6, gl, hz, rd, et⟩
        rw [et] at q
        have S' := SG.trans s6
        have hG' := same_sqT s6 hG
        have zl := parts_len hz
        refine ⟨_, rfl, lp, zs, rfl, .inl (SqL.of gl), rfl, _, rfl, ?_⟩
        match zs, res, hz, zl with
        | [z], [r], hz, _ =>
          refine iteTx (by simp) ?_
          refine ⟨_, rfl, lp, _, _, _, rfl, rfl, SqL.of gl, rfl, ?_⟩
          cases hz with
          | cons d1 _ => exact q _ _ S' d1
        | [], [], _, _ =>
          refine iteFx (by simp) ?_
          refine ⟨_, rfl, (by show 0 ≤ sizeLine; decide), fun u hu => ?_⟩
          have s7 : Same G' (upd G' u (.lst [])) := same_new hu
          refine ⟨.list [], .list [], .lst (SqL.of (s7 _ _ gl)) .nil, .lst (SqL.of upd_same) .nil, by decide +kernel, by decide +kernel, _, rfl, ?_⟩
          refine iteTx (by decide +kernel) ?_
          refine ⟨(by show 0 ≤ sizeLine; decide), fun e he => ⟨(by show 2 ≤ sizeLine; decide), fun t ht => ?_⟩⟩
          refine q _ _ (S'.trans (s7.trans ((same_new he).trans (same_new ht)))) ?_
          exact dp_E (same_new ht _ _ upd_same) upd_same
        | z1 :: z2 :: zs, r1 :: r2 :: res, hz, _ =>
          refine iteFx (by simp; omega) ?_
          refine ⟨_, rfl, (by show 0 ≤ sizeLine; decide), fun u hu => ?_⟩
          have s7 : Same G' (upd G' u (.lst [])) := same_new hu
          have eu : upd G' u (.lst []) u = some (.lst []) := upd_same
          generalize (upd G' u (.lst [])) = G7 at s7 eu ⊢
          have gl7 := s7 _ _ gl
          have hz7 := dpAll_same s7 hz
          refine ⟨.list (J.toDs (r1 :: r2 :: res)), .list [], .lst (SqL.of gl7) hz7, .lst (SqL.of eu) .nil, keys_shaped rd, by decide +kernel, _, rfl, ?_⟩
          refine iteFx (by rw [keys_nil]; simp) ?_
          refine ⟨_, rfl, _, _, _, _, rfl, rfl, same_sqT s7 hG', rfl, _, rfl, lp, _, rfl, .inl ⟨SqL.of gl7, fun tt htt => ?_⟩⟩
          refine ⟨(by show 2 ≤ sizeLine; decide), fun t ht => ?_⟩
          have st1 : Same G7 (upd G7 tt (.tup (z1 :: z2 :: zs))) := same_new htt
          have dt : Dp K (upd G7 tt (.tup (z1 :: z2 :: zs))) (.ref tt) (.tuple (J.toDs (r1 :: r2 :: res))) := .tup (SqT.of upd_same) (dpAll_same st1 hz7)
          refine q _ _ (S'.trans (s7.trans (st1.trans (same_new ht)))) ?_
          show Dp K _ (.ref t) (J.ps k (r1 :: r2 :: res)).toD
          exact dp_ps upd_same (dp_same (same_new ht) dt)
theorem ok_ltd (T : Txt K mg) : ∀ n : Nat, FnOk P w K mg base CX0 (n + 2) T.f__law_tidy T.d__law_tidy ["_law_job_here"] (spTd K n)
  | 0 => by
    have no : ∀ vs H Q E, ¬ spTd K 0 vs H Q E := by
      rintro vs H Q E ⟨v, j, _, _, h, _⟩
      have := deep_pos j
      omega
    exact ⟨fun vs H Q E h => absurd h (no vs H Q E), fun A outer s H args us vs Q E _ _ _ _ h => absurd h (no vs H Q E)⟩
  | n + 1 => ok_ltd_next T (ok_ltd T n)
end
/-! block TidyF: _law_few (behind bTidyLT) -/
def fewK : List J := [.st 2, .ps false [.st 2, .st (-3)], .rn false 2 (.rn false 3 (.st (-1))), .ps true [], .rn true 2 (.rn true 3 (.st 2))]
/-- parts of a drawn row of few kinds -/
def FewOk (j : J) : Prop := j.ok ∧ j.nodes ≤ 10 ∧ j.deep ≤ 5 ∧ j.steps ≤ 100
theorem atI_exT {vs : List V} {r : Int} (h0 : 0 ≤ r) (h1 : r < (vs.length : Int)) : ∃ v, vs[r.toNat]? = some v ∧ atI vs r = some v := by
  have h : r.toNat < vs.length := by omega
  exact ⟨vs[r.toNat], List.getElem?_eq_getElem h, atI_at (j := r.toNat) (by omega) (List.getElem?_eq_getElem h)⟩
theorem kind_ok : ∀ j ∈ fewK, j.ok ∧ j.nodes ≤ 3 ∧ j.deep ≤ 3 ∧ 0 ≤ j.steps ∧ j.steps ≤ 6 := by
  intro j hj
  simp only [fewK, List.mem_cons, List.not_mem_nil, or_false] at hj
  rcases hj with rfl | rfl | rfl | rfl | rfl <;> refine ⟨?_, ?_, ?_, ?_, ?_⟩ <;> simp only [J.ok, J.okL, J.nodes, J.nodesL, J.deep, J.deepL, J.steps, J.stepsL, M30, List.length_cons, List.length_nil] <;> decide
theorem few_ok {one : J} {c : Int} (h : one ∈ fewK) (h0 : 0 ≤ c) (h1 : c < 4) : ∀ j ∈ [one, .rn true c one, .ps true [one, .ps false [.st 2, .st (-3)]], .ps false [one]], FewOk j := by
  obtain ⟨k1, k2, k3, k4, k5⟩ := kind_ok one h
  obtain ⟨z1, z2, z3, z4, z5⟩ := kind_ok (.ps false [.st 2, .st (-3)]) (by simp [fewK])
  have e2 : (J.ps false [.st 2, .st (-3)]).steps = 2 := by simp [J.steps, J.stepsL]
  have e1 : (J.ps false [.st 2, .st (-3)]).nodes = 3 := by simp [J.nodes, J.nodesL]
  have e3 : (J.ps false [.st 2, .st (-3)]).deep = 2 := by simp [J.deep, J.deepL]
  have c3 : c * one.steps ≤ 3 * 6 := Int.mul_le_mul (by omega) k5 k4 (by omega)
  have c3' : one.steps * c ≤ 3 * 6 := by rw [Int.mul_comm]; exact c3
  generalize (J.ps false [.st 2, .st (-3)]) = two at z1 e1 e2 e3 ⊢
  intro j hj
  simp only [List.mem_cons, List.not_mem_nil, or_false] at hj
  rcases hj with rfl | rfl | rfl | rfl
  · exact ⟨k1, by omega, by omega, by omega⟩
  · refine ⟨?_, ?_, ?_, ?_⟩
    · simp only [J.ok, M30]
      exact ⟨by omega, k1, by omega⟩
    · simp only [J.nodes]; omega
    · simp only [J.deep]; omega
    · simp only [J.steps]; omega
  · refine ⟨?_, ?_, ?_, ?_⟩
    · simp only [J.ok, J.okL, J.stepsL, M30, List.length_cons, List.length_nil]
      exact ⟨by omega, ⟨k1, z1, trivial⟩, by omega⟩
    · simp only [J.nodes, J.nodesL]; omega
    · simp only [J.deep, J.deepL]; omega
    · simp only [J.steps, J.stepsL]; omega
  · refine ⟨?_, ?_, ?_, ?_⟩
    · simp only [J.ok, J.okL, J.stepsL, M30, List.length_cons, List.length_nil]
      exact ⟨by omega, ⟨k1, trivial⟩, by omega⟩
    · simp only [J.nodes, J.nodesL]; omega
    · simp only [J.deep, J.deepL]; omega
    · simp only [J.steps, J.stepsL]; omega
def spFew (K : PySem.W.Frag) : Sp := fun vs H Q _ => ∃ (p : Addr) (m : Nat), vs = [.ref p] ∧ Pot H p m ∧ m + 100 ≤ 1099511627776 ∧
  ∀ (H' : Hp) (r : V) (js : List J), Sx p H H' → Pot H' p (m + 100) → Dp K H' r (J.ps true js).toD → js.length ≤ 6 → (∀ j ∈ js, FewOk j) → Q r H'
section
variable {P : Program} {w : World} {K : PySem.W.Frag} {mg : Str → Option Value} {base : Heap}
theorem ok_few (T : Txt K mg) : FnOk P w K mg base CX0 2 T.f__law_few T.d__law_few ["_law_pot_here"] (spFew K) := by
  have g__law_take : FnOk P w K mg base CX0 1 T.f__law_take T.d__law_take ["_law_pot_here", "_law_many"] spTake := ok_take T
  refine T.F__law_few.ok sc__law_few (fun vs H Q E h => ?_) (fun cdv A outer s H vs Q E hr h => ?_)
  · obtain ⟨p, m, rfl, _⟩ := h
    rfl
  obtain ⟨p, m, rfl, hp, hm, q⟩ := h
  refine ⟨_, (pss_cons (ps_set (i := 1) sc__law_few.nd rfl (Or.inl rfl) (pe_lst (pa_cons pe_int (pa_cons (pw_tup (pws_cons (pw_str (E := [])) (pws_cons (pw_tup (pws_cons (pw_int (E := []) (n := 2) pe_int (by decide +kernel) (fun σ H Q q => q)) (pws_cons (pw_int (E := []) (n := -3) (pe_un un_neg pe_int) (by decide +kernel) (fun σ H Q q => ⟨_, rfl, q⟩)) (pws_nil (E := [])))) (by decide)) (pws_nil (E := [])))) (by decide)) (pa_cons (pw_tup (pws_cons (pw_str (E := [])) (pws_cons (pw_int (E := []) (n := 2) pe_int (by decide +kernel) (fun σ H Q q => q)) (pws_cons (pw_tup (pws_cons (pw_str (E := [])) (pws_cons (pw_int (E := []) (n := 3) pe_int (by decide +kernel) (fun σ H Q q => q)) (pws_cons (pw_int (E := []) (n := -1) (pe_un un_neg pe_int) (by decide +kernel) (fun σ H Q q => ⟨_, rfl, q⟩)) (pws_nil (E := []))))) (by decide)) (pws_nil (E := []))))) (by decide)) (pa_cons (pw_tup (pws_cons (pw_str (E := [])) (pws_cons (pw_tup (pws_nil (E := [])) (by decide)) (pws_nil (E := [])))) (by decide)) (pa_cons (pw_tup (pws_cons (pw_str (E := [])) (pws_cons (pw_int (E := []) (n := 2) pe_int (by decide +kernel) (fun σ H Q q => q)) (pws_cons (pw_tup (pws_cons (pw_str (E := [])) (pws_cons (pw_int (E := []) (n := 3) pe_int (by decide +kernel) (fun σ H Q q => q)) (pws_cons (pw_int (E := []) (n := 2) pe_int (by decide +kernel) (fun σ H Q q => q)) (pws_nil (E := []))))) (by decide)) (pws_nil (E := []))))) (by decide)) pa_nil)))))))
      (pss_cons (ps_set (i := 2) sc__law_few.nd rfl (Or.inl rfl) (pe_lst pa_nil))
      (pss_cons (ps_for PassesOwn.never rfl (pi_range1 rfl T.n_range (pa_cons (pe_call g__law_take (hr.mono (by omega)) rfl T.m__law_take T.F__law_take.kp T.b__law_take .nil pass0 (pa_cons (pv 0) (pa_cons pe_int pa_nil))) pa_nil)) (pg_name (i := 3) sc__law_few.nd rfl (Or.inl rfl))
        (pss_cons (ps_par (i := 4) (j := 5) (by rfl) sc__law_few.nd rfl rfl (by decide) rfl rfl (pa_cons (pe_ix (r := rIxL K) ix_list (pv 1) (pe_call g__law_take (hr.mono (by omega)) rfl T.m__law_take T.F__law_take.kp T.b__law_take .nil pass0 (pa_cons (pv 0) (pa_cons pe_int pa_nil))) (fun _ _ => rfl)) (pa_cons (pe_call g__law_take (hr.mono (by omega)) rfl T.m__law_take T.F__law_take.kp T.b__law_take .nil pass0 (pa_cons (pv 0) (pa_cons pe_int pa_nil))) pa_nil)) (by rfl))
        (pss_one (ps_expr (pe_bm PySem.F.plainAttrs_list PySem.F.slot_list_append PySem.F.type_list_append mt_append (pv 2) (pa_cons (pe_ix (r := rIxL K) ix_list (pe_lst (pa_cons (pv 4) (pa_cons (pe_tup (pa_cons pe_str (pa_cons (pe_call g__law_take (hr.mono (by omega)) rfl T.m__law_take T.F__law_take.kp T.b__law_take .nil pass0 (pa_cons (pv 0) (pa_cons pe_int pa_nil))) (pa_cons (pv 4) pa_nil)))) (pa_cons (pe_tup (pa_cons pe_str (pa_cons (pe_tup (pa_cons (pv 4) (pa_cons (pe_ix (r := rIxL K) ix_list (pv 1) pe_int (fun _ _ => rfl)) pa_nil))) pa_nil))) (pa_cons (pe_tup (pa_cons pe_str (pa_cons (pe_tup (pa_cons (pv 4) pa_nil)) pa_nil))) pa_nil))))) (pv 5) (fun _ _ => rfl)) pa_nil))))))
      (pss_one (ps_ret (pe_tup (pa_cons pe_str (pa_cons (pe_callTy (r := rTupS K) call_tupS (by rfl) T.n_tuple (by decide +kernel) (pa_cons (pv 2) pa_nil)) pa_nil)))))))), ?_⟩
  obtain ⟨l0, hl0⟩ := hp.lst
  refine ⟨Ns.nil, fun H1 v1 s1 d1 => ⟨Ns.nil, fun H2 v2 s2 d2 => ⟨Ns.nil, fun H3 v3 s3 d3 => ⟨Ns.nil, fun H4 v4 s4 d4 => ⟨(by show 5 ≤ sizeLine; decide), fun lk hlk => ?_⟩⟩⟩⟩⟩
  have dk : DpAll K H4 [.int 2, v1, v2, v3, v4] (J.toDs fewK) := by
    simp only [fewK, J.toDs, J.toD]
    exact .cons (.int 2) (.cons (dp_same (s2.trans (s3.trans s4)) d1) (.cons (dp_same (s3.trans s4) d2) (.cons (dp_same s4 d3) (.cons d4 .nil))))
  have S4 := s1.trans (s2.trans (s3.trans s4))
  have kl := parts_len dk
  generalize [V.int 2, v1, v2, v3, v4] = kv at dk kl ⊢
  have s5 : Same H4 (upd H4 lk (.lst kv)) := same_new hlk
  have ek : upd H4 lk (.lst kv) lk = some (.lst kv) := upd_same
  have nlk : H lk = none := S4.free hlk
  generalize (upd H4 lk (.lst kv)) = H5 at s5 ek ⊢
  have S5 := S4.trans s5
  refine ⟨(by show 0 ≤ sizeLine; decide), fun l2 hl2 => ?_⟩
  have s6 : Same H5 (upd H5 l2 (.lst [])) := same_new hl2
  have e2 : upd H5 l2 (.lst []) l2 = some (.lst []) := upd_same
  have nl2 : H l2 = none := S5.free hl2
  have nk2 : lk ≠ l2 := fun z => by rw [← z, ek] at hl2; cases hl2
  generalize (upd H5 l2 (.lst [])) = H6 at s6 e2 ⊢
  have S6 := S5.trans s6
  have np2 : l2 ≠ p := fun z => by rw [z, hl0] at nl2; cases nl2
  have npk : lk ≠ p := fun z => by rw [z, hl0] at nlk; cases nlk
  refine ⟨_, rfl, p, m, 7, rfl, hp.same S6, by omega, by decide, by decide, fun B r sB hpB r0 r1 => ?_⟩
  have eB := sB l2 _ np2 e2
  have ekB := sB lk _ npk (s6 _ _ ek)
  have dkB : DpAll K B kv (J.toDs fewK) := by
    obtain ⟨l6, hl6⟩ := (hp.same S6).lst
    exact dpAll_keep (fun a xs z => sB.sqT hl6 z) (J.noLs _) (dpAll_same (s5.trans s6) dk)
  refine ⟨_, rfl, by omega, by omega, ?_⟩
  refine for_range (lo := 0) (n := r.toNat) (fun i σ G => ∃ (y3 y4 y5 : Option V) (ws : List V) (js : List J), σ = [some (.ref p), some (.ref lk), some (.ref l2), y3, y4, y5] ∧ (∀ b o, b ≠ p → b ≠ l2 → B b = some o → G b = some o) ∧
    Pot G p (m + 1 + 3 * i) ∧ G l2 = some (.lst ws) ∧ DpAll K G ws (J.toDs js) ∧ DpAll K G kv (J.toDs fewK) ∧ js.length = i ∧ ∀ j ∈ js, FewOk j) ⟨none, none, none, [], [], rfl, fun b o _ _ h => h, hpB, eB, .nil, dkB, rfl, fun j hj => by cases hj⟩ ?_ ?_
  · rintro i σ G hi ⟨y3, y4, y5, ws, js, rfl, sG, hpG, gl, hw, hk, hlen, hjs⟩
    have wl := parts_len hw
    have ekG := sG lk _ npk nk2 ekB
    refine ⟨_, rfl, _, rfl, p, m + 1 + 3 * i, 5, rfl, hpG, by omega, by decide, by decide, fun G1 r1 t1 hp1 a0 a1 => ?_⟩
    obtain ⟨lg, hlg⟩ := hpG.lst
    obtain ⟨lg1, hlg1⟩ := hp1.lst
    have kk1 : ∀ a xs, SqT K G a xs → SqT K G1 a xs := fun a xs z => t1.sqT hlg z
    obtain ⟨one, z1, z2⟩ := atI_exT (vs := kv) (r := r1) a0 (by rw [kl]; exact a1)
    have hk1 := dpAll_keep kk1 (J.noLs _) hk
    obtain ⟨x, ex, mx, dx⟩ := parts_at hk1 z1
    have ek1 := t1 lk _ npk ekG
    have gl1 := t1 l2 _ np2 gl
    refine ⟨lk, kv, _, _, rfl, rfl, SqL.of ek1, z2, ?_⟩
    refine ⟨_, rfl, p, m + 1 + 3 * i + 1, 4, rfl, hp1, by omega, by decide, by decide, fun G2 r2 t2 hp2 b0 b1 => ?_⟩
    have kk2 : ∀ a xs, SqT K G1 a xs → SqT K G2 a xs := fun a xs z => t2.sqT hlg1 z
    obtain ⟨lg2, hlg2⟩ := hp2.lst
    refine ⟨_, _, rfl, ?_⟩
    have gl2 := t2 l2 _ np2 gl1
    refine ⟨_, rfl, ⟨.inl ⟨rfl, _, SqL.of gl2⟩, _, rfl, _, rfl, p, m + 1 + 3 * i + 1 + 1, 4, rfl, hp2, by omega, by decide, by decide, fun G3 r3 t3 hp3 c0 c1 => ?_⟩⟩
    have kk3 : ∀ a xs, SqT K G2 a xs → SqT K G3 a xs := fun a xs z => t3.sqT hlg2 z
    obtain ⟨lg3, hlg3⟩ := hp3.lst
    have kk := fun a xs z => kk3 a xs (kk2 a xs (kk1 a xs z))
    have dx3 : Dp K G3 one x.toD := dp_keep (fun a xs z => kk3 a xs (kk2 a xs z)) (J.noL _) dx
    have hk3 := dpAll_keep (fun a xs z => kk3 a xs (kk2 a xs z)) (J.noLs _) hk1
    have hw3 := dpAll_keep kk (J.noLs _) hw
    have ek3 := t3 lk _ npk (t2 lk _ npk ek1)
    have gl3 := t3 l2 _ np2 gl2
    have sG3 : ∀ b o, b ≠ p → b ≠ l2 → B b = some o → G3 b = some o := fun b o n1 n2 h => t3 b _ n1 (t2 b _ n1 (t1 b _ n1 (sG b o n1 n2 h)))
    refine ⟨_, rfl, (by show 3 ≤ sizeLine; decide), fun t ht => ?_⟩
    have u1 : Same G3 (upd G3 t (.tup [.str "copies", .int r3, one])) := same_new ht
    have dt1 : Dp K (upd G3 t (.tup [.str "copies", .int r3, one])) (.ref t) (J.rn true r3 x).toD := dp_rn (k := true) upd_same (dp_same u1 dx3)
    generalize (upd G3 t (.tup [.str "copies", .int r3, one])) = G4 at u1 dt1 ⊢
    obtain ⟨w1, w2, w3⟩ : ∃ k1, kv[1]? = some k1 ∧ Dp K G4 k1 (J.ps false [.st 2, .st (-3)]).toD := by
      have h5 : 1 < kv.length := by rw [kl]; decide
      obtain ⟨j1, e1, _, d1⟩ := parts_at (dpAll_same u1 hk3) (List.getElem?_eq_getElem h5)
      have e1' : some (J.ps false [.st 2, .st (-3)]) = some j1 := e1
      cases e1'
      exact ⟨_, List.getElem?_eq_getElem h5, d1⟩
    refine ⟨_, rfl, _, rfl, lk, kv, _, _, rfl, rfl, SqL.of (u1 _ _ ek3), atI_at (j := 1) rfl w2, (by show 2 ≤ sizeLine; decide), fun q1 hq1 => ?_⟩
    obtain ⟨u2, d2'⟩ := tup_fresh (K := K) (ds := J.toDs [x, .ps false [.st 2, .st (-3)]]) hq1 (by simp only [J.toDs]; exact .cons (dp_same u1 dx3) (.cons w3 .nil))
    generalize (upd G4 q1 (.tup [one, w1])) = G5 at u2 d2' ⊢
    refine ⟨(by show 2 ≤ sizeLine; decide), fun q2 hq2 => ?_⟩
    have u3 : Same G5 (upd G5 q2 (.tup [.str "par", .ref q1])) := same_new hq2
    have dt2 : Dp K (upd G5 q2 (.tup [.str "par", .ref q1])) (.ref q2) (J.ps true [x, .ps false [.st 2, .st (-3)]]).toD := dp_ps (k := true) upd_same (dp_same u3 d2')
    generalize (upd G5 q2 (.tup [.str "par", .ref q1])) = G6 at u3 dt2 ⊢
    refine ⟨_, rfl, (by show 1 ≤ sizeLine; decide), fun q3 hq3 => ?_⟩
    obtain ⟨u4, d4'⟩ := tup_fresh (K := K) (ds := J.toDs [x]) hq3 (by simp only [J.toDs]; exact .cons (dp_same (u1.trans (u2.trans u3)) dx3) .nil)
    generalize (upd G6 q3 (.tup [one])) = G7 at u4 d4' ⊢
    refine ⟨(by show 2 ≤ sizeLine; decide), fun q4 hq4 => ?_⟩
    have u5 : Same G7 (upd G7 q4 (.tup [.str "seq", .ref q3])) := same_new hq4
    have dt3 : Dp K (upd G7 q4 (.tup [.str "seq", .ref q3])) (.ref q4) (J.ps false [x]).toD := dp_ps (k := false) upd_same (dp_same u5 d4')
    generalize (upd G7 q4 (.tup [.str "seq", .ref q3])) = G8 at u5 dt3 ⊢
    have all4 : DpAll K G8 [one, .ref t, .ref q2, .ref q4] (J.toDs [x, .rn true r3 x, .ps true [x, .ps false [.st 2, .st (-3)]], .ps false [x]]) := by
      rw [J.toDs, J.toDs, J.toDs, J.toDs, J.toDs]
      exact .cons (dp_same (u1.trans (u2.trans (u3.trans (u4.trans u5)))) dx3) (.cons (dp_same (u2.trans (u3.trans (u4.trans u5))) dt1) (.cons (dp_same (u4.trans u5) dt2) (.cons dt3 .nil)))
    have fo := few_ok (one := x) (c := r3) mx c0 c1
    have U := u1.trans (u2.trans (u3.trans (u4.trans u5)))
    generalize [x, J.rn true r3 x, .ps true [x, .ps false [.st 2, .st (-3)]], .ps false [x]] = js4 at all4 fo
    refine ⟨(by show 4 ≤ sizeLine; decide), fun l4 hl4 => ?_⟩
    have u6 : Same G8 (upd G8 l4 (.lst [one, .ref t, .ref q2, .ref q4])) := same_new hl4
    have e4 : upd G8 l4 (.lst [one, .ref t, .ref q2, .ref q4]) l4 = some (.lst [one, .ref t, .ref q2, .ref q4]) := upd_same
    obtain ⟨y, y1, y2⟩ := atI_exT (vs := [one, .ref t, .ref q2, .ref q4]) (r := r2) b0 b1
    generalize (upd G8 l4 (.lst [one, .ref t, .ref q2, .ref q4])) = G9 at u6 e4 ⊢
    obtain ⟨jy, ey, my, dy⟩ := parts_at (dpAll_same u6 all4) y1
    have U9 := U.trans u6
    have gl9 := U9 _ _ gl3
    refine ⟨_, rfl, l4, _, _, _, rfl, rfl, SqL.of e4, y2, l2, ws, y, rfl, rfl, gl9, (by rw [wl, hlen, sizeLine_eq]; omega), ?_⟩
    have kz : ∀ a xs, SqT K G9 a xs → SqT K (upd G9 l2 (.lst (ws ++ [y]))) a xs := fun a xs z => (sx_upd (p := l2)).sqT gl9 z
    refine ⟨_, _, _, ws ++ [y], js ++ [jy], rfl, fun b o n1 n2 h => by rw [upd_ne n2]; exact U9 _ _ (sG3 b o n1 n2 h), ?_, upd_same, ?_, dpAll_keep kz (J.noLs _) (dpAll_same U9 hk3), by simp [hlen], fun j hj => ?_⟩
    · obtain ⟨c1, c2, c3, p1, p2⟩ := (hp3.same U9).mono (show m + 1 + 3 * i + 1 + 1 + 1 ≤ m + 1 + 3 * (i + 1) by omega)
      exact ⟨c1, c2, c3, by rw [upd_ne np2.symm]; exact p1, p2⟩
    · rw [J.toDs_app]
      exact dpAll_append (dpAll_keep kz (J.noLs _) (dpAll_same U9 hw3)) (.cons (dp_keep kz (J.noL _) dy) .nil)
    · rcases List.mem_append.mp hj with h | h
      · exact hjs j h
      · rw [List.mem_singleton.mp h]
        exact fo jy my
  · rintro σ G ⟨y3, y4, y5, ws, js, rfl, sG, hpG, gl, hw, hk, hlen, hjs⟩
    refine ⟨_, rfl, l2, ws, rfl, .inl ⟨SqL.of gl, fun tt htt => ?_⟩⟩
    refine ⟨(by show 2 ≤ sizeLine; decide), fun t ht => ?_⟩
    have st1 : Same G (upd G tt (.tup ws)) := same_new htt
    have st2 : Same (upd G tt (.tup ws)) (upd (upd G tt (.tup ws)) t (.tup [.str "par", .ref tt])) := same_new ht
    refine q _ _ js (fun b o n h => (st1.trans st2) _ _ (sG b o n (fun z => by rw [z, nl2] at h; cases h) (sB b o n (S6 _ _ h)))) ((hpG.same (st1.trans st2)).mono (by omega)) ?_ (by omega) hjs
    exact dp_ps (k := true) upd_same (dp_same st2 (.tup (SqT.of upd_same) (dpAll_same st1 hw)))
end
/-! block TidyL: _law_limits_right (behind bTidyF) -/
def Good (j : J) : Prop := j.ok ∧ j.nodes ≤ 400 ∧ j.deep ≤ 13
theorem Good.sz {j : J} (g : Good j) : szJ j 400 13 = some (j.nodes, j.steps) := szJ_some j 400 13 g.1 g.2.1 (by have := g.2.2; omega)
theorem Good.isSome {j : J} (g : Good j) : (szJ j 400 13).isSome = true := by rw [g.sz]; rfl
theorem good_of {j : J} (h : (szJ j 400 13).isSome = true) : Good j := by
  obtain ⟨⟨a, b⟩, e⟩ := Option.isSome_iff_exists.mp h
  obtain ⟨q1, q2, q3, _⟩ := szJ_inv j 400 13 a b e
  exact ⟨q1, q2, by omega⟩
theorem toDs_rep (j : J) : ∀ n : Nat, J.toDs (List.replicate n j) = (List.replicate n [j.toD]).flatten
  | 0 => rfl
  | n + 1 => by simp only [List.replicate_succ, J.toDs, List.flatten_cons, toDs_rep j n, List.singleton_append]
def rowJ : J := .ps false [.ps false [.st 0, .st 0], .ps false (List.replicate 120 (.st 1))]
def rowJD : PyData := .tuple [.str "seq", .tuple [.tuple [.str "seq", .tuple [.int 0, .int 0]], .tuple [.str "seq", .tuple (List.replicate 120 [PyData.int 1]).flatten]]]
def envL : List (Nat × PyData) := [(0, rowJD)]
theorem rowJ_is : rowJ.toD = rowJD := by
  simp only [rowJ, J.toD, J.toDs, toDs_rep]
  rfl
def limA : J := .ps false [rowJ, .st 1]
def limA' : J := .ps false (.st 0 :: .st 0 :: List.replicate 121 (.st 1))
def limB : J := .ps true [.ps true (List.replicate 390 (.st 1)), .st 1, .st 2]
def limB' : J := .ps true [.rn true 391 (.st 1), .st 2]
def limC : J := .ps true [nestT 10 10, .st 1, nestT 10 10]
def limC' : J := .ps true [.rn true 2 (nestT 10 10), .st 1]
def limD : J := .ps true [nestT 11 11, .st 1, nestT 11 11]
theorem limA_g : Good limA := good_of (by decide +kernel)
theorem limB_g : Good limB := good_of (by decide +kernel)
theorem limC_g : Good limC := good_of (by decide +kernel)
theorem limD_g : Good limD := good_of (by decide +kernel)
theorem limA_t : limA.tidy = limA' := J.beq_eq _ _ (by decide +kernel)
theorem limB_t : limB.tidy = limB' := J.beq_eq _ _ (by decide +kernel)
theorem limC_t : limC.tidy = limC' := J.beq_eq _ _ (by decide +kernel)
theorem limA_s : (szJ limA.tidy 400 13).isSome = true := by decide +kernel
theorem limB_s : (szJ limB.tidy 400 13).isSome = true := by decide +kernel
theorem limC_s : (szJ limC.tidy 400 13).isSome = true := by decide +kernel
theorem limD_s : (szJ limD.tidy 400 13).isSome = false := by decide +kernel
theorem limA_d : limA.toD = .tuple [.str "seq", .tuple [rowJD, .int 1]] := by
  simp only [limA, J.toD, J.toDs, rowJ_is]
  rfl
theorem limA'_d : limA'.toD = .tuple [.str "seq", .tuple ([.int 0, .int 0] ++ (List.replicate 121 [PyData.int 1]).flatten)] := by
  simp only [limA', J.toD, J.toDs, toDs_rep]
  rfl
theorem limB_d : limB.toD = .tuple [.str "par", .tuple [.tuple [.str "par", .tuple (List.replicate 390 [PyData.int 1]).flatten], .int 1, .int 2]] := by
  simp only [limB, J.toD, J.toDs, toDs_rep]
  rfl
theorem limB'_d : limB'.toD = .tuple [.str "par", .tuple [.tuple [.str "copies", .int 391, .int 1], .int 2]] := by
  simp only [limB', J.toD, J.toDs]
  rfl
def spLim : Sp := fun vs H Q _ => vs = [] ∧ ∀ H', Same H H' → Q (.bl true) H'
section
variable {P : Program} {w : World} {K : PySem.W.Frag} {mg : Str → Option Value} {base : Heap}
theorem ok_lim (T : Txt K mg) : FnOk P w K mg base CX0 66 T.f__law_limits_right T.d__law_limits_right [] spLim := by
  have g_tidy := ok_tidy (P := P) (w := w) (base := base) T
  have g__law_nest := ok_nest (P := P) (w := w) (base := base) T
  have g__law_raised := ok_raised (P := P) (w := w) (base := base) T
  refine T.F__law_limits_right.ok sc__law_limits_right (fun vs H Q E h => ?_) (fun cdv A outer s H vs Q E hr h => ?_)
  · obtain ⟨rfl, _⟩ := h
    rfl
  obtain ⟨rfl, q⟩ := h
  refine ⟨_, (pss_cons (ps_set (i := 0) sc__law_limits_right.nd rfl (Or.inl rfl) (pw_tup (pws_cons (pw_str (E := [])) (pws_cons (pw_tup (pws_cons (pw_tup (pws_cons (pw_str (E := [])) (pws_cons (pw_tup (pws_cons (pw_int (E := []) (n := 0) pe_int (by decide +kernel) (fun σ H Q q => q)) (pws_cons (pw_int (E := []) (n := 0) pe_int (by decide +kernel) (fun σ H Q q => q)) (pws_nil (E := [])))) (by decide)) (pws_nil (E := [])))) (by decide)) (pws_cons (pw_tup (pws_cons (pw_str (E := [])) (pws_cons (pw_rep (k := 120) (pw_tup (pws_cons (pw_int (E := []) (n := 1) pe_int (by decide +kernel) (fun σ H Q q => q)) (pws_nil (E := []))) (by decide)) pe_int (by decide) (by decide) (fun z => by cases z) (by decide)) (pws_nil (E := [])))) (by decide)) (pws_nil (E := [])))) (by decide)) (pws_nil (E := [])))) (by decide)))
      (pss_cons (ps_if (pt_cmpR (r := rNeD K) (op_neD hr.units) (pe_call g_tidy (hr.mono (by omega)) rfl T.m_tidy T.F_tidy.kp T.b_tidy .nil passN (pa_cons (pw_tup (pws_cons (pw_str (E := envL)) (pws_cons (pw_tup (pws_cons (pw_var (E := envL) (pv 0) (.head _)) (pws_cons (pw_int (E := envL) (n := 1) pe_int (by decide +kernel) (fun σ H Q q => q)) (pws_nil (E := envL)))) (by decide)) (pws_nil (E := envL)))) (by decide)) pa_nil)) (pw_tup (pws_cons (pw_str (E := [])) (pws_cons (pw_cat (pw_tup (pws_cons (pw_int (E := []) (n := 0) pe_int (by decide +kernel) (fun σ H Q q => q)) (pws_cons (pw_int (E := []) (n := 0) pe_int (by decide +kernel) (fun σ H Q q => q)) (pws_nil (E := [])))) (by decide)) (pw_rep (k := 121) (pw_tup (pws_cons (pw_int (E := []) (n := 1) pe_int (by decide +kernel) (fun σ H Q q => q)) (pws_nil (E := []))) (by decide)) pe_int (by decide) (by decide) (fun z => by cases z) (by decide)) (by decide)) (pws_nil (E := [])))) (by decide)) (nomark _)) (pss_one (ps_ret pe_bl)) pss_nil)
      (pss_cons (ps_if (pt_cmpR (r := rNeD K) (op_neD hr.units) (pe_call g_tidy (hr.mono (by omega)) rfl T.m_tidy T.F_tidy.kp T.b_tidy .nil passN (pa_cons (pw_tup (pws_cons (pw_str (E := [])) (pws_cons (pw_tup (pws_cons (pw_tup (pws_cons (pw_str (E := [])) (pws_cons (pw_rep (k := 390) (pw_tup (pws_cons (pw_int (E := []) (n := 1) pe_int (by decide +kernel) (fun σ H Q q => q)) (pws_nil (E := []))) (by decide)) pe_int (by decide) (by decide) (fun z => by cases z) (by decide)) (pws_nil (E := [])))) (by decide)) (pws_cons (pw_int (E := []) (n := 1) pe_int (by decide +kernel) (fun σ H Q q => q)) (pws_cons (pw_int (E := []) (n := 2) pe_int (by decide +kernel) (fun σ H Q q => q)) (pws_nil (E := []))))) (by decide)) (pws_nil (E := [])))) (by decide)) pa_nil)) (pw_tup (pws_cons (pw_str (E := [])) (pws_cons (pw_tup (pws_cons (pw_tup (pws_cons (pw_str (E := [])) (pws_cons (pw_int (E := []) (n := 391) pe_int (by decide +kernel) (fun σ H Q q => q)) (pws_cons (pw_int (E := []) (n := 1) pe_int (by decide +kernel) (fun σ H Q q => q)) (pws_nil (E := []))))) (by decide)) (pws_cons (pw_int (E := []) (n := 2) pe_int (by decide +kernel) (fun σ H Q q => q)) (pws_nil (E := [])))) (by decide)) (pws_nil (E := [])))) (by decide)) (nomark _)) (pss_one (ps_ret pe_bl)) pss_nil)
      (pss_cons (ps_if (pt_cmpR (r := rNeD K) (op_neD hr.units) (pe_call g_tidy (hr.mono (by omega)) rfl T.m_tidy T.F_tidy.kp T.b_tidy .nil passN (pa_cons (pe_tup (pa_cons pe_str (pa_cons (pe_tup (pa_cons (pe_call g__law_nest (hr.mono (by omega)) rfl T.m__law_nest T.F__law_nest.kp T.b__law_nest .nil pass0 (pa_cons pe_int pa_nil)) (pa_cons pe_int (pa_cons (pe_call g__law_nest (hr.mono (by omega)) rfl T.m__law_nest T.F__law_nest.kp T.b__law_nest .nil pass0 (pa_cons pe_int pa_nil)) pa_nil)))) pa_nil))) pa_nil)) (pe_tup (pa_cons pe_str (pa_cons (pe_tup (pa_cons (pe_tup (pa_cons pe_str (pa_cons pe_int (pa_cons (pe_call g__law_nest (hr.mono (by omega)) rfl T.m__law_nest T.F__law_nest.kp T.b__law_nest .nil pass0 (pa_cons pe_int pa_nil)) pa_nil)))) (pa_cons pe_int pa_nil))) pa_nil))) (nomark _)) (pss_one (ps_ret pe_bl)) pss_nil)
      (pss_one (ps_ret (pe_call g__law_raised (hr.mono (by omega)) rfl T.m__law_raised T.F__law_raised.kp T.b__law_raised .nil pass0 (pa_cons (pe_tup (pa_cons pe_str (pa_cons (pe_tup (pa_cons (pe_call g__law_nest (hr.mono (by omega)) rfl T.m__law_nest T.F__law_nest.kp T.b__law_nest .nil pass0 (pa_cons pe_int pa_nil)) (pa_cons pe_int (pa_cons (pe_call g__law_nest (hr.mono (by omega)) rfl T.m__law_nest T.F__law_nest.kp T.b__law_nest .nil pass0 (pa_cons pe_int pa_nil)) pa_nil)))) pa_nil))) pa_nil)))))))), ?_⟩
  refine ⟨Ns.nil, fun H1 v0 s1 d1 => ?_⟩
  have d1' : Dp K H1 v0 rowJD := d1
  refine ⟨Ns.cons rfl d1' Ns.nil, fun H2 v2 s2 d2 => ?_⟩
  refine ⟨v2, limA, rfl, by rw [limA_d]; exact d2, limA_g.1, limA_g.2.1, limA_g.2.2, fun _ H3 r3 s3 d3 => ?_, fun z => by rw [limA_s] at z; cases z⟩
  rw [limA_t] at d3
  refine ⟨Ns.nil, fun H4 v4 s4 d4 => ?_⟩
  rw [← limA'_d] at d4
  refine ⟨_, _, dp_same s4 d3, d4, J.shaped limA' (by decide +kernel), J.shaped limA' (by decide +kernel), _, rfl, ?_⟩
  refine iteFx (by rw [J.eqv]; rfl) ?_
  have S4 := s1.trans (s2.trans (s3.trans s4))
  refine ⟨Ns.nil, fun H5 v5 s5 d5 => ?_⟩
  refine ⟨v5, limB, rfl, by rw [limB_d]; exact d5, limB_g.1, limB_g.2.1, limB_g.2.2, fun _ H6 r6 s6 d6 => ?_, fun z => by rw [limB_s] at z; cases z⟩
  rw [limB_t] at d6
  refine ⟨Ns.nil, fun H7 v7 s7 d7 => ?_⟩
  rw [← limB'_d] at d7
  refine ⟨_, _, dp_same s7 d6, d7, J.shaped limB' (by decide +kernel), J.shaped limB' (by decide +kernel), _, rfl, ?_⟩
  refine iteFx (by rw [J.eqv]; rfl) ?_
  have S7 := S4.trans (s5.trans (s6.trans s7))
  refine ⟨10, rfl, by decide, fun H8 n8 s8 d8 => ⟨10, rfl, by decide, fun H9 n9 s9 d9 => ⟨(by show 3 ≤ sizeLine; decide), fun t1 ht1 => ⟨(by show 2 ≤ sizeLine; decide), fun t2 ht2 => ?_⟩⟩⟩⟩
  obtain ⟨s10, d10⟩ := tup_fresh (K := K) (ds := J.toDs [nestT 10 10, .st 1, nestT 10 10]) ht1 (by rw [J.toDs, J.toDs, J.toDs, J.toDs]; exact .cons (dp_same s9 d8) (.cons (by simp only [J.toD]; exact .int 1) (.cons d9 .nil)))
  generalize (upd H9 t1 (.tup [n8, .int 1, n9])) = H10 at s10 d10 ht2 ⊢
  have s11 : Same H10 (upd H10 t2 (.tup [.str "par", .ref t1])) := same_new ht2
  have d11 : Dp K (upd H10 t2 (.tup [.str "par", .ref t1])) (.ref t2) limC.toD := dp_ps (k := true) upd_same (dp_same s11 d10)
  generalize (upd H10 t2 (.tup [.str "par", .ref t1])) = H11 at s11 d11 ⊢
  refine ⟨.ref t2, limC, rfl, d11, limC_g.1, limC_g.2.1, limC_g.2.2, fun _ H12 r12 s12 d12 => ?_, fun z => by rw [limC_s] at z; cases z⟩
  rw [limC_t] at d12
  refine ⟨10, rfl, by decide, fun H13 n13 s13 d13 => ⟨(by show 3 ≤ sizeLine; decide), fun t3 ht3 => ?_⟩⟩
  have s14 : Same H13 (upd H13 t3 (.tup [.str "copies", .int 2, n13])) := same_new ht3
  have d14 : Dp K (upd H13 t3 (.tup [.str "copies", .int 2, n13])) (.ref t3) (J.rn true 2 (nestT 10 10)).toD := dp_rn (k := true) upd_same (dp_same s14 d13)
  generalize (upd H13 t3 (.tup [.str "copies", .int 2, n13])) = H14 at s14 d14 ⊢
  refine ⟨(by show 2 ≤ sizeLine; decide), fun t4 ht4 => ⟨(by show 2 ≤ sizeLine; decide), fun t5 ht5 => ?_⟩⟩
  obtain ⟨s15, d15⟩ := tup_fresh (K := K) (ds := J.toDs [.rn true 2 (nestT 10 10), .st 1]) ht4 (by rw [J.toDs, J.toDs, J.toDs]; exact .cons d14 (.cons (by simp only [J.toD]; exact .int 1) .nil))
  generalize (upd H14 t4 (.tup [.ref t3, .int 1])) = H15 at s15 d15 ht5 ⊢
  have s16 : Same H15 (upd H15 t5 (.tup [.str "par", .ref t4])) := same_new ht5
  have d16 : Dp K (upd H15 t5 (.tup [.str "par", .ref t4])) (.ref t5) limC'.toD := dp_ps (k := true) upd_same (dp_same s16 d15)
  generalize (upd H15 t5 (.tup [.str "par", .ref t4])) = H16 at s16 d16 ⊢
  refine ⟨_, _, dp_same (s13.trans (s14.trans (s15.trans s16))) d12, d16, J.shaped limC' (by decide +kernel), J.shaped limC' (by decide +kernel), _, rfl, ?_⟩
  refine iteFx (by rw [J.eqv]; rfl) ?_
  have S16 := S7.trans (s8.trans (s9.trans (s10.trans (s11.trans (s12.trans (s13.trans (s14.trans (s15.trans s16))))))))
  refine ⟨11, rfl, by decide, fun H17 n17 s17 d17 => ⟨11, rfl, by decide, fun H18 n18 s18 d18 => ⟨(by show 3 ≤ sizeLine; decide), fun t6 ht6 => ⟨(by show 2 ≤ sizeLine; decide), fun t7 ht7 => ?_⟩⟩⟩⟩
  obtain ⟨s19, d19⟩ := tup_fresh (K := K) (ds := J.toDs [nestT 11 11, .st 1, nestT 11 11]) ht6 (by rw [J.toDs, J.toDs, J.toDs, J.toDs]; exact .cons (dp_same s18 d17) (.cons (by simp only [J.toD]; exact .int 1) (.cons d18 .nil)))
  generalize (upd H18 t6 (.tup [n17, .int 1, n18])) = H19 at s19 d19 ht7 ⊢
  have s20 : Same H19 (upd H19 t7 (.tup [.str "par", .ref t6])) := same_new ht7
  have d20 : Dp K (upd H19 t7 (.tup [.str "par", .ref t6])) (.ref t7) limD.toD := dp_ps (k := true) upd_same (dp_same s20 d19)
  refine ⟨.ref t7, limD, rfl, d20, limD_g.1, limD_g.2.1, limD_g.2.2, fun H21 s21 => ?_⟩
  rw [limD_s]
  exact q _ (S16.trans (s17.trans (s18.trans (s19.trans (s20.trans s21)))))
end
/-! block Net: _net_and_lowest, _net_and_lowest_of_seq, net, lowest -/
def spNl (K : PySem.W.Frag) (n : Nat) : Sp := fun vs H Q _ => ∃ (v : V) (j : J), vs = [v] ∧ Dp K H v j.toD ∧ j.deep ≤ n ∧ j.ok ∧ ∀ (H' : Hp) (t : Addr), Same H H' → H' t = some (.tup [.int j.net, .int j.low]) → Q (.ref t) H'
def spNls (K : PySem.W.Frag) (n : Nat) : Sp := fun vs H Q _ => ∃ (b : Addr) (vs' : List V) (xs : List J), vs = [.ref b] ∧ SqT K H b vs' ∧ DpAll K H vs' (J.toDs xs) ∧ J.deepL xs ≤ n ∧ J.okL xs ∧
  ∀ (H' : Hp) (t : Addr), Same H H' → H' t = some (.tup [.int (J.netL xs), .int (J.lowS xs)]) → Q (.ref t) H'
/-- low as the loop finds it -/
def lowFrom : Int → Int → List J → Int
  | _, low, [] => low
  | before, low, x :: xs => lowFrom (before + x.net) (min low (before + x.low)) xs
theorem lowFrom_eq : ∀ (xs : List J) (before low : Int), J.okL xs → low ≤ before → lowFrom before low xs = min low (before + J.lowS xs)
  | [], before, low, _, h => by simp only [lowFrom, J.lowS]; omega
  | x :: xs, before, low, o, h => by
    simp only [J.okL] at o
    have h1 := J.low_le x o.1
    have h2 := J.lowS_le xs o.2
    simp only [lowFrom, J.lowS]
    rw [lowFrom_eq xs _ _ o.2 (by omega)]
    omega
theorem J.netL_sum : ∀ xs : List J, (xs.map J.net).sum = J.netL xs
  | [] => by simp [J.netL]
  | x :: xs => by simp only [List.map_cons, List.sum_cons, J.netL, J.netL_sum xs]
theorem J.lowL_sum : ∀ xs : List J, (xs.map J.low).sum = J.lowL xs
  | [] => by simp [J.lowL]
  | x :: xs => by simp only [List.map_cons, List.sum_cons, J.lowL, J.lowL_sum xs]
theorem min_ite (a b : Int) : (if b < a then b else a) = min a b := by
  split <;> omega
section
variable {P : Program} {w : World} {K : PySem.W.Frag} {mg : Str → Option Value} {base : Heap}
theorem ok_nls (T : Txt K mg) {n k : Nat} (g__net_and_lowest : FnOk P w K mg base CX0 k T.f__net_and_lowest T.d__net_and_lowest ["job"] (spNl K n)) :
    FnOk P w K mg base CX0 (k + 1) T.f__net_and_lowest_of_seq T.d__net_and_lowest_of_seq ["parts"] (spNls K n) := by
  refine T.F__net_and_lowest_of_seq.ok sc__net_and_lowest_of_seq (fun vs H Q E h => ?_) (fun cdv A outer s H vs Q E hr h => ?_)
  · obtain ⟨b, vs', xs, rfl, _⟩ := h
    rfl
  obtain ⟨b, vs', xs, rfl, hb, hall, hn, hok, q⟩ := h
  refine ⟨_, (pss_cons (ps_set (i := 1) sc__net_and_lowest_of_seq.nd rfl (Or.inl rfl) pe_int)
      (pss_cons (ps_set (i := 2) sc__net_and_lowest_of_seq.nd rfl (Or.inl rfl) pe_int)
      (pss_cons (ps_for PassesOwn.never rfl (pi_tup (pv 0)) (pg_name (i := 3) sc__net_and_lowest_of_seq.nd rfl (Or.inl rfl))
        (pss_cons (ps_asg (pe_call g__net_and_lowest (hr.mono (by omega)) rfl T.m__net_and_lowest T.F__net_and_lowest.kp T.b__net_and_lowest .nil pass0 (pa_cons (pv 3) pa_nil)) (pg_tup (by rfl) (pgs_cons (pg_name (i := 4) sc__net_and_lowest_of_seq.nd rfl (Or.inl rfl)) (pgs_cons (pg_name (i := 5) sc__net_and_lowest_of_seq.nd rfl (Or.inl rfl)) pgs_nil))))
        (pss_cons (ps_set (i := 2) sc__net_and_lowest_of_seq.nd rfl (Or.inl rfl) (pe_callB (call_min2 rfl) (by rfl) T.n_min (by decide +kernel) (pa_cons (pv 2) (pa_cons (pe_op op_add (pv 1) (pv 5)) pa_nil))))
        (pss_one (ps_aug (i := 1) sc__net_and_lowest_of_seq.nd rfl (Or.inl rfl) (pv 4) ip_add)))))
      (pss_one (ps_ret (pe_tup (pa_cons (pv 1) (pa_cons (pv 2) pa_nil)))))))), ?_⟩
  refine ⟨_, rfl, b, rfl, ⟨vs', hb⟩, ?_⟩
  refine for_tup (K := K) (a := b) (xs := vs') (fun i σ H' => ∃ (before low : Int) (y3 y4 y5 : Option V), σ = [some (.ref b), some (.int before), some (.int low), y3, y4, y5] ∧ Same H H' ∧
    before + J.netL (xs.drop i) = J.netL xs ∧ lowFrom before low (xs.drop i) = lowFrom 0 0 xs) ⟨0, 0, none, none, none, rfl, Same.refl _, by rw [List.drop_zero]; omega, rfl⟩ (fun i σ H' _ ⟨_, _, _, _, _, _, s1, _⟩ => same_sqT s1 hb) ?_ ?_
  · rintro i x σ H' hi ⟨before, low, y3, y4, y5, rfl, s1, e1, e2⟩
    obtain ⟨j, ej, mj, dj⟩ := parts_at hall hi
    obtain ⟨hij, ej'⟩ := List.getElem?_eq_some_iff.mp ej
    have hdrop : xs.drop i = j :: xs.drop (i + 1) := by rw [← ej']; exact List.drop_eq_getElem_cons hij
    rw [hdrop] at e1 e2
    simp only [J.netL, lowFrom] at e1 e2
    refine ⟨_, rfl, x, j, rfl, dp_same s1 dj, by have := deep_mem mj; omega, ok_mem hok mj, fun H2 t s2 ht => ?_⟩
    refine ⟨t, _, rfl, SqT.of ht, rfl, _, _, rfl, _, _, rfl, rfl, ?_⟩
    refine ⟨_, rfl, _, rfl, _, rfl, _, _, rfl, rfl, _, _, rfl, ?_⟩
    refine ⟨_, rfl, _, rfl, _, _, rfl, rfl, ?_⟩
    refine ⟨_, _, _, _, _, rfl, s1.trans s2, by show before + j.net + J.netL (xs.drop (i + 1)) = J.netL xs; omega, ?_⟩
    rw [min_ite]
    exact e2
  · rintro σ H' ⟨before, low, y3, y4, y5, rfl, s1, e1, e2⟩
    have el : vs'.length = xs.length := parts_len hall
    rw [el, List.drop_length] at e1 e2
    simp only [J.netL, lowFrom] at e1 e2
    refine ⟨_, rfl, _, rfl, (by show 2 ≤ sizeLine; decide), fun t ht => ?_⟩
    have l1 := lowFrom_eq xs 0 0 hok (by omega)
    have l2 := J.lowS_le xs hok
    refine q _ t (s1.trans (same_new ht)) ?_
    rw [upd_same, e2, l1]
    have x1 : before = J.netL xs := by omega
    have x2 : min 0 (0 + J.lowS xs) = J.lowS xs := by omega
    rw [x1, x2]
theorem ok_nl_next (T : Txt K mg) {n : Nat} (g__net_and_lowest : FnOk P w K mg base CX0 (2 * n + 1) T.f__net_and_lowest T.d__net_and_lowest ["job"] (spNl K n)) :
    FnOk P w K mg base CX0 (2 * (n + 1) + 1) T.f__net_and_lowest T.d__net_and_lowest ["job"] (spNl K (n + 1)) := by
  have g_is_integer : FnOk P w K mg base CX0 1 T.f_is_integer T.d_is_integer ["value"] (spIsInt K) := ok_isint T
  have g__net_and_lowest_of_seq := ok_nls T g__net_and_lowest
  refine T.F__net_and_lowest.ok sc__net_and_lowest (fun vs H Q E h => ?_) (fun cdv A outer s H vs Q E hr h => ?_)
  · obtain ⟨v, j, rfl, _⟩ := h
    rfl
  obtain ⟨v, j, rfl, hd, hn, hok, q⟩ := h
  refine ⟨_, (pss_cons (ps_if (pt_val (pe_call g_is_integer (hr.mono (by omega)) rfl T.m_is_integer T.F_is_integer.kp T.b_is_integer .nil pass0 (pa_cons (pv 0) pa_nil))) (pss_one (ps_ret (pe_tup (pa_cons (pv 0) (pa_cons (pe_callB (call_min2 rfl) (by rfl) T.n_min (by decide +kernel) (pa_cons pe_int (pa_cons (pv 0) pa_nil))) pa_nil))))) pss_nil)
      (pss_cons (ps_if (pt_cmpR op_eq (pe_ix (r := rIxT K) ix_tup (pv 0) pe_int (fun _ _ => rfl)) pe_str (nomark _)) (pss_one (ps_ret (pe_call g__net_and_lowest_of_seq (hr.mono (by omega)) rfl T.m__net_and_lowest_of_seq T.F__net_and_lowest_of_seq.kp T.b__net_and_lowest_of_seq .nil pass0 (pa_cons (pe_ix (r := rIxT K) ix_tup (pv 0) pe_int (fun _ _ => rfl)) pa_nil)))) pss_nil)
      (pss_cons (ps_if (pt_cmpR op_eq (pe_ix (r := rIxT K) ix_tup (pv 0) pe_int (fun _ _ => rfl)) pe_str (nomark _)) (pss_cons (ps_setLc (i := 1) (own := [("part", 5)]) (g := (gName 5)) (by rfl) sc__net_and_lowest.nd rfl rfl (sw_true rfl rfl rfl (by decide +kernel)) (pi_tup (pe_ix (r := rIxT K) ix_tup (pv 0) pe_int (fun _ _ => rfl))) (blkOk_by (N := N__net_and_lowest) (sc := (defScope s__net_and_lowest)) (by decide +kernel)) (fun _ _ _ _ _ => (pg_name (i := 5) sc__net_and_lowest.nd rfl (Or.inl rfl))) (fun _ _ _ _ _ => pts_nil) (fun _ _ _ _ _ => (pe_call g__net_and_lowest (hr.mono (by omega)) rfl T.m__net_and_lowest T.F__net_and_lowest.kp T.b__net_and_lowest .nil pass0 (pa_cons (pv 5) pa_nil))))
        (pss_one (ps_ret (pe_tup (pa_cons (pe_callB (r := rSum K) (cr_sum rfl) (by rfl) T.n_sum (by decide +kernel) (pa_cons (pe_lc (own := [("pair", 6)]) (g := (gName 6)) (by rfl) sc__net_and_lowest.nd (pi_list (pv 1)) (blkOk_by (N := N__net_and_lowest) (sc := (defScope s__net_and_lowest)) (by decide +kernel)) (fun _ _ _ _ _ => (pg_name (i := 6) sc__net_and_lowest.nd rfl (Or.inl rfl))) (fun _ _ _ _ _ => pts_nil) (fun _ _ _ _ _ => (pe_ix (r := rIxT K) ix_tup (pv 6) pe_int (fun _ _ => rfl)))) pa_nil)) (pa_cons (pe_callB (r := rSum K) (cr_sum rfl) (by rfl) T.n_sum (by decide +kernel) (pa_cons (pe_lc (own := [("pair", 6)]) (g := (gName 6)) (by rfl) sc__net_and_lowest.nd (pi_list (pv 1)) (blkOk_by (N := N__net_and_lowest) (sc := (defScope s__net_and_lowest)) (by decide +kernel)) (fun _ _ _ _ _ => (pg_name (i := 6) sc__net_and_lowest.nd rfl (Or.inl rfl))) (fun _ _ _ _ _ => pts_nil) (fun _ _ _ _ _ => (pe_ix (r := rIxT K) ix_tup (pv 6) pe_int (fun _ _ => rfl)))) pa_nil)) pa_nil)))))) pss_nil)
      (pss_cons (ps_set (i := 2) sc__net_and_lowest.nd rfl (Or.inl rfl) (pe_ix (r := rIxT K) ix_tup (pv 0) pe_int (fun _ _ => rfl)))
      (pss_cons (ps_asg (pe_call g__net_and_lowest (hr.mono (by omega)) rfl T.m__net_and_lowest T.F__net_and_lowest.kp T.b__net_and_lowest .nil pass0 (pa_cons (pe_ix (r := rIxT K) ix_tup (pv 0) pe_int (fun _ _ => rfl)) pa_nil)) (pg_tup (by rfl) (pgs_cons (pg_name (i := 3) sc__net_and_lowest.nd rfl (Or.inl rfl)) (pgs_cons (pg_name (i := 4) sc__net_and_lowest.nd rfl (Or.inl rfl)) pgs_nil))))
      (pss_cons (ps_if (pt_cmpR op_eq (pv 2) pe_int (nomark _)) (pss_one (ps_ret (pe_tup (pa_cons pe_int (pa_cons pe_int pa_nil))))) pss_nil)
      (pss_cons (ps_if (pt_cmpR op_eq (pe_ix (r := rIxT K) ix_tup (pv 0) pe_int (fun _ _ => rfl)) pe_str (nomark _)) (pss_one (ps_ret (pe_tup (pa_cons (pe_op op_mulW (pv 2) (pv 3)) (pa_cons (pe_op op_mulW (pv 2) (pv 4)) pa_nil))))) pss_nil)
      (pss_one (ps_ret (pe_tup (pa_cons (pe_op op_mulW (pv 2) (pv 3)) (pa_cons (pe_op op_add (pv 4) (pe_op op_mulW (pe_op op_sub (pv 2) pe_int) (pe_callB (call_min2 rfl) (by rfl) T.n_min (by decide +kernel) (pa_cons pe_int (pa_cons (pv 3) pa_nil))))) pa_nil)))))))))))), ?_⟩
  cases j with
  | st i =>
    obtain rfl := dp_int_inv hd
    simp only [J.net, J.low] at q
    refine ⟨_, rfl, _, .int i, rfl, .int i, _, rfl, ?_⟩
    refine iteT ?_
    refine ⟨_, rfl, _, rfl, _, _, rfl, (by show 2 ≤ sizeLine; decide), fun t ht => ?_⟩
    refine q _ t (same_new ht) ?_
    rw [upd_same, min_ite]
  | ps k xs =>
    simp only [J.deep] at hn
    simp only [J.ok] at hok
    have hd0 := hd
    obtain ⟨a, b, vs, rfl, hys, hvs, hall⟩ := ps_inv hd
    refine ⟨_, rfl, _, _, rfl, hd0, _, rfl, ?_⟩
    rw [J.toD]
    refine iteF ?_
    refine ⟨_, rfl, _, _, _, _, rfl, rfl, hys, rfl, rfl, _, rfl, ?_⟩
    rw [w_seq]
    cases k with
    | false =>
      refine iteT ?_
      simp only [J.net, J.low] at q
      refine ⟨_, rfl, _, _, _, _, rfl, rfl, hys, rfl, b, vs, xs, rfl, hvs, hall, by omega, hok.2.1, fun H2 t s2 ht => ?_⟩
      exact q _ t s2 ht
    | true =>
      refine iteF ?_
      refine ⟨_, rfl, _, _, _, _, rfl, rfl, hys, rfl, rfl, _, rfl, ?_⟩
      rw [w_par]
      refine iteT ?_
      simp only [J.net, J.low] at q
      refine ⟨_, rfl, _, _, _, _, rfl, rfl, hys, rfl, b, rfl, ⟨vs, hvs⟩, fun D hD => ?_⟩
      have el : vs.length = xs.length := parts_len hall
      refine lc_tup (K := K) (a := b) (xs := vs) (fun i H' => Same H H' ∧ ∃ ts : List Addr, ts.length = i ∧ H' D = some (.lst (ts.map V.ref)) ∧ ∀ (m : Nat) (t : Addr) (j : J), ts[m]? = some t → xs[m]? = some j → H' t = some (.tup [.int j.net, .int j.low])) ?_ ?_ ?_ ?_
      · exact ⟨same_new hD, [], rfl, upd_same, fun m t j z => by simp at z⟩
      · rintro i H' _ ⟨s2, _⟩
        exact same_sqT s2 hvs
      · rintro i x H' hi ⟨s2, ts, lt, eD, hts⟩
        obtain ⟨j, ej, mj, dj⟩ := parts_at hall hi
        refine ⟨rfl, ?_⟩
        unfold tYes
        refine iteT ?_
        refine ⟨_, rfl, x, j, rfl, dp_same s2 dj, by have := deep_mem mj; omega, ok_mem hok.2.1 mj, fun H3 t s3 ht => ?_⟩
        have il : i < vs.length := (List.getElem?_eq_some_iff.mp hi).1
        have eD3 := s3 _ _ eD
        refine ⟨_, eD3, ?_, ?_, ts ++ [t], ?_, ?_, ?_⟩
        · rw [List.length_map]
          exact small1000 (by omega)
        · intro c o hc
          rw [upd_ne (ne_of_none hc hD)]
          exact s3 _ _ (s2 _ _ hc)
        · rw [List.length_append, List.length_singleton, lt]
        · rw [upd_same, List.map_append]
          rfl
        · intro m t2 j2 z1 z2
          have ntD : t2 ≠ D → (upd H3 D (.lst (ts.map V.ref ++ [V.ref t]))) t2 = H3 t2 := fun z => upd_ne z
          by_cases hm : m < ts.length
          · rw [List.getElem?_append_left hm] at z1
            have g := s3 _ _ (hts m t2 j2 z1 z2)
            rw [ntD (ne_of g eD3 (by intro z; cases z))]
            exact g
          · have hm2 : m = ts.length := by
              have := (List.getElem?_eq_some_iff.mp z1).1
              rw [List.length_append, List.length_singleton] at this
              omega
            subst hm2
            rw [List.getElem?_append_right (Nat.le_refl _), Nat.sub_self] at z1
            have e1 : t = t2 := Option.some.inj z1
            subst e1
            rw [lt] at z2
            rw [ej] at z2
            have e2 : j = j2 := Option.some.inj z2
            subst e2
            rw [ntD (ne_of ht eD3 (by intro z; cases z))]
            exact ht
      · rintro H' ⟨s2, ts, lt, eD, hts⟩
        -- the two sums
        have lts : ts.length = xs.length := by rw [lt, el]
        have half : ∀ (H4 : Hp) (g : J → Int) (s4 : Same H' H4) (Z : Addr) (hZ : H4 Z = none) (H5 : Hp), Same H4 H5 → True := fun _ _ _ _ _ _ _ => trivial
        refine ⟨_, rfl, D, rfl, ⟨_, SqL.of eD⟩, fun Z hZ => ?_⟩
        refine lc_list (K := K) (a := D) (xs := ts.map V.ref) (fun i H4 => Same H' H4 ∧ H4 Z = some (.lst (((xs.take i).map J.net).map V.int))) ⟨same_new hZ, upd_same⟩ (fun i H4 _ ⟨s4, _⟩ => SqL.of (s4 _ _ eD)) ?_ ?_
        · rintro i x H4 hi ⟨s4, eZ⟩
          rw [List.getElem?_map] at hi
          obtain ⟨t, et, rfl⟩ := Option.map_eq_some_iff.mp hi
          have il : i < ts.length := (List.getElem?_eq_some_iff.mp et).1
          have ij : i < xs.length := by omega
          have ht := s4 _ _ (hts i t _ et (List.getElem?_eq_getElem ij))
          refine ⟨rfl, ?_⟩
          unfold tYes
          refine iteT ?_
          refine ⟨_, rfl, _, _, _, _, rfl, rfl, SqT.of ht, rfl, _, eZ, ?_, ?_, ?_⟩
          · rw [List.length_map, List.length_map, List.length_take]
            exact small1000 (by omega)
          · intro c o hc
            rw [upd_ne (ne_of_none hc hZ)]
            exact s4 _ _ hc
          · rw [upd_same, take_step J.net (List.getElem?_eq_getElem ij), List.map_append]
            rfl
        · rintro H4 ⟨s4, eZ⟩
          rw [List.length_map, lts, List.take_length] at eZ
          refine ⟨Z, xs.map J.net, rfl, SqL.of eZ, ?_⟩
          refine ⟨_, rfl, D, rfl, ⟨_, SqL.of (s4 _ _ eD)⟩, fun Y hY => ?_⟩
          refine lc_list (K := K) (a := D) (xs := ts.map V.ref) (fun i H5 => Same H4 H5 ∧ H5 Y = some (.lst (((xs.take i).map J.low).map V.int))) ⟨same_new hY, upd_same⟩ (fun i H5 _ ⟨s5, _⟩ => SqL.of (s5 _ _ (s4 _ _ eD))) ?_ ?_
          · rintro i x H5 hi ⟨s5, eY⟩
            rw [List.getElem?_map] at hi
            obtain ⟨t, et, rfl⟩ := Option.map_eq_some_iff.mp hi
            have il : i < ts.length := (List.getElem?_eq_some_iff.mp et).1
            have ij : i < xs.length := by omega
            have ht := s5 _ _ (s4 _ _ (hts i t _ et (List.getElem?_eq_getElem ij)))
            refine ⟨rfl, ?_⟩
            unfold tYes
            refine iteT ?_
            refine ⟨_, rfl, _, _, _, _, rfl, rfl, SqT.of ht, rfl, _, eY, ?_, ?_, ?_⟩
            · rw [List.length_map, List.length_map, List.length_take]
              exact small1000 (by omega)
            · intro c o hc
              rw [upd_ne (ne_of_none hc hY)]
              exact s5 _ _ hc
            · rw [upd_same, take_step J.low (List.getElem?_eq_getElem ij), List.map_append]
              rfl
          · rintro H5 ⟨s5, eY⟩
            rw [List.length_map, lts, List.take_length] at eY
            refine ⟨Y, xs.map J.low, rfl, SqL.of eY, ?_⟩
            refine ⟨(by show 2 ≤ sizeLine; decide), fun u hu => ?_⟩
            refine q _ u (s2.trans (s4.trans (s5.trans (same_new hu)))) ?_
            rw [upd_same, J.netL_sum, J.lowL_sum]
  | rn k c x =>
    simp only [J.deep] at hn
    simp only [J.ok] at hok
    have hd0 := hd
    obtain ⟨a, v, rfl, hys, hx⟩ := rn_inv hd
    refine ⟨_, rfl, _, _, rfl, hd0, _, rfl, ?_⟩
    rw [J.toD]
    refine iteF ?_
    refine ⟨_, rfl, _, _, _, _, rfl, rfl, hys, rfl, rfl, _, rfl, ?_⟩
    rw [w_seq_no]
    refine iteF ?_
    refine ⟨_, rfl, _, _, _, _, rfl, rfl, hys, rfl, rfl, _, rfl, ?_⟩
    rw [w_par_no]
    refine iteF ?_
    refine ⟨_, rfl, _, _, _, _, rfl, rfl, hys, rfl, ?_⟩
    refine ⟨_, rfl, _, _, _, _, rfl, rfl, hys, rfl, v, x, rfl, hx, by omega, hok.2.1, fun H2 t s2 ht => ?_⟩
    refine ⟨t, _, rfl, SqT.of ht, rfl, _, _, rfl, _, _, rfl, rfl, ?_⟩
    have n60 := J.net_60 x hok.2.1
    have l60 := J.low_60 x hok.2.1
    have c30 := hok.1
    simp only [M60, M30] at n60 l60 c30
    have b1 : c.natAbs < 2 ^ 128 := Nat.lt_of_le_of_lt (show c.natAbs ≤ 1000000000000000000000000000000 by omega) (by decide)
    have b2 : (c - 1).natAbs < 2 ^ 128 := Nat.lt_of_le_of_lt (show (c - 1).natAbs ≤ 1000000000000000000000000000000 by omega) (by decide)
    have b3 : x.net.natAbs < 2 ^ 256 := Nat.lt_of_le_of_lt (show x.net.natAbs ≤ 1000000000000000000000000000000000000000000000000000000000000 by omega) (by decide)
    have b4 : x.low.natAbs < 2 ^ 256 := Nat.lt_of_le_of_lt (show x.low.natAbs ≤ 1000000000000000000000000000000000000000000000000000000000000 by omega) (by decide)
    refine ⟨_, rfl, rfl, _, rfl, ?_⟩
    rw [w_dec_int]
    refine ite2 (fun g => ?_) (fun g => ?_)
    · have g' : c = 0 := of_decide_eq_true g
      subst g'
      refine ⟨(by show 2 ≤ sizeLine; decide), fun u hu => ?_⟩
      refine q _ u (s2.trans (same_new hu)) ?_
      rw [upd_same]
      cases k <;> simp only [J.net, J.low, Int.zero_mul, if_true]
    · have g' : c ≠ 0 := fun z => g (decide_eq_true z)
      refine ⟨_, rfl, _, _, _, _, rfl, rfl, same_sqT s2 hys, rfl, rfl, _, rfl, ?_⟩
      rw [w_copies]
      cases k with
      | true =>
        refine iteT ?_
        refine ⟨_, rfl, _, rfl, _, _, rfl, rfl, wide_mul (a := 128) (b := 256) b1 b3 (by decide) (by decide) (by decide), _, rfl, _, rfl, _, _, rfl, rfl, wide_mul (a := 128) (b := 256) b1 b4 (by decide) (by decide) (by decide), (by show 2 ≤ sizeLine; decide), fun u hu => ?_⟩
        refine q _ u (s2.trans (same_new hu)) ?_
        rw [upd_same]
        simp only [J.net, J.low]
      | false =>
        refine iteF ?_
        refine ⟨_, rfl, _, rfl, _, _, rfl, rfl, wide_mul (a := 128) (b := 256) b1 b3 (by decide) (by decide) (by decide), _, rfl, _, rfl, _, _, rfl, rfl, _, rfl, _, _, rfl, ?_⟩
        refine ⟨_, _, rfl, rfl, wide_mul (a := 128) (b := 256) b2 (by split <;> first | exact b3 | decide) (by decide) (by decide) (by decide), ?_⟩
        refine ⟨_, _, rfl, rfl, (by show 2 ≤ sizeLine; decide), fun u hu => ?_⟩
        refine q _ u (s2.trans (same_new hu)) ?_
        rw [upd_same, min_ite]
        simp only [J.net, J.low]
        rw [if_neg g']
theorem ok_nl (T : Txt K mg) : ∀ n : Nat, FnOk P w K mg base CX0 (2 * n + 1) T.f__net_and_lowest T.d__net_and_lowest ["job"] (spNl K n)
  | 0 => by
    have no : ∀ vs H Q E, ¬ spNl K 0 vs H Q E := by
      rintro vs H Q E ⟨v, j, _, _, h, _⟩
      have := J.deep_pos j
      omega
    exact ⟨fun vs H Q E h => absurd h (no vs H Q E), fun A outer s H args us vs Q E _ _ _ _ h => absurd h (no vs H Q E)⟩
  | n + 1 => ok_nl_next T (ok_nl T n)
def spNet (K : PySem.W.Frag) : Sp := fun vs H Q _ => ∃ (v : V) (j : J), vs = [v] ∧ Dp K H v j.toD ∧ j.deep ≤ 30 ∧ (szJ j 400 13).isSome = true ∧ ∀ H', Same H H' → Q (.int j.net) H'
def spLow (K : PySem.W.Frag) : Sp := fun vs H Q _ => ∃ (v : V) (j : J), vs = [v] ∧ Dp K H v j.toD ∧ j.deep ≤ 30 ∧ (szJ j 400 13).isSome = true ∧ ∀ H', Same H H' → Q (.int j.low) H'
theorem ok_net (T : Txt K mg) : FnOk P w K mg base CX0 64 T.f_net T.d_net ["job"] (spNet K) := by
  have g_checked_sizes := ok_checked (P := P) (w := w) (base := base) T
  have g__net_and_lowest := ok_nl (P := P) (w := w) (base := base) T 30
  refine T.F_net.ok sc_net (fun vs H Q E h => ?_) (fun cdv A outer s H vs Q E hr h => ?_)
  · obtain ⟨v, j, rfl, _⟩ := h
    rfl
  obtain ⟨v, j, rfl, hd, hn, hz, q⟩ := h
  refine ⟨_, (pss_cons (ps_expr (pe_call g_checked_sizes (hr.mono (by omega)) rfl T.m_checked_sizes T.F_checked_sizes.kp T.b_checked_sizes .nil pass0 (pa_cons (pv 0) pa_nil)))
      (pss_one (ps_ret (pe_ix (r := rIxT K) ix_tup (pe_call g__net_and_lowest (hr.mono (by omega)) rfl T.m__net_and_lowest T.F__net_and_lowest.kp T.b__net_and_lowest .nil pass0 (pa_cons (pv 0) pa_nil)) pe_int (fun _ _ => rfl))))), ?_⟩
  obtain ⟨⟨a, b⟩, e⟩ := Option.isSome_iff_exists.mp hz
  refine ⟨_, rfl, v, j, a, b, rfl, hd, hn, e, fun H1 t s1 _ => ?_⟩
  refine ⟨_, rfl, v, j, rfl, dp_same s1 hd, hn, (szJ_inv j _ _ _ _ e).1, fun H2 t2 s2 ht2 => ?_⟩
  exact ⟨_, _, _, _, rfl, rfl, SqT.of ht2, rfl, q _ (s1.trans s2)⟩
theorem ok_lowest (T : Txt K mg) : FnOk P w K mg base CX0 64 T.f_lowest T.d_lowest ["job"] (spLow K) := by
  have g_checked_sizes := ok_checked (P := P) (w := w) (base := base) T
  have g__net_and_lowest := ok_nl (P := P) (w := w) (base := base) T 30
  refine T.F_lowest.ok sc_lowest (fun vs H Q E h => ?_) (fun cdv A outer s H vs Q E hr h => ?_)
  · obtain ⟨v, j, rfl, _⟩ := h
    rfl
  obtain ⟨v, j, rfl, hd, hn, hz, q⟩ := h
  refine ⟨_, (pss_cons (ps_expr (pe_call g_checked_sizes (hr.mono (by omega)) rfl T.m_checked_sizes T.F_checked_sizes.kp T.b_checked_sizes .nil pass0 (pa_cons (pv 0) pa_nil)))
      (pss_one (ps_ret (pe_ix (r := rIxT K) ix_tup (pe_call g__net_and_lowest (hr.mono (by omega)) rfl T.m__net_and_lowest T.F__net_and_lowest.kp T.b__net_and_lowest .nil pass0 (pa_cons (pv 0) pa_nil)) pe_int (fun _ _ => rfl))))), ?_⟩
  obtain ⟨⟨a, b⟩, e⟩ := Option.isSome_iff_exists.mp hz
  refine ⟨_, rfl, v, j, a, b, rfl, hd, hn, e, fun H1 t s1 _ => ?_⟩
  refine ⟨_, rfl, v, j, rfl, dp_same s1 hd, hn, (szJ_inv j _ _ _ _ e).1, fun H2 t2 s2 ht2 => ?_⟩
  exact ⟨_, _, _, _, rfl, rfl, SqT.of ht2, rfl, q _ (s1.trans s2)⟩
end
/-! block Count: node_count, step_count, is_empty -/
def spNodeC (K : PySem.W.Frag) : Sp := fun vs H Q _ => ∃ (v : V) (j : J) (a b : Int), vs = [v] ∧ Dp K H v j.toD ∧ j.deep ≤ 30 ∧ szJ j 400 13 = some (a, b) ∧ ∀ H', Same H H' → Q (.int a) H'
def spStepC (K : PySem.W.Frag) : Sp := fun vs H Q _ => ∃ (v : V) (j : J) (a b : Int), vs = [v] ∧ Dp K H v j.toD ∧ j.deep ≤ 30 ∧ szJ j 400 13 = some (a, b) ∧ ∀ H', Same H H' → Q (.int b) H'
def spEmpty (K : PySem.W.Frag) : Sp := fun vs H Q _ => ∃ (v : V) (j : J) (a b : Int), vs = [v] ∧ Dp K H v j.toD ∧ j.deep ≤ 30 ∧ szJ j 400 13 = some (a, b) ∧ ∀ H', Same H H' → Q (.bl (decide (b = 0))) H'
section
variable {P : Program} {w : World} {K : PySem.W.Frag} {mg : Str → Option Value} {base : Heap}
theorem ok_stepC (T : Txt K mg) : FnOk P w K mg base CX0 64 T.f_step_count T.d_step_count ["job"] (spStepC K) := by
  have g_checked_sizes := ok_checked (P := P) (w := w) (base := base) T
  refine T.F_step_count.ok sc_step_count (fun vs H Q E h => ?_) (fun cdv A outer s H vs Q E hr h => ?_)
  · obtain ⟨v, j, a, b, rfl, _⟩ := h
    rfl
  obtain ⟨v, j, a, b, rfl, hd, hn, ez, q⟩ := h
  refine ⟨_, (pss_one (ps_ret (pe_ix (r := rIxT K) ix_tup (pe_call g_checked_sizes (hr.mono (by omega)) rfl T.m_checked_sizes T.F_checked_sizes.kp T.b_checked_sizes .nil pass0 (pa_cons (pv 0) pa_nil)) pe_int (fun _ _ => rfl)))), ?_⟩
  refine ⟨_, rfl, v, j, a, b, rfl, hd, hn, ez, fun H2 t s2 ht => ?_⟩
  exact ⟨_, _, _, _, rfl, rfl, SqT.of ht, rfl, q _ s2⟩
theorem dec_int_iff {a b : Int} : decide (V.int a = V.int b) = decide (a = b) := by
  by_cases h : a = b
  · subst h
    simp
  · rw [decide_eq_false h, decide_eq_false (fun z => h (V.int.inj z))]
end
/-! block Law05 (behind bTidyL, bNet, bCount) -/
theorem Good.bulk {j : J} (g : Good j) : j.toD.bulk ≤ 80000 := by
  have h1 := J.bulk j
  have h2 := g.2.1
  omega
theorem Good.dep {j : J} (g : Good j) : j.toD.depth ≤ 64 := by
  have h1 := J.depth j
  have h2 := g.2.2
  omega
theorem fewJ_ok : ∀ {js : List J}, (∀ j ∈ js, FewOk j) → J.okL js ∧ J.nodesL js ≤ 10 * js.length ∧ J.deepL js ≤ 5 ∧ J.stepsL js ≤ 100 * js.length
  | [], _ => by simp [J.okL, J.nodesL, J.deepL, J.stepsL]
  | x :: xs, h => by
    obtain ⟨a1, a2, a3, a4⟩ := h x (List.mem_cons_self ..)
    obtain ⟨b1, b2, b3, b4⟩ := fewJ_ok (js := xs) fun y hy => h y (List.mem_cons_of_mem _ hy)
    simp only [J.okL, J.nodesL, J.deepL, J.stepsL, List.length_cons]
    refine ⟨⟨a1, b1⟩, by omega, by omega, by omega⟩
theorem fewJ_good {js : List J} (h : ∀ j ∈ js, FewOk j) (hl : js.length ≤ 6) : Good (.ps true js) := by
  obtain ⟨b1, b2, b3, b4⟩ := fewJ_ok h
  refine ⟨?_, ?_, ?_⟩
  · simp only [J.ok, M30]
    exact ⟨by omega, b1, by omega⟩
  · simp only [J.nodes]; omega
  · simp only [J.deep]; omega
abbrev jW5 : J := .rn true 2 (.rn true 1000000000 (.ps true [.st 1, .st 1]))
theorem good_W5 : Good jW5 := good_of (by decide +kernel)
theorem eqv_three {a b c : Int} : PyData.eqv (.list [.int a, .int b, .int c]) (.list [.int a, .int b, .int c]) = true := by simp [PyData.eqv, PyData.eqvAll]
def spLaw (K : PySem.W.Frag) : Sp := fun vs H Q _ => ∃ (a : Addr) (ns : List Int), vs = [.ref a] ∧ Only H ∧ SqL K H a (ns.map V.int) ∧ ns.length ≤ 63 ∧ ∀ H', Q (.bl true) H'
section
variable {P : Program} {w : World} {K : PySem.W.Frag} {mg : Str → Option Value} {base : Heap}
theorem ok_law {f : Addr} {fd : FuncData} (F : Fun K "law" "law" s_law f fd) (T : Txt K mg) (hs : Sys base) : FnG P w K mg base CX0 70 f fd ["_law_script"] (spLaw K) := by
  have g__law_pot := ok_pot (P := P) (w := w) (base := base) T
  have g__law_job := ok_job (P := P) (w := w) (base := base) T 5
  have g_is_job := ok_isjob (P := P) (w := w) (base := base) T
  have g__law_few := ok_few (P := P) (w := w) (base := base) T
  have g__law_tidy := ok_ltd (P := P) (w := w) (base := base) T 15
  have g__law_raised := ok_raised (P := P) (w := w) (base := base) T
  have g_tidy := ok_tidy (P := P) (w := w) (base := base) T
  have g_step_count := ok_stepC (P := P) (w := w) (base := base) T
  have g_net := ok_net (P := P) (w := w) (base := base) T
  have g_lowest := ok_lowest (P := P) (w := w) (base := base) T
  have g__law_limits_right := ok_lim (P := P) (w := w) (base := base) T
  refine okG F sc_law (fun vs H Q E h => ?_) (fun cdv A outer s H vs Q E hr gd h => ?_)
  · obtain ⟨a, ns, rfl, _⟩ := h
    rfl
  obtain ⟨a, ns, rfl, hO, hS, hlen, q⟩ := h
  have hsc := Scr.of hO hS
  refine ⟨_, (pss_cons (ps_for PassesOwn.never rfl (pi_range1 rfl T.n_range (pa_cons (pe_callB (call_max2 rfl) (by rfl) T.n_max (by decide +kernel) (pa_cons pe_int (pa_cons (pe_callB (call_min2 rfl) (by rfl) T.n_min (by decide +kernel) (pa_cons pe_int (pa_cons (pe_callB (r := rLenS K) call_lenS (by rfl) T.n_len (by decide +kernel) (pa_cons (pv 0) pa_nil)) pa_nil))) pa_nil))) pa_nil)) (pg_name (i := 1) sc_law.nd rfl (Or.inl rfl))
        (pss_cons (ps_set (i := 2) sc_law.nd rfl (Or.inl rfl) (pe_call g__law_pot (hr.mono (by omega)) rfl T.m__law_pot T.F__law_pot.kp T.b__law_pot .nil pass0 (pa_cons (pv 0) (pa_cons (pv 1) pa_nil))))
        (pss_cons (ps_set (i := 3) sc_law.nd rfl (Or.inl rfl) (pe_call g__law_job (hr.mono (by omega)) rfl T.m__law_job T.F__law_job.kp T.b__law_job .nil pass0 (pa_cons (pv 2) (pa_cons pe_int (pa_cons (pe_lst (pa_cons pe_int (pa_cons pe_int (pa_cons pe_int (pa_cons pe_int (pa_cons (pe_op op_powW pe_int pe_int) (pa_cons pe_int pa_nil))))))) pa_nil)))))
        (pss_one (ps_for PassesOwn.never rfl (pi_tup (pe_tup (pa_cons (pe_ifExp (pt_val (pe_call g_is_job (hr.mono (by omega)) rfl T.m_is_job T.F_is_job.kp T.b_is_job .nil pass0 (pa_cons (pv 3) pa_nil))) (pv 3) (pw_tup (pws_cons (pw_str (E := [])) (pws_cons (pw_int (E := []) (n := 2) pe_int (by decide +kernel) (fun σ H Q q => q)) (pws_cons (pw_tup (pws_cons (pw_str (E := [])) (pws_cons (pw_int (E := []) (n := 1000000000) (pe_op op_powW pe_int pe_int) (by decide +kernel) (fun σ H Q q => ⟨_, _, rfl, rfl, powW_of 4 (by decide) (by decide) (by decide), q⟩)) (pws_cons (pw_tup (pws_cons (pw_str (E := [])) (pws_cons (pw_tup (pws_cons (pw_int (E := []) (n := 1) pe_int (by decide +kernel) (fun σ H Q q => q)) (pws_cons (pw_int (E := []) (n := 1) pe_int (by decide +kernel) (fun σ H Q q => q)) (pws_nil (E := [])))) (by decide)) (pws_nil (E := [])))) (by decide)) (pws_nil (E := []))))) (by decide)) (pws_nil (E := []))))) (by decide))) (pa_cons (pe_call g__law_few (hr.mono (by omega)) rfl T.m__law_few T.F__law_few.kp T.b__law_few .nil pass0 (pa_cons (pv 2) pa_nil)) pa_nil)))) (pg_name (i := 4) sc_law.nd rfl (Or.inl rfl))
          (pss_cons (ps_par (i := 5) (j := 6) (by rfl) sc_law.nd rfl rfl (by decide) rfl rfl (pa_cons (pe_callB (r := rRepr K) (call_reprD gd (room66 hr)) (by rfl) T.n_repr (by decide +kernel) (pa_cons (pv 4) pa_nil)) (pa_cons (pe_call g__law_tidy (hr.mono (by omega)) rfl T.m__law_tidy T.F__law_tidy.kp T.b__law_tidy .nil pass0 (pa_cons (pv 4) pa_nil)) pa_nil)) (by rfl))
          (pss_cons (ps_if (pt_not (pt_val (pe_call g_is_job (hr.mono (by omega)) rfl T.m_is_job T.F_is_job.kp T.b_is_job .nil pass0 (pa_cons (pv 6) pa_nil)))) (pss_cons (ps_if (pt_not (pt_val (pe_call g__law_raised (hr.mono (by omega)) rfl T.m__law_raised T.F__law_raised.kp T.b__law_raised .nil pass0 (pa_cons (pv 4) pa_nil)))) (pss_one (ps_ret pe_bl)) pss_nil)
            (pss_one ps_continue)) pss_nil)
          (pss_cons (ps_set (i := 7) sc_law.nd rfl (Or.inl rfl) (pe_call g_tidy (hr.mono (by omega)) rfl T.m_tidy T.F_tidy.kp T.b_tidy .nil passN (pa_cons (pv 4) pa_nil)))
          (pss_cons (ps_if (PW.pt (pw_or (pt_cmpR op_ne (pe_callB (r := rRepr K) (call_reprD gd (room66 hr)) (by rfl) T.n_repr (by decide +kernel) (pa_cons (pv 7) pa_nil)) (pe_callB (r := rRepr K) (call_reprD gd (room66 hr)) (by rfl) T.n_repr (by decide +kernel) (pa_cons (pv 6) pa_nil)) (nomark _)) (pw_or (pt_cmpR (r := rNeD K) (op_neD hr.units) (pe_call g_tidy (hr.mono (by omega)) rfl T.m_tidy T.F_tidy.kp T.b_tidy .nil passN (pa_cons (pv 7) pa_nil)) (pv 7) (nomark _)) (pw_or1 (pt_cmpR op_ne (pe_callB (r := rRepr K) (call_reprD gd (room66 hr)) (by rfl) T.n_repr (by decide +kernel) (pa_cons (pv 4) pa_nil)) (pv 5) (nomark _)))))) (pss_one (ps_ret pe_bl)) pss_nil)
          (pss_one (ps_if (pt_cmpR (r := rNeD K) (op_neD hr.units) (pe_lst (pa_cons (pe_call g_step_count (hr.mono (by omega)) rfl T.m_step_count T.F_step_count.kp T.b_step_count .nil pass0 (pa_cons (pv 7) pa_nil)) (pa_cons (pe_call g_net (hr.mono (by omega)) rfl T.m_net T.F_net.kp T.b_net .nil pass0 (pa_cons (pv 7) pa_nil)) (pa_cons (pe_call g_lowest (hr.mono (by omega)) rfl T.m_lowest T.F_lowest.kp T.b_lowest .nil pass0 (pa_cons (pv 7) pa_nil)) pa_nil)))) (pe_lst (pa_cons (pe_call g_step_count (hr.mono (by omega)) rfl T.m_step_count T.F_step_count.kp T.b_step_count .nil pass0 (pa_cons (pv 4) pa_nil)) (pa_cons (pe_call g_net (hr.mono (by omega)) rfl T.m_net T.F_net.kp T.b_net .nil pass0 (pa_cons (pv 4) pa_nil)) (pa_cons (pe_call g_lowest (hr.mono (by omega)) rfl T.m_lowest T.F_lowest.kp T.b_lowest .nil pass0 (pa_cons (pv 4) pa_nil)) pa_nil)))) (nomark _)) (pss_one (ps_ret pe_bl)) pss_nil)))))))))))
      (pss_one (ps_ret (pe_call0 g__law_limits_right (hr.mono (by omega)) rfl T.m__law_limits_right T.F__law_limits_right.kp T.b__law_limits_right .nil pass0)))), ?_⟩
  refine ⟨_, rfl, a, _, rfl, .inl hsc.sq, _, _, rfl, _, _, rfl, _, rfl, ?_, ?_, ?_⟩
  · show -(2 ^ 62) ≤ (if (if (((ns.map V.int).length : Nat) : Int) < 6 then (((ns.map V.int).length : Nat) : Int) else 6) > 1 then (if (((ns.map V.int).length : Nat) : Int) < 6 then (((ns.map V.int).length : Nat) : Int) else 6) else 1)
    split <;> (try split) <;> omega
  · show (if (if (((ns.map V.int).length : Nat) : Int) < 6 then (((ns.map V.int).length : Nat) : Int) else 6) > 1 then (if (((ns.map V.int).length : Nat) : Int) < 6 then (((ns.map V.int).length : Nat) : Int) else 6) else 1) < 2 ^ 62
    split <;> (try split) <;> omega
  have hturns : (if (if (((ns.map V.int).length : Nat) : Int) < 6 then (((ns.map V.int).length : Nat) : Int) else 6) > 1 then (if (((ns.map V.int).length : Nat) : Int) < 6 then (((ns.map V.int).length : Nat) : Int) else 6) else 1).toNat ≤ 6 := by
    split <;> (try split) <;> omega
  generalize (if (if (((ns.map V.int).length : Nat) : Int) < 6 then (((ns.map V.int).length : Nat) : Int) else 6) > 1 then (if (((ns.map V.int).length : Nat) : Int) < 6 then (((ns.map V.int).length : Nat) : Int) else 6) else 1) = turns at hturns ⊢
  refine for_range (lo := 0) (n := turns.toNat) (fun i σ H' => ∃ y1 y2 y3 y4 y5 y6 y7 : Option V, σ = [some (.ref a), y1, y2, y3, y4, y5, y6, y7] ∧ Same H H') ⟨none, none, none, none, none, none, none, rfl, Same.refl _⟩ ?_ ?_
  · rintro i σ H' hi ⟨y1, y2, y3, y4, y5, y6, y7, rfl, t⟩
    refine ⟨_, rfl, _, rfl, a, ns, 0 + (i : Int), rfl, (hsc.same t).sq, by omega, by omega, by omega, fun G1 p s1 hpn hp => ?_⟩
    have e12 : (10 : Int) ^ (12 : Int).toNat = 1000000000000 := by decide
    refine ⟨_, rfl, _, _, rfl, rfl, powW_of 4 (by decide) (by decide) (by decide), ?_⟩
    dsimp only
    rw [e12]
    refine ⟨(by show 6 ≤ sizeLine; decide), fun l hl => ?_⟩
    obtain ⟨lp, hlp⟩ := hp.lst
    have nlp : l ≠ p := fun z => by rw [z, hlp] at hl; cases hl
    refine ⟨p, l, 0, [0, 1, 2, 3, 1000000000000, 1], rfl, hp.same (same_new hl), by decide, upd_same, nlp, by decide, by decide, ?_, fun G2 v j s2 hp2 dj gj => ?_⟩
    · simp only [List.mem_cons, List.not_mem_nil, or_false, M30]
      rintro c (rfl | rfl | rfl | rfl | rfl | rfl) <;> omega
    have t2 : Same H G2 := Same.sx_free ((t.trans s1).trans (same_new hl)) (t.free hpn) s2
    have jd := gj.deep
    refine ⟨_, rfl, v, j, rfl, dj, by omega, fun G3 s3 => ?_⟩
    have t3 := t2.trans s3
    refine ⟨_, rfl, ?_⟩
    refine ite_midT (fun x G => ∃ j', Good j' ∧ Dp K G x j'.toD ∧ Same G3 G) (fun ej Q' go => ?_) (fun ej Q' go => ?_) ?_
    · exact ⟨_, rfl, go _ _ ⟨j, good_of ej, dp_same s3 dj, Same.refl _⟩⟩
    · refine ⟨Ns.nil, fun G' v' s' d' => go _ _ ⟨jW5, good_W5, ?_, s'⟩⟩
      simp only [J.toD, J.toDs]
      exact d'
    rintro x G4 ⟨jx, gx, dx, s4⟩
    refine ⟨_, rfl, p, 0 + TB 5, rfl, hp2.same (s3.trans s4), by decide, fun G5 r js s5 hp5 dr lj aj => ?_⟩
    obtain ⟨lq, hlq⟩ := (hp2.same (s3.trans s4)).lst
    have dx5 := s5.dp hlq (J.noL _) dx
    have t5 : Same H G5 := Same.sx_free (t3.trans s4) (t.free hpn) s5
    refine ⟨(by show 2 ≤ sizeLine; decide), fun tp htp => ?_⟩
    have s6 : Same G5 (upd G5 tp (.tup [x, r])) := same_new htp
    have ht : SqT K (upd G5 tp (.tup [x, r])) tp [x, r] := SqT.of upd_same
    have dx6 := dp_same s6 dx5
    have dr6 := dp_same s6 dr
    have t6 := t5.trans s6
    generalize (upd G5 tp (.tup [x, r])) = G6 at s6 ht dx6 dr6 t6 ⊢
    have gr := fewJ_good aj lj
    generalize J.ps true js = jr at dr6 gr
    refine ⟨tp, rfl, ⟨_, ht⟩, ?_⟩
    refine for_tup (K := K) (a := tp) (xs := [x, r]) (fun k σ G => ∃ y4 y5 y6 y7 : Option V, σ = [some (.ref a), some (.int (0 + (i : Int))), some (.ref p), some v, y4, y5, y6, y7] ∧ Same G6 G) ⟨y4, y5, y6, y7, rfl, Same.refl _⟩ (fun k σ G _ ⟨_, _, _, _, _, s7⟩ => same_sqT s7 ht) ?_ ?_
    · rintro k x' σ G hk ⟨y4, y5, y6, y7, rfl, s7⟩
      obtain ⟨jo, go, dgo⟩ : ∃ jo, Good jo ∧ Dp K G6 x' jo.toD := by
        match k, hk with
        | 0, hk => cases hk; exact ⟨jx, gx, dx6⟩
        | 1, hk => cases hk; exact ⟨jr, gr, dr6⟩
      have d1 := dp_same s7 dgo
      have o15 : jo.deep ≤ 15 := by have := go.2.2; omega
      have tdp := J.tidy_deep jo
      have tdp' : jo.tidy.deep ≤ 30 := by have := go.2.2; omega
      refine ⟨_, rfl, _, _, rfl, d1, J.fine jo go.1, go.dep, go.bulk, ?_⟩
      refine ⟨_, rfl, x', jo, rfl, d1, o15, o15, go.1, by have := go.2.1; omega, fun K1 due u1 d2 => ?_⟩
      refine ⟨_, _, rfl, ?_⟩
      have d1a := dp_same u1 d1
      refine ⟨_, rfl, due, jo.tidy, rfl, d2, tdp', fun K2 u2 => ⟨_, rfl, ?_⟩⟩
      have d1b := dp_same u2 d1a
      have d2b := dp_same u2 d2
      cases ez : (szJ jo.tidy 400 13).isSome with
      | false =>
        refine iteT ?_
        refine ⟨_, rfl, x', jo, rfl, d1b, go.1, go.2.1, go.2.2, fun K3 u3 => ⟨_, rfl, ?_⟩⟩
        rw [ez]
        refine iteF ?_
        exact ⟨_, _, _, _, rfl, s7.trans (u1.trans (u2.trans u3))⟩
      | true =>
        refine iteF ?_
        have gt := good_of ez
        refine ⟨_, rfl, x', jo, rfl, d1b, go.1, go.2.1, go.2.2, fun _ K3 fnd u3 d3 => ?_, fun z => by rw [ez] at z; cases z⟩
        have d1c := dp_same u3 d1b
        have d2c := dp_same u3 d2b
        refine ⟨_, rfl, _, _, rfl, d3, J.fine _ gt.1, gt.dep, gt.bulk, _, rfl, _, _, rfl, d2c, J.fine _ gt.1, gt.dep, gt.bulk, rfl, _, rfl, ?_⟩
        refine iteNS rfl ?_
        have tw := J.tidy_twice (J.ok_nn jo go.1)
        refine ⟨_, rfl, fnd, jo.tidy, rfl, d3, gt.1, gt.2.1, gt.2.2, fun _ K4 r4 u4 d4 => ?_, fun z => by rw [tw, ez] at z; cases z⟩
        rw [tw] at d4
        have d3a := dp_same u4 d3
        refine ⟨_, rfl, _, _, d4, d3a, J.shaped _ tdp', J.shaped _ tdp', _, rfl, ?_⟩
        refine iteFx (by rw [J.eqv]; rfl) ?_
        have d1d := dp_same u4 d1c
        refine ⟨_, rfl, _, _, rfl, d1d, J.fine jo go.1, go.dep, go.bulk, _, rfl, rfl, _, rfl, ?_⟩
        refine iteNS rfl ?_
        refine ⟨_, rfl, fnd, jo.tidy, _, _, rfl, d3a, tdp', gt.sz, fun K5 u5 => ?_⟩
        refine ⟨_, rfl, fnd, jo.tidy, rfl, dp_same u5 d3a, tdp', ez, fun K6 u6 => ?_⟩
        have u56 := u5.trans u6
        refine ⟨_, rfl, fnd, jo.tidy, rfl, dp_same u56 d3a, tdp', ez, fun K7 u7 => ?_⟩
        have u57 := u56.trans u7
        refine ⟨(by show 3 ≤ sizeLine; decide), fun l1 hl1 => ?_⟩
        obtain ⟨u8, dl1⟩ := lst_fresh (K := K) (ds := [.int jo.tidy.steps, .int jo.tidy.net, .int jo.tidy.low]) hl1 (.cons (.int _) (.cons (.int _) (.cons (.int _) .nil)))
        generalize (upd K7 l1 (.lst [.int jo.tidy.steps, .int jo.tidy.net, .int jo.tidy.low])) = K8 at u8 dl1 ⊢
        have u58 := u57.trans u8
        have jd30 : jo.deep ≤ 30 := by omega
        refine ⟨_, rfl, x', jo, _, _, rfl, dp_same u58 d1d, jd30, go.sz, fun K9 u9 => ?_⟩
        have u59 := u58.trans u9
        refine ⟨_, rfl, x', jo, rfl, dp_same u59 d1d, jd30, go.isSome, fun K10 u10 => ?_⟩
        have u510 := u59.trans u10
        refine ⟨_, rfl, x', jo, rfl, dp_same u510 d1d, jd30, go.isSome, fun K11 u11 => ?_⟩
        have u511 := u510.trans u11
        refine ⟨(by show 3 ≤ sizeLine; decide), fun l2 hl2 => ?_⟩
        obtain ⟨u12, dl2⟩ := lst_fresh (K := K) (ds := [.int jo.steps, .int jo.net, .int jo.low]) hl2 (.cons (.int _) (.cons (.int _) (.cons (.int _) .nil)))
        refine ⟨_, _, dp_same (u9.trans (u10.trans (u11.trans u12))) dl1, dl2, by rfl, by rfl, _, rfl, ?_⟩
        refine iteFx (by rw [J.tidy_steps, J.tidy_net, J.tidy_low jo (J.ok_nn jo go.1), eqv_three]; rfl) ?_
        exact ⟨_, _, _, _, rfl, s7.trans (u1.trans (u2.trans (u3.trans (u4.trans (u511.trans u12)))))⟩
    · rintro σ G ⟨y4, y5, y6, y7, rfl, s7⟩
      exact ⟨_, _, _, _, _, _, _, rfl, t6.trans s7⟩
  · rintro σ H' ⟨y1, y2, y3, y4, y5, y6, y7, rfl, t⟩
    exact ⟨rfl, fun G s => q _⟩
end
theorem all_mk {l : PySem.W.OpenLaw} {w : World} {K : PySem.W.Frag} {h : Heap} {mg : Str → Option Value} {fa : Addr} (X : K.In h) (G : h.Ns mainGlobals mg) (hfa : mg "law" = some (.ref fa))
    {od0 an0 : Option Addr} {sl0 : Array (Option Value)} {oc0 kV0 dc0 pm0 cd0 ct0 : Value} {f0 : Addr}
    {od1 an1 : Option Addr} {sl1 : Array (Option Value)} {oc1 kV1 dc1 pm1 cd1 ct1 : Value} {f1 : Addr}
    {od2 an2 : Option Addr} {sl2 : Array (Option Value)} {oc2 kV2 dc2 pm2 cd2 ct2 : Value} {f2 : Addr}
    {od3 an3 : Option Addr} {sl3 : Array (Option Value)} {oc3 kV3 dc3 pm3 cd3 ct3 : Value} {f3 : Addr}
    {od4 an4 : Option Addr} {sl4 : Array (Option Value)} {oc4 kV4 dc4 pm4 cd4 ct4 : Value} {f4 : Addr}
    {od5 an5 : Option Addr} {sl5 : Array (Option Value)} {oc5 kV5 dc5 pm5 cd5 ct5 : Value} {f5 : Addr}
    {od6 an6 : Option Addr} {sl6 : Array (Option Value)} {oc6 kV6 dc6 pm6 cd6 ct6 : Value} {f6 : Addr}
    {od7 an7 : Option Addr} {sl7 : Array (Option Value)} {oc7 kV7 dc7 pm7 cd7 ct7 : Value} {f7 : Addr}
    {od8 an8 : Option Addr} {sl8 : Array (Option Value)} {oc8 kV8 dc8 pm8 cd8 ct8 : Value} {f8 : Addr}
    {od9 an9 : Option Addr} {sl9 : Array (Option Value)} {oc9 kV9 dc9 pm9 cd9 ct9 : Value} {f9 : Addr}
    {od10 an10 : Option Addr} {sl10 : Array (Option Value)} {oc10 kV10 dc10 pm10 cd10 ct10 : Value} {f10 : Addr}
    {od11 an11 : Option Addr} {sl11 : Array (Option Value)} {oc11 kV11 dc11 pm11 cd11 ct11 : Value} {f11 : Addr}
    {od12 an12 : Option Addr} {sl12 : Array (Option Value)} {oc12 kV12 dc12 pm12 cd12 ct12 : Value} {f12 : Addr}
    {od13 an13 : Option Addr} {sl13 : Array (Option Value)} {oc13 kV13 dc13 pm13 cd13 ct13 : Value} {f13 : Addr}
    {od14 an14 : Option Addr} {sl14 : Array (Option Value)} {oc14 kV14 dc14 pm14 cd14 ct14 : Value} {f14 : Addr}
    {od15 an15 : Option Addr} {sl15 : Array (Option Value)} {oc15 kV15 dc15 pm15 cd15 ct15 : Value} {f15 : Addr}
    {od16 an16 : Option Addr} {sl16 : Array (Option Value)} {oc16 kV16 dc16 pm16 cd16 ct16 : Value} {f16 : Addr}
    {od17 an17 : Option Addr} {sl17 : Array (Option Value)} {oc17 kV17 dc17 pm17 cd17 ct17 : Value} {f17 : Addr}
    {od18 an18 : Option Addr} {sl18 : Array (Option Value)} {oc18 kV18 dc18 pm18 cd18 ct18 : Value} {f18 : Addr}
    {od19 an19 : Option Addr} {sl19 : Array (Option Value)} {oc19 kV19 dc19 pm19 cd19 ct19 : Value} {f19 : Addr}
    {od20 an20 : Option Addr} {sl20 : Array (Option Value)} {oc20 kV20 dc20 pm20 cd20 ct20 : Value} {f20 : Addr}
    {od21 an21 : Option Addr} {sl21 : Array (Option Value)} {oc21 kV21 dc21 pm21 cd21 ct21 : Value} {f21 : Addr}
    {od22 an22 : Option Addr} {sl22 : Array (Option Value)} {oc22 kV22 dc22 pm22 cd22 ct22 : Value} {f22 : Addr}
    {od23 an23 : Option Addr} {sl23 : Array (Option Value)} {oc23 kV23 dc23 pm23 cd23 ct23 : Value} {f23 : Addr}
    {od24 an24 : Option Addr} {sl24 : Array (Option Value)} {oc24 kV24 dc24 pm24 cd24 ct24 : Value} {f24 : Addr}
    {od25 an25 : Option Addr} {sl25 : Array (Option Value)} {oc25 kV25 dc25 pm25 cd25 ct25 : Value} {f25 : Addr}
    {od26 an26 : Option Addr} {sl26 : Array (Option Value)} {oc26 kV26 dc26 pm26 cd26 ct26 : Value} {f26 : Addr}
    {od27 an27 : Option Addr} {sl27 : Array (Option Value)} {oc27 kV27 dc27 pm27 cd27 ct27 : Value} {f27 : Addr}
    {od28 an28 : Option Addr} {sl28 : Array (Option Value)} {oc28 kV28 dc28 pm28 cd28 ct28 : Value} {f28 : Addr}
    {od29 an29 : Option Addr} {sl29 : Array (Option Value)} {oc29 kV29 dc29 pm29 cd29 ct29 : Value} {f29 : Addr}
    {od30 an30 : Option Addr} {sl30 : Array (Option Value)} {oc30 kV30 dc30 pm30 cd30 ct30 : Value} {f30 : Addr}
    {od31 an31 : Option Addr} {sl31 : Array (Option Value)} {oc31 kV31 dc31 pm31 cd31 ct31 : Value} {f31 : Addr}
    {od32 an32 : Option Addr} {sl32 : Array (Option Value)} {oc32 kV32 dc32 pm32 cd32 ct32 : Value} {f32 : Addr}
    {u0c : Addr}
    {tk0 : Tok}
    {tk1 : Tok}
    {tk2 : Tok}
    {tk3 : Tok}
    {tk4 : Tok}
    {tt0 te0 : Addr} {to0 tq0 : Option Addr} {tn0 tm0 : Nat} {ts0 tv0 : Array (Option Value)} {tw0 : Tok}
    {v0c : Addr}
    (a0 : PySem.W.nsIn K mainGlobals "is_integer" = some (some (.ref f0)))
    (l0 : K.lookup f0 = some ⟨oc0, od0, .func (PySem.W.fnOf "is_integer" "is_integer" (defArgs s_is_integer) (defBody s_is_integer) (defScope s_is_integer) .none kV0 dc0 pm0 an0 cd0 ct0), sl0⟩)
    (c0 : PySem.W.codeIn K cd0 "is_integer" = true) (k0 : PySem.W.keepIn K (.ref f0) = true)
    (a1 : PySem.W.nsIn K mainGlobals "is_within" = some (some (.ref f1)))
    (l1 : K.lookup f1 = some ⟨oc1, od1, .func (PySem.W.fnOf "is_within" "is_within" (defArgs s_is_within) (defBody s_is_within) (defScope s_is_within) .none kV1 dc1 pm1 an1 cd1 ct1), sl1⟩)
    (c1 : PySem.W.codeIn K cd1 "is_within" = true) (k1 : PySem.W.keepIn K (.ref f1) = true)
    (a2 : PySem.W.nsIn K mainGlobals "is_job" = some (some (.ref f2)))
    (l2 : K.lookup f2 = some ⟨oc2, od2, .func (PySem.W.fnOf "is_job" "is_job" (defArgs s_is_job) (defBody s_is_job) (defScope s_is_job) .none kV2 dc2 pm2 an2 cd2 ct2), sl2⟩)
    (c2 : PySem.W.codeIn K cd2 "is_job" = true) (k2 : PySem.W.keepIn K (.ref f2) = true)
    (a3 : PySem.W.nsIn K mainGlobals "step_count" = some (some (.ref f3)))
    (l3 : K.lookup f3 = some ⟨oc3, od3, .func (PySem.W.fnOf "step_count" "step_count" (defArgs s_step_count) (defBody s_step_count) (defScope s_step_count) .none kV3 dc3 pm3 an3 cd3 ct3), sl3⟩)
    (c3 : PySem.W.codeIn K cd3 "step_count" = true) (k3 : PySem.W.keepIn K (.ref f3) = true)
    (a4 : PySem.W.nsIn K mainGlobals "net" = some (some (.ref f4)))
    (l4 : K.lookup f4 = some ⟨oc4, od4, .func (PySem.W.fnOf "net" "net" (defArgs s_net) (defBody s_net) (defScope s_net) .none kV4 dc4 pm4 an4 cd4 ct4), sl4⟩)
    (c4 : PySem.W.codeIn K cd4 "net" = true) (k4 : PySem.W.keepIn K (.ref f4) = true)
    (a5 : PySem.W.nsIn K mainGlobals "lowest" = some (some (.ref f5)))
    (l5 : K.lookup f5 = some ⟨oc5, od5, .func (PySem.W.fnOf "lowest" "lowest" (defArgs s_lowest) (defBody s_lowest) (defScope s_lowest) .none kV5 dc5 pm5 an5 cd5 ct5), sl5⟩)
    (c5 : PySem.W.codeIn K cd5 "lowest" = true) (k5 : PySem.W.keepIn K (.ref f5) = true)
    (a6 : PySem.W.nsIn K mainGlobals "tidy" = some (some (.ref f6)))
    (l6 : K.lookup f6 = some ⟨oc6, od6, .func (PySem.W.fnOf "tidy" "tidy" (defArgs s_tidy) (defBody s_tidy) (defScope s_tidy) .none kV6 dc6 pm6 an6 cd6 ct6), sl6⟩)
    (c6 : PySem.W.codeIn K cd6 "tidy" = true) (k6 : PySem.W.keepIn K (.ref f6) = true)
    (a7 : PySem.W.nsIn K mainGlobals "checked_sizes" = some (some (.ref f7)))
    (l7 : K.lookup f7 = some ⟨oc7, od7, .func (PySem.W.fnOf "checked_sizes" "checked_sizes" (defArgs s_checked_sizes) (defBody s_checked_sizes) (defScope s_checked_sizes) .none kV7 dc7 pm7 an7 cd7 ct7), sl7⟩)
    (c7 : PySem.W.codeIn K cd7 "checked_sizes" = true) (k7 : PySem.W.keepIn K (.ref f7) = true)
    (a8 : PySem.W.nsIn K mainGlobals "steps_of_leaf" = some (some (.ref f8)))
    (l8 : K.lookup f8 = some ⟨oc8, od8, .func (PySem.W.fnOf "steps_of_leaf" "steps_of_leaf" (defArgs s_steps_of_leaf) (defBody s_steps_of_leaf) (defScope s_steps_of_leaf) .none kV8 dc8 pm8 an8 cd8 ct8), sl8⟩)
    (c8 : PySem.W.codeIn K cd8 "steps_of_leaf" = true) (k8 : PySem.W.keepIn K (.ref f8) = true)
    (a9 : PySem.W.nsIn K mainGlobals "sizes_of" = some (some (.ref f9)))
    (l9 : K.lookup f9 = some ⟨oc9, od9, .func (PySem.W.fnOf "sizes_of" "sizes_of" (defArgs s_sizes_of) (defBody s_sizes_of) (defScope s_sizes_of) .none kV9 dc9 pm9 an9 cd9 ct9), sl9⟩)
    (c9 : PySem.W.codeIn K cd9 "sizes_of" = true) (k9 : PySem.W.keepIn K (.ref f9) = true)
    (a10 : PySem.W.nsIn K mainGlobals "_sizes" = some (some (.ref f10)))
    (l10 : K.lookup f10 = some ⟨oc10, od10, .func (PySem.W.fnOf "_sizes" "_sizes" (defArgs s__sizes) (defBody s__sizes) (defScope s__sizes) .none kV10 dc10 pm10 an10 cd10 ct10), sl10⟩)
    (c10 : PySem.W.codeIn K cd10 "_sizes" = true) (k10 : PySem.W.keepIn K (.ref f10) = true)
    (a11 : PySem.W.nsIn K mainGlobals "_sizes_of_parts" = some (some (.ref f11)))
    (l11 : K.lookup f11 = some ⟨oc11, od11, .func (PySem.W.fnOf "_sizes_of_parts" "_sizes_of_parts" (defArgs s__sizes_of_parts) (defBody s__sizes_of_parts) (defScope s__sizes_of_parts) .none kV11 dc11 pm11 an11 cd11 ct11), sl11⟩)
    (c11 : PySem.W.codeIn K cd11 "_sizes_of_parts" = true) (k11 : PySem.W.keepIn K (.ref f11) = true)
    (a12 : PySem.W.nsIn K mainGlobals "_sizes_of_rounds" = some (some (.ref f12)))
    (l12 : K.lookup f12 = some ⟨oc12, od12, .func (PySem.W.fnOf "_sizes_of_rounds" "_sizes_of_rounds" (defArgs s__sizes_of_rounds) (defBody s__sizes_of_rounds) (defScope s__sizes_of_rounds) .none kV12 dc12 pm12 an12 cd12 ct12), sl12⟩)
    (c12 : PySem.W.codeIn K cd12 "_sizes_of_rounds" = true) (k12 : PySem.W.keepIn K (.ref f12) = true)
    (a13 : PySem.W.nsIn K mainGlobals "_within_count" = some (some (.ref f13)))
    (l13 : K.lookup f13 = some ⟨oc13, od13, .func (PySem.W.fnOf "_within_count" "_within_count" (defArgs s__within_count) (defBody s__within_count) (defScope s__within_count) .none kV13 dc13 pm13 an13 cd13 ct13), sl13⟩)
    (c13 : PySem.W.codeIn K cd13 "_within_count" = true) (k13 : PySem.W.keepIn K (.ref f13) = true)
    (a14 : PySem.W.nsIn K mainGlobals "_net_and_lowest" = some (some (.ref f14)))
    (l14 : K.lookup f14 = some ⟨oc14, od14, .func (PySem.W.fnOf "_net_and_lowest" "_net_and_lowest" (defArgs s__net_and_lowest) (defBody s__net_and_lowest) (defScope s__net_and_lowest) .none kV14 dc14 pm14 an14 cd14 ct14), sl14⟩)
    (c14 : PySem.W.codeIn K cd14 "_net_and_lowest" = true) (k14 : PySem.W.keepIn K (.ref f14) = true)
    (a15 : PySem.W.nsIn K mainGlobals "_net_and_lowest_of_seq" = some (some (.ref f15)))
    (l15 : K.lookup f15 = some ⟨oc15, od15, .func (PySem.W.fnOf "_net_and_lowest_of_seq" "_net_and_lowest_of_seq" (defArgs s__net_and_lowest_of_seq) (defBody s__net_and_lowest_of_seq) (defScope s__net_and_lowest_of_seq) .none kV15 dc15 pm15 an15 cd15 ct15), sl15⟩)
    (c15 : PySem.W.codeIn K cd15 "_net_and_lowest_of_seq" = true) (k15 : PySem.W.keepIn K (.ref f15) = true)
    (a16 : PySem.W.nsIn K mainGlobals "tidied" = some (some (.ref f16)))
    (l16 : K.lookup f16 = some ⟨oc16, od16, .func (PySem.W.fnOf "tidied" "tidied" (defArgs s_tidied) (defBody s_tidied) (defScope s_tidied) .none kV16 dc16 pm16 an16 cd16 ct16), sl16⟩)
    (c16 : PySem.W.codeIn K cd16 "tidied" = true) (k16 : PySem.W.keepIn K (.ref f16) = true)
    (a17 : PySem.W.nsIn K mainGlobals "_tidied_parts" = some (some (.ref f17)))
    (l17 : K.lookup f17 = some ⟨oc17, od17, .func (PySem.W.fnOf "_tidied_parts" "_tidied_parts" (defArgs s__tidied_parts) (defBody s__tidied_parts) (defScope s__tidied_parts) .none kV17 dc17 pm17 an17 cd17 ct17), sl17⟩)
    (c17 : PySem.W.codeIn K cd17 "_tidied_parts" = true) (k17 : PySem.W.keepIn K (.ref f17) = true)
    (a18 : PySem.W.nsIn K mainGlobals "_grouped" = some (some (.ref f18)))
    (l18 : K.lookup f18 = some ⟨oc18, od18, .func (PySem.W.fnOf "_grouped" "_grouped" (defArgs s__grouped) (defBody s__grouped) (defScope s__grouped) .none kV18 dc18 pm18 an18 cd18 ct18), sl18⟩)
    (c18 : PySem.W.codeIn K cd18 "_grouped" = true) (k18 : PySem.W.keepIn K (.ref f18) = true)
    (a19 : PySem.W.nsIn K mainGlobals "_tidied_rounds" = some (some (.ref f19)))
    (l19 : K.lookup f19 = some ⟨oc19, od19, .func (PySem.W.fnOf "_tidied_rounds" "_tidied_rounds" (defArgs s__tidied_rounds) (defBody s__tidied_rounds) (defScope s__tidied_rounds) .none kV19 dc19 pm19 an19 cd19 ct19), sl19⟩)
    (c19 : PySem.W.codeIn K cd19 "_tidied_rounds" = true) (k19 : PySem.W.keepIn K (.ref f19) = true)
    (a20 : PySem.W.nsIn K mainGlobals "_has_kind" = some (some (.ref f20)))
    (l20 : K.lookup f20 = some ⟨oc20, od20, .func (PySem.W.fnOf "_has_kind" "_has_kind" (defArgs s__has_kind) (defBody s__has_kind) (defScope s__has_kind) .none kV20 dc20 pm20 an20 cd20 ct20), sl20⟩)
    (c20 : PySem.W.codeIn K cd20 "_has_kind" = true) (k20 : PySem.W.keepIn K (.ref f20) = true)
    (a21 : PySem.W.nsIn K mainGlobals "_law_pot" = some (some (.ref f21)))
    (l21 : K.lookup f21 = some ⟨oc21, od21, .func (PySem.W.fnOf "_law_pot" "_law_pot" (defArgs s__law_pot) (defBody s__law_pot) (defScope s__law_pot) .none kV21 dc21 pm21 an21 cd21 ct21), sl21⟩)
    (c21 : PySem.W.codeIn K cd21 "_law_pot" = true) (k21 : PySem.W.keepIn K (.ref f21) = true)
    (a22 : PySem.W.nsIn K mainGlobals "_law_take" = some (some (.ref f22)))
    (l22 : K.lookup f22 = some ⟨oc22, od22, .func (PySem.W.fnOf "_law_take" "_law_take" (defArgs s__law_take) (defBody s__law_take) (defScope s__law_take) .none kV22 dc22 pm22 an22 cd22 ct22), sl22⟩)
    (c22 : PySem.W.codeIn K cd22 "_law_take" = true) (k22 : PySem.W.keepIn K (.ref f22) = true)
    (a23 : PySem.W.nsIn K mainGlobals "_law_step" = some (some (.ref f23)))
    (l23 : K.lookup f23 = some ⟨oc23, od23, .func (PySem.W.fnOf "_law_step" "_law_step" (defArgs s__law_step) (defBody s__law_step) (defScope s__law_step) .none kV23 dc23 pm23 an23 cd23 ct23), sl23⟩)
    (c23 : PySem.W.codeIn K cd23 "_law_step" = true) (k23 : PySem.W.keepIn K (.ref f23) = true)
    (a24 : PySem.W.nsIn K mainGlobals "_law_job" = some (some (.ref f24)))
    (l24 : K.lookup f24 = some ⟨oc24, od24, .func (PySem.W.fnOf "_law_job" "_law_job" (defArgs s__law_job) (defBody s__law_job) (defScope s__law_job) .none kV24 dc24 pm24 an24 cd24 ct24), sl24⟩)
    (c24 : PySem.W.codeIn K cd24 "_law_job" = true) (k24 : PySem.W.keepIn K (.ref f24) = true)
    (a25 : PySem.W.nsIn K mainGlobals "_law_joined" = some (some (.ref f25)))
    (l25 : K.lookup f25 = some ⟨oc25, od25, .func (PySem.W.fnOf "_law_joined" "_law_joined" (defArgs s__law_joined) (defBody s__law_joined) (defScope s__law_joined) .none kV25 dc25 pm25 an25 cd25 ct25), sl25⟩)
    (c25 : PySem.W.codeIn K cd25 "_law_joined" = true) (k25 : PySem.W.keepIn K (.ref f25) = true)
    (a26 : PySem.W.nsIn K mainGlobals "_law_tidy" = some (some (.ref f26)))
    (l26 : K.lookup f26 = some ⟨oc26, od26, .func (PySem.W.fnOf "_law_tidy" "_law_tidy" (defArgs s__law_tidy) (defBody s__law_tidy) (defScope s__law_tidy) .none kV26 dc26 pm26 an26 cd26 ct26), sl26⟩)
    (c26 : PySem.W.codeIn K cd26 "_law_tidy" = true) (k26 : PySem.W.keepIn K (.ref f26) = true)
    (a27 : PySem.W.nsIn K mainGlobals "_law_few" = some (some (.ref f27)))
    (l27 : K.lookup f27 = some ⟨oc27, od27, .func (PySem.W.fnOf "_law_few" "_law_few" (defArgs s__law_few) (defBody s__law_few) (defScope s__law_few) .none kV27 dc27 pm27 an27 cd27 ct27), sl27⟩)
    (c27 : PySem.W.codeIn K cd27 "_law_few" = true) (k27 : PySem.W.keepIn K (.ref f27) = true)
    (a28 : PySem.W.nsIn K mainGlobals "_law_raised" = some (some (.ref f28)))
    (l28 : K.lookup f28 = some ⟨oc28, od28, .func (PySem.W.fnOf "_law_raised" "_law_raised" (defArgs s__law_raised) (defBody s__law_raised) (defScope s__law_raised) .none kV28 dc28 pm28 an28 cd28 ct28), sl28⟩)
    (c28 : PySem.W.codeIn K cd28 "_law_raised" = true) (k28 : PySem.W.keepIn K (.ref f28) = true)
    (a29 : PySem.W.nsIn K mainGlobals "_law_nest" = some (some (.ref f29)))
    (l29 : K.lookup f29 = some ⟨oc29, od29, .func (PySem.W.fnOf "_law_nest" "_law_nest" (defArgs s__law_nest) (defBody s__law_nest) (defScope s__law_nest) .none kV29 dc29 pm29 an29 cd29 ct29), sl29⟩)
    (c29 : PySem.W.codeIn K cd29 "_law_nest" = true) (k29 : PySem.W.keepIn K (.ref f29) = true)
    (a30 : PySem.W.nsIn K mainGlobals "_law_limits_right" = some (some (.ref f30)))
    (l30 : K.lookup f30 = some ⟨oc30, od30, .func (PySem.W.fnOf "_law_limits_right" "_law_limits_right" (defArgs s__law_limits_right) (defBody s__law_limits_right) (defScope s__law_limits_right) .none kV30 dc30 pm30 an30 cd30 ct30), sl30⟩)
    (c30 : PySem.W.codeIn K cd30 "_law_limits_right" = true) (k30 : PySem.W.keepIn K (.ref f30) = true)
    (a32 : PySem.W.nsIn K mainGlobals "law" = some (some (.ref f32)))
    (l32 : K.lookup f32 = some ⟨oc32, od32, .func (PySem.W.fnOf "law" "law" (defArgs s_law) (defBody s_law) (defScope s_law) .none kV32 dc32 pm32 an32 cd32 ct32), sl32⟩)
    (c32 : PySem.W.codeIn K cd32 "law" = true) (k32 : PySem.W.keepIn K (.ref f32) = true)
    (u0g : PySem.W.nsIn K mainGlobals "TooMany" = some (some (.ref u0c))) (u0q : PySem.W.excInitIn K u0c [.type "OverflowError", .type "ArithmeticError", .type "Exception", .type "BaseException", .type "object"] "OverflowError.__new__" = true) (u0o : PySem.W.excOver K u0c [.type "OverflowError", .type "ArithmeticError", .type "Exception", .type "BaseException", .type "object"] = true) (u0d : PySem.W.hasDictIn K u0c = true) (u0s : PySem.W.findIn K (.ref u0c) "__setattr__" = some (some (.builtin "object.__setattr__"))) (u0b : PySem.W.subIn K (.ref u0c) (.type "BaseException") = some true) (u0t : PySem.W.typeIn K (.ref u0c) = some (.type "type")) (u0k : PySem.W.keepIn K (.ref u0c) = true) (u0i : PySem.W.findIn K (.ref u0c) "__init__" = some (some (.ref f31))) (u0f : PySem.W.typeIn K (.ref f31) = some (.type "function")) (u0n : PySem.W.findIn K (.ref u0c) "limit" = some none) (u0ga : PySem.W.findIn K (.ref u0c) "__getattribute__" = some (some (.builtin "BaseException.__getattribute__"))) (u0gg : PySem.W.findIn K (.ref u0c) "__getattr__" = some none) (u0cl : PySem.W.isClsIn K u0c = true) (u0ss : PySem.W.subIn K (.ref u0c) (.ref u0c) = some true) (u0ha : PySem.W.findIn K (.ref u0c) "__class__" = some (some (.builtin "object.__class__"))) (u0hn : PySem.W.specialIn K (.builtin "object.__class__") "__get__" = some (some (.builtin "getset_descriptor.__get__"))) (u0ht : PySem.W.takesIn K (.builtin "object.__class__") = some true) (u0hm : PySem.W.mroIn K u0c (.type "object") = some true)
    (l31 : K.lookup f31 = some ⟨oc31, od31, .func (PySem.W.fnOf "__init__" "TooMany.__init__" (defArgs s_TooMany_init) (defBody s_TooMany_init) (defScope s_TooMany_init) .none kV31 dc31 pm31 an31 cd31 ct31), sl31⟩)
    (c31 : PySem.W.codeIn K cd31 "TooMany.__init__" = true) (k31 : PySem.W.keepIn K (.ref f31) = true)
    (gc0 : PySem.W.nsIn K mainGlobals "MAX_STEP" = some (some (.int 1000000000000000000000000000000 tk0)))
    (gc1 : PySem.W.nsIn K mainGlobals "MAX_COUNT" = some (some (.int 1000000000000000000000000000000 tk1)))
    (gc2 : PySem.W.nsIn K mainGlobals "MAX_PARTS" = some (some (.int 400 tk2)))
    (gc3 : PySem.W.nsIn K mainGlobals "MAX_NODES" = some (some (.int 400 tk3)))
    (gc4 : PySem.W.nsIn K mainGlobals "MAX_DEPTH" = some (some (.int 13 tk4)))
    (tg0 : PySem.W.nsIn K mainGlobals "EMPTY" = some (some (.ref tt0))) (tk0l : K.lookup tt0 = some ⟨.type "tuple", to0, .seq #[.str "seq" tw0, .ref te0] tn0, ts0⟩) (te0l : K.lookup te0 = some ⟨.type "tuple", tq0, .seq #[] tm0, tv0⟩)
    (v0g : PySem.W.nsIn K mainGlobals "JobError" = some (some (.ref v0c))) (v0i : PySem.W.isClsIn K v0c = true) (v0t : PySem.W.typeIn K (.ref v0c) = some (.type "type"))
    (q0 : PySem.W.subIn K (.ref u0c) (.ref v0c) = some false)
    (z0 : PySem.W.nsIn K mainGlobals "abs" = some none)
    (z1 : PySem.W.nsIn K mainGlobals "bool" = some none)
    (z2 : PySem.W.nsIn K mainGlobals "int" = some none)
    (z3 : PySem.W.nsIn K mainGlobals "isinstance" = some none)
    (z4 : PySem.W.nsIn K mainGlobals "len" = some none)
    (z5 : PySem.W.nsIn K mainGlobals "list" = some none)
    (z6 : PySem.W.nsIn K mainGlobals "max" = some none)
    (z7 : PySem.W.nsIn K mainGlobals "min" = some none)
    (z8 : PySem.W.nsIn K mainGlobals "range" = some none)
    (z9 : PySem.W.nsIn K mainGlobals "repr" = some none)
    (z10 : PySem.W.nsIn K mainGlobals "sum" = some none)
    (z11 : PySem.W.nsIn K mainGlobals "tuple" = some none)
    (z12 : PySem.W.nsIn K mainGlobals "zip" = some none) :
    ∃ fd : FuncData, (∀ (s : Shared) (v : Value), BindsTo s fd ⟨[v], []⟩ [("_law_script", v)]) ∧ ∀ base : Heap, K.In base → base.Ns mainGlobals mg → Rp.Sys base → FnG l.prog w K mg base CX0 70 fa fd ["_law_script"] (spLaw K) := by
  have e := hfa.symm.trans (PySem.W.mg_of X G a32)
  cases e
  have T : Txt K mg := by
    have F0 := fun_mk (st := s_is_integer) l0 c0 k0
    have F1 := fun_mk (st := s_is_within) l1 c1 k1
    have F2 := fun_mk (st := s_is_job) l2 c2 k2
    have F3 := fun_mk (st := s_step_count) l3 c3 k3
    have F4 := fun_mk (st := s_net) l4 c4 k4
    have F5 := fun_mk (st := s_lowest) l5 c5 k5
    have F6 := fun_mk (st := s_tidy) l6 c6 k6
    have F7 := fun_mk (st := s_checked_sizes) l7 c7 k7
    have F8 := fun_mk (st := s_steps_of_leaf) l8 c8 k8
    have F9 := fun_mk (st := s_sizes_of) l9 c9 k9
    have F10 := fun_mk (st := s__sizes) l10 c10 k10
    have F11 := fun_mk (st := s__sizes_of_parts) l11 c11 k11
    have F12 := fun_mk (st := s__sizes_of_rounds) l12 c12 k12
    have F13 := fun_mk (st := s__within_count) l13 c13 k13
    have F14 := fun_mk (st := s__net_and_lowest) l14 c14 k14
    have F15 := fun_mk (st := s__net_and_lowest_of_seq) l15 c15 k15
    have F16 := fun_mk (st := s_tidied) l16 c16 k16
    have F17 := fun_mk (st := s__tidied_parts) l17 c17 k17
    have F18 := fun_mk (st := s__grouped) l18 c18 k18
    have F19 := fun_mk (st := s__tidied_rounds) l19 c19 k19
    have F20 := fun_mk (st := s__has_kind) l20 c20 k20
    have F21 := fun_mk (st := s__law_pot) l21 c21 k21
    have F22 := fun_mk (st := s__law_take) l22 c22 k22
    have F23 := fun_mk (st := s__law_step) l23 c23 k23
    have F24 := fun_mk (st := s__law_job) l24 c24 k24
    have F25 := fun_mk (st := s__law_joined) l25 c25 k25
    have F26 := fun_mk (st := s__law_tidy) l26 c26 k26
    have F27 := fun_mk (st := s__law_few) l27 c27 k27
    have F28 := fun_mk (st := s__law_raised) l28 c28 k28
    have F29 := fun_mk (st := s__law_nest) l29 c29 k29
    have F30 := fun_mk (st := s__law_limits_right) l30 c30 k30
    have F31 := fun_mk (st := s_TooMany_init) l31 c31 k31
    have B0 := F0.binds (ps := ["value"]) fun _ _ _ _ _ _ us hl => match us, hl with | [_], _ => rfl
    have B1 := F1.binds (ps := ["value", "least", "greatest"]) fun _ _ _ _ _ _ us hl => match us, hl with | [_, _, _], _ => rfl
    have B2 := F2.binds (ps := ["value"]) fun _ _ _ _ _ _ us hl => match us, hl with | [_], _ => rfl
    have B3 := F3.binds (ps := ["job"]) fun _ _ _ _ _ _ us hl => match us, hl with | [_], _ => rfl
    have B4 := F4.binds (ps := ["job"]) fun _ _ _ _ _ _ us hl => match us, hl with | [_], _ => rfl
    have B5 := F5.binds (ps := ["job"]) fun _ _ _ _ _ _ us hl => match us, hl with | [_], _ => rfl
    have B6 := F6.binds (ps := ["job"]) fun _ _ _ _ _ _ us hl => match us, hl with | [_], _ => rfl
    have B7 := F7.binds (ps := ["job"]) fun _ _ _ _ _ _ us hl => match us, hl with | [_], _ => rfl
    have B8 := F8.binds (ps := ["value"]) fun _ _ _ _ _ _ us hl => match us, hl with | [_], _ => rfl
    have B9 := F9.binds (ps := ["value", "leaf_steps"]) fun _ _ _ _ _ _ us hl => match us, hl with | [_, _], _ => rfl
    have B10 := F10.binds (ps := ["value", "leaf_steps", "room", "levels"]) fun _ _ _ _ _ _ us hl => match us, hl with | [_, _, _, _], _ => rfl
    have B11 := F11.binds (ps := ["parts", "leaf_steps", "room", "levels"]) fun _ _ _ _ _ _ us hl => match us, hl with | [_, _, _, _], _ => rfl
    have B12 := F12.binds (ps := ["n", "inner", "leaf_steps", "room", "levels"]) fun _ _ _ _ _ _ us hl => match us, hl with | [_, _, _, _, _], _ => rfl
    have B13 := F13.binds (ps := ["nodes", "steps"]) fun _ _ _ _ _ _ us hl => match us, hl with | [_, _], _ => rfl
    have B14 := F14.binds (ps := ["job"]) fun _ _ _ _ _ _ us hl => match us, hl with | [_], _ => rfl
    have B15 := F15.binds (ps := ["parts"]) fun _ _ _ _ _ _ us hl => match us, hl with | [_], _ => rfl
    have B16 := F16.binds (ps := ["job"]) fun _ _ _ _ _ _ us hl => match us, hl with | [_], _ => rfl
    have B17 := F17.binds (ps := ["kind", "tidy_parts"]) fun _ _ _ _ _ _ us hl => match us, hl with | [_, _], _ => rfl
    have B18 := F18.binds (ps := ["parts"]) fun _ _ _ _ _ _ us hl => match us, hl with | [_], _ => rfl
    have B19 := F19.binds (ps := ["kind", "n", "inner"]) fun _ _ _ _ _ _ us hl => match us, hl with | [_, _, _], _ => rfl
    have B20 := F20.binds (ps := ["job", "kind"]) fun _ _ _ _ _ _ us hl => match us, hl with | [_, _], _ => rfl
    have B21 := F21.binds (ps := ["_law_script", "_law_k"]) fun _ _ _ _ _ _ us hl => match us, hl with | [_, _], _ => rfl
    have B22 := F22.binds (ps := ["_law_pot_here", "_law_many"]) fun _ _ _ _ _ _ us hl => match us, hl with | [_, _], _ => rfl
    have B23 := F23.binds (ps := ["_law_pot_here"]) fun _ _ _ _ _ _ us hl => match us, hl with | [_], _ => rfl
    have B24 := F24.binds (ps := ["_law_pot_here", "_law_deep", "_law_counts"]) fun _ _ _ _ _ _ us hl => match us, hl with | [_, _, _], _ => rfl
    have B25 := F25.binds (ps := ["_law_parts"]) fun _ _ _ _ _ _ us hl => match us, hl with | [_], _ => rfl
    have B26 := F26.binds (ps := ["_law_job_here"]) fun _ _ _ _ _ _ us hl => match us, hl with | [_], _ => rfl
    have B27 := F27.binds (ps := ["_law_pot_here"]) fun _ _ _ _ _ _ us hl => match us, hl with | [_], _ => rfl
    have B28 := F28.binds (ps := ["_law_job_here"]) fun _ _ _ _ _ _ us hl => match us, hl with | [_], _ => rfl
    have B29 := F29.binds (ps := ["_law_many"]) fun _ _ _ _ _ _ us hl => match us, hl with | [_], _ => rfl
    have B30 := F30.binds (ps := []) fun _ _ _ _ _ _ us hl => match us, hl with | [], _ => rfl
    have B31 := F31.binds (ps := ["self", "limit"]) fun _ _ _ _ _ _ us hl => match us, hl with | [_, _], _ => rfl
    exact {
      f_is_integer := f0, d_is_integer := _, F_is_integer := F0, b_is_integer := B0, m_is_integer := PySem.W.mg_of X G a0,
      f_is_within := f1, d_is_within := _, F_is_within := F1, b_is_within := B1, m_is_within := PySem.W.mg_of X G a1,
      f_is_job := f2, d_is_job := _, F_is_job := F2, b_is_job := B2, m_is_job := PySem.W.mg_of X G a2,
      f_step_count := f3, d_step_count := _, F_step_count := F3, b_step_count := B3, m_step_count := PySem.W.mg_of X G a3,
      f_net := f4, d_net := _, F_net := F4, b_net := B4, m_net := PySem.W.mg_of X G a4,
      f_lowest := f5, d_lowest := _, F_lowest := F5, b_lowest := B5, m_lowest := PySem.W.mg_of X G a5,
      f_tidy := f6, d_tidy := _, F_tidy := F6, b_tidy := B6, m_tidy := PySem.W.mg_of X G a6,
      f_checked_sizes := f7, d_checked_sizes := _, F_checked_sizes := F7, b_checked_sizes := B7, m_checked_sizes := PySem.W.mg_of X G a7,
      f_steps_of_leaf := f8, d_steps_of_leaf := _, F_steps_of_leaf := F8, b_steps_of_leaf := B8, m_steps_of_leaf := PySem.W.mg_of X G a8,
      f_sizes_of := f9, d_sizes_of := _, F_sizes_of := F9, b_sizes_of := B9, m_sizes_of := PySem.W.mg_of X G a9,
      f__sizes := f10, d__sizes := _, F__sizes := F10, b__sizes := B10, m__sizes := PySem.W.mg_of X G a10,
      f__sizes_of_parts := f11, d__sizes_of_parts := _, F__sizes_of_parts := F11, b__sizes_of_parts := B11, m__sizes_of_parts := PySem.W.mg_of X G a11,
      f__sizes_of_rounds := f12, d__sizes_of_rounds := _, F__sizes_of_rounds := F12, b__sizes_of_rounds := B12, m__sizes_of_rounds := PySem.W.mg_of X G a12,
      f__within_count := f13, d__within_count := _, F__within_count := F13, b__within_count := B13, m__within_count := PySem.W.mg_of X G a13,
      f__net_and_lowest := f14, d__net_and_lowest := _, F__net_and_lowest := F14, b__net_and_lowest := B14, m__net_and_lowest := PySem.W.mg_of X G a14,
      f__net_and_lowest_of_seq := f15, d__net_and_lowest_of_seq := _, F__net_and_lowest_of_seq := F15, b__net_and_lowest_of_seq := B15, m__net_and_lowest_of_seq := PySem.W.mg_of X G a15,
      f_tidied := f16, d_tidied := _, F_tidied := F16, b_tidied := B16, m_tidied := PySem.W.mg_of X G a16,
      f__tidied_parts := f17, d__tidied_parts := _, F__tidied_parts := F17, b__tidied_parts := B17, m__tidied_parts := PySem.W.mg_of X G a17,
      f__grouped := f18, d__grouped := _, F__grouped := F18, b__grouped := B18, m__grouped := PySem.W.mg_of X G a18,
      f__tidied_rounds := f19, d__tidied_rounds := _, F__tidied_rounds := F19, b__tidied_rounds := B19, m__tidied_rounds := PySem.W.mg_of X G a19,
      f__has_kind := f20, d__has_kind := _, F__has_kind := F20, b__has_kind := B20, m__has_kind := PySem.W.mg_of X G a20,
      f__law_pot := f21, d__law_pot := _, F__law_pot := F21, b__law_pot := B21, m__law_pot := PySem.W.mg_of X G a21,
      f__law_take := f22, d__law_take := _, F__law_take := F22, b__law_take := B22, m__law_take := PySem.W.mg_of X G a22,
      f__law_step := f23, d__law_step := _, F__law_step := F23, b__law_step := B23, m__law_step := PySem.W.mg_of X G a23,
      f__law_job := f24, d__law_job := _, F__law_job := F24, b__law_job := B24, m__law_job := PySem.W.mg_of X G a24,
      f__law_joined := f25, d__law_joined := _, F__law_joined := F25, b__law_joined := B25, m__law_joined := PySem.W.mg_of X G a25,
      f__law_tidy := f26, d__law_tidy := _, F__law_tidy := F26, b__law_tidy := B26, m__law_tidy := PySem.W.mg_of X G a26,
      f__law_few := f27, d__law_few := _, F__law_few := F27, b__law_few := B27, m__law_few := PySem.W.mg_of X G a27,
      f__law_raised := f28, d__law_raised := _, F__law_raised := F28, b__law_raised := B28, m__law_raised := PySem.W.mg_of X G a28,
      f__law_nest := f29, d__law_nest := _, F__law_nest := F29, b__law_nest := B29, m__law_nest := PySem.W.mg_of X G a29,
      f__law_limits_right := f30, d__law_limits_right := _, F__law_limits_right := F30, b__law_limits_right := B30, m__law_limits_right := PySem.W.mg_of X G a30,
      c_TooMany := u0c, g_TooMany := PySem.W.mg_of X G u0g, f_TooMany_init := f31, d_TooMany_init := _, F_TooMany_init := F31, b_TooMany_init := B31, ox_TooMany := ⟨⟨_, _, _, _, PySem.F.excBase_OverflowError, PySem.F.store_OverflowError, u0q, u0o⟩, u0d, u0s, u0b, u0t, u0k⟩, iC_TooMany := u0i, tI_TooMany := u0f, no_TooMany := u0n, xf_TooMany := ⟨u0ga, u0gg, u0b, u0d⟩, xc_TooMany := ⟨u0ga, u0gg, u0b, u0d, u0ha, u0hn, u0ht, u0hm⟩, e_TooMany_TooMany := exm_sub u0b u0cl u0t u0ss,
      t_MAX_STEP := tk0, g_MAX_STEP := PySem.W.mg_of X G gc0,
      t_MAX_COUNT := tk1, g_MAX_COUNT := PySem.W.mg_of X G gc1,
      t_MAX_PARTS := tk2, g_MAX_PARTS := PySem.W.mg_of X G gc2,
      t_MAX_NODES := tk3, g_MAX_NODES := PySem.W.mg_of X G gc3,
      t_MAX_DEPTH := tk4, g_MAX_DEPTH := PySem.W.mg_of X G gc4,
      t_EMPTY := tt0, g_EMPTY := PySem.W.mg_of X G tg0, d_EMPTY := dp_seqE tk0l te0l,
      c_JobError := v0c, g_JobError := PySem.W.mg_of X G v0g,
      q_TooMany_JobError := kit_of q0 u0ss v0i v0t,
      n_abs := PySem.W.mg_none_of X G z0,
      n_bool := PySem.W.mg_none_of X G z1,
      n_int := PySem.W.mg_none_of X G z2,
      n_isinstance := PySem.W.mg_none_of X G z3,
      n_len := PySem.W.mg_none_of X G z4,
      n_list := PySem.W.mg_none_of X G z5,
      n_max := PySem.W.mg_none_of X G z6,
      n_min := PySem.W.mg_none_of X G z7,
      n_range := PySem.W.mg_none_of X G z8,
      n_repr := PySem.W.mg_none_of X G z9,
      n_sum := PySem.W.mg_none_of X G z10,
      n_tuple := PySem.W.mg_none_of X G z11,
      n_zip := PySem.W.mg_none_of X G z12 }
  exact ⟨PySem.W.fnOf "law" "law" (defArgs s_law) (defBody s_law) (defScope s_law) .none kV32 dc32 pm32 an32 cd32 ct32, fun s v => .of_eq rfl, fun base _ _ hs => ok_law (fun_mk (st := s_law) l32 c32 k32) T hs⟩
end Lw

open PySem PySem.W PyProof.Rows
set_option maxRecDepth 100000 in
set_option maxHeartbeats 0 in
theorem PySem.Challenge.cw_roomprofile_k05_tidy_jobs_holds : PySem.Challenge.rw_roomprofile_k05_tidy_jobs.Holds := by
  w_on; o_law; k_head; (case hw => w_witness2)
  k_fill
  refine Rp.law_endS (l := PySem.Challenge.rw_roomprofile_k05_tidy_jobs) (n := 63) (k := 70) (x := "_law_script") (sp := Lw.spLaw) rfl (by decide) rfl ⟨rfl, by decide, by decide⟩ (by rfl) (fun w h Y => PySem.W.kIn_of Y) ?F (fun K H a ns hl hO hS => ⟨a, ns, rfl, hO, hS, hl, fun _ => rfl⟩)
  case F =>
    intro w mg fa h KX G hmg
    refine' Lw.all_mk KX G hmg ?a0 ?l0 ?c0 ?k0 ?a1 ?l1 ?c1 ?k1 ?a2 ?l2 ?c2 ?k2 ?a3 ?l3 ?c3 ?k3 ?a4 ?l4 ?c4 ?k4 ?a5 ?l5 ?c5 ?k5 ?a6 ?l6 ?c6 ?k6 ?a7 ?l7 ?c7 ?k7 ?a8 ?l8 ?c8 ?k8 ?a9 ?l9 ?c9 ?k9 ?a10 ?l10 ?c10 ?k10 ?a11 ?l11 ?c11 ?k11 ?a12 ?l12 ?c12 ?k12 ?a13 ?l13 ?c13 ?k13 ?a14 ?l14 ?c14 ?k14 ?a15 ?l15 ?c15 ?k15 ?a16 ?l16 ?c16 ?k16 ?a17 ?l17 ?c17 ?k17 ?a18 ?l18 ?c18 ?k18 ?a19 ?l19 ?c19 ?k19 ?a20 ?l20 ?c20 ?k20 ?a21 ?l21 ?c21 ?k21 ?a22 ?l22 ?c22 ?k22 ?a23 ?l23 ?c23 ?k23 ?a24 ?l24 ?c24 ?k24 ?a25 ?l25 ?c25 ?k25 ?a26 ?l26 ?c26 ?k26 ?a27 ?l27 ?c27 ?k27 ?a28 ?l28 ?c28 ?k28 ?a29 ?l29 ?c29 ?k29 ?a30 ?l30 ?c30 ?k30 ?a32 ?l32 ?c32 ?k32 ?u0g ?u0q ?u0o ?u0d ?u0s ?u0b ?u0t ?u0k ?u0i ?u0f ?u0n ?u0ga ?u0gg ?u0cl ?u0ss ?u0ha ?u0hn ?u0ht ?u0hm ?l31 ?c31 ?k31 ?gc0 ?gc1 ?gc2 ?gc3 ?gc4 ?tg0 ?tk0l ?te0l ?v0g ?v0i ?v0t ?q0 ?z0 ?z1 ?z2 ?z3 ?z4 ?z5 ?z6 ?z7 ?z8 ?z9 ?z10 ?z11 ?z12
    (case a0 => k_is)
    (case l0 => k_is)
    (case c0 => k_is)
    (case k0 => k_is)
    (case a1 => k_is)
    (case l1 => k_is)
    (case c1 => k_is)
    (case k1 => k_is)
    (case a2 => k_is)
    (case l2 => k_is)
    (case c2 => k_is)
    (case k2 => k_is)
    (case a3 => k_is)
    (case l3 => k_is)
    (case c3 => k_is)
    (case k3 => k_is)
    (case a4 => k_is)
    (case l4 => k_is)
    (case c4 => k_is)
    (case k4 => k_is)
    (case a5 => k_is)
    (case l5 => k_is)
    (case c5 => k_is)
    (case k5 => k_is)
    (case a6 => k_is)
    (case l6 => k_is)
    (case c6 => k_is)
    (case k6 => k_is)
    (case a7 => k_is)
    (case l7 => k_is)
    (case c7 => k_is)
    (case k7 => k_is)
    (case a8 => k_is)
    (case l8 => k_is)
    (case c8 => k_is)
    (case k8 => k_is)
    (case a9 => k_is)
    (case l9 => k_is)
    (case c9 => k_is)
    (case k9 => k_is)
    (case a10 => k_is)
    (case l10 => k_is)
    (case c10 => k_is)
    (case k10 => k_is)
    (case a11 => k_is)
    (case l11 => k_is)
    (case c11 => k_is)
    (case k11 => k_is)
    (case a12 => k_is)
    (case l12 => k_is)
    (case c12 => k_is)
    (case k12 => k_is)
    (case a13 => k_is)
    (case l13 => k_is)
    (case c13 => k_is)
    (case k13 => k_is)
    (case a14 => k_is)
    (case l14 => k_is)
    (case c14 => k_is)
    (case k14 => k_is)
    (case a15 => k_is)
    (case l15 => k_is)
    (case c15 => k_is)
    (case k15 => k_is)
    (case a16 => k_is)
    (case l16 => k_is)
    (case c16 => k_is)
    (case k16 => k_is)
    (case a17 => k_is)
    (case l17 => k_is)
    (case c17 => k_is)
    (case k17 => k_is)
    (case a18 => k_is)
    (case l18 => k_is)
    (case c18 => k_is)
    (case k18 => k_is)
    (case a19 => k_is)
    (case l19 => k_is)
    (case c19 => k_is)
    (case k19 => k_is)
    (case a20 => k_is)
    (case l20 => k_is)
    (case c20 => k_is)
    (case k20 => k_is)
    (case a21 => k_is)
    (case l21 => k_is)
    (case c21 => k_is)
    (case k21 => k_is)
    (case a22 => k_is)
    (case l22 => k_is)
    (case c22 => k_is)
    (case k22 => k_is)
    (case a23 => k_is)
    (case l23 => k_is)
    (case c23 => k_is)
    (case k23 => k_is)
    (case a24 => k_is)
    (case l24 => k_is)
    (case c24 => k_is)
    (case k24 => k_is)
    (case a25 => k_is)
    (case l25 => k_is)
    (case c25 => k_is)
    (case k25 => k_is)
    (case a26 => k_is)
    (case l26 => k_is)
    (case c26 => k_is)
    (case k26 => k_is)
    (case a27 => k_is)
    (case l27 => k_is)
    (case c27 => k_is)
    (case k27 => k_is)
    (case a28 => k_is)
    (case l28 => k_is)
    (case c28 => k_is)
    (case k28 => k_is)
    (case a29 => k_is)
    (case l29 => k_is)
    (case c29 => k_is)
    (case k29 => k_is)
    (case a30 => k_is)
    (case l30 => k_is)
    (case c30 => k_is)
    (case k30 => k_is)
    (case a32 => k_is)
    (case l32 => k_is)
    (case c32 => k_is)
    (case k32 => k_is)
    (case u0g => k_is)
    (case u0q => kx_is)
    (case u0o => kx_is)
    (case u0d => k_is)
    (case u0s => k_is)
    (case u0b => k_is)
    (case u0t => k_is)
    (case u0k => k_is)
    (case u0i => k_is)
    (case u0f => k_is)
    (case u0n => k_is)
    (case u0ga => k_is)
    (case u0gg => k_is)
    (case u0cl => k_is)
    (case u0ss => k_is)
    (case u0ha => k_is)
    (case u0hn => k_is)
    (case u0ht => k_is)
    (case u0hm => k_is)
    (case l31 => k_is)
    (case c31 => k_is)
    (case k31 => k_is)
    (case gc0 => k_is)
    (case gc1 => k_is)
    (case gc2 => k_is)
    (case gc3 => k_is)
    (case gc4 => k_is)
    (case tg0 => k_is)
    (case tk0l => k_is)
    (case te0l => k_is)
    (case v0g => k_is)
    (case v0i => k_is)
    (case v0t => k_is)
    (case q0 => first | rfl | k_is)
    (case z0 => k_is)
    (case z1 => k_is)
    (case z2 => k_is)
    (case z3 => k_is)
    (case z4 => k_is)
    (case z5 => k_is)
    (case z6 => k_is)
    (case z7 => k_is)
    (case z8 => k_is)
    (case z9 => k_is)
    (case z10 => k_is)
    (case z11 => k_is)
    (case z12 => k_is)
