import PyProof.Rows.All
import Wide.All
import OpenK.AllK
import Wide.FinOn
import HandS.ForMost
import HandS.IsInst
import HandS.TupAny
import HandS.Wide
import HandS.Codes
import HandS.Style
import PyProof.ReprRoads
import PyProof.ReprLen
import PyProof.ReprBulk
import PyProof.FitsInt
import HandS.Defaults
import HandS.MakeKwOnly
import HandS.TryOnly
import HandS.ForExc
import HandS.TryMany
import HandS.Zip
import HandS.Walk
import HandS.TupSets
import HandS.NamedTupSort
import HandS.SortOrd
import HandS.SortRule
import HandS.DictComp
import PyProof.MaxThree
import HandS.Rev
import HandS.DictTup
import PyProof.TupleOfSeq
import HandS.TupMul
import KE.KDictPairs
import KE.KDictKeyed
import KE.KDictCopyH
import PyProof.Rows.SeqRoads
import KE.DataMinMax
import PyProof.EqKinds
import HandS.Deep
import HandS.CallLocal
import KE.KExcLine
import HandS.Star
import HandS.Gcd
import HandS.Small
import HandS.WideBits
import PyProof.Rows.BitMore
import HandS.Head0
import HandS.Head1
import HandS.Head2
import HandS.Head3
import PySem.Challenge.RW_roomprofile_k64_choices_told
set_option Elab.async false
set_option linter.all false
set_option maxRecDepth 100000
set_option maxHeartbeats 4000000
namespace Lw
open PySem L2
def top (i : Nat) : Stmt := PySem.Challenge.pw_roomprofile_k64_choices_told.main.body.getD i (.Pass ⟨0, 0, 0, 0⟩)
abbrev s__wall : Stmt := top 0
abbrev s_is_integer : Stmt := top 10
abbrev s_is_within : Stmt := top 11
abbrev s_is_short_integer : Stmt := top 12
abbrev s_check_number : Stmt := top 13
abbrev s_checked_sizes : Stmt := top 20
abbrev s_steps_of_leaf : Stmt := top 21
abbrev s_sizes_of : Stmt := top 22
abbrev s__sizes : Stmt := top 23
abbrev s__sizes_of_parts : Stmt := top 24
abbrev s__sizes_of_rounds : Stmt := top 25
abbrev s__within_count : Stmt := top 26
abbrev s_is_address : Stmt := top 29
abbrev s_precedes : Stmt := top 30
abbrev s_check_small : Stmt := top 31
abbrev s_is_index_tuple : Stmt := top 32
abbrev s_find_step : Stmt := top 33
abbrev s__checked_step : Stmt := top 34
abbrev s__part_at : Stmt := top 35
abbrev s_step_rows : Stmt := top 36
abbrev s__rows_by_index : Stmt := top 37
abbrev s__row_within : Stmt := top 38
abbrev s_choices : Stmt := top 40
abbrev s_is_choice : Stmt := top 41
abbrev s__choices : Stmt := top 42
abbrev s__is_choice : Stmt := top 43
abbrev s_available : Stmt := top 47
abbrev s_checked_state : Stmt := top 48
abbrev s__find_state : Stmt := top 49
abbrev s__is_ascending : Stmt := top 50
abbrev s__law_source : Stmt := top 52
abbrev s__law_draw : Stmt := top 53
abbrev s__law_great : Stmt := top 54
abbrev s__law_step : Stmt := top 55
abbrev s__law_empty : Stmt := top 56
abbrev s__law_job : Stmt := top 57
abbrev s__law_great_job : Stmt := top 58
abbrev s__law_odd : Stmt := top 59
abbrev s__law_rows : Stmt := top 60
abbrev s__law_firsts : Stmt := top 61
abbrev s__law_small_right : Stmt := top 62
abbrev s__law_great_right : Stmt := top 63
abbrev s_DoneSteps_init : Stmt := inClass (top 45) 0
abbrev s_DoneSteps_may_do : Stmt := inClass (top 45) 1
abbrev s_DoneSteps_do_step : Stmt := inClass (top 45) 2
abbrev s_DoneSteps_do_all : Stmt := inClass (top 45) 4
abbrev s_DoneSteps_is_complete : Stmt := inClass (top 45) 5
abbrev s_law : Stmt := top 64
def Facts (K : PySem.W.Frag) : Prop := ∀ R : Prop, (∀ {od0 an0 : Option Addr} {sl0 : Array (Option Value)} {oc0 kV0 dc0 pm0 cd0 ct0 : Value} {f0 : Addr}
    {od1 an1 : Option Addr} {sl1 : Array (Option Value)} {oc1 kV1 dc1 pm1 cd1 ct1 : Value} {f1 : Addr}
    {od2 an2 : Option Addr} {sl2 : Array (Option Value)} {oc2 kV2 dc2 pm2 cd2 ct2 : Value} {f2 : Addr}
    {od3 an3 : Option Addr} {sl3 : Array (Option Value)} {oc3 kV3 dc3 pm3 cd3 ct3 : Value} {f3 : Addr}
    {od4 an4 : Option Addr} {sl4 : Array (Option Value)} {oc4 kV4 dc4 pm4 cd4 ct4 : Value} {f4 : Addr}
    {od5 an5 : Option Addr} {sl5 : Array (Option Value)} {oc5 kV5 dc5 pm5 cd5 ct5 : Value} {f5 : Addr}
    {od6 an6 : Option Addr} {sl6 : Array (Option Value)} {oc6 kV6 dc6 pm6 cd6 ct6 : Value} {f6 : Addr}
    {od7 an7 : Option Addr} {sl7 : Array (Option Value)} {oc7 kV7 dc7 pm7 cd7 ct7 : Value} {f7 : Addr}
    {od8 an8 : Option Addr} {sl8 : Array (Option Value)} {oc8 kV8 dc8 pm8 cd8 ct8 : Value} {f8 : Addr}
    {od9 an9 : Option Addr} {sl9 : Array (Option Value)} {oc9 kV9 dc9 pm9 cd9 ct9 : Value} {f9 : Addr}
    {od10 an10 : Option Addr} {sl10 : Array (Option Value)} {oc10 kV10 dc10 pm10 cd10 ct10 : Value} {f10 : Addr}
    {od11 an11 : Option Addr} {sl11 : Array (Option Value)} {oc11 kV11 dc11 pm11 cd11 ct11 : Value} {f11 : Addr}
    {od12 an12 : Option Addr} {sl12 : Array (Option Value)} {oc12 kV12 dc12 pm12 cd12 ct12 : Value} {f12 : Addr}
    {od13 an13 : Option Addr} {sl13 : Array (Option Value)} {oc13 kV13 dc13 pm13 cd13 ct13 : Value} {f13 : Addr}
    {od14 an14 : Option Addr} {sl14 : Array (Option Value)} {oc14 kV14 dc14 pm14 cd14 ct14 : Value} {f14 : Addr}
    {od15 an15 : Option Addr} {sl15 : Array (Option Value)} {oc15 kV15 dc15 pm15 cd15 ct15 : Value} {f15 : Addr}
    {od16 an16 : Option Addr} {sl16 : Array (Option Value)} {oc16 kV16 dc16 pm16 cd16 ct16 : Value} {f16 : Addr}
    {od17 an17 : Option Addr} {sl17 : Array (Option Value)} {oc17 kV17 dc17 pm17 cd17 ct17 : Value} {f17 : Addr}
    {od18 an18 : Option Addr} {sl18 : Array (Option Value)} {oc18 kV18 dc18 pm18 cd18 ct18 : Value} {f18 : Addr}
    {od19 an19 : Option Addr} {sl19 : Array (Option Value)} {oc19 kV19 dc19 pm19 cd19 ct19 : Value} {f19 : Addr}
    {od20 an20 : Option Addr} {sl20 : Array (Option Value)} {oc20 kV20 dc20 pm20 cd20 ct20 : Value} {f20 : Addr}
    {od21 an21 : Option Addr} {sl21 : Array (Option Value)} {oc21 kV21 dc21 pm21 cd21 ct21 : Value} {f21 : Addr}
    {od22 an22 : Option Addr} {sl22 : Array (Option Value)} {oc22 kV22 dc22 pm22 cd22 ct22 : Value} {f22 : Addr}
    {od23 an23 : Option Addr} {sl23 : Array (Option Value)} {oc23 kV23 dc23 pm23 cd23 ct23 : Value} {f23 : Addr}
    {od24 an24 : Option Addr} {sl24 : Array (Option Value)} {oc24 kV24 dc24 pm24 cd24 ct24 : Value} {f24 : Addr}
    {od25 an25 : Option Addr} {sl25 : Array (Option Value)} {oc25 kV25 dc25 pm25 cd25 ct25 : Value} {f25 : Addr}
    {od26 an26 : Option Addr} {sl26 : Array (Option Value)} {oc26 dc26 pm26 cd26 ct26 : Value} {f26 kD26 : Addr}
    {od27 an27 : Option Addr} {sl27 : Array (Option Value)} {oc27 kV27 dc27 pm27 cd27 ct27 : Value} {f27 : Addr}
    {od28 an28 : Option Addr} {sl28 : Array (Option Value)} {oc28 kV28 dc28 pm28 cd28 ct28 : Value} {f28 : Addr}
    {od29 an29 : Option Addr} {sl29 : Array (Option Value)} {oc29 kV29 dc29 pm29 cd29 ct29 : Value} {f29 : Addr}
    {od30 an30 : Option Addr} {sl30 : Array (Option Value)} {oc30 kV30 dc30 pm30 cd30 ct30 : Value} {f30 : Addr}
    {od31 an31 : Option Addr} {sl31 : Array (Option Value)} {oc31 kV31 dc31 pm31 cd31 ct31 : Value} {f31 : Addr}
    {od32 an32 : Option Addr} {sl32 : Array (Option Value)} {oc32 kV32 dc32 pm32 cd32 ct32 : Value} {f32 : Addr}
    {od33 an33 : Option Addr} {sl33 : Array (Option Value)} {oc33 kV33 dc33 pm33 cd33 ct33 : Value} {f33 : Addr}
    {od34 an34 : Option Addr} {sl34 : Array (Option Value)} {oc34 kV34 dc34 pm34 cd34 ct34 : Value} {f34 : Addr}
    {od35 an35 : Option Addr} {sl35 : Array (Option Value)} {oc35 kV35 dc35 pm35 cd35 ct35 : Value} {f35 : Addr}
    {od36 an36 : Option Addr} {sl36 : Array (Option Value)} {oc36 kV36 dc36 pm36 cd36 ct36 : Value} {f36 : Addr}
    {od37 an37 : Option Addr} {sl37 : Array (Option Value)} {oc37 kV37 dc37 pm37 cd37 ct37 : Value} {f37 : Addr}
    {od38 an38 : Option Addr} {sl38 : Array (Option Value)} {oc38 kV38 dc38 pm38 cd38 ct38 : Value} {f38 : Addr}
    {od39 an39 : Option Addr} {sl39 : Array (Option Value)} {oc39 kV39 dc39 pm39 cd39 ct39 : Value} {f39 : Addr}
    {od40 an40 : Option Addr} {sl40 : Array (Option Value)} {oc40 kV40 dc40 pm40 cd40 ct40 : Value} {f40 : Addr}
    {od41 an41 : Option Addr} {sl41 : Array (Option Value)} {oc41 kV41 dc41 pm41 cd41 ct41 : Value} {f41 : Addr}
    {od42 an42 : Option Addr} {sl42 : Array (Option Value)} {oc42 kV42 dc42 pm42 cd42 ct42 : Value} {f42 : Addr}
    {od43 an43 : Option Addr} {sl43 : Array (Option Value)} {oc43 kV43 dc43 pm43 cd43 ct43 : Value} {f43 : Addr}
    {od44 an44 : Option Addr} {sl44 : Array (Option Value)} {oc44 kV44 dc44 pm44 cd44 ct44 : Value} {f44 : Addr}
    {od45 an45 : Option Addr} {sl45 : Array (Option Value)} {oc45 kV45 dc45 pm45 cd45 ct45 : Value} {f45 : Addr}
    {od46 an46 : Option Addr} {sl46 : Array (Option Value)} {oc46 kV46 dc46 pm46 cd46 ct46 : Value} {f46 : Addr}
    {od47 an47 : Option Addr} {sl47 : Array (Option Value)} {oc47 kV47 dc47 pm47 cd47 ct47 : Value} {f47 : Addr}
    {w0c : Addr}
    {tk0 : Tok}
    {tk1 : Tok}
    {tk2 : Tok}
    {tk3 : Tok}
    {tk4 : Tok}
    {tk5 : Tok}
    {tk6 : Tok}
    {x0c : Addr}
    (a0 : PySem.W.nsIn K mainGlobals "_wall" = some (some (.ref f0)))
    (l0 : K.lookup f0 = some ⟨oc0, od0, .func (PySem.W.fnOf "_wall" "_wall" (defArgs s__wall) (defBody s__wall) (defScope s__wall) .none kV0 dc0 pm0 an0 cd0 ct0), sl0⟩)
    (c0 : PySem.W.codeIn K cd0 "_wall" = true) (k0 : PySem.W.keepIn K (.ref f0) = true)
    (a1 : PySem.W.nsIn K mainGlobals "is_integer" = some (some (.ref f1)))
    (l1 : K.lookup f1 = some ⟨oc1, od1, .func (PySem.W.fnOf "is_integer" "is_integer" (defArgs s_is_integer) (defBody s_is_integer) (defScope s_is_integer) .none kV1 dc1 pm1 an1 cd1 ct1), sl1⟩)
    (c1 : PySem.W.codeIn K cd1 "is_integer" = true) (k1 : PySem.W.keepIn K (.ref f1) = true)
    (a2 : PySem.W.nsIn K mainGlobals "is_within" = some (some (.ref f2)))
    (l2 : K.lookup f2 = some ⟨oc2, od2, .func (PySem.W.fnOf "is_within" "is_within" (defArgs s_is_within) (defBody s_is_within) (defScope s_is_within) .none kV2 dc2 pm2 an2 cd2 ct2), sl2⟩)
    (c2 : PySem.W.codeIn K cd2 "is_within" = true) (k2 : PySem.W.keepIn K (.ref f2) = true)
    (a3 : PySem.W.nsIn K mainGlobals "is_short_integer" = some (some (.ref f3)))
    (l3 : K.lookup f3 = some ⟨oc3, od3, .func (PySem.W.fnOf "is_short_integer" "is_short_integer" (defArgs s_is_short_integer) (defBody s_is_short_integer) (defScope s_is_short_integer) .none kV3 dc3 pm3 an3 cd3 ct3), sl3⟩)
    (c3 : PySem.W.codeIn K cd3 "is_short_integer" = true) (k3 : PySem.W.keepIn K (.ref f3) = true)
    (a4 : PySem.W.nsIn K mainGlobals "check_number" = some (some (.ref f4)))
    (l4 : K.lookup f4 = some ⟨oc4, od4, .func (PySem.W.fnOf "check_number" "check_number" (defArgs s_check_number) (defBody s_check_number) (defScope s_check_number) .none kV4 dc4 pm4 an4 cd4 ct4), sl4⟩)
    (c4 : PySem.W.codeIn K cd4 "check_number" = true) (k4 : PySem.W.keepIn K (.ref f4) = true)
    (a5 : PySem.W.nsIn K mainGlobals "checked_sizes" = some (some (.ref f5)))
    (l5 : K.lookup f5 = some ⟨oc5, od5, .func (PySem.W.fnOf "checked_sizes" "checked_sizes" (defArgs s_checked_sizes) (defBody s_checked_sizes) (defScope s_checked_sizes) .none kV5 dc5 pm5 an5 cd5 ct5), sl5⟩)
    (c5 : PySem.W.codeIn K cd5 "checked_sizes" = true) (k5 : PySem.W.keepIn K (.ref f5) = true)
    (a6 : PySem.W.nsIn K mainGlobals "steps_of_leaf" = some (some (.ref f6)))
    (l6 : K.lookup f6 = some ⟨oc6, od6, .func (PySem.W.fnOf "steps_of_leaf" "steps_of_leaf" (defArgs s_steps_of_leaf) (defBody s_steps_of_leaf) (defScope s_steps_of_leaf) .none kV6 dc6 pm6 an6 cd6 ct6), sl6⟩)
    (c6 : PySem.W.codeIn K cd6 "steps_of_leaf" = true) (k6 : PySem.W.keepIn K (.ref f6) = true)
    (a7 : PySem.W.nsIn K mainGlobals "sizes_of" = some (some (.ref f7)))
    (l7 : K.lookup f7 = some ⟨oc7, od7, .func (PySem.W.fnOf "sizes_of" "sizes_of" (defArgs s_sizes_of) (defBody s_sizes_of) (defScope s_sizes_of) .none kV7 dc7 pm7 an7 cd7 ct7), sl7⟩)
    (c7 : PySem.W.codeIn K cd7 "sizes_of" = true) (k7 : PySem.W.keepIn K (.ref f7) = true)
    (a8 : PySem.W.nsIn K mainGlobals "_sizes" = some (some (.ref f8)))
    (l8 : K.lookup f8 = some ⟨oc8, od8, .func (PySem.W.fnOf "_sizes" "_sizes" (defArgs s__sizes) (defBody s__sizes) (defScope s__sizes) .none kV8 dc8 pm8 an8 cd8 ct8), sl8⟩)
    (c8 : PySem.W.codeIn K cd8 "_sizes" = true) (k8 : PySem.W.keepIn K (.ref f8) = true)
    (a9 : PySem.W.nsIn K mainGlobals "_sizes_of_parts" = some (some (.ref f9)))
    (l9 : K.lookup f9 = some ⟨oc9, od9, .func (PySem.W.fnOf "_sizes_of_parts" "_sizes_of_parts" (defArgs s__sizes_of_parts) (defBody s__sizes_of_parts) (defScope s__sizes_of_parts) .none kV9 dc9 pm9 an9 cd9 ct9), sl9⟩)
    (c9 : PySem.W.codeIn K cd9 "_sizes_of_parts" = true) (k9 : PySem.W.keepIn K (.ref f9) = true)
    (a10 : PySem.W.nsIn K mainGlobals "_sizes_of_rounds" = some (some (.ref f10)))
    (l10 : K.lookup f10 = some ⟨oc10, od10, .func (PySem.W.fnOf "_sizes_of_rounds" "_sizes_of_rounds" (defArgs s__sizes_of_rounds) (defBody s__sizes_of_rounds) (defScope s__sizes_of_rounds) .none kV10 dc10 pm10 an10 cd10 ct10), sl10⟩)
    (c10 : PySem.W.codeIn K cd10 "_sizes_of_rounds" = true) (k10 : PySem.W.keepIn K (.ref f10) = true)
    (a11 : PySem.W.nsIn K mainGlobals "_within_count" = some (some (.ref f11)))
    (l11 : K.lookup f11 = some ⟨oc11, od11, .func (PySem.W.fnOf "_within_count" "_within_count" (defArgs s__within_count) (defBody s__within_count) (defScope s__within_count) .none kV11 dc11 pm11 an11 cd11 ct11), sl11⟩)
    (c11 : PySem.W.codeIn K cd11 "_within_count" = true) (k11 : PySem.W.keepIn K (.ref f11) = true)
    (a12 : PySem.W.nsIn K mainGlobals "is_address" = some (some (.ref f12)))
    (l12 : K.lookup f12 = some ⟨oc12, od12, .func (PySem.W.fnOf "is_address" "is_address" (defArgs s_is_address) (defBody s_is_address) (defScope s_is_address) .none kV12 dc12 pm12 an12 cd12 ct12), sl12⟩)
    (c12 : PySem.W.codeIn K cd12 "is_address" = true) (k12 : PySem.W.keepIn K (.ref f12) = true)
    (a13 : PySem.W.nsIn K mainGlobals "precedes" = some (some (.ref f13)))
    (l13 : K.lookup f13 = some ⟨oc13, od13, .func (PySem.W.fnOf "precedes" "precedes" (defArgs s_precedes) (defBody s_precedes) (defScope s_precedes) .none kV13 dc13 pm13 an13 cd13 ct13), sl13⟩)
    (c13 : PySem.W.codeIn K cd13 "precedes" = true) (k13 : PySem.W.keepIn K (.ref f13) = true)
    (a14 : PySem.W.nsIn K mainGlobals "check_small" = some (some (.ref f14)))
    (l14 : K.lookup f14 = some ⟨oc14, od14, .func (PySem.W.fnOf "check_small" "check_small" (defArgs s_check_small) (defBody s_check_small) (defScope s_check_small) .none kV14 dc14 pm14 an14 cd14 ct14), sl14⟩)
    (c14 : PySem.W.codeIn K cd14 "check_small" = true) (k14 : PySem.W.keepIn K (.ref f14) = true)
    (a15 : PySem.W.nsIn K mainGlobals "is_index_tuple" = some (some (.ref f15)))
    (l15 : K.lookup f15 = some ⟨oc15, od15, .func (PySem.W.fnOf "is_index_tuple" "is_index_tuple" (defArgs s_is_index_tuple) (defBody s_is_index_tuple) (defScope s_is_index_tuple) .none kV15 dc15 pm15 an15 cd15 ct15), sl15⟩)
    (c15 : PySem.W.codeIn K cd15 "is_index_tuple" = true) (k15 : PySem.W.keepIn K (.ref f15) = true)
    (a16 : PySem.W.nsIn K mainGlobals "find_step" = some (some (.ref f16)))
    (l16 : K.lookup f16 = some ⟨oc16, od16, .func (PySem.W.fnOf "find_step" "find_step" (defArgs s_find_step) (defBody s_find_step) (defScope s_find_step) .none kV16 dc16 pm16 an16 cd16 ct16), sl16⟩)
    (c16 : PySem.W.codeIn K cd16 "find_step" = true) (k16 : PySem.W.keepIn K (.ref f16) = true)
    (a17 : PySem.W.nsIn K mainGlobals "_checked_step" = some (some (.ref f17)))
    (l17 : K.lookup f17 = some ⟨oc17, od17, .func (PySem.W.fnOf "_checked_step" "_checked_step" (defArgs s__checked_step) (defBody s__checked_step) (defScope s__checked_step) .none kV17 dc17 pm17 an17 cd17 ct17), sl17⟩)
    (c17 : PySem.W.codeIn K cd17 "_checked_step" = true) (k17 : PySem.W.keepIn K (.ref f17) = true)
    (a18 : PySem.W.nsIn K mainGlobals "_part_at" = some (some (.ref f18)))
    (l18 : K.lookup f18 = some ⟨oc18, od18, .func (PySem.W.fnOf "_part_at" "_part_at" (defArgs s__part_at) (defBody s__part_at) (defScope s__part_at) .none kV18 dc18 pm18 an18 cd18 ct18), sl18⟩)
    (c18 : PySem.W.codeIn K cd18 "_part_at" = true) (k18 : PySem.W.keepIn K (.ref f18) = true)
    (a19 : PySem.W.nsIn K mainGlobals "step_rows" = some (some (.ref f19)))
    (l19 : K.lookup f19 = some ⟨oc19, od19, .func (PySem.W.fnOf "step_rows" "step_rows" (defArgs s_step_rows) (defBody s_step_rows) (defScope s_step_rows) .none kV19 dc19 pm19 an19 cd19 ct19), sl19⟩)
    (c19 : PySem.W.codeIn K cd19 "step_rows" = true) (k19 : PySem.W.keepIn K (.ref f19) = true)
    (a20 : PySem.W.nsIn K mainGlobals "_rows_by_index" = some (some (.ref f20)))
    (l20 : K.lookup f20 = some ⟨oc20, od20, .func (PySem.W.fnOf "_rows_by_index" "_rows_by_index" (defArgs s__rows_by_index) (defBody s__rows_by_index) (defScope s__rows_by_index) .none kV20 dc20 pm20 an20 cd20 ct20), sl20⟩)
    (c20 : PySem.W.codeIn K cd20 "_rows_by_index" = true) (k20 : PySem.W.keepIn K (.ref f20) = true)
    (a21 : PySem.W.nsIn K mainGlobals "_row_within" = some (some (.ref f21)))
    (l21 : K.lookup f21 = some ⟨oc21, od21, .func (PySem.W.fnOf "_row_within" "_row_within" (defArgs s__row_within) (defBody s__row_within) (defScope s__row_within) .none kV21 dc21 pm21 an21 cd21 ct21), sl21⟩)
    (c21 : PySem.W.codeIn K cd21 "_row_within" = true) (k21 : PySem.W.keepIn K (.ref f21) = true)
    (a22 : PySem.W.nsIn K mainGlobals "choices" = some (some (.ref f22)))
    (l22 : K.lookup f22 = some ⟨oc22, od22, .func (PySem.W.fnOf "choices" "choices" (defArgs s_choices) (defBody s_choices) (defScope s_choices) .none kV22 dc22 pm22 an22 cd22 ct22), sl22⟩)
    (c22 : PySem.W.codeIn K cd22 "choices" = true) (k22 : PySem.W.keepIn K (.ref f22) = true)
    (a23 : PySem.W.nsIn K mainGlobals "is_choice" = some (some (.ref f23)))
    (l23 : K.lookup f23 = some ⟨oc23, od23, .func (PySem.W.fnOf "is_choice" "is_choice" (defArgs s_is_choice) (defBody s_is_choice) (defScope s_is_choice) .none kV23 dc23 pm23 an23 cd23 ct23), sl23⟩)
    (c23 : PySem.W.codeIn K cd23 "is_choice" = true) (k23 : PySem.W.keepIn K (.ref f23) = true)
    (a24 : PySem.W.nsIn K mainGlobals "_choices" = some (some (.ref f24)))
    (l24 : K.lookup f24 = some ⟨oc24, od24, .func (PySem.W.fnOf "_choices" "_choices" (defArgs s__choices) (defBody s__choices) (defScope s__choices) .none kV24 dc24 pm24 an24 cd24 ct24), sl24⟩)
    (c24 : PySem.W.codeIn K cd24 "_choices" = true) (k24 : PySem.W.keepIn K (.ref f24) = true)
    (a25 : PySem.W.nsIn K mainGlobals "_is_choice" = some (some (.ref f25)))
    (l25 : K.lookup f25 = some ⟨oc25, od25, .func (PySem.W.fnOf "_is_choice" "_is_choice" (defArgs s__is_choice) (defBody s__is_choice) (defScope s__is_choice) .none kV25 dc25 pm25 an25 cd25 ct25), sl25⟩)
    (c25 : PySem.W.codeIn K cd25 "_is_choice" = true) (k25 : PySem.W.keepIn K (.ref f25) = true)
    (a26 : PySem.W.nsIn K mainGlobals "available" = some (some (.ref f26)))
    (l26 : K.lookup f26 = some ⟨oc26, od26, .func (PySem.W.fnOf "available" "available" (defArgs s_available) (defBody s_available) (defScope s_available) .none (.ref kD26) dc26 pm26 an26 cd26 ct26), sl26⟩)
    (kn26 : PySem.W.nsIn K kD26 "most" = some (some .none))
    (c26 : PySem.W.codeIn K cd26 "available" = true) (k26 : PySem.W.keepIn K (.ref f26) = true)
    (a27 : PySem.W.nsIn K mainGlobals "checked_state" = some (some (.ref f27)))
    (l27 : K.lookup f27 = some ⟨oc27, od27, .func (PySem.W.fnOf "checked_state" "checked_state" (defArgs s_checked_state) (defBody s_checked_state) (defScope s_checked_state) .none kV27 dc27 pm27 an27 cd27 ct27), sl27⟩)
    (c27 : PySem.W.codeIn K cd27 "checked_state" = true) (k27 : PySem.W.keepIn K (.ref f27) = true)
    (a28 : PySem.W.nsIn K mainGlobals "_find_state" = some (some (.ref f28)))
    (l28 : K.lookup f28 = some ⟨oc28, od28, .func (PySem.W.fnOf "_find_state" "_find_state" (defArgs s__find_state) (defBody s__find_state) (defScope s__find_state) .none kV28 dc28 pm28 an28 cd28 ct28), sl28⟩)
    (c28 : PySem.W.codeIn K cd28 "_find_state" = true) (k28 : PySem.W.keepIn K (.ref f28) = true)
    (a29 : PySem.W.nsIn K mainGlobals "_is_ascending" = some (some (.ref f29)))
    (l29 : K.lookup f29 = some ⟨oc29, od29, .func (PySem.W.fnOf "_is_ascending" "_is_ascending" (defArgs s__is_ascending) (defBody s__is_ascending) (defScope s__is_ascending) .none kV29 dc29 pm29 an29 cd29 ct29), sl29⟩)
    (c29 : PySem.W.codeIn K cd29 "_is_ascending" = true) (k29 : PySem.W.keepIn K (.ref f29) = true)
    (a30 : PySem.W.nsIn K mainGlobals "_law_source" = some (some (.ref f30)))
    (l30 : K.lookup f30 = some ⟨oc30, od30, .func (PySem.W.fnOf "_law_source" "_law_source" (defArgs s__law_source) (defBody s__law_source) (defScope s__law_source) .none kV30 dc30 pm30 an30 cd30 ct30), sl30⟩)
    (c30 : PySem.W.codeIn K cd30 "_law_source" = true) (k30 : PySem.W.keepIn K (.ref f30) = true)
    (a31 : PySem.W.nsIn K mainGlobals "_law_draw" = some (some (.ref f31)))
    (l31 : K.lookup f31 = some ⟨oc31, od31, .func (PySem.W.fnOf "_law_draw" "_law_draw" (defArgs s__law_draw) (defBody s__law_draw) (defScope s__law_draw) .none kV31 dc31 pm31 an31 cd31 ct31), sl31⟩)
    (c31 : PySem.W.codeIn K cd31 "_law_draw" = true) (k31 : PySem.W.keepIn K (.ref f31) = true)
    (a32 : PySem.W.nsIn K mainGlobals "_law_great" = some (some (.ref f32)))
    (l32 : K.lookup f32 = some ⟨oc32, od32, .func (PySem.W.fnOf "_law_great" "_law_great" (defArgs s__law_great) (defBody s__law_great) (defScope s__law_great) .none kV32 dc32 pm32 an32 cd32 ct32), sl32⟩)
    (c32 : PySem.W.codeIn K cd32 "_law_great" = true) (k32 : PySem.W.keepIn K (.ref f32) = true)
    (a33 : PySem.W.nsIn K mainGlobals "_law_step" = some (some (.ref f33)))
    (l33 : K.lookup f33 = some ⟨oc33, od33, .func (PySem.W.fnOf "_law_step" "_law_step" (defArgs s__law_step) (defBody s__law_step) (defScope s__law_step) .none kV33 dc33 pm33 an33 cd33 ct33), sl33⟩)
    (c33 : PySem.W.codeIn K cd33 "_law_step" = true) (k33 : PySem.W.keepIn K (.ref f33) = true)
    (a34 : PySem.W.nsIn K mainGlobals "_law_empty" = some (some (.ref f34)))
    (l34 : K.lookup f34 = some ⟨oc34, od34, .func (PySem.W.fnOf "_law_empty" "_law_empty" (defArgs s__law_empty) (defBody s__law_empty) (defScope s__law_empty) .none kV34 dc34 pm34 an34 cd34 ct34), sl34⟩)
    (c34 : PySem.W.codeIn K cd34 "_law_empty" = true) (k34 : PySem.W.keepIn K (.ref f34) = true)
    (a35 : PySem.W.nsIn K mainGlobals "_law_job" = some (some (.ref f35)))
    (l35 : K.lookup f35 = some ⟨oc35, od35, .func (PySem.W.fnOf "_law_job" "_law_job" (defArgs s__law_job) (defBody s__law_job) (defScope s__law_job) .none kV35 dc35 pm35 an35 cd35 ct35), sl35⟩)
    (c35 : PySem.W.codeIn K cd35 "_law_job" = true) (k35 : PySem.W.keepIn K (.ref f35) = true)
    (a36 : PySem.W.nsIn K mainGlobals "_law_great_job" = some (some (.ref f36)))
    (l36 : K.lookup f36 = some ⟨oc36, od36, .func (PySem.W.fnOf "_law_great_job" "_law_great_job" (defArgs s__law_great_job) (defBody s__law_great_job) (defScope s__law_great_job) .none kV36 dc36 pm36 an36 cd36 ct36), sl36⟩)
    (c36 : PySem.W.codeIn K cd36 "_law_great_job" = true) (k36 : PySem.W.keepIn K (.ref f36) = true)
    (a37 : PySem.W.nsIn K mainGlobals "_law_odd" = some (some (.ref f37)))
    (l37 : K.lookup f37 = some ⟨oc37, od37, .func (PySem.W.fnOf "_law_odd" "_law_odd" (defArgs s__law_odd) (defBody s__law_odd) (defScope s__law_odd) .none kV37 dc37 pm37 an37 cd37 ct37), sl37⟩)
    (c37 : PySem.W.codeIn K cd37 "_law_odd" = true) (k37 : PySem.W.keepIn K (.ref f37) = true)
    (a38 : PySem.W.nsIn K mainGlobals "_law_rows" = some (some (.ref f38)))
    (l38 : K.lookup f38 = some ⟨oc38, od38, .func (PySem.W.fnOf "_law_rows" "_law_rows" (defArgs s__law_rows) (defBody s__law_rows) (defScope s__law_rows) .none kV38 dc38 pm38 an38 cd38 ct38), sl38⟩)
    (c38 : PySem.W.codeIn K cd38 "_law_rows" = true) (k38 : PySem.W.keepIn K (.ref f38) = true)
    (a39 : PySem.W.nsIn K mainGlobals "_law_firsts" = some (some (.ref f39)))
    (l39 : K.lookup f39 = some ⟨oc39, od39, .func (PySem.W.fnOf "_law_firsts" "_law_firsts" (defArgs s__law_firsts) (defBody s__law_firsts) (defScope s__law_firsts) .none kV39 dc39 pm39 an39 cd39 ct39), sl39⟩)
    (c39 : PySem.W.codeIn K cd39 "_law_firsts" = true) (k39 : PySem.W.keepIn K (.ref f39) = true)
    (a40 : PySem.W.nsIn K mainGlobals "_law_small_right" = some (some (.ref f40)))
    (l40 : K.lookup f40 = some ⟨oc40, od40, .func (PySem.W.fnOf "_law_small_right" "_law_small_right" (defArgs s__law_small_right) (defBody s__law_small_right) (defScope s__law_small_right) .none kV40 dc40 pm40 an40 cd40 ct40), sl40⟩)
    (c40 : PySem.W.codeIn K cd40 "_law_small_right" = true) (k40 : PySem.W.keepIn K (.ref f40) = true)
    (a41 : PySem.W.nsIn K mainGlobals "_law_great_right" = some (some (.ref f41)))
    (l41 : K.lookup f41 = some ⟨oc41, od41, .func (PySem.W.fnOf "_law_great_right" "_law_great_right" (defArgs s__law_great_right) (defBody s__law_great_right) (defScope s__law_great_right) .none kV41 dc41 pm41 an41 cd41 ct41), sl41⟩)
    (c41 : PySem.W.codeIn K cd41 "_law_great_right" = true) (k41 : PySem.W.keepIn K (.ref f41) = true)
    (a47 : PySem.W.nsIn K mainGlobals "law" = some (some (.ref f47)))
    (l47 : K.lookup f47 = some ⟨oc47, od47, .func (PySem.W.fnOf "law" "law" (defArgs s_law) (defBody s_law) (defScope s_law) .none kV47 dc47 pm47 an47 cd47 ct47), sl47⟩)
    (c47 : PySem.W.codeIn K cd47 "law" = true) (k47 : PySem.W.keepIn K (.ref f47) = true)
    (w0g : PySem.W.nsIn K mainGlobals "DoneSteps" = some (some (.ref w0c))) (w0p : PySem.W.plainGet K w0c Str.empty = true) (w0d : PySem.W.hasDictIn K w0c = true) (w0o : PySem.W.plainOver K w0c = true) (w0s : PySem.W.findIn K (.ref w0c) "__setattr__" = some (some (.builtin "object.__setattr__"))) (w0m : PySem.W.makesIn K w0c = true) (w0k : PySem.W.keepIn K (.ref w0c) = true)
    (w0n0 : PySem.W.findIn K (.ref w0c) "rows" = some none)
    (w0n1 : PySem.W.findIn K (.ref w0c) "done" = some none)
    (w0n2 : PySem.W.findIn K (.ref w0c) "below" = some none)
    (w0n3 : PySem.W.findIn K (.ref w0c) "usages" = some none)
    (a42 : PySem.W.findIn K (.ref w0c) "__init__" = some (some (.ref f42))) (i42 : PySem.W.isFn K (.ref f42) = true)
    (l42 : K.lookup f42 = some ⟨oc42, od42, .func (PySem.W.fnOf "__init__" "DoneSteps.__init__" (defArgs s_DoneSteps_init) (defBody s_DoneSteps_init) (defScope s_DoneSteps_init) .none kV42 dc42 pm42 an42 cd42 ct42), sl42⟩)
    (c42 : PySem.W.codeIn K cd42 "DoneSteps.__init__" = true) (k42 : PySem.W.keepIn K (.ref f42) = true)
    (a43 : PySem.W.findIn K (.ref w0c) "may_do" = some (some (.ref f43))) (i43 : PySem.W.isFn K (.ref f43) = true)
    (l43 : K.lookup f43 = some ⟨oc43, od43, .func (PySem.W.fnOf "may_do" "DoneSteps.may_do" (defArgs s_DoneSteps_may_do) (defBody s_DoneSteps_may_do) (defScope s_DoneSteps_may_do) .none kV43 dc43 pm43 an43 cd43 ct43), sl43⟩)
    (c43 : PySem.W.codeIn K cd43 "DoneSteps.may_do" = true) (k43 : PySem.W.keepIn K (.ref f43) = true)
    (a44 : PySem.W.findIn K (.ref w0c) "do_step" = some (some (.ref f44))) (i44 : PySem.W.isFn K (.ref f44) = true)
    (l44 : K.lookup f44 = some ⟨oc44, od44, .func (PySem.W.fnOf "do_step" "DoneSteps.do_step" (defArgs s_DoneSteps_do_step) (defBody s_DoneSteps_do_step) (defScope s_DoneSteps_do_step) .none kV44 dc44 pm44 an44 cd44 ct44), sl44⟩)
    (c44 : PySem.W.codeIn K cd44 "DoneSteps.do_step" = true) (k44 : PySem.W.keepIn K (.ref f44) = true)
    (a45 : PySem.W.findIn K (.ref w0c) "do_all" = some (some (.ref f45))) (i45 : PySem.W.isFn K (.ref f45) = true)
    (l45 : K.lookup f45 = some ⟨oc45, od45, .func (PySem.W.fnOf "do_all" "DoneSteps.do_all" (defArgs s_DoneSteps_do_all) (defBody s_DoneSteps_do_all) (defScope s_DoneSteps_do_all) .none kV45 dc45 pm45 an45 cd45 ct45), sl45⟩)
    (c45 : PySem.W.codeIn K cd45 "DoneSteps.do_all" = true) (k45 : PySem.W.keepIn K (.ref f45) = true)
    (a46 : PySem.W.findIn K (.ref w0c) "is_complete" = some (some (.ref f46))) (i46 : PySem.W.isFn K (.ref f46) = true)
    (l46 : K.lookup f46 = some ⟨oc46, od46, .func (PySem.W.fnOf "is_complete" "DoneSteps.is_complete" (defArgs s_DoneSteps_is_complete) (defBody s_DoneSteps_is_complete) (defScope s_DoneSteps_is_complete) .none kV46 dc46 pm46 an46 cd46 ct46), sl46⟩)
    (c46 : PySem.W.codeIn K cd46 "DoneSteps.is_complete" = true) (k46 : PySem.W.keepIn K (.ref f46) = true)
    (gc0 : PySem.W.nsIn K mainGlobals "NUMBER_END" = some (some (.int 10000000000000000000000000000000000000000000000000000000000000 tk0)))
    (gc1 : PySem.W.nsIn K mainGlobals "MAX_STEP" = some (some (.int 1000000000000000000000000000000 tk1)))
    (gc2 : PySem.W.nsIn K mainGlobals "MAX_COUNT" = some (some (.int 1000000000000000000000000000000 tk2)))
    (gc3 : PySem.W.nsIn K mainGlobals "MAX_PARTS" = some (some (.int 400 tk3)))
    (gc4 : PySem.W.nsIn K mainGlobals "MAX_NODES" = some (some (.int 400 tk4)))
    (gc5 : PySem.W.nsIn K mainGlobals "MAX_DEPTH" = some (some (.int 13 tk5)))
    (gc6 : PySem.W.nsIn K mainGlobals "MAX_SMALL" = some (some (.int 400 tk6)))
    (x0g : PySem.W.nsIn K mainGlobals "InvalidState" = some (some (.ref x0c))) (x0x : PySem.W.excIn K x0c [.type "ValueError", .type "Exception", .type "BaseException", .type "object"] "ValueError.__new__" = true) (x0k : PySem.W.keepIn K (.ref x0c) = true) (x0b : PySem.W.subIn K (.ref x0c) (.type "BaseException") = some true) (x0t : PySem.W.typeIn K (.ref x0c) = some (.type "type")) (x0i : PySem.W.isClsIn K x0c = true)
    (z0 : PySem.W.nsIn K mainGlobals "abs" = some none)
    (z1 : PySem.W.nsIn K mainGlobals "all" = some none)
    (z2 : PySem.W.nsIn K mainGlobals "bool" = some none)
    (z3 : PySem.W.nsIn K mainGlobals "enumerate" = some none)
    (z4 : PySem.W.nsIn K mainGlobals "int" = some none)
    (z5 : PySem.W.nsIn K mainGlobals "isinstance" = some none)
    (z6 : PySem.W.nsIn K mainGlobals "len" = some none)
    (z7 : PySem.W.nsIn K mainGlobals "list" = some none)
    (z8 : PySem.W.nsIn K mainGlobals "max" = some none)
    (z9 : PySem.W.nsIn K mainGlobals "min" = some none)
    (z10 : PySem.W.nsIn K mainGlobals "range" = some none)
    (z11 : PySem.W.nsIn K mainGlobals "repr" = some none)
    (z12 : PySem.W.nsIn K mainGlobals "set" = some none)
    (z13 : PySem.W.nsIn K mainGlobals "sorted" = some none)
    (z14 : PySem.W.nsIn K mainGlobals "tuple" = some none)
    (z15 : PySem.W.nsIn K mainGlobals "zip" = some none), R) → R
end Lw
namespace Hd
open PySem PySem.W PySem.Calls PyProof.Rows
abbrev R : OpenRow := OpenLaw.row PySem.Challenge.rw_roomprofile_k64_choices_told
def qv : Program := view R.prog [64]
def loose : List PySem.Str := (["_wall", "JobError", "InvalidJob", "InvalidAddress", "InvalidState", "InvalidNumber", "TooMany", "NUMBER_END", "is_integer", "is_within", "is_short_integer", "check_number"] : List PySem.Str) ++ (["MAX_STEP", "MAX_COUNT", "MAX_PARTS", "MAX_NODES", "MAX_DEPTH", "checked_sizes", "steps_of_leaf", "sizes_of", "_sizes", "_sizes_of_parts", "_sizes_of_rounds", "_within_count"] : List PySem.Str) ++ (["MAX_SMALL", "is_address", "precedes", "check_small", "is_index_tuple", "find_step", "_checked_step", "_part_at", "step_rows", "_rows_by_index", "_row_within", "choices"] : List PySem.Str) ++ (["is_choice", "_choices", "_is_choice", "DoneSteps", "available", "checked_state", "_find_state", "_is_ascending", "_law_source", "_law_draw", "_law_great", "_law_step"] : List PySem.Str) ++ (["_law_empty", "_law_job", "_law_great_job", "_law_odd", "_law_rows", "_law_firsts", "_law_small_right", "_law_great_right"] : List PySem.Str)
theorem head_k {r : OpenRow} {q : Program} {K : Params → Frag} {as : List Addr} {e : ∀ P, as = (K P).map (·.1)} {M : Nat} {loose : List PySem.Str} {d : DefRec} {kwd : List (PySem.Str × PySem.Expr)} (H : Hook) (hH : H = kHook K as e)
    (e0 : opening r.prog = plainProg r.prog.main.scope.names) (f : ∀ s, fenceModules? r.prog s = some s) (run : ∀ w, HandSHeadRun.RunEq r q (kHook K as e) (fun s => as.map (HandSHeadRun.getT s)) M loose w)
    (hdef : defOf q r.name = some (d, kwd)) (hp : r.prog.theDef r.name = some (d.params, d.body, d.scope)) (hk : kwWritten? d.params.kwonlyargs d.params.kw_defaults = some kwd)
    (hwr : (!r.writes || r.records.isEmpty) = true) (k1 : r.wellSaid = true) (ok : (chainsOk q && opensWell r.prog && (frees r.toRowW && r.within.isEmpty)) = true) (hb : r.prog.bare) (hw : r.toRowW.promised)
    (call : WalkO q loose (XL q []) (kHook K as e).says r.toRowW d kwd fun f vs => PySem.call f vs) : r.Holds :=
  HandSHeadRun.head_any (H := kHook K as e) (M := M) (fun s => by show as.map (HandSHeadRun.getT s) = as.map s.abs.heap.get?; exact List.map_congr_left fun a _ => HandSHeadRun.getT_eq s a) e0 f run hdef hp hk hwr k1 ok hb hw call
end Hd
section
open PySem PySem.W PySem.Calls PyProof.Rows
local macro_rules | `(tactic| o_head $H) => `(tactic| refine Hd.head_k (r := Hd.R) (q := Hd.qv) (M := 6000) (loose := Hd.loose) (kwd := []) $H rfl (by kernel_rfl) (fun s => by kernel_rfl) (fun w => by intro os; kernel_rfl) (by rfl) (by rfl) (by rfl) (by rfl) (by first | assumption | decide +kernel) (by decide +kernel) ⟨rfl, rfl, rfl, rfl, rfl, by decide +kernel⟩ ?hw ?hc)
set_option maxRecDepth 100000 in
set_option maxHeartbeats 0 in
theorem Hd.pre (said : Hd.R.wellSaid = true) : ∃ (K : Params → Frag) (as : List Addr) (e : ∀ P, as = (K P).map (·.1)), ((WalkO Hd.qv Hd.loose (XL Hd.qv []) (kHook K as e).says Hd.R.toRowW (HandSHeadRun.topDef Hd.R.prog 64) [] fun f vs => PySem.call f vs) → Hd.R.Holds) ∧ ∀ P, Lw.Facts (K P) := by
  refine ⟨?K, ?as, ?e, fun call => ?h, ?f⟩
  case h =>
    show (OpenLaw.row PySem.Challenge.rw_roomprofile_k64_choices_told).Holds
    w_on
    k_head
    (case hw => w_witness2)
    exact call
  case f =>
    intro P R k
    refine' k ?a0 ?l0 ?c0 ?k0 ?a1 ?l1 ?c1 ?k1 ?a2 ?l2 ?c2 ?k2 ?a3 ?l3 ?c3 ?k3 ?a4 ?l4 ?c4 ?k4 ?a5 ?l5 ?c5 ?k5 ?a6 ?l6 ?c6 ?k6 ?a7 ?l7 ?c7 ?k7 ?a8 ?l8 ?c8 ?k8 ?a9 ?l9 ?c9 ?k9 ?a10 ?l10 ?c10 ?k10 ?a11 ?l11 ?c11 ?k11 ?a12 ?l12 ?c12 ?k12 ?a13 ?l13 ?c13 ?k13 ?a14 ?l14 ?c14 ?k14 ?a15 ?l15 ?c15 ?k15 ?a16 ?l16 ?c16 ?k16 ?a17 ?l17 ?c17 ?k17 ?a18 ?l18 ?c18 ?k18 ?a19 ?l19 ?c19 ?k19 ?a20 ?l20 ?c20 ?k20 ?a21 ?l21 ?c21 ?k21 ?a22 ?l22 ?c22 ?k22 ?a23 ?l23 ?c23 ?k23 ?a24 ?l24 ?c24 ?k24 ?a25 ?l25 ?c25 ?k25 ?a26 ?l26 ?kn26 ?c26 ?k26 ?a27 ?l27 ?c27 ?k27 ?a28 ?l28 ?c28 ?k28 ?a29 ?l29 ?c29 ?k29 ?a30 ?l30 ?c30 ?k30 ?a31 ?l31 ?c31 ?k31 ?a32 ?l32 ?c32 ?k32 ?a33 ?l33 ?c33 ?k33 ?a34 ?l34 ?c34 ?k34 ?a35 ?l35 ?c35 ?k35 ?a36 ?l36 ?c36 ?k36 ?a37 ?l37 ?c37 ?k37 ?a38 ?l38 ?c38 ?k38 ?a39 ?l39 ?c39 ?k39 ?a40 ?l40 ?c40 ?k40 ?a41 ?l41 ?c41 ?k41 ?a47 ?l47 ?c47 ?k47 ?w0g ?w0p ?w0d ?w0o ?w0s ?w0m ?w0k ?w0n0 ?w0n1 ?w0n2 ?w0n3 ?a42 ?i42 ?l42 ?c42 ?k42 ?a43 ?i43 ?l43 ?c43 ?k43 ?a44 ?i44 ?l44 ?c44 ?k44 ?a45 ?i45 ?l45 ?c45 ?k45 ?a46 ?i46 ?l46 ?c46 ?k46 ?gc0 ?gc1 ?gc2 ?gc3 ?gc4 ?gc5 ?gc6 ?x0g ?x0x ?x0k ?x0b ?x0t ?x0i ?z0 ?z1 ?z2 ?z3 ?z4 ?z5 ?z6 ?z7 ?z8 ?z9 ?z10 ?z11 ?z12 ?z13 ?z14 ?z15
    (case a0 => k_is)
    (case l0 => k_is)
    (case c0 => k_is)
    (case k0 => k_is)
    (case a1 => k_is)
    (case l1 => k_is)
    (case c1 => k_is)
    (case k1 => k_is)
    (case a2 => k_is)
    (case l2 => k_is)
    (case c2 => k_is)
    (case k2 => k_is)
    (case a3 => k_is)
    (case l3 => k_is)
    (case c3 => k_is)
    (case k3 => k_is)
    (case a4 => k_is)
    (case l4 => k_is)
    (case c4 => k_is)
    (case k4 => k_is)
    (case a5 => k_is)
    (case l5 => k_is)
    (case c5 => k_is)
    (case k5 => k_is)
    (case a6 => k_is)
    (case l6 => k_is)
    (case c6 => k_is)
    (case k6 => k_is)
    (case a7 => k_is)
    (case l7 => k_is)
    (case c7 => k_is)
    (case k7 => k_is)
    (case a8 => k_is)
    (case l8 => k_is)
    (case c8 => k_is)
    (case k8 => k_is)
    (case a9 => k_is)
    (case l9 => k_is)
    (case c9 => k_is)
    (case k9 => k_is)
    (case a10 => k_is)
    (case l10 => k_is)
    (case c10 => k_is)
    (case k10 => k_is)
    (case a11 => k_is)
    (case l11 => k_is)
    (case c11 => k_is)
    (case k11 => k_is)
    (case a12 => k_is)
    (case l12 => k_is)
    (case c12 => k_is)
    (case k12 => k_is)
    (case a13 => k_is)
    (case l13 => k_is)
    (case c13 => k_is)
    (case k13 => k_is)
    (case a14 => k_is)
    (case l14 => k_is)
    (case c14 => k_is)
    (case k14 => k_is)
    (case a15 => k_is)
    (case l15 => k_is)
    (case c15 => k_is)
    (case k15 => k_is)
    (case a16 => k_is)
    (case l16 => k_is)
    (case c16 => k_is)
    (case k16 => k_is)
    (case a17 => k_is)
    (case l17 => k_is)
    (case c17 => k_is)
    (case k17 => k_is)
    (case a18 => k_is)
    (case l18 => k_is)
    (case c18 => k_is)
    (case k18 => k_is)
    (case a19 => k_is)
    (case l19 => k_is)
    (case c19 => k_is)
    (case k19 => k_is)
    (case a20 => k_is)
    (case l20 => k_is)
    (case c20 => k_is)
    (case k20 => k_is)
    (case a21 => k_is)
    (case l21 => k_is)
    (case c21 => k_is)
    (case k21 => k_is)
    (case a22 => k_is)
    (case l22 => k_is)
    (case c22 => k_is)
    (case k22 => k_is)
    (case a23 => k_is)
    (case l23 => k_is)
    (case c23 => k_is)
    (case k23 => k_is)
    (case a24 => k_is)
    (case l24 => k_is)
    (case c24 => k_is)
    (case k24 => k_is)
    (case a25 => k_is)
    (case l25 => k_is)
    (case c25 => k_is)
    (case k25 => k_is)
    (case a26 => k_is)
    (case l26 => k_is)
    (case kn26 => k_is)
    (case c26 => k_is)
    (case k26 => k_is)
    (case a27 => k_is)
    (case l27 => k_is)
    (case c27 => k_is)
    (case k27 => k_is)
    (case a28 => k_is)
    (case l28 => k_is)
    (case c28 => k_is)
    (case k28 => k_is)
    (case a29 => k_is)
    (case l29 => k_is)
    (case c29 => k_is)
    (case k29 => k_is)
    (case a30 => k_is)
    (case l30 => k_is)
    (case c30 => k_is)
    (case k30 => k_is)
    (case a31 => k_is)
    (case l31 => k_is)
    (case c31 => k_is)
    (case k31 => k_is)
    (case a32 => k_is)
    (case l32 => k_is)
    (case c32 => k_is)
    (case k32 => k_is)
    (case a33 => k_is)
    (case l33 => k_is)
    (case c33 => k_is)
    (case k33 => k_is)
    (case a34 => k_is)
    (case l34 => k_is)
    (case c34 => k_is)
    (case k34 => k_is)
    (case a35 => k_is)
    (case l35 => k_is)
    (case c35 => k_is)
    (case k35 => k_is)
    (case a36 => k_is)
    (case l36 => k_is)
    (case c36 => k_is)
    (case k36 => k_is)
    (case a37 => k_is)
    (case l37 => k_is)
    (case c37 => k_is)
    (case k37 => k_is)
    (case a38 => k_is)
    (case l38 => k_is)
    (case c38 => k_is)
    (case k38 => k_is)
    (case a39 => k_is)
    (case l39 => k_is)
    (case c39 => k_is)
    (case k39 => k_is)
    (case a40 => k_is)
    (case l40 => k_is)
    (case c40 => k_is)
    (case k40 => k_is)
    (case a41 => k_is)
    (case l41 => k_is)
    (case c41 => k_is)
    (case k41 => k_is)
    (case a47 => k_is)
    (case l47 => k_is)
    (case c47 => k_is)
    (case k47 => k_is)
    (case w0g => k_is)
    (case w0p => k_is)
    (case w0d => k_is)
    (case w0o => k_is)
    (case w0s => k_is)
    (case w0m => k_is)
    (case w0k => k_is)
    (case w0n0 => k_is)
    (case w0n1 => k_is)
    (case w0n2 => k_is)
    (case w0n3 => k_is)
    (case a42 => k_is)
    (case i42 => k_is)
    (case l42 => k_is)
    (case c42 => k_is)
    (case k42 => k_is)
    (case a43 => k_is)
    (case i43 => k_is)
    (case l43 => k_is)
    (case c43 => k_is)
    (case k43 => k_is)
    (case a44 => k_is)
    (case i44 => k_is)
    (case l44 => k_is)
    (case c44 => k_is)
    (case k44 => k_is)
    (case a45 => k_is)
    (case i45 => k_is)
    (case l45 => k_is)
    (case c45 => k_is)
    (case k45 => k_is)
    (case a46 => k_is)
    (case i46 => k_is)
    (case l46 => k_is)
    (case c46 => k_is)
    (case k46 => k_is)
    (case gc0 => k_is)
    (case gc1 => k_is)
    (case gc2 => k_is)
    (case gc3 => k_is)
    (case gc4 => k_is)
    (case gc5 => k_is)
    (case gc6 => k_is)
    (case x0g => k_is)
    (case x0x => k_exc)
    (case x0k => k_is)
    (case x0b => k_is)
    (case x0t => k_is)
    (case x0i => k_is)
    (case z0 => k_is)
    (case z1 => k_is)
    (case z2 => k_is)
    (case z3 => k_is)
    (case z4 => k_is)
    (case z5 => k_is)
    (case z6 => k_is)
    (case z7 => k_is)
    (case z8 => k_is)
    (case z9 => k_is)
    (case z10 => k_is)
    (case z11 => k_is)
    (case z12 => k_is)
    (case z13 => k_is)
    (case z14 => k_is)
    (case z15 => k_is)
end
/-! Rp: what the proofs of the laws over roomprofile share: powers, data, repr, isinstance, heaps. -/
namespace Rp
open PySem L2

/-! ### powers of great ints -/
def CPowW (i j : Int) : Prop := 0 ≤ j ∧ (Builtin.Int.intBits i : Int) * j ≤ 2 ^ 27
theorem bits_le {i : Int} {b : Nat} (hi : i.natAbs < 2 ^ b) : Builtin.Int.intBits i ≤ b := by
  unfold Builtin.Int.intBits
  split
  · exact Nat.zero_le _
  · rename_i hne
    have h0 : i.natAbs ≠ 0 := by
      intro z
      apply hne
      have : i = 0 := by omega
      subst this
      rfl
    have := (Nat.log2_lt h0).mpr hi
    omega
theorem powW_of {i j : Int} (b : Nat) (h0 : 0 ≤ j) (hi : i.natAbs < 2 ^ b) (hb : (b : Int) * j ≤ 2 ^ 27) : CPowW i j := by
  refine ⟨h0, Int.le_trans ?_ hb⟩
  have := bits_le hi
  exact Int.mul_le_mul_of_nonneg_right (by omega) h0
section
variable {X : Cx}
theorem op_powW : OpR X (binaryOp .Pow) (rI CPowW fun i j => .int (i ^ j.toNat)) := opI fun _ _ _ _ _ _ _ hc q => PyProof.Rows.pow_int hc.1 hc.2 q
end

/-! ### data -/
def tyN : PyData → String
  | .none => "NoneType"
  | .bool _ => "bool"
  | .int _ => "int"
  | .str _ => "str"
  | .list _ => "list"
  | .tuple _ => "tuple"
  | .dict _ => "dict"
theorem dp_ty {K : PySem.W.Frag} {H : Hp} {v : V} {d : PyData} (h : Dp K H v d) : TyX K H v (.type (tyN d)) := by
  cases h with
  | non => exact .base .non
  | bl b => exact .base (.bl b)
  | int i => exact .base (.int i)
  | str x => exact .base (.str x)
  | lst hs ha =>
    rcases hs with (e | ⟨o, e⟩) | ⟨o, its, n, hk, hc, _⟩
    · exact .base (.lst e)
    · exact .base (.frz e)
    · exact .kList hk hc
  | tup hs ha =>
    rcases hs with (e | ⟨o, e⟩) | ⟨o, its, n, hk, hc, _⟩
    · exact .base (.tup e)
    · exact .fTuple e
    · exact .kTuple hk hc
def isInt : PyData → Bool
  | .int _ => true
  | .bool _ => true
  | _ => false
def isBoo : PyData → Bool
  | .bool _ => true
  | _ => false
def isTup : PyData → Bool
  | .tuple _ => true
  | _ => false
def isStr : PyData → Bool
  | .str _ => true
  | _ => false
def isLst : PyData → Bool
  | .list _ => true
  | _ => false
theorem kit_int (d : PyData) : kitB (tyN d) "int" = some (isInt d) := by cases d <;> (simp only [tyN, isInt]; decide +kernel)
theorem kit_bool (d : PyData) : kitB (tyN d) "bool" = some (isBoo d) := by cases d <;> (simp only [tyN, isBoo]; decide +kernel)
theorem kit_tuple (d : PyData) : kitB (tyN d) "tuple" = some (isTup d) := by cases d <;> (simp only [tyN, isTup]; decide +kernel)
theorem kit_str (d : PyData) : kitB (tyN d) "str" = some (isStr d) := by cases d <;> (simp only [tyN, isStr]; decide +kernel)
theorem kit_list (d : PyData) : kitB (tyN d) "list" = some (isLst d) := by cases d <;> (simp only [tyN, isLst]; decide +kernel)
section
variable {X : Cx}
def rIsD (K : PySem.W.Frag) : List V → Hp → VK → Prop := fun xs H Q => ∃ (v : V) (n : String) (d : PyData) (b : Bool), xs = [v, .ty n] ∧ Dp K H v d ∧ kitB (tyN d) n = some b ∧ Q (.bl b) H
theorem call_isD : CallR X (.builtin "isinstance") (rIsD X.K) := by
  intro pins s σ H xs us Q I r h
  obtain ⟨v, n, d, b, e, hd, hk, q⟩ := h
  exact call_isi pins s σ H xs us Q I r ⟨v, .ty n, _, _, _, e, .ty n, dp_ty hd, kit_ty hk, q⟩
end

/-! ### len, list(..), tuple(..) by names -/
section
variable {X : Cx}
def rLenS (K : PySem.W.Frag) : List V → Hp → VK → Prop := fun xs H Q => ∃ (p : Addr) (ys : List V), xs = [.ref p] ∧ (SqL K H p ys ∨ SqT K H p ys) ∧ Q (.int ys.length) H
theorem call_lenS : CallR X (.builtin "len") (rLenS X.K) := call_len_seq
def rListS (K : PySem.W.Frag) : List V → Hp → VK → Prop := fun xs H Q => ∃ (p : Addr) (ys : List V), xs = [.ref p] ∧ (SqL K H p ys ∨ SqT K H p ys) ∧ ∀ l, H l = none → Q (.ref l) (upd H l (.lst ys))
theorem call_listS : CallR X (.type "list") (rListS X.K) := call_list_of
def rTupS (K : PySem.W.Frag) : List V → Hp → VK → Prop := fun xs H Q => ∃ (p : Addr) (ys : List V), xs = [.ref p] ∧ ((SqL K H p ys ∧ ∀ l, H l = none → Q (.ref l) (upd H l (.tup ys))) ∨ (SqT K H p ys ∧ Q (.ref p) H))
theorem call_tupS : CallR X (.type "tuple") (rTupS X.K) := call_tuple_of
end

/-! ### repr of data -/
mutual
/-- data whose text is made without trouble: no dicts, ints of at most 180 digits, signs below 16 ^ 8 -/
def fine : PyData → Prop
  | .int i => i.natAbs < 10 ^ 180
  | .str x => (x.cps.toList.all fun c => decide (c < 16 ^ 8)) = true
  | .list xs => fines xs
  | .tuple xs => fines xs
  | .dict _ => False
  | _ => True
def fines : List PyData → Prop
  | [] => True
  | x :: xs => fine x ∧ fines xs
end
theorem int_log {i : Int} (h : i.natAbs < 10 ^ 180) : i.natAbs.log2 < 1920 := by
  by_cases z : i.natAbs = 0
  · rw [z]
    decide
  · exact (Nat.log2_lt z).mpr (Nat.lt_trans h (by decide +kernel))
theorem shown_int {i : Int} (h : i.natAbs < 10 ^ 180) : (PyData.shown (.int i)).length ≤ 200 := by
  have e := int_text_length_le10 (k := 180) (by decide) h
  show (Str.ofString (toString i)).length ≤ 200
  rw [ofString_length]
  omega
mutual
theorem fine_ok : ∀ d : PyData, fine d → d.showable = true ∧ d.leavesShort 200 = true ∧ d.hasDict = false
  | .none, _ => by simp [PyData.showable, PyData.leavesShort, PyData.hasDict]
  | .bool _, _ => by simp [PyData.showable, PyData.leavesShort, PyData.hasDict]
  | .int i, h => by
    simp only [fine] at h
    simp only [PyData.showable, PyData.leavesShort, PyData.hasDict, decide_eq_true_eq, and_true]
    exact ⟨int_log h, shown_int h⟩
  | .str x, h => by
    simp only [fine] at h
    simp only [PyData.showable, PyData.leavesShort, PyData.hasDict, and_true, true_and]
    exact h
  | .list xs, h => by
    simp only [fine] at h
    simp only [PyData.showable, PyData.leavesShort, PyData.hasDict]
    exact fines_ok xs h
  | .tuple xs, h => by
    simp only [fine] at h
    simp only [PyData.showable, PyData.leavesShort, PyData.hasDict]
    exact fines_ok xs h
  | .dict _, h => by simp only [fine] at h
theorem fines_ok : ∀ xs : List PyData, fines xs → PyData.showableAll xs = true ∧ PyData.leavesShortAll 200 xs = true ∧ PyData.hasDictAll xs = false
  | [], _ => by simp [PyData.showableAll, PyData.leavesShortAll, PyData.hasDictAll]
  | x :: xs, h => by
    simp only [fines] at h
    obtain ⟨a1, a2, a3⟩ := fine_ok x h.1
    obtain ⟨b1, b2, b3⟩ := fines_ok xs h.2
    simp only [PyData.showableAll, PyData.leavesShortAll, PyData.hasDictAll, a1, a2, a3, b1, b2, b3, Bool.and_self, Bool.or_self, and_self]
end
section
variable {X : Cx}
def rRepr (K : PySem.W.Frag) : List V → Hp → VK → Prop := fun xs H Q => ∃ (v : V) (d : PyData), xs = [v] ∧ Dp K H v d ∧ fine d ∧ d.depth ≤ 64 ∧ d.bulk ≤ 80000 ∧ Q (.str d.shown) H
theorem call_reprD (hg : X.A.guards = some []) (hu : X.A.units + 66 < cLine) : CallR X (.builtin "repr") (rRepr X.K) := by
  intro pins s σ H xs us Q I r h
  obtain ⟨v, d, rfl, hd, hf, hdep, hw, q⟩ := h
  obtain ⟨hs, hl, hnd⟩ := fine_ok d hf
  have hz : d.shown.length ≤ sizeLine := by
    have := PyData.shown_le_bulk 200 (by decide) d hl
    rw [sizeLine_eq]
    omega
  obtain ⟨u, rfl, ru⟩ := vals1 r
  have hsm : ∀ as : List Addr, d.hasDict = true → sysModules ∉ as := fun as => PyData.noDict_hsm hnd
  obtain ⟨as, hr⟩ := Dp.reads I d v u hd ru
  cases hr with
  | none => exact P.repr_of_none ⟨.str _, H, I.tok _, ⟨_, rfl⟩, q⟩
  | bool b => exact P.repr_of_bool ⟨.str _, H, I.tok _, ⟨_, rfl⟩, q⟩
  | int i t => exact P.repr_of_int (by simpa [PyData.showable] using hs) ⟨.str _, H, I.tok _, ⟨_, rfl⟩, q⟩
  | str x t => exact P.repr_of_str ⟨.str _, H, I.tok _, ⟨_, rfl⟩, q⟩ (by simpa only [PyData.shown] using hz)
  | list h1 h2 h3 h4 =>
    refine repr_of_reads' (h₀ := s.heap) (.list h1 h2 h3 h4) hs (hsm _) hg (by omega) (fun _ _ e => e) (fun h' u' tk hk => ?_) hz
    exact ⟨.str _, H, I.kept hk, ⟨_, rfl⟩, q⟩
  | tuple h1 h2 h3 h4 =>
    refine repr_of_reads' (h₀ := s.heap) (.tuple h1 h2 h3 h4) hs (hsm _) hg (by omega) (fun _ _ e => e) (fun h' u' tk hk => ?_) hz
    exact ⟨.str _, H, I.kept hk, ⟨_, rfl⟩, q⟩
  | dict _ _ _ _ _ => exact absurd hnd (by simp [PyData.hasDict])
end

/-! ### what stays of the heap -/
theorem same_sqT {K : PySem.W.Frag} {H H' : Hp} {a : Addr} {xs : List V} (s : Same H H') (h : SqT K H a xs) : SqT K H' a xs := by
  rcases h with (h | ⟨o, h⟩) | h
  · exact .inl (.inl (s _ _ h))
  · exact .inl (.inr ⟨o, s _ _ h⟩)
  · exact .inr h
theorem same_new {H : Hp} {p : Addr} {o : HO} (h : H p = none) : Same H (upd H p o) := fun b u q => by rw [upd_ne (ne_of_none q h)]; exact q
mutual
theorem dp_same {K : PySem.W.Frag} {H H' : Hp} (s : Same H H') : ∀ {d : PyData} {v : V}, Dp K H v d → Dp K H' v d
  | .none, _, h => by cases h; exact .non
  | .bool _, _, h => by cases h; exact .bl _
  | .int _, _, h => by cases h; exact .int _
  | .str _, _, h => by cases h; exact .str _
  | .list ds, _, h => by
    cases h with
    | lst hs ha => exact .lst (s.seq hs) (dpAll_same s ha)
  | .tuple ds, _, h => by
    cases h with
    | tup hs ha => exact .tup (same_sqT s hs) (dpAll_same s ha)
  | .dict _, _, h => by cases h
theorem dpAll_same {K : PySem.W.Frag} {H H' : Hp} (s : Same H H') : ∀ {ds : List PyData} {vs : List V}, DpAll K H vs ds → DpAll K H' vs ds
  | [], _, h => by cases h; exact .nil
  | d :: ds, _, h => by
    cases h with
    | cons h1 h2 => exact .cons (dp_same s h1) (dpAll_same s h2)
end
/-- all but p stays -/
def Sx (p : Addr) (H H' : Hp) : Prop := ∀ b o, b ≠ p → H b = some o → H' b = some o
theorem Sx.refl {p : Addr} {H : Hp} : Sx p H H := fun _ _ _ h => h
theorem Sx.trans {p : Addr} {H H1 H2 : Hp} (a : Sx p H H1) (b : Sx p H1 H2) : Sx p H H2 := fun c o n h => b c o n (a c o n h)
theorem Same.sx {p : Addr} {H H' : Hp} (s : Same H H') : Sx p H H' := fun b o _ h => s b o h
theorem sx_upd {p : Addr} {H : Hp} {o : HO} : Sx p H (upd H p o) := fun b u n h => by rw [upd_ne n]; exact h
theorem sx_new {p q : Addr} {H : Hp} {o : HO} (h : H q = none) : Sx p H (upd H q o) := fun b u _ q => same_new h b u q
/-! data without lists and dicts -/
mutual
def noL : PyData → Bool
  | .list _ => false
  | .dict _ => false
  | .tuple ds => noLs ds
  | _ => true
def noLs : List PyData → Bool
  | [] => true
  | d :: ds => noL d && noLs ds
end
theorem Sx.sqT {K : PySem.W.Frag} {p a : Addr} {H H' : Hp} {l xs : List V} (s : Sx p H H') (hp : H p = some (.lst l)) (h : SqT K H a xs) : SqT K H' a xs := by
  rcases h with (h | ⟨o, h⟩) | h
  · exact .inl (.inl (s _ _ (ne_of h hp (by intro z; cases z)) h))
  · exact .inl (.inr ⟨o, s _ _ (ne_of h hp (by intro z; cases z)) h⟩)
  · exact .inr h
mutual
theorem dp_keep {K : PySem.W.Frag} {H H' : Hp} (s : ∀ a xs, SqT K H a xs → SqT K H' a xs) : ∀ {d : PyData} {v : V}, noL d = true → Dp K H v d → Dp K H' v d
  | .none, _, _, h => by cases h; exact .non
  | .bool _, _, _, h => by cases h; exact .bl _
  | .int _, _, _, h => by cases h; exact .int _
  | .str _, _, _, h => by cases h; exact .str _
  | .list ds, _, n, h => by simp [noL] at n
  | .tuple ds, _, n, h => by
    cases h with
    | tup hs ha => exact .tup (s _ _ hs) (dpAll_keep s (by simpa [noL] using n) ha)
  | .dict _, _, _, h => by cases h
theorem dpAll_keep {K : PySem.W.Frag} {H H' : Hp} (s : ∀ a xs, SqT K H a xs → SqT K H' a xs) : ∀ {ds : List PyData} {vs : List V}, noLs ds = true → DpAll K H vs ds → DpAll K H' vs ds
  | [], _, _, h => by cases h; exact .nil
  | d :: ds, _, n, h => by
    cases h with
    | cons h1 h2 =>
      have n' : noL d = true ∧ noLs ds = true := by simpa [noLs] using n
      exact .cons (dp_keep s n'.1 h1) (dpAll_keep s n'.2 h2)
end
theorem Sx.dp {K : PySem.W.Frag} {p : Addr} {H H' : Hp} {l : List V} {d : PyData} {v : V} (s : Sx p H H') (hp : H p = some (.lst l)) (n : noL d = true) (h : Dp K H v d) : Dp K H' v d :=
  dp_keep (fun _ _ z => s.sqT hp z) n h
theorem dpAll_length {K : PySem.W.Frag} {H : Hp} : ∀ {vs : List V} {ds : List PyData}, DpAll K H vs ds → vs.length = ds.length
  | _, _, .nil => rfl
  | _, _, .cons _ h => congrArg (· + 1) (dpAll_length h)
theorem dpAll_get {K : PySem.W.Frag} {H : Hp} : ∀ {vs : List V} {ds : List PyData} {i : Nat} {v : V}, DpAll K H vs ds → vs[i]? = some v → ∃ d, ds[i]? = some d ∧ Dp K H v d
  | _, _, _, _, .nil, e => by simp at e
  | _, _, 0, _, .cons h _, e => by
    simp at e
    subst e
    exact ⟨_, rfl, h⟩
  | _, _, i + 1, _, .cons _ t, e => by
    obtain ⟨d, e1, e2⟩ := dpAll_get (i := i) t (by simpa using e)
    exact ⟨d, by simpa using e1, e2⟩
theorem dpAll_append {K : PySem.W.Frag} {H : Hp} : ∀ {vs ws : List V} {ds es : List PyData}, DpAll K H vs ds → DpAll K H ws es → DpAll K H (vs ++ ws) (ds ++ es)
  | _, _, _, _, .nil, h => h
  | _, _, _, _, .cons h t, h' => .cons h (dpAll_append t h')
theorem dpAll_one {K : PySem.W.Frag} {H : Hp} {v : V} {d : PyData} (h : Dp K H v d) : DpAll K H [v] [d] := .cons h .nil
theorem dpAll_rev {K : PySem.W.Frag} {H : Hp} : ∀ {vs : List V} {ds : List PyData}, DpAll K H vs ds → DpAll K H vs.reverse ds.reverse
  | _, _, .nil => .nil
  | _, _, .cons h t => by
    rw [List.reverse_cons, List.reverse_cons]
    exact dpAll_append (dpAll_rev t) (.cons h .nil)
theorem dp_int_inv {K : PySem.W.Frag} {H : Hp} {v : V} {i : Int} (h : Dp K H v (.int i)) : v = .int i := by cases h; rfl
theorem dp_str_inv {K : PySem.W.Frag} {H : Hp} {v : V} {x : Str} (h : Dp K H v (.str x)) : v = .str x := by cases h; rfl
theorem dp_none_inv {K : PySem.W.Frag} {H : Hp} {v : V} (h : Dp K H v .none) : v = .non := by cases h; rfl
theorem dp_bool_inv {K : PySem.W.Frag} {H : Hp} {v : V} {b : Bool} (h : Dp K H v (.bool b)) : v = .bl b := by cases h; rfl
theorem dp_tup_inv {K : PySem.W.Frag} {H : Hp} {v : V} {ds : List PyData} (h : Dp K H v (.tuple ds)) : ∃ a xs, v = .ref a ∧ SqT K H a xs ∧ DpAll K H xs ds := by
  cases h with
  | tup h1 h2 => exact ⟨_, _, rfl, h1, h2⟩
theorem dp_lst_inv {K : PySem.W.Frag} {H : Hp} {v : V} {ds : List PyData} (h : Dp K H v (.list ds)) : ∃ a xs, v = .ref a ∧ SqL K H a xs ∧ DpAll K H xs ds := by
  cases h with
  | lst h1 h2 => exact ⟨_, _, rfl, h1, h2⟩
theorem tup_fresh {K : PySem.W.Frag} {H : Hp} {p : Addr} {xs : List V} {ds : List PyData} (hp : H p = none) (h : DpAll K H xs ds) : Same H (upd H p (.tup xs)) ∧ Dp K (upd H p (.tup xs)) (.ref p) (.tuple ds) :=
  ⟨same_new hp, .tup (.inl (.inl upd_same)) (dpAll_same (same_new hp) h)⟩
theorem lst_fresh {K : PySem.W.Frag} {H : Hp} {p : Addr} {xs : List V} {ds : List PyData} (hp : H p = none) (h : DpAll K H xs ds) : Same H (upd H p (.lst xs)) ∧ Dp K (upd H p (.lst xs)) (.ref p) (.list ds) :=
  ⟨same_new hp, .lst (.inl (.inl upd_same)) (dpAll_same (same_new hp) h)⟩
theorem Same.sx_free {H H1 H2 : Hp} {p : Addr} (s : Same H H1) (h : H p = none) (t : Sx p H1 H2) : Same H H2 := fun b o e =>
  t b o (ne_of_none e h) (s b o e)
theorem small {n : Nat} (h : n ≤ 1000) : n ≤ sizeLine := Nat.le_of_lt (small1000 h)
theorem small' {n : Nat} (h : n ≤ 1000000) : n ≤ sizeLine := by rw [sizeLine_eq]; omega

theorem atI_at {α : Type} {xs : List α} {k : Int} {j : Nat} {v : α} (e : k = (j : Int)) (h : xs[j]? = some v) : atI xs k = some v := by
  subst e
  exact atI_nat h
theorem atI_int {ns : List Int} {k : Int} (h0 : 0 ≤ k) (h : k < (ns.length : Int)) : ∃ z, z ∈ ns ∧ atI (ns.map V.int) k = some (.int z) := by
  have hk : k.toNat < ns.length := by omega
  refine ⟨ns[k.toNat], List.getElem_mem hk, atI_at (j := k.toNat) (by omega) ?_⟩
  rw [List.getElem?_map, List.getElem?_eq_getElem hk]
  rfl

/-! ### the script as the law gets it: it never changes -/
def Scr (K : PySem.W.Frag) (H : Hp) (a : Addr) (ns : List Int) : Prop := (∃ o, H a = some (.frz o (.lst (ns.map V.int)))) ∨
  ∃ (o : Obj) (its : Array Value) (n : Nat), K.lookup a = some o ∧ o.cls = .type "list" ∧ o.dict = none ∧ o.data = .seq its n ∧ its.size ≤ sizeLine ∧ Vals (ns.map V.int) its.toList
theorem Scr.sq {K : PySem.W.Frag} {H : Hp} {a : Addr} {ns : List Int} (h : Scr K H a ns) : SqL K H a (ns.map V.int) := by
  rcases h with ⟨o, h⟩ | h
  · exact .inl (.inr ⟨o, h⟩)
  · exact .inr h
theorem Scr.of {K : PySem.W.Frag} {H : Hp} {a : Addr} {ns : List Int} (hO : Only H) (h : SqL K H a (ns.map V.int)) : Scr K H a ns := by
  rcases h with (h | h) | h
  · rcases hO a with z | ⟨o, xs, z⟩
    · rw [h] at z; cases z
    · rw [h] at z; cases z
  · exact .inl h
  · exact .inr h
theorem Scr.same {K : PySem.W.Frag} {H H' : Hp} {a : Addr} {ns : List Int} (s : Same H H') (h : Scr K H a ns) : Scr K H' a ns := by
  rcases h with ⟨o, h⟩ | h
  · exact .inl ⟨o, s _ _ h⟩
  · exact .inr h
theorem Scr.sx {K : PySem.W.Frag} {H H' : Hp} {a p : Addr} {ns : List Int} {l : List V} (s : Sx p H H') (hp : H p = some (.lst l)) (h : Scr K H a ns) : Scr K H' a ns := by
  rcases h with ⟨o, h⟩ | h
  · exact .inl ⟨o, s _ _ (ne_of h hp (by intro z; cases z)) h⟩
  · exact .inr h
end Rp
/-! RpG: defs that say repr of made data: the layer's judgements where no repr is under way (guards known), and the law's end over them. -/
namespace Rp
open PySem L2 PyProof.Rows

structure FnG (P : Program) (w : World) (K : PySem.W.Frag) (mg : Str → Option Value) (base : Heap) (CX : CXT) (k : Nat) (f : Addr) (fd : FuncData) (ps : List Str) (sp : Sp) : Prop where
  len : ∀ vs H Q E, sp vs H Q E → vs.length = ps.length
  run : ∀ (A : Around) (outer : List Env) (s : Shared) (H : Hp) (args : Args) (us : List Value) (vs : List V) (Q : VK) (E : XK), Room k A → A.guards = some [] →
    Env0 P w K mg base A outer s H → BindsTo s fd args (ps.zip us) → Vals vs us → sp vs H Q E → codeAny (model P w) A (.call (.ref f) args) (CR CX outer P w H s Q E) s

theorem room66 {k : Nat} {A : Around} (hr : Room k A) : A.units + 66 < cLine := by
  have := hr.un
  omega
section
variable {P : Program} {w : World} {K : PySem.W.Frag} {mg : Str → Option Value} {base : Heap}
theorem okG {name qual : Str} {st : Stmt} {f : Addr} {fd : FuncData} {N ps : List Str} {k : Nat} {sp : Sp} (F : Fun K name qual st f fd) (S : FnScope N ps (defScope st))
    (hlen : ∀ vs H Q E, sp vs H Q E → vs.length = ps.length)
    (hb : ∀ (cdv : Value) (A : Around) (outer : List Env) (s : Shared) (H : Hp) (vs : List V) (Q : VK) (E : XK),
      Room k (A.deeper (envOfC qual (defScope st) s.heap.objs.size f cdv)) → A.guards = some [] → sp vs H Q E →
      ∃ t, PSs (cxOf CX0 P w K mg base N qual (defScope st) f cdv A outer s H E).nox (defBody st) t ∧
        t { nx := fun _ H' => Q .non H', rt := Q } (start N vs) H) : FnG P w K mg base CX0 (k + 1) f fd ps sp := by
  obtain ⟨oc, od, kV, doc, pm, an, cdv, ct, osl, rfl, lk, hcd⟩ := F.ex
  refine ⟨hlen, fun A outer s H args us vs Q E room gd en bd rv want => ?_⟩
  have kin : K.In s.heap := en.mod.kin.keeps fun b o z => (en.bs b o z).1
  have nolim : s.heap.NoLimit := en.mod.nolimit.keeps fun b o z => (en.bs b o z).1
  have hl := hlen _ _ _ _ want
  refine Att.call_fn kin nolim lk hcd room.depth bd ?_ (fun s1 ic => ?_) S.co S.gen S.kind
  · refine List.all_eq_true.mpr fun y hy => ?_
    obtain ⟨a, b⟩ := y
    rcases S.par a (List.of_mem_zip hy).1 with z | z
    · simp [z]
    · simp [z]
  · obtain ⟨t, ht, hq⟩ := hb cdv A outer s H vs Q E (room.deeper _) gd want
    have I := inv_start (CX := CX0) (P := P) (w := w) (K := K) (mg := mg) (base := base) (E := E) S room.hd en hl rv ic
    refine wpAny_mono (ht.nox.run [] s1 (start N vs) H _ I hq) (fun fl s' hs => ?_) (fun e s' hs => hs)
    cases fl with
    | ret u =>
      obtain ⟨v, σ', H', J, rr, q⟩ := hs
      exact ⟨v, H', J.os, J.bare, J.base, J.hok, rr, q⟩
    | next =>
      obtain ⟨σ', H', J, q⟩ := hs
      exact ⟨V.non, H', J.os, J.bare, J.base, J.hok, rfl, q⟩
    | brk =>
      obtain ⟨_, _, _, q⟩ := hs
      exact False.elim q
    | cont =>
      obtain ⟨_, _, _, q⟩ := hs
      exact False.elim q
end
section
variable {X : Cx} {k : Nat} {f : Addr} {fd : FuncData} {ps : List Str} {sp : Sp} {dvs : List V} {ds : List Value} {x : Str} {p pos : Pos} {e : Expr} {es : List Expr} {t : TA}
theorem runG {pins : List (Addr × Obj)} {σ : L2.St} {H : Hp} {s : Shared} {Q : VK} {us : List Value} {vs : List V} (F : FnG X.prog X.w X.K X.mg X.base CX0 k f fd ps sp) (room : Room k X.A) (gd : X.A.guards = some [])
    (bd : Binds X.K fd ps ds) (dv : Vals dvs ds) (I : Inv X pins σ H s) (rv : Vals vs us) (want : sp (vs ++ dvs) H Q E0) : wpAny (model X.prog X.w) X.A (call (.ref f) us) (EP X pins σ Q) X.xe s := by
  have rv2 : Vals (vs ++ dvs) (us ++ ds) := rv.append dv
  have hl : (us ++ ds).length = ps.length := by
    rw [← rv2.length]
    exact F.len _ _ _ _ want
  refine wpAny_call (codeAny_mono (F.run X.A X.stack s H ⟨us, []⟩ (us ++ ds) (vs ++ dvs) Q E0 room gd I.env0 (bd s us I.kIn hl) rv2 want) fun r s' hq => ?_)
  cases r with
  | error e => exact False.elim hq
  | ok fl =>
    cases fl with
    | ret u => exact I.after hq
    | next => exact False.elim hq
    | brk => exact False.elim hq
    | cont => exact False.elim hq
theorem pe_callG (F : FnG X.prog X.w X.K X.mg X.base CX0 k f fd ps sp) (room : Room k X.A) (gd : X.A.guards = some []) (gl : Gl X x) (hm : X.mg x = some (.ref f)) (kp : PySem.W.keepIn X.K (.ref f) = true)
    (bd : Binds X.K fd ps ds) (dv : Vals dvs ds) (ha : PA X (e :: es) t) (nodbg : (x == ("__debug__" : Str)) = false := by decide)
    (he : starEach (e :: es) X.env = (false, eval e X.env) :: starEach es X.env := by rfl) (hpl : (backTo pos (starEach es X.env)).any (·.1) = false := by rfl) :
    PE X (.Call (.Name x p) (e :: es) [] pos) (tCall sp dvs E0 t) := by
  constructor
  intro pins s σ H Q I want
  refine wpAny_Call_Name_kw (ld_glob I gl hm (PySem.W.callWith_K (h₀ := X.base) I.ok.mod.kin kp (thn (ha.run pos pins s σ H _ I want) ?_) he hpl) nodbg)
  rintro us s1 ⟨vs, H1, I1, rv, q⟩
  exact ⟨I1.kIn, runG F room gd bd dv I1 rv q⟩
theorem pe_callG0 (F : FnG X.prog X.w X.K X.mg X.base CX0 k f fd ps sp) (room : Room k X.A) (gd : X.A.guards = some []) (gl : Gl X x) (hm : X.mg x = some (.ref f)) (kp : PySem.W.keepIn X.K (.ref f) = true)
    (bd : Binds X.K fd ps ds) (dv : Vals dvs ds) (nodbg : (x == ("__debug__" : Str)) = false := by decide) : PE X (.Call (.Name x p) [] [] pos) (tCall sp dvs E0 tNil) := by
  constructor
  intro pins s σ H Q I want
  exact wpAny_Call_Name_kw (ld_glob I gl hm (PySem.W.callWith_K0 I.kIn kp (runG (us := []) F room gd bd dv I .nil want)) nodbg)
end

/-! ### the law's end -/
/-- a heap that tells of the script alone -/
theorem script_heap {P : Program} {w : World} {K : PySem.W.Frag} {h : Heap} {a : Addr} {vs : List Value} {ns : List Int} (kin : K.In h) (ha : h.get? a = some { cls := .type "list", data := .seq vs.toArray })
    (hi : IntsAre vs ns) (hl : ns.length ≤ sizeLine) :
    ∃ H : Hp, Only H ∧ SqL K H a (ns.map V.int) ∧ HOk P w H h ∧ (∀ b, H b ≠ none → b = a) ∧ (∀ b o, K.lookup b = some o → H b = none) := by
  have rv := vals_ints hi
  have len := hi.length
  cases hk : K.lookup a with
  | some o =>
    have eo := kin a o hk
    rw [ha] at eo
    cases eo
    refine ⟨fun _ => none, fun _ => .inl rfl, .inr ⟨_, vs.toArray, _, hk, rfl, rfl, rfl, ?_, by simpa using rv⟩, (fun b u z => nomatch z), (fun b z => absurd rfl z), fun _ _ _ => rfl⟩
    rw [List.size_toArray, len]
    exact hl
  | none =>
    let H : Hp := fun b => if b = a then some (.frz { cls := .type "list", data := .seq vs.toArray } (.lst (ns.map V.int))) else none
    have at_a : H a = some (.frz { cls := .type "list", data := .seq vs.toArray } (.lst (ns.map V.int))) := if_pos rfl
    have off : ∀ b, b ≠ a → H b = none := fun b z => if_neg z
    refine ⟨H, fun b => ?_, .inl (.inr ⟨_, at_a⟩), fun b u z => ?_, fun b z => ?_, fun b o z => off b ?_⟩
    · by_cases c : b = a
      · exact .inr ⟨_, _, c ▸ at_a⟩
      · exact .inl (off b c)
    · by_cases c : b = a
      · subst c
        rw [at_a] at z
        cases z
        refine ⟨ha, ?_, vs, _, rv, ha⟩
        rw [List.length_map]
        exact hl
      · rw [off b c] at z
        cases z
    · by_cases c : b = a
      · exact c
      · exact absurd (off b c) z
    · intro c
      rw [c, hk] at z
      cases z

theorem law_end {l : PySem.W.OpenLaw} {n k : Nat} {q : Program} {loose : List Str} {XP : (Str → Option Value) → Heap → Prop} {YP : World → Heap → Prop} {d : DefRec} {K : Params → PySem.W.Frag} {sp : PySem.W.Frag → Sp} {x : Str}
    (hn : l.most = some n) (hn2 : n ≤ sizeLine) (hdf : d.params.defaults = []) (hr : Room k callerA)
    (hY : ∀ (w : World) (h : Heap), YP w h → (K w.params).In h)
    (F : ∀ (w : World) (mg : Str → Option Value) (fa : Addr) (h : Heap), (K w.params).In h → h.Ns mainGlobals mg → mg d.name = some (.ref fa) →
      ∃ fd : FuncData, (∀ (s : Shared) (u : Value), BindsTo s fd ⟨[u], []⟩ [(x, u)]) ∧
        ∀ base : Heap, (K w.params).In base → base.Ns mainGlobals mg → FnG l.prog w (K w.params) mg base CX0 k fa fd [x] (sp (K w.params)))
    (hsp : ∀ (K : PySem.W.Frag) (H : Hp) (a : Addr) (ns : List Int), ns.length ≤ n → Only H → SqL K H a (ns.map V.int) → sp K [.ref a] H (fun v _ => v = .bl true) fun _ _ _ => False) :
    PySem.W.WalkO q loose XP YP l.row.toRowW d [] (fun f vs => PySem.call f vs) := by
  refine Att.attach_call hn hdf fun w s₀ s₁ mg mb fa o pm cd doc a vs ns G Y ho hd hcd hmg hobj hints hlen hgens => ?_
  have kin := hY w _ Y
  obtain ⟨fd, bd, FF⟩ := F w mg fa _ kin G.T.g hmg
  obtain ⟨H, hO, hS, hok, only, notK⟩ := script_heap (P := l.prog) (w := w) kin hobj hints (Nat.le_trans hlen hn2)
  have free : ∀ {b : Addr} {ob : Obj} {es : Array DictEntry} {ep : Nat}, s₁.heap.get? b = some ob → ob.data = .dict es ep → H b = none := by
    intro b ob es ep h1 h2
    cases c : H b with
    | none => rfl
    | some u =>
      have e : b = a := only b (by rw [c]; exact fun z => nomatch z)
      rw [e, hobj] at h1
      have h3 := congrArg Obj.data (Option.some.inj h1)
      rw [h2] at h3
      exact nomatch h3
  have ns' : ∀ {b : Addr} {m : Str → Option Value}, s₁.heap.Ns b m → (hidT s₁.heap H).Ns b m := by
    rintro b m ⟨ob, es, ep, h1, h2, h3⟩
    exact ⟨ob, es, ep, hidT_get h1 (free h1 h2), h2, h3⟩
  have kinB : (K w.params).In (hidT s₁.heap H) := fun b ob e => hidT_get (kin b ob e) (notK b ob e)
  have lim : (hidT s₁.heap H).NoLimit := by
    obtain ⟨mc, h1, h2⟩ := G.T.nolimit
    exact ⟨mc, ns' h1, h2⟩
  have en : Env0 l.prog w (K w.params) mg (hidT s₁.heap H) callerA [] s₁ H :=
    ⟨rfl, ⟨kinB, ns' G.T.g, ⟨mb, ns' G.T.b, G.T.builtins⟩, lim⟩, fun b ob e => of_hidT e, Nat.le_of_eq (hidT_size _ _), trivial, (fun b z => nomatch z), hok, .of_eq hgens⟩
  refine codeAny_mono ((FF _ kinB (ns' G.T.g)).run callerA [] s₁ H ⟨[.ref a], []⟩ [.ref a] [.ref a] _ _ hr rfl en (bd s₁ (.ref a)) (.cons rfl .nil) (hsp _ H a ns hlen hO hS)) fun r s' z => ?_
  cases r with
  | error e => exact False.elim z
  | ok fl =>
    cases fl with
    | next => exact False.elim z
    | brk => exact False.elim z
    | cont => exact False.elim z
    | ret u =>
      obtain ⟨v, H', os, bare, un, hok', rr, e⟩ := z
      have e' : v = .bl true := e
      subst e'
      obtain rfl : u = Value.bool true := rr
      refine ⟨rfl, OldK.of_keep fun b ob hb => ?_, os, bare⟩
      cases c : H b with
      | none => exact un.keep b ob hb c (fun z => nomatch z) (fun z => nomatch z)
      | some u =>
        rcases hO b with z | ⟨ox, xs, z⟩
        · rw [c] at z
          cases z
        · obtain ⟨e1, _⟩ := hok b _ z
          obtain ⟨e2, _⟩ := hok' b _ (un.frzs b ox _ z)
          rw [hb] at e1
          cases e1
          exact e2
end Rp
/-! Kw: a def with one keyword-only parameter whose default is None. -/
namespace Rp
open PySem L2
theorem kw_one {K : PySem.W.Frag} {x qual m : Str} {st : Stmt} {f D : Addr} {oc : Value} {od an : Option Addr} {osl : Array (Option Value)} {doc pm cdv ct : Value}
    (l : K.lookup f = some ⟨oc, od, .func (PySem.W.fnOf x qual (defArgs st) (defBody st) (defScope st) .none (.ref D) doc pm an cdv ct), osl⟩) (c : PySem.W.codeIn K cdv qual = true) (k : PySem.W.keepIn K (.ref f) = true)
    (hn : PySem.W.nsIn K D m = some (some .none)) : FunD K x qual (defArgs st) (defBody st) (defScope st) [] [(m, .non)] f (PySem.W.fnOf x qual (defArgs st) (defBody st) (defScope st) .none (.ref D) doc pm an cdv ct) :=
  ⟨⟨oc, od, .none, .ref D, doc, pm, an, cdv, ct, osl, rfl, l, c, .inl ⟨rfl, rfl⟩, .inr ⟨D, rfl, fun q hq => by
    rw [List.mem_singleton.mp hq]
    exact ⟨.none, hn, rfl⟩⟩⟩, k⟩
end Rp
namespace Rp
open PySem L2
theorem kw_ref {K : PySem.W.Frag} {x qual m : Str} {st : Stmt} {f D A : Addr} {oc : Value} {od an : Option Addr} {osl : Array (Option Value)} {doc pm cdv ct : Value}
    (l : K.lookup f = some ⟨oc, od, .func (PySem.W.fnOf x qual (defArgs st) (defBody st) (defScope st) .none (.ref D) doc pm an cdv ct), osl⟩) (c : PySem.W.codeIn K cdv qual = true) (k : PySem.W.keepIn K (.ref f) = true)
    (hn : PySem.W.nsIn K D m = some (some (.ref A))) : FunD K x qual (defArgs st) (defBody st) (defScope st) [] [(m, .ref A)] f (PySem.W.fnOf x qual (defArgs st) (defBody st) (defScope st) .none (.ref D) doc pm an cdv ct) :=
  ⟨⟨oc, od, .none, .ref D, doc, pm, an, cdv, ct, osl, rfl, l, c, .inl ⟨rfl, rfl⟩, .inr ⟨D, rfl, fun q hq => by
    rw [List.mem_singleton.mp hq]
    exact ⟨.ref A, hn, rfl⟩⟩⟩, k⟩
end Rp
namespace Rp
open PySem L2
/-- two values in the other order -/
def kwSwap {α : Type} : List α → List α
  | [a, b] => [b, a]
  | l => l
theorem kwSwap_rel {zs : List V} {ws : List Value} (h : Vals zs ws) : Vals (kwSwap zs) (kwSwap ws) := by
  cases h with
  | nil => exact .nil
  | cons r1 h =>
    cases h with
    | nil => exact .cons r1 .nil
    | cons r2 h =>
      cases h with
      | nil => exact .cons r2 (.cons r1 .nil)
      | cons r3 h => exact .cons r1 (.cons r2 (.cons r3 h))
theorem kw_two {K : PySem.W.Frag} {x qual m1 m2 : Str} {st : Stmt} {f D : Addr} {oc : Value} {od an : Option Addr} {osl : Array (Option Value)} {doc pm cdv ct : Value} {i1 i2 : Int} {t1 t2 : Tok}
    (l : K.lookup f = some ⟨oc, od, .func (PySem.W.fnOf x qual (defArgs st) (defBody st) (defScope st) .none (.ref D) doc pm an cdv ct), osl⟩) (c : PySem.W.codeIn K cdv qual = true) (k : PySem.W.keepIn K (.ref f) = true)
    (h1 : PySem.W.nsIn K D m1 = some (some (.int i1 t1))) (h2 : PySem.W.nsIn K D m2 = some (some (.int i2 t2))) :
    FunD K x qual (defArgs st) (defBody st) (defScope st) [] [(m1, .int i1), (m2, .int i2)] f (PySem.W.fnOf x qual (defArgs st) (defBody st) (defScope st) .none (.ref D) doc pm an cdv ct) := by
  refine ⟨⟨oc, od, .none, .ref D, doc, pm, an, cdv, ct, osl, rfl, l, c, .inl ⟨rfl, rfl⟩, .inr ⟨D, rfl, fun q hq => ?_⟩⟩, k⟩
  rcases List.mem_cons.mp hq with rfl | hq
  · exact ⟨_, h1, ⟨t1, rfl⟩⟩
  · rw [List.mem_singleton.mp hq]
    exact ⟨_, h2, ⟨t2, rfl⟩⟩
end Rp
/-! Jm: jobs as a type of trees, their data, sizes; what the pot holds. No Python here. -/
namespace Lw
open PySem L2 Rp

abbrev M30 : Int := 1000000000000000000000000000000
inductive J where
  | st (i : Int)
  | ps (par : Bool) (xs : List J)
  | rn (cop : Bool) (n : Int) (x : J)
def kwP (b : Bool) : Str := if b then "par" else "seq"
def kwR (b : Bool) : Str := if b then "copies" else "repeat"
mutual
def J.toD : J → PyData
  | .st i => .int i
  | .ps k xs => .tuple [.str (kwP k), .tuple (J.toDs xs)]
  | .rn k n x => .tuple [.str (kwR k), .int n, x.toD]
def J.toDs : List J → List PyData
  | [] => []
  | x :: xs => x.toD :: J.toDs xs
end
mutual
theorem J.noL : ∀ j : J, noL j.toD = true
  | .st _ => rfl
  | .ps _ xs => by
    have h := J.noLs xs
    simp [J.toD, Rp.noL, Rp.noLs, h]
  | .rn _ _ x => by
    have h := J.noL x
    simp [J.toD, Rp.noL, Rp.noLs, h]
theorem J.noLs : ∀ js : List J, noLs (J.toDs js) = true
  | [] => rfl
  | x :: xs => by
    have h1 := J.noL x
    have h2 := J.noLs xs
    simp [J.toDs, Rp.noLs, h1, h2]
end
theorem J.toDs_eq : ∀ xs : List J, J.toDs xs = xs.map J.toD
  | [] => rfl
  | x :: xs => by rw [J.toDs, J.toDs_eq xs]; rfl

/-! sizes as the program finds them -/
def within (nodes steps : Int) : Option (Int × Int) := if steps ≤ M30 then some (nodes, steps) else none
mutual
def szJ : J → Int → Int → Option (Int × Int)
  | .st i, room, lv => if room < 1 ∨ lv < 1 then none else if -M30 ≤ i ∧ i ≤ M30 then some (1, 1) else none
  | .ps _ xs, room, lv => if room < 1 ∨ lv < 1 then none else if (xs.length : Int) > 400 then none else szJs xs 1 0 room lv
  | .rn _ n x, room, lv => if room < 1 ∨ lv < 1 then none else if ¬ (0 ≤ n ∧ n ≤ M30) then none else
      match szJ x (room - 1) (lv - 1) with
      | none => none
      | some (a, b) => within (a + 1) (b * n)
def szJs : List J → Int → Int → Int → Int → Option (Int × Int)
  | [], nodes, steps, _, _ => within nodes steps
  | x :: xs, nodes, steps, room, lv =>
      match szJ x (room - nodes) (lv - 1) with
      | none => none
      | some (a, b) => szJs xs (nodes + a) (steps + b) room lv
end
mutual
def J.nodes : J → Int
  | .st _ => 1
  | .ps _ xs => 1 + J.nodesL xs
  | .rn _ _ x => x.nodes + 1
def J.nodesL : List J → Int
  | [] => 0
  | x :: xs => x.nodes + J.nodesL xs
end
mutual
def J.steps : J → Int
  | .st _ => 1
  | .ps _ xs => J.stepsL xs
  | .rn _ n x => x.steps * n
def J.stepsL : List J → Int
  | [] => 0
  | x :: xs => x.steps + J.stepsL xs
end
mutual
def J.deep : J → Nat
  | .st _ => 1
  | .ps _ xs => J.deepL xs + 1
  | .rn _ _ x => x.deep + 1
def J.deepL : List J → Nat
  | [] => 0
  | x :: xs => max x.deep (J.deepL xs)
end
mutual
/-- a job but for nodes and nesting -/
def J.ok : J → Prop
  | .st i => -M30 ≤ i ∧ i ≤ M30
  | .ps _ xs => (xs.length : Int) ≤ 400 ∧ J.okL xs ∧ J.stepsL xs ≤ M30
  | .rn _ n x => (0 ≤ n ∧ n ≤ M30) ∧ x.ok ∧ x.steps * n ≤ M30
def J.okL : List J → Prop
  | [] => True
  | x :: xs => x.ok ∧ J.okL xs
end
mutual
theorem J.nodes_pos : ∀ j : J, 1 ≤ j.nodes
  | .st _ => by simp [J.nodes]
  | .ps _ xs => by have := J.nodesL_pos xs; simp only [J.nodes]; omega
  | .rn _ _ x => by have := J.nodes_pos x; simp only [J.nodes]; omega
theorem J.nodesL_pos : ∀ xs : List J, 0 ≤ J.nodesL xs
  | [] => by simp [J.nodesL]
  | x :: xs => by have := J.nodes_pos x; have := J.nodesL_pos xs; simp only [J.nodesL]; omega
end
theorem J.deep_pos : ∀ j : J, 1 ≤ j.deep
  | .st _ => by simp [J.deep]
  | .ps _ xs => by simp only [J.deep]; omega
  | .rn _ _ x => by simp only [J.deep]; omega
mutual
theorem J.steps_nn : ∀ j : J, j.ok → 0 ≤ j.steps
  | .st _, _ => by simp [J.steps]
  | .ps _ xs, h => by
    simp only [J.ok] at h
    simp only [J.steps]
    exact J.stepsL_nn xs h.2.1
  | .rn _ n x, h => by
    simp only [J.ok] at h
    simp only [J.steps]
    exact Int.mul_nonneg (J.steps_nn x h.2.1) h.1.1
theorem J.stepsL_nn : ∀ xs : List J, J.okL xs → 0 ≤ J.stepsL xs
  | [], _ => by simp [J.stepsL]
  | x :: xs, h => by
    simp only [J.okL] at h
    have := J.steps_nn x h.1
    have := J.stepsL_nn xs h.2
    simp only [J.stepsL]
    omega
end
theorem J.steps_le (j : J) (h : j.ok) : j.steps ≤ M30 := by
  cases j with
  | st i => simp only [J.steps]; decide
  | ps k xs => simp only [J.ok] at h; simp only [J.steps]; exact h.2.2
  | rn k n x => simp only [J.ok] at h; simp only [J.steps]; exact h.2.2
/-! the closed form: is a job within room and levels, and then its sizes -/
mutual
theorem szJ_some : ∀ (j : J) (room lv : Int), j.ok → j.nodes ≤ room → (j.deep : Int) ≤ lv → szJ j room lv = some (j.nodes, j.steps)
  | .st i, room, lv, h, h1, h2 => by
    simp only [J.ok] at h
    simp only [J.nodes, J.deep] at h1 h2
    simp only [szJ, J.nodes, J.steps]
    rw [if_neg (by omega), if_pos h]
  | .ps k xs, room, lv, h, h1, h2 => by
    simp only [J.ok] at h
    simp only [J.nodes, J.deep] at h1 h2
    have hn := J.nodesL_pos xs
    simp only [szJ, J.nodes, J.steps]
    rw [if_neg (by omega), if_neg (by omega)]
    have := szJs_some xs 1 0 room lv h.2.1 (by omega) (by omega) (by omega) (by omega)
    rw [this, Int.zero_add]
  | .rn k n x, room, lv, h, h1, h2 => by
    simp only [J.ok] at h
    simp only [J.nodes, J.deep] at h1 h2
    have hn := J.nodes_pos x
    simp only [szJ, J.nodes, J.steps]
    rw [if_neg (by omega), if_neg (by omega), szJ_some x (room - 1) (lv - 1) h.2.1 (by omega) (by omega)]
    simp only [within]
    rw [if_pos h.2.2]
theorem szJs_some : ∀ (xs : List J) (nodes steps room lv : Int), J.okL xs → 1 ≤ nodes → nodes + J.nodesL xs ≤ room → (J.deepL xs : Int) ≤ lv - 1 → steps + J.stepsL xs ≤ M30 → szJs xs nodes steps room lv = some (nodes + J.nodesL xs, steps + J.stepsL xs)
  | [], nodes, steps, room, lv, _, _, _, _, h => by
    simp only [J.nodesL, J.stepsL, szJs, within, Int.add_zero] at *
    rw [if_pos h]
  | x :: xs, nodes, steps, room, lv, h, h0, h1, h2, h3 => by
    simp only [J.okL] at h
    simp only [J.nodesL, J.stepsL, J.deepL] at *
    have p1 := J.nodes_pos x
    have p2 := J.nodesL_pos xs
    have p3 := J.stepsL_nn xs h.2
    simp only [szJs]
    rw [szJ_some x (room - nodes) (lv - 1) h.1 (by omega) (by omega)]
    simp only
    rw [szJs_some xs (nodes + x.nodes) (steps + x.steps) room lv h.2 (by omega) (by omega) (by omega) (by omega)]
    rw [Int.add_assoc, Int.add_assoc]
end
mutual
theorem szJ_inv : ∀ (j : J) (room lv a b : Int), szJ j room lv = some (a, b) → j.ok ∧ j.nodes ≤ room ∧ (j.deep : Int) ≤ lv ∧ a = j.nodes ∧ b = j.steps
  | .st i, room, lv, a, b, h => by
    simp only [szJ] at h
    split at h
    · cases h
    · split at h
      · rename_i h1 h2
        cases h
        simp only [J.ok, J.nodes, J.deep, J.steps]
        refine ⟨h2, by omega, by omega, ?_, ?_⟩ <;> trivial
      · cases h
  | .ps k xs, room, lv, a, b, h => by
    simp only [szJ] at h
    split at h
    · cases h
    · split at h
      · cases h
      · rename_i h1 h2
        obtain ⟨q1, q2, q3, q4, q5, q6⟩ := szJs_inv xs 1 0 room lv a b h (by omega)
        simp only [J.ok, J.nodes, J.deep, J.steps]
        have q3' : (J.deepL xs : Int) ≤ lv - 1 := by
          rcases q3 with q3 | q3
          · exact q3
          · subst q3
            simp only [J.deepL]
            omega
        refine ⟨⟨by omega, q1, by omega⟩, by omega, by omega, by omega, by omega⟩
  | .rn k n x, room, lv, a, b, h => by
    simp only [szJ] at h
    split at h
    · cases h
    · split at h
      · cases h
      · rename_i h1 h2
        split at h
        · cases h
        · rename_i a1 b1 h3
          obtain ⟨q1, q2, q3, q4, q5⟩ := szJ_inv x (room - 1) (lv - 1) a1 b1 h3
          simp only [within] at h
          split at h
          · rename_i h4
            cases h
            subst q4 q5
            simp only [J.ok, J.nodes, J.deep, J.steps]
            refine ⟨⟨Decidable.not_not.mp h2, q1, h4⟩, by omega, by omega, ?_, ?_⟩ <;> trivial
          · cases h
theorem szJs_inv : ∀ (xs : List J) (nodes steps room lv a b : Int), szJs xs nodes steps room lv = some (a, b) → nodes ≤ room → J.okL xs ∧ nodes + J.nodesL xs ≤ room ∧ ((J.deepL xs : Int) ≤ lv - 1 ∨ xs = []) ∧ steps + J.stepsL xs ≤ M30 ∧ a = nodes + J.nodesL xs ∧ b = steps + J.stepsL xs
  | [], nodes, steps, room, lv, a, b, h, h0 => by
    simp only [szJs, within] at h
    split at h
    · rename_i h1
      cases h
      simp only [J.okL, J.nodesL, J.stepsL, Int.add_zero]
      refine ⟨trivial, h0, .inr ?_, h1, ?_, ?_⟩ <;> trivial
    · cases h
  | x :: xs, nodes, steps, room, lv, a, b, h, h0 => by
    simp only [szJs] at h
    split at h
    · cases h
    · rename_i a1 b1 h3
      obtain ⟨q1, q2, q3, q4, q5⟩ := szJ_inv x (room - nodes) (lv - 1) a1 b1 h3
      subst q4 q5
      obtain ⟨r1, r2, r3, r4, r5, r6⟩ := szJs_inv xs (nodes + x.nodes) (steps + x.steps) room lv a b h (by omega)
      have dp := J.deep_pos x
      simp only [J.okL, J.nodesL, J.stepsL, J.deepL]
      refine ⟨⟨q1, r1⟩, by omega, .inl ?_, by omega, by omega, by omega⟩
      rcases r3 with r3 | r3
      · omega
      · subst r3
        simp only [J.deepL]
        omega
end
end Lw
/-! Jn: nets, lowest usages and mirrors of jobs. No Python here. -/
namespace Lw
open PySem L2 Rp
mutual
def J.net : J → Int
  | .st i => i
  | .ps _ xs => J.netL xs
  | .rn _ n x => n * x.net
def J.netL : List J → Int
  | [] => 0
  | x :: xs => x.net + J.netL xs
end
mutual
def J.low : J → Int
  | .st i => min 0 i
  | .ps false xs => J.lowS xs
  | .ps true xs => J.lowL xs
  | .rn true n x => n * x.low
  | .rn false n x => if n = 0 then 0 else x.low + (n - 1) * min 0 x.net
/-- in sequence -/
def J.lowS : List J → Int
  | [] => 0
  | x :: xs => min x.low (x.net + J.lowS xs)
/-- side by side -/
def J.lowL : List J → Int
  | [] => 0
  | x :: xs => x.low + J.lowL xs
end
theorem mul_min_nonneg {a b : Int} (h : 0 ≤ a) : a * min 0 b ≤ 0 ∧ a * min 0 b ≤ a * b := by
  constructor
  · have : 0 ≤ a * (- min 0 b) := Int.mul_nonneg h (by omega)
    rw [Int.mul_neg] at this
    omega
  · exact Int.mul_le_mul_of_nonneg_left (by omega) h
mutual
/-- the lowest usage is at most 0 and at most the net -/
theorem J.low_le : ∀ j : J, j.ok → j.low ≤ 0 ∧ j.low ≤ j.net
  | .st i, _ => by simp only [J.low, J.net]; omega
  | .ps false xs, h => by
    simp only [J.ok] at h
    simp only [J.low, J.net]
    exact J.lowS_le xs h.2.1
  | .ps true xs, h => by
    simp only [J.ok] at h
    simp only [J.low, J.net]
    exact J.lowL_le xs h.2.1
  | .rn true n x, h => by
    simp only [J.ok] at h
    have ih := J.low_le x h.2.1
    simp only [J.low, J.net]
    constructor
    · have : 0 ≤ n * (- x.low) := Int.mul_nonneg h.1.1 (by omega)
      rw [Int.mul_neg] at this
      omega
    · exact Int.mul_le_mul_of_nonneg_left ih.2 h.1.1
  | .rn false n x, h => by
    simp only [J.ok] at h
    have ih := J.low_le x h.2.1
    simp only [J.low, J.net]
    split
    · rename_i e
      subst e
      omega
    · have p := mul_min_nonneg (a := n - 1) (b := x.net) (by omega)
      have e : n * x.net = (n - 1) * x.net + x.net := by rw [Int.sub_mul, Int.one_mul]; omega
      omega
theorem J.lowS_le : ∀ xs : List J, J.okL xs → J.lowS xs ≤ 0 ∧ J.lowS xs ≤ J.netL xs
  | [], _ => by simp only [J.lowS, J.netL]; omega
  | x :: xs, h => by
    simp only [J.okL] at h
    have h1 := J.low_le x h.1
    have h2 := J.lowS_le xs h.2
    simp only [J.lowS, J.netL]
    omega
theorem J.lowL_le : ∀ xs : List J, J.okL xs → J.lowL xs ≤ 0 ∧ J.lowL xs ≤ J.netL xs
  | [], _ => by simp only [J.lowL, J.netL]; omega
  | x :: xs, h => by
    simp only [J.okL] at h
    have h1 := J.low_le x h.1
    have h2 := J.lowL_le xs h.2
    simp only [J.lowL, J.netL]
    omega
end
/-! sizes: at most the steps times a step's greatest -/
theorem mul_natAbs_le {n b c : Int} (h0 : 0 ≤ n) (h : b.natAbs ≤ c.natAbs) : (n * b).natAbs ≤ (n * c).natAbs := by
  rw [Int.natAbs_mul, Int.natAbs_mul]
  exact Nat.mul_le_mul_left _ h
mutual
theorem J.net_big : ∀ j : J, j.ok → -(j.steps * M30) ≤ j.net ∧ j.net ≤ j.steps * M30
  | .st i, h => by
    simp only [J.ok, M30] at h
    simp only [J.net, J.steps, M30]
    omega
  | .ps _ xs, h => by
    simp only [J.ok] at h
    simp only [J.net, J.steps]
    exact J.netL_big xs h.2.1
  | .rn _ n x, h => by
    simp only [J.ok] at h
    have ih := J.net_big x h.2.1
    simp only [J.net, J.steps]
    have e : x.steps * n * M30 = n * (x.steps * M30) := by rw [Int.mul_comm x.steps n, Int.mul_assoc]
    rw [e]
    constructor
    · rw [← Int.mul_neg]
      exact Int.mul_le_mul_of_nonneg_left ih.1 h.1.1
    · exact Int.mul_le_mul_of_nonneg_left ih.2 h.1.1
theorem J.netL_big : ∀ xs : List J, J.okL xs → -(J.stepsL xs * M30) ≤ J.netL xs ∧ J.netL xs ≤ J.stepsL xs * M30
  | [], _ => by simp only [J.netL, J.stepsL]; omega
  | x :: xs, h => by
    simp only [J.okL] at h
    have h1 := J.net_big x h.1
    have h2 := J.netL_big xs h.2
    simp only [J.netL, J.stepsL, M30] at *
    omega
end
mutual
theorem J.low_big : ∀ j : J, j.ok → -(j.steps * M30) ≤ j.low
  | .st i, h => by
    simp only [J.ok, M30] at h
    simp only [J.low, J.steps, M30]
    omega
  | .ps false xs, h => by
    simp only [J.ok] at h
    simp only [J.low, J.steps]
    exact J.lowS_big xs h.2.1
  | .ps true xs, h => by
    simp only [J.ok] at h
    simp only [J.low, J.steps]
    exact J.lowL_big xs h.2.1
  | .rn true n x, h => by
    simp only [J.ok] at h
    have ih := J.low_big x h.2.1
    simp only [J.low, J.steps]
    have e : x.steps * n * M30 = n * (x.steps * M30) := by rw [Int.mul_comm x.steps n, Int.mul_assoc]
    rw [e, ← Int.mul_neg]
    exact Int.mul_le_mul_of_nonneg_left ih h.1.1
  | .rn false n x, h => by
    simp only [J.ok] at h
    have ih := J.low_big x h.2.1
    have ih2 := J.net_big x h.2.1
    have nn := J.steps_nn x h.2.1
    simp only [J.low, J.steps]
    have e : x.steps * n * M30 = n * (x.steps * M30) := by rw [Int.mul_comm x.steps n, Int.mul_assoc]
    rw [e]
    split
    · rename_i z
      subst z
      omega
    · have hm : -(x.steps * M30) ≤ min 0 x.net := by
        have : 0 ≤ x.steps * M30 := Int.mul_nonneg nn (by decide)
        omega
      have p : (n - 1) * (-(x.steps * M30)) ≤ (n - 1) * min 0 x.net := Int.mul_le_mul_of_nonneg_left hm (by omega)
      have e2 : (n - 1) * (-(x.steps * M30)) = -(n * (x.steps * M30)) + x.steps * M30 := by rw [Int.mul_neg, Int.sub_mul, Int.one_mul]; omega
      omega
theorem J.lowS_big : ∀ xs : List J, J.okL xs → -(J.stepsL xs * M30) ≤ J.lowS xs
  | [], _ => by simp only [J.lowS, J.stepsL]; omega
  | x :: xs, h => by
    simp only [J.okL] at h
    have h1 := J.low_big x h.1
    have h2 := J.lowS_big xs h.2
    have h3 := J.net_big x h.1
    have n1 := J.steps_nn x h.1
    have n2 := J.stepsL_nn xs h.2
    simp only [J.lowS, J.stepsL, M30] at *
    omega
theorem J.lowL_big : ∀ xs : List J, J.okL xs → -(J.stepsL xs * M30) ≤ J.lowL xs
  | [], _ => by simp only [J.lowL, J.stepsL]; omega
  | x :: xs, h => by
    simp only [J.okL] at h
    have h1 := J.low_big x h.1
    have h2 := J.lowL_big xs h.2
    simp only [J.lowL, J.stepsL, M30] at *
    omega
end
abbrev M60 : Int := 1000000000000000000000000000000000000000000000000000000000000
theorem J.net_60 (j : J) (h : j.ok) : -M60 ≤ j.net ∧ j.net ≤ M60 := by
  have h1 := J.net_big j h
  have h2 := J.steps_le j h
  simp only [M30, M60] at *
  omega
theorem J.low_60 (j : J) (h : j.ok) : -M60 ≤ j.low ∧ j.low ≤ 0 := by
  have h1 := J.low_big j h
  have h2 := J.steps_le j h
  have h3 := (J.low_le j h).1
  simp only [M30, M60] at *
  omega
/-! the mirror -/
mutual
def J.mir : J → J
  | .st i => .st (-i)
  | .ps false xs => .ps false (J.mirL xs).reverse
  | .ps true xs => .ps true (J.mirL xs)
  | .rn k n x => .rn k n x.mir
def J.mirL : List J → List J
  | [] => []
  | x :: xs => x.mir :: J.mirL xs
end
theorem J.mirL_eq : ∀ xs : List J, J.mirL xs = xs.map J.mir
  | [] => rfl
  | x :: xs => by rw [J.mirL, J.mirL_eq xs]; rfl
theorem J.mirL_rev (xs : List J) : J.mirL xs.reverse = (J.mirL xs).reverse := by rw [J.mirL_eq, J.mirL_eq, List.map_reverse]
mutual
theorem J.mir_mir : ∀ j : J, j.mir.mir = j
  | .st i => by simp [J.mir]
  | .ps false xs => by simp only [J.mir, J.mirL_rev, List.reverse_reverse, J.mirL_mirL xs]
  | .ps true xs => by simp only [J.mir, J.mirL_mirL xs]
  | .rn k n x => by simp only [J.mir, J.mir_mir x]
theorem J.mirL_mirL : ∀ xs : List J, J.mirL (J.mirL xs) = xs
  | [] => rfl
  | x :: xs => by simp only [J.mirL, J.mir_mir x, J.mirL_mirL xs]
end
theorem J.nodesL_rev (xs : List J) : J.nodesL xs.reverse = J.nodesL xs := by
  induction xs with
  | nil => rfl
  | cons x xs ih =>
    have app : ∀ xs ys : List J, J.nodesL (xs ++ ys) = J.nodesL xs + J.nodesL ys := by
      intro xs ys
      induction xs with
      | nil => simp [J.nodesL]
      | cons a l ih => simp only [List.cons_append, J.nodesL, ih]; omega
    rw [List.reverse_cons, app, ih]
    simp only [J.nodesL]
    omega
theorem J.stepsL_app (xs ys : List J) : J.stepsL (xs ++ ys) = J.stepsL xs + J.stepsL ys := by
  induction xs with
  | nil => simp [J.stepsL]
  | cons a l ih => simp only [List.cons_append, J.stepsL, ih]; omega
theorem J.stepsL_rev (xs : List J) : J.stepsL xs.reverse = J.stepsL xs := by
  induction xs with
  | nil => rfl
  | cons x xs ih =>
    rw [List.reverse_cons, J.stepsL_app, ih]
    simp only [J.stepsL]
    omega
theorem J.netL_app (xs ys : List J) : J.netL (xs ++ ys) = J.netL xs + J.netL ys := by
  induction xs with
  | nil => simp [J.netL]
  | cons a l ih => simp only [List.cons_append, J.netL, ih]; omega
theorem J.netL_rev (xs : List J) : J.netL xs.reverse = J.netL xs := by
  induction xs with
  | nil => rfl
  | cons x xs ih =>
    rw [List.reverse_cons, J.netL_app, ih]
    simp only [J.netL]
    omega
theorem J.deepL_rev (xs : List J) : J.deepL xs.reverse = J.deepL xs := by
  induction xs with
  | nil => rfl
  | cons x xs ih =>
    have app : ∀ xs ys : List J, J.deepL (xs ++ ys) = max (J.deepL xs) (J.deepL ys) := by
      intro xs ys
      induction xs with
      | nil => simp [J.deepL]
      | cons a l ih => simp only [List.cons_append, J.deepL, ih]; omega
    rw [List.reverse_cons, app, ih]
    simp only [J.deepL]
    omega
theorem J.okL_iff : ∀ xs : List J, J.okL xs ↔ ∀ x ∈ xs, x.ok
  | [] => by simp [J.okL]
  | x :: xs => by simp only [J.okL, J.okL_iff xs, List.forall_mem_cons]
theorem J.okL_rev (xs : List J) : J.okL xs.reverse ↔ J.okL xs := by
  rw [J.okL_iff, J.okL_iff]
  simp
theorem J.mirL_len (xs : List J) : (J.mirL xs).length = xs.length := by rw [J.mirL_eq, List.length_map]
mutual
theorem J.mir_same : ∀ j : J, j.mir.nodes = j.nodes ∧ j.mir.steps = j.steps ∧ j.mir.deep = j.deep ∧ j.mir.net = -j.net ∧ (j.ok → j.mir.ok)
  | .st i => by
    simp only [J.mir, J.nodes, J.steps, J.deep, J.net, J.ok, true_and]
    omega
  | .ps false xs => by
    obtain ⟨h1, h2, h3, h4, h5⟩ := J.mirL_same xs
    simp only [J.mir, J.nodes, J.steps, J.deep, J.net, J.ok, J.nodesL_rev, J.stepsL_rev, J.deepL_rev, J.netL_rev, J.okL_rev, List.length_reverse, J.mirL_len, h1, h2, h3, h4, true_and]
    exact fun z => ⟨z.1, h5 z.2.1, z.2.2⟩
  | .ps true xs => by
    obtain ⟨h1, h2, h3, h4, h5⟩ := J.mirL_same xs
    simp only [J.mir, J.nodes, J.steps, J.deep, J.net, J.ok, J.mirL_len, h1, h2, h3, h4, true_and]
    exact fun z => ⟨z.1, h5 z.2.1, z.2.2⟩
  | .rn k n x => by
    obtain ⟨h1, h2, h3, h4, h5⟩ := J.mir_same x
    simp only [J.mir, J.nodes, J.steps, J.deep, J.net, J.ok, h1, h2, h3, h4, true_and, Int.mul_neg]
    exact fun z => ⟨z.1, h5 z.2.1, z.2.2⟩
theorem J.mirL_same : ∀ xs : List J, J.nodesL (J.mirL xs) = J.nodesL xs ∧ J.stepsL (J.mirL xs) = J.stepsL xs ∧ J.deepL (J.mirL xs) = J.deepL xs ∧ J.netL (J.mirL xs) = -J.netL xs ∧ (J.okL xs → J.okL (J.mirL xs))
  | [] => by simp [J.mirL, J.nodesL, J.stepsL, J.deepL, J.netL, J.okL]
  | x :: xs => by
    obtain ⟨h1, h2, h3, h4, h5⟩ := J.mir_same x
    obtain ⟨k1, k2, k3, k4, k5⟩ := J.mirL_same xs
    simp only [J.mirL, J.nodesL, J.stepsL, J.deepL, J.netL, J.okL, h1, h2, h3, h4, k1, k2, k3, k4, true_and]
    refine ⟨by omega, fun z => ⟨h5 z.1, k5 z.2⟩⟩
end
theorem J.lowS_app (xs : List J) (y : J) (hy : y.ok) (hx : J.okL xs) : J.lowS (xs ++ [y]) = min (J.lowS xs) (J.netL xs + y.low) := by
  induction xs with
  | nil =>
    have := J.low_le y hy
    simp only [List.nil_append, J.lowS, J.netL]
    omega
  | cons x xs ih =>
    simp only [J.okL] at hx
    simp only [List.cons_append, J.lowS, J.netL, ih hx.2]
    omega
mutual
theorem J.mir_low : ∀ j : J, j.ok → j.mir.low = j.low - j.net
  | .st i, _ => by simp only [J.mir, J.low, J.net]; omega
  | .ps false xs, h => by
    simp only [J.ok] at h
    simp only [J.mir, J.low, J.net]
    exact J.mirL_lowS xs h.2.1
  | .ps true xs, h => by
    simp only [J.ok] at h
    simp only [J.mir, J.low, J.net]
    exact J.mirL_lowL xs h.2.1
  | .rn true n x, h => by
    simp only [J.ok] at h
    simp only [J.mir, J.low, J.net, J.mir_low x h.2.1, Int.mul_sub]
  | .rn false n x, h => by
    simp only [J.ok] at h
    obtain ⟨_, _, _, hn, _⟩ := J.mir_same x
    simp only [J.mir, J.low, J.net, J.mir_low x h.2.1, hn]
    split
    · rename_i e
      subst e
      omega
    · have e : min 0 (-x.net) = min 0 x.net - x.net := by omega
      have e1 : (n - 1) * (min 0 x.net - x.net) = (n - 1) * min 0 x.net - (n - 1) * x.net := Int.mul_sub _ _ _
      have e2 : (n - 1) * x.net = n * x.net - x.net := by rw [Int.sub_mul, Int.one_mul]
      rw [e, e1]
      omega
theorem J.mirL_lowS : ∀ xs : List J, J.okL xs → J.lowS (J.mirL xs).reverse = J.lowS xs - J.netL xs
  | [], _ => by simp only [J.mirL, List.reverse_nil, J.lowS, J.netL]; omega
  | x :: xs, h => by
    simp only [J.okL] at h
    obtain ⟨_, _, _, _, ho⟩ := J.mir_same x
    obtain ⟨_, _, _, hn, hos⟩ := J.mirL_same xs
    simp only [J.mirL, List.reverse_cons]
    rw [J.lowS_app _ _ (ho h.1) ((J.okL_rev _).mpr (hos h.2)), J.mirL_lowS xs h.2, J.mir_low x h.1, J.netL_rev, hn]
    simp only [J.lowS, J.netL]
    omega
theorem J.mirL_lowL : ∀ xs : List J, J.okL xs → J.lowL (J.mirL xs) = J.lowL xs - J.netL xs
  | [], _ => by simp only [J.mirL, J.lowL, J.netL]; omega
  | x :: xs, h => by
    simp only [J.okL] at h
    simp only [J.mirL, J.lowL, J.netL, J.mirL_lowL xs h.2, J.mir_low x h.1]
    omega
end
/-! a job's data at hand -/
theorem ps_inv {K : PySem.W.Frag} {H : Hp} {v : V} {k : Bool} {xs : List J} (h : Dp K H v (J.ps k xs).toD) : ∃ a b vs, v = .ref a ∧ SqT K H a [.str (kwP k), .ref b] ∧ SqT K H b vs ∧ DpAll K H vs (J.toDs xs) := by
  rw [J.toD] at h
  obtain ⟨a, ys, rfl, hys, hall⟩ := dp_tup_inv h
  cases hall with
  | cons e1 hall =>
    obtain rfl := dp_str_inv e1
    cases hall with
    | cons e2 hall =>
      cases hall
      obtain ⟨b, vs, rfl, hvs, hall2⟩ := dp_tup_inv e2
      exact ⟨a, b, vs, rfl, hys, hvs, hall2⟩
theorem rn_inv {K : PySem.W.Frag} {H : Hp} {v : V} {k : Bool} {n : Int} {x : J} (h : Dp K H v (J.rn k n x).toD) : ∃ a w, v = .ref a ∧ SqT K H a [.str (kwR k), .int n, w] ∧ Dp K H w x.toD := by
  rw [J.toD] at h
  obtain ⟨a, ys, rfl, hys, hall⟩ := dp_tup_inv h
  cases hall with
  | cons e1 hall =>
    obtain rfl := dp_str_inv e1
    cases hall with
    | cons e2 hall =>
      obtain rfl := dp_int_inv e2
      cases hall with
      | cons e3 hall =>
        cases hall
        exact ⟨a, _, rfl, hys, e3⟩
theorem parts_at {K : PySem.W.Frag} {H : Hp} {xs : List J} {vs : List V} {i : Nat} {x : V} (hall : DpAll K H vs (J.toDs xs)) (hi : vs[i]? = some x) : ∃ j, xs[i]? = some j ∧ j ∈ xs ∧ Dp K H x j.toD := by
  obtain ⟨d, ed, hd⟩ := dpAll_get hall hi
  rw [J.toDs_eq, List.getElem?_map] at ed
  cases e : xs[i]? with
  | none =>
    rw [e] at ed
    cases ed
  | some j =>
    rw [e] at ed
    obtain rfl := (Option.some.inj ed).symm
    exact ⟨j, rfl, List.mem_of_getElem? e, hd⟩
theorem parts_len {K : PySem.W.Frag} {H : Hp} {xs : List J} {vs : List V} (hall : DpAll K H vs (J.toDs xs)) : vs.length = xs.length := by
  rw [dpAll_length hall, J.toDs_eq, List.length_map]
theorem deep_mem : ∀ {l : List J} {y : J}, y ∈ l → y.deep ≤ J.deepL l
  | z :: r, y, h => by
    simp only [J.deepL]
    rcases List.mem_cons.mp h with rfl | h
    · omega
    · have := deep_mem h
      omega
theorem ok_mem {l : List J} {y : J} (o : J.okL l) (h : y ∈ l) : y.ok := (J.okL_iff l).mp o y h
theorem take_step {α β : Type} {xs : List α} {i : Nat} {j : α} (f : α → β) (e : xs[i]? = some j) : (xs.take (i + 1)).map f = (xs.take i).map f ++ [f j] := by
  rw [List.take_add_one, e, List.map_append]
  rfl
/-! words -/
theorem w_in_parts (k : Bool) : inV (.str (kwP k)) [.str "seq", .str "par"] = true := by cases k <;> decide +kernel
theorem w_in_parts_no (k : Bool) : inV (.str (kwR k)) [.str "seq", .str "par"] = false := by cases k <;> decide +kernel
theorem w_in_rounds (k : Bool) : inV (.str (kwR k)) [.str "repeat", .str "copies"] = true := by cases k <;> decide +kernel
theorem w_in_rounds_no (k : Bool) : inV (.str (kwP k)) [.str "repeat", .str "copies"] = false := by cases k <;> decide +kernel
theorem w_seq (k : Bool) : decide (V.str (kwP k) = V.str "seq") = !k := by cases k <;> decide +kernel
theorem w_par (k : Bool) : decide (V.str (kwP k) = V.str "par") = k := by cases k <;> decide +kernel
theorem w_seq_no (k : Bool) : decide (V.str (kwR k) = V.str "seq") = false := by cases k <;> decide +kernel
theorem w_par_no (k : Bool) : decide (V.str (kwR k) = V.str "par") = false := by cases k <;> decide +kernel
theorem w_copies (k : Bool) : decide (V.str (kwR k) = V.str "copies") = k := by cases k <;> decide +kernel
theorem w_dec_int {a b : Int} : decide (V.int a = V.int b) = decide (a = b) := by
  by_cases h : a = b
  · subst h
    simp
  · rw [decide_eq_false h, decide_eq_false (fun z => h (V.int.inj z))]
/-! the data of a job: fine to be shown, comparable -/
theorem kwP_fine (k : Bool) : fine (.str (kwP k)) := by cases k <;> (simp only [fine]; decide +kernel)
theorem kwR_fine (k : Bool) : fine (.str (kwR k)) := by cases k <;> (simp only [fine]; decide +kernel)
theorem kwP_bulk (k : Bool) : (PyData.str (kwP k)).bulk ≤ 10 := by cases k <;> (simp only [PyData.bulk]; decide +kernel)
theorem kwR_bulk (k : Bool) : (PyData.str (kwR k)).bulk ≤ 10 := by cases k <;> (simp only [PyData.bulk]; decide +kernel)
theorem lt180 {i : Int} (h0 : -M60 ≤ i) (h : i ≤ M60) : i.natAbs < 10 ^ 180 := by
  simp only [M60] at h0 h
  exact Nat.lt_of_le_of_lt (show i.natAbs ≤ 1000000000000000000000000000000000000000000000000000000000000 by omega) (by decide +kernel)
mutual
theorem J.fine : ∀ j : J, j.ok → fine j.toD
  | .st i, h => by
    simp only [J.ok, M30] at h
    simp only [J.toD, Rp.fine]
    exact lt180 (by simp only [M60]; omega) (by simp only [M60]; omega)
  | .ps k xs, h => by
    simp only [J.ok] at h
    have h1 := J.fines xs h.2.1
    have h2 := kwP_fine k
    simp only [J.toD, Rp.fine, fines] at *
    exact ⟨h2, h1, trivial⟩
  | .rn k n x, h => by
    simp only [J.ok, M30] at h
    have h1 := J.fine x h.2.1
    have h2 := kwR_fine k
    simp only [J.toD, Rp.fine, fines] at *
    exact ⟨h2, lt180 (by simp only [M60]; omega) (by simp only [M60]; omega), h1, trivial⟩
theorem J.fines : ∀ xs : List J, J.okL xs → fines (J.toDs xs)
  | [], _ => by simp [J.toDs, Rp.fines]
  | x :: xs, h => by
    simp only [J.okL] at h
    simp only [J.toDs, Rp.fines]
    exact ⟨J.fine x h.1, J.fines xs h.2⟩
end
mutual
theorem J.bulk : ∀ j : J, (j.toD.bulk : Int) ≤ 20 * j.nodes - 5
  | .st i => by simp only [J.toD, PyData.bulk, J.nodes]; omega
  | .ps k xs => by
    have h1 := J.bulks xs
    have h2 := kwP_bulk k
    simp only [J.toD, PyData.bulk, PyData.bulkAll, J.nodes] at *
    omega
  | .rn k n x => by
    have h1 := J.bulk x
    have h2 := kwR_bulk k
    simp only [J.toD, PyData.bulk, PyData.bulkAll, J.nodes] at *
    omega
theorem J.bulks : ∀ xs : List J, (PyData.bulkAll (J.toDs xs) : Int) ≤ 20 * J.nodesL xs
  | [] => by simp [J.toDs, PyData.bulkAll, J.nodesL]
  | x :: xs => by
    have h1 := J.bulk x
    have h2 := J.bulks xs
    simp only [J.toDs, PyData.bulkAll, J.nodesL, List.length_cons] at *
    omega
end
mutual
theorem J.depth : ∀ j : J, j.toD.depth ≤ 2 * j.deep
  | .st i => by simp [J.toD, PyData.depth]
  | .ps k xs => by
    have h1 := J.depths xs
    simp only [J.toD, PyData.depth, PyData.depthAll, J.deep]
    omega
  | .rn k n x => by
    have h1 := J.depth x
    simp only [J.toD, PyData.depth, PyData.depthAll, J.deep]
    omega
theorem J.depths : ∀ xs : List J, PyData.depthAll (J.toDs xs) ≤ 2 * J.deepL xs
  | [] => by simp [J.toDs, PyData.depthAll, J.deepL]
  | x :: xs => by
    have h1 := J.depth x
    have h2 := J.depths xs
    simp only [J.toDs, PyData.depthAll, J.deepL]
    omega
end
theorem kwP_strOk (k : Bool) : PyData.canLay0 (.str (kwP k)) = true := by cases k <;> (simp only [PyData.canLay0]; decide +kernel)
theorem kwR_strOk (k : Bool) : PyData.canLay0 (.str (kwR k)) = true := by cases k <;> (simp only [PyData.canLay0]; decide +kernel)
mutual
theorem J.canLay : ∀ j : J, j.toD.canLay0 = true
  | .st i => by simp [J.toD, PyData.canLay0]
  | .ps k xs => by
    have h1 := J.canLays xs
    have h2 := kwP_strOk k
    simp only [J.toD, PyData.canLay0, PyData.canLayAll0, h1, Bool.and_true, Bool.true_and] at *
    exact h2
  | .rn k n x => by
    have h1 := J.canLay x
    have h2 := kwR_strOk k
    simp only [J.toD, PyData.canLay0, PyData.canLayAll0, h1, Bool.and_true, Bool.true_and] at *
    exact h2
theorem J.canLays : ∀ xs : List J, PyData.canLayAll0 (J.toDs xs) = true
  | [] => rfl
  | x :: xs => by
    have h1 := J.canLay x
    have h2 := J.canLays xs
    simp only [J.toDs, PyData.canLayAll0, h1, h2, Bool.and_self]
end
theorem J.shaped (j : J) (h : j.deep ≤ 30) : SeqAt.shaped j.toD = true := by
  have h1 := J.canLay j
  have h2 := J.depth j
  unfold SeqAt.shaped
  rw [h1, decide_eq_true (by omega)]
  rfl
theorem J.eqv (j : J) : PyData.eqv j.toD j.toD = true := SeqAt.eqv_refl _ (J.canLay j)
end Lw
/-! Rq: data of any kind (lists that nobody changes, dicts), beside a pot at p: isinstance, in, repr. -/
namespace Rp
open PySem L2 PyProof.Rows

theorem str_eq_dict (b : Str) (u : Tok) (a : Addr) : Meets (Builtin.«str.__eq__» { pos := [Value.str b u, Value.ref a] }) fun _ R s => (∃ o es n, s.heap.get? a = some o ∧ o.data = Data.dict es n) ∧ R (.ok (.ret Value.notImplemented)) s := by
  rintro prog w A R s ⟨⟨o, es, n, h, hd⟩, q⟩
  have e : Builtin.«str.__eq__» { pos := [Value.str b u, Value.ref a] } = (do
      let o ← asStr? (Value.ref a)
      match o with
      | some o => ret (Value.bool (b.cps.toList == o.cps.toList))
      | none => do
          rule (toString "str." ++ toString "__eq__" ++ toString ".not-a-str")
          ret Value.notImplemented) := rfl
  rw [e]
  refine wpAny_bind ?_
  unfold asStr?
  refine wpAny_bind (wpAny_load h ?_)
  rw [hd]
  refine wpAny_pure ?_
  refine wpAny_bind (wpAny_rule ?_)
  exact wpAny_pure q
theorem dict_eq_str (b : Str) (u : Tok) (a : Addr) : Meets (Builtin.«dict.__eq__» { pos := [Value.ref a, Value.str b u] }) fun _ R s => R (.ok (.ret Value.notImplemented)) s := by
  rintro prog w A R s q
  have e : Builtin.«dict.__eq__» { pos := [Value.ref a, Value.str b u] } = (do
      let x ← isInstance (Value.str b u) (Value.type "dict")
      if (!x) = true then do
          rule (toString "dict." ++ toString "__eq__" ++ toString ".not-a-dict")
          ret Value.notImplemented
        else do
          let p ← Builtin.Dict.addrOf (Value.ref a)
          let q ← Builtin.Dict.addrOf (Value.str b u)
          let z ← Builtin.Dict.samePairs (toString "dict." ++ toString "__eq__") p q
          ret (Value.bool (z == true))) := rfl
  rw [e]
  refine wpAny_bind (wpAny_isInstance_val (b := false) (T := "str") rfl (by rfl) ?_)
  refine wpAny_bind (wpAny_rule ?_)
  exact wpAny_pure q
theorem rc_str_dict {A : Around} {s : Shared} {a : Addr} {o : Obj} {es : Array DictEntry} {n : Nat} (b : Str) (u : Tok) (h : s.heap.get? a = some o) (hc : o.cls = .type "dict") (hd : o.data = .dict es n) (room : A.units < cLine) : SeqAt.RcAt A s (.str b u) (.ref a) false := by
  intro prog w E Q q
  have ta : s.TypeIs (.str b u) "str" := by rfl
  have tb : s.TypeIs (.ref a) "dict" := ⟨o, h, hc⟩
  have e1 : ∀ Q' : Value → Shared → Prop, Q' Value.notImplemented s → wpAny (model prog w) A (call (Value.builtin "str.__eq__") [.str b u, .ref a]) Q' E s := fun Q' z =>
    call_meets PyProof.Rows.slot_str_eq ta F.entry_str_eq (F.args_str_eq_2 _ _) (str_eq_dict b u a) ⟨⟨o, es, n, h, hd⟩, z⟩
  have e2 : ∀ Q' : Value → Shared → Prop, Q' Value.notImplemented s → wpAny (model prog w) A (call (Value.builtin "dict.__eq__") [.ref a, .str b u]) Q' E s := fun Q' z =>
    call_meets F.slot_dict_eq tb F.entry_dict_eq (F.args_dict_eq_2 _ _) (dict_eq_str b u a) z
  exact SeqAt.rc_eq_decline_or (Ta := "str") (Tb := "dict") (k := false) ta tb (by decide) (by rfl) PyProof.Rows.slot_str_eq F.slot_dict_eq_refl e1 e2 (fun Q' z => wpAny_pure z) (.inr room) q
theorem eq_str_dict {A : Around} {s : Shared} {a : Addr} {o : Obj} {es : Array DictEntry} {n : Nat} (b : Str) (u : Tok) (h : s.heap.get? a = some o) (hc : o.cls = .type "dict") (hd : o.data = .dict es n) (room : A.units < cLine) : SeqAt.EqAt A s (.str b u) (.ref a) false := by
  intro prog w E Q q
  unfold eqBool
  refine wpAny_holding ?_
  have e : (Value.str b u == Value.ref a) = false := rfl
  simp only [e, Bool.false_eq_true, if_false]
  refine wpAny_bind (rc_str_dict b u h hc hd room prog w E _ ?_)
  exact wpAny_truthy_bool q

mutual
inductive Dq (K : PySem.W.Frag) (p : Addr) (H : Hp) : V → PyData → Prop
  | non : Dq K p H .non .none
  | bl (b : Bool) : Dq K p H (.bl b) (.bool b)
  | int (i : Int) : Dq K p H (.int i) (.int i)
  | str (x : Str) : Dq K p H (.str x) (.str x)
  | lst {a : Addr} {xs : List V} {ds : List PyData} : a ≠ p → H a = some (.lst xs) → DqAll K p H xs ds → Dq K p H (.ref a) (.list ds)
  | tup {a : Addr} {xs : List V} {ds : List PyData} : SqT K H a xs → DqAll K p H xs ds → Dq K p H (.ref a) (.tuple ds)
  | dct {a : Addr} {kvs : List (Key × V)} {ds : List (PyData × PyData)} : a ≠ p → H a = some (.dK kvs) → (ds = [] → kvs = []) → Dq K p H (.ref a) (.dict ds)
inductive DqAll (K : PySem.W.Frag) (p : Addr) (H : Hp) : List V → List PyData → Prop
  | nil : DqAll K p H [] []
  | cons {v : V} {d : PyData} {vs : List V} {ds : List PyData} : Dq K p H v d → DqAll K p H vs ds → DqAll K p H (v :: vs) (d :: ds)
end
mutual
theorem dq_of {K : PySem.W.Frag} {p : Addr} {H : Hp} : ∀ {d : PyData} {v : V}, noL d = true → Dp K H v d → Dq K p H v d
  | .none, _, _, h => by cases h; exact .non
  | .bool _, _, _, h => by cases h; exact .bl _
  | .int _, _, _, h => by cases h; exact .int _
  | .str _, _, _, h => by cases h; exact .str _
  | .list _, _, n, _ => by simp [noL] at n
  | .tuple ds, _, n, h => by
    cases h with
    | tup hs ha => exact .tup hs (dqAll_of (by simpa [noL] using n) ha)
  | .dict _, _, _, h => by cases h
theorem dqAll_of {K : PySem.W.Frag} {p : Addr} {H : Hp} : ∀ {ds : List PyData} {vs : List V}, noLs ds = true → DpAll K H vs ds → DqAll K p H vs ds
  | [], _, _, h => by cases h; exact .nil
  | d :: ds, _, n, h => by
    cases h with
    | cons h1 h2 =>
      have n' : noL d = true ∧ noLs ds = true := by simpa [noLs] using n
      exact .cons (dq_of n'.1 h1) (dqAll_of n'.2 h2)
end
/-- what keeps such data: tuples, and all but p -/
structure Kp (K : PySem.W.Frag) (p : Addr) (H H' : Hp) : Prop where
  sx : Sx p H H'
  tp : ∀ a xs, SqT K H a xs → SqT K H' a xs
theorem Kp.refl {K : PySem.W.Frag} {p : Addr} {H : Hp} : Kp K p H H := ⟨Sx.refl, fun _ _ h => h⟩
theorem Kp.trans {K : PySem.W.Frag} {p : Addr} {H H1 H2 : Hp} (a : Kp K p H H1) (b : Kp K p H1 H2) : Kp K p H H2 := ⟨a.sx.trans b.sx, fun x xs h => b.tp x xs (a.tp x xs h)⟩
theorem Same.kp {K : PySem.W.Frag} {p : Addr} {H H' : Hp} (s : Same H H') : Kp K p H H' := ⟨Same.sx s, fun _ _ h => same_sqT s h⟩
theorem Sx.kp {K : PySem.W.Frag} {p : Addr} {H H' : Hp} {l : List V} (s : Sx p H H') (hp : H p = some (.lst l)) : Kp K p H H' := ⟨s, fun _ _ h => s.sqT hp h⟩
mutual
theorem Dq.keep {K : PySem.W.Frag} {p : Addr} {H H' : Hp} (s : Kp K p H H') : ∀ {d : PyData} {v : V}, Dq K p H v d → Dq K p H' v d
  | .none, _, h => by cases h; exact .non
  | .bool _, _, h => by cases h; exact .bl _
  | .int _, _, h => by cases h; exact .int _
  | .str _, _, h => by cases h; exact .str _
  | .list ds, _, h => by
    cases h with
    | lst n e ha => exact .lst n (s.sx _ _ n e) (DqAll.keep s ha)
  | .tuple ds, _, h => by
    cases h with
    | tup hs ha => exact .tup (s.tp _ _ hs) (DqAll.keep s ha)
  | .dict _, _, h => by
    cases h with
    | dct n e z => exact .dct n (s.sx _ _ n e) z
theorem DqAll.keep {K : PySem.W.Frag} {p : Addr} {H H' : Hp} (s : Kp K p H H') : ∀ {ds : List PyData} {vs : List V}, DqAll K p H vs ds → DqAll K p H' vs ds
  | [], _, h => by cases h; exact .nil
  | d :: ds, _, h => by
    cases h with
    | cons h1 h2 => exact .cons (Dq.keep s h1) (DqAll.keep s h2)
end
theorem dqAll_length {K : PySem.W.Frag} {p : Addr} {H : Hp} : ∀ {vs : List V} {ds : List PyData}, DqAll K p H vs ds → vs.length = ds.length
  | _, _, .nil => rfl
  | _, _, .cons _ h => congrArg (· + 1) (dqAll_length h)
theorem dqAll_get {K : PySem.W.Frag} {p : Addr} {H : Hp} : ∀ {vs : List V} {ds : List PyData} {i : Nat} {v : V}, DqAll K p H vs ds → vs[i]? = some v → ∃ d, ds[i]? = some d ∧ Dq K p H v d
  | _, _, _, _, .nil, e => by simp at e
  | _, _, 0, _, .cons h _, e => by
    simp at e
    subst e
    exact ⟨_, rfl, h⟩
  | _, _, i + 1, _, .cons _ t, e => by
    obtain ⟨d, e1, e2⟩ := dqAll_get (i := i) t (by simpa using e)
    exact ⟨d, by simpa using e1, e2⟩
theorem dqAll_append {K : PySem.W.Frag} {p : Addr} {H : Hp} : ∀ {vs ws : List V} {ds es : List PyData}, DqAll K p H vs ds → DqAll K p H ws es → DqAll K p H (vs ++ ws) (ds ++ es)
  | _, _, _, _, .nil, h => h
  | _, _, _, _, .cons h t, h' => .cons h (dqAll_append t h')
theorem dqAll_take {K : PySem.W.Frag} {p : Addr} {H : Hp} : ∀ (n : Nat) {vs : List V} {ds : List PyData}, DqAll K p H vs ds → DqAll K p H (vs.take n) (ds.take n)
  | 0, _, _, _ => by simpa using .nil
  | n + 1, _, _, .nil => by simpa using .nil
  | n + 1, _, _, .cons h t => by simpa using .cons h (dqAll_take n t)
theorem dqAll_drop {K : PySem.W.Frag} {p : Addr} {H : Hp} : ∀ (n : Nat) {vs : List V} {ds : List PyData}, DqAll K p H vs ds → DqAll K p H (vs.drop n) (ds.drop n)
  | 0, _, _, h => by simpa using h
  | n + 1, _, _, .nil => by simpa using .nil
  | n + 1, _, _, .cons h t => by simpa using dqAll_drop n t
theorem dq_int_inv {K : PySem.W.Frag} {p : Addr} {H : Hp} {v : V} {i : Int} (h : Dq K p H v (.int i)) : v = .int i := by cases h; rfl
theorem dq_str_inv {K : PySem.W.Frag} {p : Addr} {H : Hp} {v : V} {x : Str} (h : Dq K p H v (.str x)) : v = .str x := by cases h; rfl
theorem dq_bool_inv {K : PySem.W.Frag} {p : Addr} {H : Hp} {v : V} {b : Bool} (h : Dq K p H v (.bool b)) : v = .bl b := by cases h; rfl
theorem dq_tup_inv {K : PySem.W.Frag} {p : Addr} {H : Hp} {v : V} {ds : List PyData} (h : Dq K p H v (.tuple ds)) : ∃ a xs, v = .ref a ∧ SqT K H a xs ∧ DqAll K p H xs ds := by
  cases h with
  | tup h1 h2 => exact ⟨_, _, rfl, h1, h2⟩
theorem tupq {K : PySem.W.Frag} {p q : Addr} {H : Hp} {xs : List V} {ds : List PyData} (hq : H q = none) (h : DqAll K p H xs ds) : Same H (upd H q (.tup xs)) ∧ Dq K p (upd H q (.tup xs)) (.ref q) (.tuple ds) :=
  ⟨same_new hq, .tup (.inl (.inl upd_same)) (h.keep (Same.kp (same_new hq)))⟩
theorem lstq {K : PySem.W.Frag} {p q : Addr} {H : Hp} {xs : List V} {ds : List PyData} (n : q ≠ p) (hq : H q = none) (h : DqAll K p H xs ds) : Same H (upd H q (.lst xs)) ∧ Dq K p (upd H q (.lst xs)) (.ref q) (.list ds) :=
  ⟨same_new hq, .lst n upd_same (h.keep (Same.kp (same_new hq)))⟩

mutual
def noD : PyData → Bool
  | .list ds => noDs ds
  | .tuple ds => noDs ds
  | .dict _ => false
  | _ => true
def noDs : List PyData → Bool
  | [] => true
  | d :: ds => noD d && noDs ds
end
mutual
theorem Dq.dp {K : PySem.W.Frag} {p : Addr} {H : Hp} : ∀ {d : PyData} {v : V}, noD d = true → Dq K p H v d → Dp K H v d
  | .none, _, _, h => by cases h; exact .non
  | .bool _, _, _, h => by cases h; exact .bl _
  | .int _, _, _, h => by cases h; exact .int _
  | .str _, _, _, h => by cases h; exact .str _
  | .list ds, _, n, h => by
    cases h with
    | lst _ e ha => exact .lst (SqL.of e) (DqAll.dp (by simpa [noD] using n) ha)
  | .tuple ds, _, n, h => by
    cases h with
    | tup hs ha => exact .tup hs (DqAll.dp (by simpa [noD] using n) ha)
  | .dict _, _, n, _ => by simp [noD] at n
theorem DqAll.dp {K : PySem.W.Frag} {p : Addr} {H : Hp} : ∀ {ds : List PyData} {vs : List V}, noDs ds = true → DqAll K p H vs ds → DpAll K H vs ds
  | [], _, _, h => by cases h; exact .nil
  | d :: ds, _, n, h => by
    cases h with
    | cons h1 h2 =>
      have n' : noD d = true ∧ noDs ds = true := by simpa [noDs] using n
      exact .cons (Dq.dp n'.1 h1) (DqAll.dp n'.2 h2)
end
theorem dq_ty {K : PySem.W.Frag} {p : Addr} {H : Hp} {v : V} {d : PyData} (h : Dq K p H v d) : TyX K H v (.type (tyN d)) := by
  cases h with
  | non => exact .base .non
  | bl b => exact .base (.bl b)
  | int i => exact .base (.int i)
  | str x => exact .base (.str x)
  | lst n hs ha => exact .base (.lst hs)
  | tup hs ha =>
    rcases hs with (e | ⟨o, e⟩) | ⟨o, its, n, hk, hc, _⟩
    · exact .base (.tup e)
    · exact .fTuple e
    · exact .kTuple hk hc
  | dct n e z => exact .base (.dK e)
section
variable {X : Cx}
def rIsQ (K : PySem.W.Frag) : List V → Hp → VK → Prop := fun xs H Q => ∃ (v : V) (n : String) (p : Addr) (d : PyData) (b : Bool), xs = [v, .ty n] ∧ Dq K p H v d ∧ kitB (tyN d) n = some b ∧ Q (.bl b) H
theorem call_isQ : CallR X (.builtin "isinstance") (rIsQ X.K) := by
  intro pins s σ H xs us Q I r h
  obtain ⟨v, n, p, d, b, e, hd, hk, q⟩ := h
  exact call_isi pins s σ H xs us Q I r ⟨v, .ty n, _, _, _, e, .ty n, dq_ty hd, kit_ty hk, q⟩
/-- is the data one of these texts -/
def inS (d : PyData) (ss : List Str) : Bool := match d with
  | .str x => ss.any (· == x)
  | _ => false
theorem isTuple_of {pins : List (Addr × Obj)} {σ : L2.St} {H : Hp} {s : Shared} {a : Addr} {xs : List V} (I : Inv X pins σ H s) (h : SqT X.K H a xs) : ∃ its : Array Value, Vals xs its.toList ∧ s.heap.IsTuple a its := by
  rcases h with h | ⟨o, its, n, hk, hc, hd, hz, hv⟩
  · obtain ⟨_, its, hv, ht⟩ := h.ok I.hok
    exact ⟨its.toArray, by simpa using hv, ht⟩
  · exact ⟨its, hv, o, I.kIn _ _ hk, hc, n, hd⟩
theorem vals_strs : ∀ {ss : List Str} {us : List Value}, Vals (ss.map V.str) us → ∃ ts : List (Str × Tok), us = ts.map (fun z => .str z.1 z.2) ∧ ts.map (·.1) = ss
  | [], us, h => by
    generalize e : ([] : List Str).map V.str = vs at h
    cases h with
    | nil => exact ⟨[], rfl, rfl⟩
    | cons r h => cases e
  | x :: ss, us, h => by
    generalize e : (x :: ss).map V.str = vs at h
    cases h with
    | nil => cases e
    | cons r h =>
      obtain ⟨rfl, rfl⟩ := List.cons.inj e
      obtain ⟨ts, rfl, rfl⟩ := vals_strs h
      obtain ⟨t, rfl⟩ := r
      exact ⟨(x, t) :: ts, rfl, rfl⟩
def rInQ (K : PySem.W.Frag) : R2 := fun x y H Q => ∃ (p a : Addr) (ss : List Str) (d : PyData), y = .ref a ∧ SqT K H a (ss.map V.str) ∧ Dq K p H x d ∧ Q (.bl (inS d ss)) H
theorem op_inQ (hu : X.A.units + 66 < cLine) : OpR X (compareOp .In) (rInQ X.K) := by
  rintro pins s σ H x y v u Q I rv ru ⟨p, a, ss, d, rfl, ht, hd, q⟩
  obtain rfl : u = .ref a := ru
  obtain ⟨its, hv, hit⟩ := isTuple_of I ht
  obtain ⟨ts, e1, e2⟩ := vals_strs hv
  have room : X.A.in1.units < cLine := by
    show X.A.units + 1 < cLine
    omega
  refine SeqAt.in_tupleAt (fun y => match y with | .str w _ => inS d [w] | _ => false) hit (fun y hy => ?_) ?_
  · have hy' : y ∈ its.toList := by simpa using hy
    rw [e1] at hy'
    obtain ⟨⟨w, t⟩, _, rfl⟩ := List.mem_map.mp hy'
    show SeqAt.EqAt X.A.in1 s (.str w t) v (inS d [w])
    cases hd with
    | non =>
      obtain rfl : v = .none := rv
      exact SeqAt.EqAt.str_none _ _
    | bl b =>
      obtain rfl : v = .bool b := rv
      exact SeqAt.EqAt.str_bool _ _ _
    | int i =>
      obtain ⟨t', rfl⟩ := rv
      exact SeqAt.EqAt.str_int _ _ _ _
    | str x =>
      obtain ⟨t', rfl⟩ := rv
      have e : inS (.str x) [w] = (w == x) := by simp [inS]
      rw [e]
      exact SeqAt.EqAt.str_str _ _ _ _
    | lst n e ha =>
      rename_i l xs ds
      obtain rfl : v = .ref l := rv
      obtain ⟨_, its', n', hv', ho⟩ := I.hok _ _ e
      exact SeqAt.EqAt.str_list (items := its'.toArray) _ _ ⟨_, ho, rfl, n', rfl⟩ room
    | tup hs ha =>
      rename_i l xs ds
      obtain rfl : v = .ref l := rv
      obtain ⟨its', hv', ho⟩ := isTuple_of I hs
      exact SeqAt.EqAt.str_tuple (items := its') _ _ ho room
    | dct n e z =>
      rename_i l kvs ds
      obtain rfl : v = .ref l := rv
      obtain ⟨_, _, vs, _, o, es, ep, h1, h2, h3, _⟩ := I.hok _ _ e
      exact eq_str_dict _ _ h1 h2.1 h3 room
  · refine ⟨.bl (inS d ss), H, I, ?_, q⟩
    show Value.bool _ = Value.bool _
    congr 1
    rw [← Array.any_toList, e1, ← e2, List.any_map]
    cases d <;> simp [inS, Function.comp_def]

mutual
/-- data whose text is made without trouble: only empty dicts -/
def fineQ : PyData → Prop
  | .int i => i.natAbs < 10 ^ 180
  | .str x => (x.cps.toList.all fun c => decide (c < 16 ^ 8)) = true
  | .list xs => finesQ xs
  | .tuple xs => finesQ xs
  | .dict ds => ds = []
  | _ => True
def finesQ : List PyData → Prop
  | [] => True
  | x :: xs => fineQ x ∧ finesQ xs
end
mutual
theorem fineQ_ok : ∀ d : PyData, fineQ d → d.showable = true ∧ d.leavesShort 200 = true
  | .none, _ => by simp [PyData.showable, PyData.leavesShort]
  | .bool _, _ => by simp [PyData.showable, PyData.leavesShort]
  | .int i, h => by
    simp only [fineQ] at h
    simp only [PyData.showable, PyData.leavesShort, decide_eq_true_eq]
    exact ⟨int_log h, shown_int h⟩
  | .str x, h => by
    simp only [fineQ] at h
    simp only [PyData.showable, PyData.leavesShort, true_and]
    exact h
  | .list xs, h => by
    simp only [fineQ] at h
    simp only [PyData.showable, PyData.leavesShort]
    exact finesQ_ok xs h
  | .tuple xs, h => by
    simp only [fineQ] at h
    simp only [PyData.showable, PyData.leavesShort]
    exact finesQ_ok xs h
  | .dict ds, h => by
    simp only [fineQ] at h
    subst h
    simp [PyData.showable, PyData.showableKv, PyData.leavesShort, PyData.leavesShortKv]
theorem finesQ_ok : ∀ xs : List PyData, finesQ xs → PyData.showableAll xs = true ∧ PyData.leavesShortAll 200 xs = true
  | [], _ => by simp [PyData.showableAll, PyData.leavesShortAll]
  | x :: xs, h => by
    simp only [finesQ] at h
    obtain ⟨a1, a2⟩ := fineQ_ok x h.1
    obtain ⟨b1, b2⟩ := finesQ_ok xs h.2
    simp only [PyData.showableAll, PyData.leavesShortAll, a1, a2, b1, b2, Bool.and_self, and_self]
end
mutual
theorem Dq.reads {p : Addr} {pins : List (Addr × Obj)} {σ : L2.St} {H : Hp} {s : Shared} (I : Inv X pins σ H s) (hs : H sysModules = none) : ∀ (d : PyData) (v : V) (u : Value), fineQ d → Dq X.K p H v d → RelV v u → ∃ as, Reads s.heap u d as ∧ sysModules ∉ as
  | .none, _, u, _, h, r => by
    cases h
    obtain rfl : u = .none := r
    exact ⟨_, .none, by simp⟩
  | .bool b, _, u, _, h, r => by
    cases h
    obtain rfl : u = .bool b := r
    exact ⟨_, .bool b, by simp⟩
  | .int i, _, u, _, h, r => by
    cases h
    obtain ⟨t, rfl⟩ := r
    exact ⟨_, .int i t, by simp⟩
  | .str x, _, u, _, h, r => by
    cases h
    obtain ⟨t, rfl⟩ := r
    exact ⟨_, .str x t, by simp⟩
  | .list ds, _, u, f, h, r => by
    cases h with
    | lst n e ha =>
      rename_i l xs
      obtain rfl : u = .ref l := r
      obtain ⟨_, its', n', hv', ho⟩ := I.hok _ _ e
      obtain ⟨as, ra, na⟩ := DqAll.reads I hs ds xs its' (by simpa only [fineQ] using f) ha hv'
      refine ⟨_, .list ho rfl rfl (by simpa using ra), ?_⟩
      intro z
      rcases List.mem_cons.mp z with z | z
      · rw [z, e] at hs
        cases hs
      · exact na z
  | .tuple ds, _, u, f, h, r => by
    cases h with
    | tup ht ha =>
      rename_i l xs
      obtain rfl : u = .ref l := r
      obtain ⟨its', hv', o, h1, h2, n, h3⟩ := isTuple_of I ht
      obtain ⟨as, ra, na⟩ := DqAll.reads I hs ds xs its'.toList (by simpa only [fineQ] using f) ha hv'
      exact ⟨_, .tuple h1 h2 h3 ra, na⟩
  | .dict ds, _, u, f, h, r => by
    cases h with
    | dct n e z =>
      rename_i l kvs
      obtain rfl : u = .ref l := r
      simp only [fineQ] at f
      subst f
      obtain rfl := z rfl
      obtain ⟨_, _, vs, kv, o, es, ep, h1, h2, h3, _, h4, _⟩ := I.hok _ _ e
      generalize ek : ([] : List (Key × V)) = kk at kv
      cases kv with
      | cons _ _ => cases ek
      | nil =>
        generalize ee : es.toList = el at h4
        cases h4
        have e0 : es = #[] := by
          apply Array.ext'
          simpa using ee
        subst e0
        refine ⟨_, .dict (as := []) (bs := []) h1 h2.1 h3 (by simpa using .nil) (by simpa using .nil), ?_⟩
        intro y
        have y' : sysModules = l := by simpa using y
        rw [y', e] at hs
        cases hs
theorem DqAll.reads {p : Addr} {pins : List (Addr × Obj)} {σ : L2.St} {H : Hp} {s : Shared} (I : Inv X pins σ H s) (hs : H sysModules = none) : ∀ (ds : List PyData) (vs : List V) (us : List Value), finesQ ds → DqAll X.K p H vs ds → Vals vs us → ∃ as, ReadsAll s.heap us ds as ∧ sysModules ∉ as
  | [], _, us, _, h, r => by
    cases h
    generalize e : ([] : List V) = l at r
    cases r with
    | nil => exact ⟨_, .nil, by simp⟩
    | cons _ _ => cases e
  | d :: ds, _, us, f, h, r => by
    cases h with
    | cons h1 h2 =>
      rename_i v vs
      generalize e : v :: vs = l at r
      cases r with
      | nil => cases e
      | cons r1 r2 =>
        obtain ⟨rfl, rfl⟩ := List.cons.inj e
        simp only [finesQ] at f
        obtain ⟨as, ra, na⟩ := Dq.reads I hs d _ _ f.1 h1 r1
        obtain ⟨bs, rb, nb⟩ := DqAll.reads I hs ds _ _ f.2 h2 r2
        exact ⟨_, .cons ra rb, by simp [na, nb]⟩
end
/-- the written part holds the table of modules -/
def Sys (base : Heap) : Prop := ∃ o, base.get? sysModules = some o
theorem Inv.nosys {pins : List (Addr × Obj)} {σ : L2.St} {H : Hp} {s : Shared} (I : Inv X pins σ H s) (hb : Sys X.base) : H sysModules = none := by
  obtain ⟨o, hb⟩ := hb
  obtain ⟨h1, h2⟩ := I.ok.bs _ _ hb
  exact I.base.free _ _ h1 h2 (I.ok.noex _ _ hb)
def rReprQ (K : PySem.W.Frag) : List V → Hp → VK → Prop := fun xs H Q => ∃ (p : Addr) (v : V) (d : PyData), xs = [v] ∧ Dq K p H v d ∧ fineQ d ∧ d.depth ≤ 64 ∧ d.bulk ≤ 80000 ∧ Q (.str d.shown) H
theorem call_reprQ (hb : Sys X.base) (hg : X.A.guards = some []) (hu : X.A.units + 66 < cLine) : CallR X (.builtin "repr") (rReprQ X.K) := by
  intro pins s σ H xs us Q I r h
  obtain ⟨p, v, d, rfl, hd, hf, hdep, hw, q⟩ := h
  obtain ⟨hs, hl⟩ := fineQ_ok d hf
  have hz : d.shown.length ≤ sizeLine := by
    have := PyData.shown_le_bulk 200 (by decide) d hl
    rw [sizeLine_eq]
    omega
  obtain ⟨u, rfl, ru⟩ := vals1 r
  obtain ⟨as, hr, hsm⟩ := Dq.reads I (Inv.nosys I hb) d v u hf hd ru
  cases hr with
  | none => exact P.repr_of_none ⟨.str _, H, I.tok _, ⟨_, rfl⟩, q⟩
  | bool b => exact P.repr_of_bool ⟨.str _, H, I.tok _, ⟨_, rfl⟩, q⟩
  | int i t => exact P.repr_of_int (by simpa [PyData.showable] using hs) ⟨.str _, H, I.tok _, ⟨_, rfl⟩, q⟩
  | str x t => exact P.repr_of_str ⟨.str _, H, I.tok _, ⟨_, rfl⟩, q⟩ (by simpa only [PyData.shown] using hz)
  | list h1 h2 h3 h4 =>
    refine repr_of_reads' (h₀ := s.heap) (.list h1 h2 h3 h4) hs (fun _ => hsm) hg (by omega) (fun _ _ e => e) (fun h' u' tk hk => ?_) hz
    exact ⟨.str _, H, I.kept hk, ⟨_, rfl⟩, q⟩
  | tuple h1 h2 h3 h4 =>
    refine repr_of_reads' (h₀ := s.heap) (.tuple h1 h2 h3 h4) hs (fun _ => hsm) hg (by omega) (fun _ _ e => e) (fun h' u' tk hk => ?_) hz
    exact ⟨.str _, H, I.kept hk, ⟨_, rfl⟩, q⟩
  | dict h1 h2 h3 h4 h5 =>
    refine repr_of_reads' (h₀ := s.heap) (.dict h1 h2 h3 h4 h5) hs (fun _ => hsm) hg (by omega) (fun _ _ e => e) (fun h' u' tk hk => ?_) hz
    exact ⟨.str _, H, I.kept hk, ⟨_, rfl⟩, q⟩

def rInLD (K : PySem.W.Frag) : R2 := fun x y H Q => ∃ (ds : List PyData) (d : PyData), Dp K H y (.list ds) ∧ Dp K H x d ∧ PyData.canLayAll0 ds = true ∧ d.canLay0 = true ∧ d.depth ≤ 60 ∧ Q (.bl (ds.any fun e => e.eqv d)) H
theorem op_inLD (hu : X.A.units + 66 < cLine) : OpR X (compareOp .In) (rInLD X.K) := by
  rintro pins s σ H x y v u Q I rv ru ⟨ds, d, hy, hx, c1, c2, c3, q⟩
  obtain ⟨as, r1⟩ := Dp.reads I _ _ _ hy ru
  obtain ⟨bs, r2⟩ := Dp.reads I _ _ _ hx rv
  refine SeqAt.in_list_reads r1 r2 c1 c2 ?_ ⟨.bl _, H, I, rfl, q⟩
  have : min (PyData.depthAll ds) d.depth ≤ 60 := Nat.le_trans (Nat.min_le_right _ _) c3
  omega

end
end Rp

namespace Rp
open PySem L2 PyProof.Rows
theorem law_endS {l : PySem.W.OpenLaw} {n k : Nat} {q : Program} {loose : List Str} {XP : (Str → Option Value) → Heap → Prop} {YP : World → Heap → Prop} {d : DefRec} {K : Params → PySem.W.Frag} {sp : PySem.W.Frag → Sp} {x : Str}
    (hn : l.most = some n) (hn2 : n ≤ sizeLine) (hdf : d.params.defaults = []) (hr : Room k callerA) (himp : importsNone q = true)
    (hY : ∀ (w : World) (h : Heap), YP w h → (K w.params).In h)
    (F : ∀ (w : World) (mg : Str → Option Value) (fa : Addr) (h : Heap), (K w.params).In h → h.Ns mainGlobals mg → mg d.name = some (.ref fa) →
      ∃ fd : FuncData, (∀ (s : Shared) (u : Value), BindsTo s fd ⟨[u], []⟩ [(x, u)]) ∧
        ∀ base : Heap, (K w.params).In base → base.Ns mainGlobals mg → Sys base → FnG l.prog w (K w.params) mg base CX0 k fa fd [x] (sp (K w.params)))
    (hsp : ∀ (K : PySem.W.Frag) (H : Hp) (a : Addr) (ns : List Int), ns.length ≤ n → Only H → SqL K H a (ns.map V.int) → sp K [.ref a] H (fun v _ => v = .bl true) fun _ _ _ => False) :
    PySem.W.WalkO q loose XP YP l.row.toRowW d [] (fun f vs => PySem.call f vs) := by
  refine Att.attach_call hn hdf fun w s₀ s₁ mg mb fa o pm cd doc a vs ns G Y ho hd hcd hmg hobj hints hlen hgens => ?_
  have kin := hY w _ Y
  obtain ⟨fd, bd, FF⟩ := F w mg fa _ kin G.T.g hmg
  obtain ⟨H, hO, hS, hok, only, notK⟩ := script_heap (P := l.prog) (w := w) kin hobj hints (Nat.le_trans hlen hn2)
  have free : ∀ {b : Addr} {ob : Obj} {es : Array DictEntry} {ep : Nat}, s₁.heap.get? b = some ob → ob.data = .dict es ep → H b = none := by
    intro b ob es ep h1 h2
    cases c : H b with
    | none => rfl
    | some u =>
      have e : b = a := only b (by rw [c]; exact fun z => nomatch z)
      rw [e, hobj] at h1
      have h3 := congrArg Obj.data (Option.some.inj h1)
      rw [h2] at h3
      exact nomatch h3
  have ns' : ∀ {b : Addr} {m : Str → Option Value}, s₁.heap.Ns b m → (hidT s₁.heap H).Ns b m := by
    rintro b m ⟨ob, es, ep, h1, h2, h3⟩
    exact ⟨ob, es, ep, hidT_get h1 (free h1 h2), h2, h3⟩
  have kinB : (K w.params).In (hidT s₁.heap H) := fun b ob e => hidT_get (kin b ob e) (notK b ob e)
  have lim : (hidT s₁.heap H).NoLimit := by
    obtain ⟨mc, h1, h2⟩ := G.T.nolimit
    exact ⟨mc, ns' h1, h2⟩
  have sys : Sys (hidT s₁.heap H) := by
    obtain ⟨mm, hm, _⟩ := (G.T.seer himp).mods
    obtain ⟨ob, es, ep, h1, _⟩ := ns' hm
    exact ⟨ob, h1⟩
  have en : Env0 l.prog w (K w.params) mg (hidT s₁.heap H) callerA [] s₁ H :=
    ⟨rfl, ⟨kinB, ns' G.T.g, ⟨mb, ns' G.T.b, G.T.builtins⟩, lim⟩, fun b ob e => of_hidT e, Nat.le_of_eq (hidT_size _ _), trivial, (fun b z => nomatch z), hok, .of_eq hgens⟩
  refine codeAny_mono ((FF _ kinB (ns' G.T.g) sys).run callerA [] s₁ H ⟨[.ref a], []⟩ [.ref a] [.ref a] _ _ hr rfl en (bd s₁ (.ref a)) (.cons rfl .nil) (hsp _ H a ns hlen hO hS)) fun r s' z => ?_
  cases r with
  | error e => exact False.elim z
  | ok fl =>
    cases fl with
    | next => exact False.elim z
    | brk => exact False.elim z
    | cont => exact False.elim z
    | ret u =>
      obtain ⟨v, H', os, bare, un, hok', rr, e⟩ := z
      have e' : v = .bl true := e
      subst e'
      obtain rfl : u = Value.bool true := rr
      refine ⟨rfl, OldK.of_keep fun b ob hb => ?_, os, bare⟩
      cases c : H b with
      | none => exact un.keep b ob hb c (fun z => nomatch z) (fun z => nomatch z)
      | some u =>
        rcases hO b with z | ⟨ox, xs, z⟩
        · rw [c] at z
          cases z
        · obtain ⟨e1, _⟩ := hok b _ z
          obtain ⟨e2, _⟩ := hok' b _ (un.frzs b ox _ z)
          rw [hb] at e1
          cases e1
          exact e2
end Rp
/-! Ex: errors: what a clause names, calls that raise nothing after all. -/
namespace Rp
open PySem L2 PyProof.Rows
/-- an error of the class S is what «except T» names, when S stands below T -/
theorem exm_sub {K : PySem.W.Frag} {S T : Addr} {b : Bool} (h1 : PySem.W.subIn K (.ref T) (.type "BaseException") = some true) (h2 : PySem.W.isClsIn K T = true) (h3 : PySem.W.typeIn K (.ref T) = some (.type "type")) (h4 : PySem.W.subIn K (.ref S) (.ref T) = some b) :
    PySem.W.exmOne K (.ref S) (.ref T) = some b := by
  have e1 : (PySem.W.subIn K (.ref T) (.type "BaseException") == some true) = true := by rw [h1] <;> rfl
  have e2 : ((PySem.W.clsIn K T).isSome && PySem.W.typeIn K (.ref T) == some (.type "type")) = true := by
    have h2' : (PySem.W.clsIn K T).isSome = true := h2
    rw [h2', h3] <;> rfl
  show (if (PySem.W.subIn K (.ref T) (.type "BaseException") == some true) = true then (if ((PySem.W.clsIn K T).isSome && PySem.W.typeIn K (.ref T) == some (.type "type")) = true then PySem.W.subIn K (.ref S) (.ref T) else none) else none) = some b
  rw [if_pos e1, if_pos e2]
  exact h4
/-- a def that may raise, called where it does not -/
theorem passN {X : Cx} : Passes (L2.CX X.prog X.w) X E0 := by
  rintro pins σ H s e s' _ ⟨_, _, _, _, _, _, _, _, _, _, _, _, h⟩
  exact h.elim
/-- the heap without what stands at L -/
def mask (H : Hp) (L : Addr) : Hp := fun b => if b = L then none else H b
theorem same_mask (H : Hp) (L : Addr) : Same (mask H L) H := fun b o h => by
  unfold mask at h
  split at h
  · cases h
  · exact h
theorem mask_new {H : Hp} {L : Addr} {o : HO} (h : H L = none) : Same H (mask (upd H L o) L) := fun b u e => by
  have n : b ≠ L := fun z => by rw [z, h] at e; cases e
  show (if b = L then none else upd H L o b) = some u
  rw [if_neg n, upd_ne n]
  exact e
theorem mask_upd {H : Hp} {L : Addr} {o : HO} : mask (upd H L o) L = mask H L := by
  funext b
  unfold mask
  split
  · rfl
  · rename_i n
    exact upd_ne n
theorem mask_mono {H H' : Hp} {L : Addr} (s : Same H H') : Same (mask H L) (mask H' L) := fun b o h => by
  unfold mask at h ⊢
  split at h
  · cases h
  · rename_i n
    rw [if_neg n]
    exact s b o h
theorem mask_at {H : Hp} {L b : Addr} {o : HO} (n : b ≠ L) (h : H b = some o) : mask H L b = some o := by
  unfold mask
  rw [if_neg n]
  exact h
theorem mask_none {H : Hp} {L : Addr} : mask H L L = none := by
  unfold mask
  rw [if_pos rfl]
theorem sx_mask {H : Hp} {L : Addr} : Sx L H (mask H L) := fun b o n h => mask_at n h
end Rp
/-! En: enumerate over a tuple. -/
namespace Rp
open PySem L2 PyProof.Rows
theorem both {M : Model} {A : Around} {α : Type} {Q : α → Shared → Prop} {E : Value → Shared → Prop} {s : Shared} {f : Bool → Sem α} {b : Bool} (h : ∀ b, wpAny M A (f b) Q E s) : wpAny M A (f b) Q E s := h b
theorem meets_enumerate_newT (l : Addr) (items : Array Value) : Meets (Builtin.«enumerate.__new__» { pos := [Value.type "enumerate", Value.ref l] }) fun _ R s => s.heap.IsTuple l items ∧
    R (.ok (.ret (.ref (s.heap.push { cls := .type "tuple_iterator", data := .fields #[.ref l, .int 0 0] }).objs.size)))
      { s with heap := (s.heap.push { cls := .type "tuple_iterator", data := .fields #[.ref l, .int 0 0] }).push { cls := .type "enumerate", data := .fields #[.none, .bool false, .ref s.heap.objs.size, rawInt 0, .none, .none] } } := by
  refine Meets.of_wp fun prog w A R s hh => ?_
  obtain ⟨hl, h⟩ := hh
  have hsub := sub_enumerate
  obtain ⟨hp, g, d, tk, os⟩ := s
  refine wpAny_bind ?_
  refine wpAny_bind (wpAny_pure ?_)
  refine wpAny_ite_false rfl ?_
  refine wpAny_bind (wpAny_of_eq hsub ?_)
  refine wpAny_ite_false rfl ?_
  refine wpAny_pure ?_
  refine wpAny_ite_true rfl ?_
  refine wpAny_bind ?_
  refine wpAny_bind (wpAny_stack_any fun st => ?_)
  refine wpAny_pure ?_
  have fin : wpAny (model prog w) A.in1 (do
              let __do_lift ← pyIter (Value.ref l)
              let __do_lift ←
                Builtin.SmallTypes.newRecord (Value.type "enumerate")
                    (Builtin.SmallTypes.ownedTupleFields ++ [__do_lift, rawInt 0, Value.none, Value.none])
              ret __do_lift) (fun fin s' => ∃ v, fin = Fin.done (Flow.ret v) ∧ R (Except.ok (Flow.ret v)) s') (fun e s' => R (Except.error e) s')
    { heap := hp, gens := g, drawn := d, toks := tk, os := os } := by
    refine wpAny_bind (wpAny_pyIter_tuple hl ?_)
    refine wpAny_bind ?_
    unfold Builtin.SmallTypes.newRecord
    refine wpAny_newObj_type ?_ (by show (6 : Nat) ≤ sizeLine + 2; decide)
    exact wpAny_pure ⟨_, rfl, h⟩
  split
  · generalize (_ == Value.type "enumerate") = short
    cases short with
    | true =>
      refine wpAny_ite_true rfl ?_
      refine wpAny_bind (wpAny_pure ?_)
      exact fin
    | false =>
      refine wpAny_ite_false rfl ?_
      refine wpAny_bind (wpAny_pure ?_)
      exact fin
  · refine wpAny_ite_false rfl ?_
    refine wpAny_bind (wpAny_pure ?_)
    exact fin
theorem call_enumerate_tup {prog : Program} {w : World} {A : Around} {E : Value → Shared → Prop} {s : Shared} {l : Addr} {items : Array Value} {Q : Value → Shared → Prop} (hl : s.heap.IsTuple l items)
    (h : ∀ h' : Heap, IsEnum h' (s.heap.objs.size + 1) s.heap.objs.size 0 .none → h'.IsTupleIter s.heap.objs.size l 0 → h'.objs.size = s.heap.objs.size + 2 → (∀ (b : Addr) (o : Obj), s.heap.get? b = some o → h'.get? b = some o) →
      Q (.ref (s.heap.objs.size + 1)) { s with heap := h' }) : wpAny (model prog w) A (call (.type "enumerate") [.ref l]) Q E s := by
  refine callType_new F.called_enumerate (by decide) (F.typeCall_enumerate_1 _) (F.newCall_enumerate_1 _) (fun _ => F.args_object_init_2 _ _) F.entry_enumerate_new (meets_enumerate_newT l items) ?_
  refine ⟨hl, ?_⟩
  have e1 : (s.heap.push { cls := .type "tuple_iterator", data := .fields #[.ref l, .int 0 0] }).objs.size = s.heap.objs.size + 1 := Heap.size_push ..
  have g1 := Heap.get?_push_size s.heap (o := { cls := .type "tuple_iterator", data := .fields #[.ref l, .int 0 0] }) rfl
  have g2 := Heap.get?_push_size (s.heap.push { cls := .type "tuple_iterator", data := .fields #[.ref l, .int 0 0] }) (o := { cls := .type "enumerate", data := .fields #[.none, .bool false, .ref s.heap.objs.size, rawInt 0, .none, .none] }) rfl
  rw [e1] at g2
  rw [e1]
  refine ⟨⟨_, g2, rfl⟩, h _ g2 ⟨_, Heap.get?_push_of_some _ g1, rfl, rfl⟩ ?_ fun b o e => Heap.get?_push_of_some _ (Heap.get?_push_of_some _ e)⟩
  rw [Heap.size_push, Heap.size_push]
theorem draws_tup {prog : Program} {w : World} {A : Around} (hh : A.handled = none) (it t : Addr) (hne : t ≠ it) (items : Array Value) :
    Draws prog w A it [it, t] items.size (fun i v => items[i]? = some v) (fun i h => h.IsTupleIter it t i ∧ h.IsTuple t items) where
  live := fun i h ⟨⟨o, ho, _⟩, _⟩ => ⟨o, ho⟩
  frame := fun i h h' ⟨⟨o, ho, h1⟩, ⟨o2, ho2, h2⟩⟩ k => ⟨⟨o, k it (by simp) o ho, h1⟩, ⟨o2, k t (by simp) o2 ho2, h2⟩⟩
  item := fun i s Q E hi ⟨h1, h2⟩ q => by
    obtain ⟨o2, ho2, h3⟩ := id h2
    refine RZ.nextOf_tuple_item h1 h2 (Array.getElem?_eq_getElem hi) fun h' h4 sb => ?_
    exact q _ h' s.toks (Array.getElem?_eq_getElem hi) ⟨h4, o2, (sb.2 t hne).trans ho2, h3⟩ sb
  done := fun s Q E ⟨h1, h2⟩ q => RZ.nextOf_tuple_end hh h1 h2 (Array.getElem?_eq_none (Nat.le_refl _)) fun h' e x k => q h' e x k
theorem draws_end {prog : Program} {w : World} {A : Around} (hh : A.handled = none) (it t : Addr) (items : Array Value) {i : Nat} (hi : items.size ≤ i) :
    Draws prog w A it [it, t] i (fun _ _ => False) (fun j h => j = i ∧ h.IsTupleIter it t i ∧ h.IsTuple t items) where
  live := fun _ h ⟨_, ⟨o, ho, _⟩, _⟩ => ⟨o, ho⟩
  frame := fun _ h h' ⟨e, ⟨o, ho, h1⟩, ⟨o2, ho2, h2⟩⟩ k => ⟨e, ⟨o, k it (by simp) o ho, h1⟩, ⟨o2, k t (by simp) o2 ho2, h2⟩⟩
  item := fun j s Q E hj ⟨e, _⟩ _ => absurd hj (by omega)
  done := fun s Q E ⟨_, h1, h2⟩ q => RZ.nextOf_tuple_end hh h1 h2 (Array.getElem?_eq_none hi) fun h' e x k => q h' e x k
def IteT (K : PySem.W.Frag) (a : Addr) : It where
  go := fun i H => ∃ xs x, SqT K H a xs ∧ xs[i]? = some x
  yld := fun i H v H' => ∃ T x, v = V.ref T ∧ H T = none ∧ H' = upd H T (.tup [.int (i : Nat), x]) ∧ ∀ xs : List V, SqT K H a xs → xs[i]? = some x
  stop := fun i H => ∃ xs, SqT K H a xs ∧ xs.length ≤ i
theorem turn_enumT {P : Program} {w : World} {K : PySem.W.Frag} {elts : List Expr} {kk : Nat} {tpos : Pos} (a e it : Addr) :
    Turn P w K (.Tuple elts kk tpos) (IteT K a) [e, it] e fun i h => (∃ old, IsEnum h e it (i : Nat) old) ∧ h.IsTupleIter it a i ∧ e ≠ it ∧ a ≠ it ∧ a ≠ e := by
  refine ⟨by simp, ?_, ?_, ?_, ?_, ?_⟩
  · rintro i h ⟨⟨old, he⟩, ⟨o, ho, h1, h2⟩, hne⟩ b hb
    simp only [List.mem_cons, List.not_mem_nil, or_false] at hb
    rcases hb with rfl | rfl
    · exact ⟨_, he, fun v z => by cases z⟩
    · exact ⟨o, ho, fun v z => by rw [h2] at z; cases z⟩
  · rintro i h h' ⟨⟨old, he⟩, ⟨o, ho, h1, h2⟩, hne⟩ k
    exact ⟨⟨old, k e (by simp) _ he⟩, ⟨o, k it (by simp) _ ho, h1, h2⟩, hne⟩
  · rintro X rfl rfl rfl hcalm i pins s σ H E I fp ⟨⟨old, he⟩, hit, hne, ha1, ha2⟩ ⟨xs, x, hx, hxi⟩
    obtain ⟨its, hvals, ht, hz⟩ := I.tuple hx
    have hh : X.A.handled = none := I.ok.hd hcalm
    have W := WalksT.enumerateD (prog := X.prog) (w := X.w) (A := X.A) (draws_tup (A := X.A.in1) hh it a ha1 its.toArray) e hne (by simp [hne, Ne.symm ha2]) (by simp)
    obtain ⟨u, hu, hru⟩ := hvals.get hxi
    have hlt : i < its.length := (List.getElem?_eq_some_iff.mp hu).1
    refine W.item i s _ E (by simpa using hlt) ⟨⟨old, he⟩, hit, ht⟩ (fun T vals h' tk hv hT hTup hMid fr => ⟨_, rfl, ?_⟩)
    refine W.go elts kk tpos i T _ _ E hMid (fun h'' hSt fr2 => ?_)
    obtain ⟨tt, y, hy, rfl⟩ := hv
    have hy' : its[i]? = some y := by simpa using hy
    rw [hu] at hy'
    obtain rfl := Option.some.inj hy'
    have hTn : ¬ T ∈ [e, it] := W.apart i T h' hMid
    obtain ⟨oT, g1, g2, n, g3⟩ := hTup
    have fT : H T = none := I.hok.fresh hT
    refine ⟨.ref T, upd H T (.tup [.int (i : Nat), x]), I.turnedNew (ch := [e, it]) (h' := h'') (fun b o hb ho => fr2 b o hb (fr b o hb ho)) fp hT ?_, rfl, ⟨T, x, rfl, fT, rfl, fun ys hys => by rw [I.tuple_inj hys hx]; exact hxi⟩, ⟨hSt.1, hSt.2.1, hne, ha1, ha2⟩, fun b hb => ?_⟩
    · exact ⟨(by show 2 ≤ sizeLine; decide), [_, _], .cons ⟨_, rfl⟩ (.cons hru .nil), oT, fr2 T oT hTn g1, g2, n, g3⟩
    · have nb : b ≠ T := fun z => hTn (z ▸ hb)
      rw [upd_ne nb]
      exact (fp b hb).1
  · rintro X rfl rfl rfl hcalm i pins s σ H E I fp ⟨⟨old, he⟩, hit, hne, ha1, ha2⟩ ⟨xs, hx, hxi⟩
    obtain ⟨its, hvals, ht, hz⟩ := I.tuple hx
    have hh : X.A.handled = none := I.ok.hd hcalm
    have hl : its.toArray.size ≤ i := by
      rw [List.size_toArray, ← hvals.length]
      exact hxi
    have W := WalksT.enumerateD (prog := X.prog) (w := X.w) (A := X.A) (draws_end (A := X.A.in1) hh it a its.toArray hl) e hne (by simp [hne, Ne.symm ha2]) (by simp)
    exact W.done s _ E ⟨⟨old, he⟩, rfl, hit, ht⟩ (fun h' tk fr => ⟨rfl, I.turnedL (ch := [e, it]) fr fp⟩)
  · rintro A i s Q E ⟨⟨old, he⟩, hit, hne⟩ q
    exact wpAny_pyIter_enum he q
section
variable {X : Cx}
def iEnumT (K : PySem.W.Frag) (ta : TA) : TI := fun σ H R => ta σ H fun vs H1 => ∃ a xs, vs = [V.ref a] ∧ SqT K H1 a xs ∧ R (IteT K a) H1
theorem pi_enumT {e : Expr} {ta : TA} {p pos tpos : Pos} {elts : List Expr} {kk : Nat} (hg : Gl X "enumerate") (hm : X.mg "enumerate" = none) (he : PA X [e] ta)
    (hs : starEach [e] X.env = [(false, eval e X.env)] := by rfl) : PI X (.Tuple elts kk tpos) (.Call (.Name "enumerate" p) [e] [] pos) (iEnumT X.K ta) := by
  refine ⟨fun pins s σ H R I h => ?_⟩
  refine Call_ (ld_blt I hg hm boot_enumerate (callWith_type1 (he := hs) (thn (he.run pos pins s σ H _ I h) fun us s1 x => ?_)))
  obtain ⟨vs, H1, I1, r1, a, xs, rfl, hq, q⟩ := x
  cases r1 with
  | cons r rr =>
  cases rr
  cases r
  obtain ⟨its, rv, p', hz⟩ := I1.tuple hq
  have hlt : a < s1.heap.objs.size := by
    obtain ⟨o, ho, _⟩ := p'
    exact Heap.lt_size ho
  refine call_enumerate_tup p' fun h' he hit hsz hk => wpAny_pyIter_enum he ?_
  have I2 := I1.kept (t' := s1.toks) hk
  refine ⟨s1.heap.objs.size + 1, [s1.heap.objs.size + 1, s1.heap.objs.size], _, IteT X.K a, H1, rfl, I2, turn_enumT a _ _, ⟨⟨_, he⟩, hit, Nat.succ_ne_self _, Nat.ne_of_lt hlt, Nat.ne_of_lt (Nat.lt_succ_of_lt hlt)⟩, fun b hb => ?_, q⟩
  have hb2 : s1.heap.objs.size ≤ b := by
    simp only [List.mem_cons, List.not_mem_nil, or_false] at hb
    rcases hb with rfl | rfl
    · exact Nat.le_succ _
    · exact Nat.le_refl _
  exact I1.fpOk hb2 (I1.hok.fresh hb2)
end
/-- a comprehension, a loop over it -/
theorem walk_enumT {K : PySem.W.Frag} {a : Addr} {xs : List V} : Walk (IteT K a) xs.length (fun H => SqT K H a xs) (YPair (fun i => some (.int (i : Nat))) (fun i => xs[i]?)) := by
  refine ⟨fun i H hi h => ⟨xs, _, h, List.getElem?_eq_getElem hi⟩, fun H h => ⟨xs, h, Nat.le_refl _⟩, fun i H x H' hi h y => ?_⟩
  obtain ⟨T, z, rfl, hT, rfl, f⟩ := y
  exact ⟨T, _, z, rfl, hT, rfl, rfl, f xs h⟩
end Rp
/-! Rv: a tuple read from its end, t[::-1]. -/
namespace Rp
open PySem L2 PyProof.Rows
theorem adjust_back (n : Nat) : Builtin.Slice.sliceAdjust none none (-1) (n : Int) = ((n : Int) - 1, -1) := by
  unfold Builtin.Slice.sliceAdjust
  simp
theorem places_back (n : Nat) : Builtin.Slice.slicePlaces ((n : Int) - 1) (-1) (-1) = n := by
  unfold Builtin.Slice.slicePlaces
  rw [if_neg (by decide)]
  by_cases h : (n : Int) - 1 > -1
  · rw [if_pos h]
    have : (- -1 : Int) = 1 := by decide
    rw [this, Int.ediv_one]
    omega
  · rw [if_neg h]
    omega
theorem sliceApplied_back {prog : Program} {w : World} {A : Around} {E : Value → Shared → Prop} {s : Shared} {sl : Addr} {vs : Value} {n : Nat} {Q : Int × Int × Nat → Shared → Prop}
    (hs : s.heap.IsSliceOf sl .none .none vs) (hv : IsPart vs (some (-1))) (h : Q ((n : Int) - 1, -1, n) s) : wpAny (model prog w) A (Builtin.Slice.sliceApplied (.ref sl) (pure (n : Int))) Q E s := by
  obtain ⟨os, hos, hcs, hds⟩ := hs
  unfold Builtin.Slice.sliceApplied Builtin.Slice.sliceFields
  refine wpAny_bind (wpAny_bind (wpAny_field hos hds rfl (wpAny_bind (wpAny_field hos hds rfl (wpAny_bind (wpAny_field hos hds rfl (wpAny_pure ?_)))))))
  refine wpAny_bind (HT.slicePart_ (o := some (-1)) hv ?_)
  refine wpAny_bind (HT.slicePart_ (o := none) .none ?_)
  refine wpAny_bind (HT.slicePart_ (o := none) .none ?_)
  refine wpAny_bind (wpAny_pure ?_)
  show wpAny _ _ (match Builtin.Slice.sliceAdjust none none (-1) (n : Int) with | (lo, hi) => pure (lo, -1, Builtin.Slice.slicePlaces lo hi (-1))) Q E s
  rw [adjust_back]
  show wpAny _ _ (pure ((n : Int) - 1, -1, Builtin.Slice.slicePlaces ((n : Int) - 1) (-1) (-1))) Q E s
  rw [places_back]
  exact wpAny_pure h
theorem filterMap_at {α : Type} (l : List α) : ∀ k : Nat, (List.range k).filterMap (fun m => l[m]?) = l.take k
  | 0 => by simp
  | k + 1 => by
    rw [List.range_succ, List.filterMap_append, filterMap_at l k, List.take_add_one]
    cases h : l[k]? <;> simp [h]
theorem filterMap_same {α β : Type} {f g : α → Option β} : ∀ {l : List α}, (∀ x ∈ l, f x = g x) → l.filterMap f = l.filterMap g
  | [], _ => rfl
  | x :: l, h => by
    rw [List.filterMap_cons, List.filterMap_cons, h x (List.mem_cons_self ..), filterMap_same fun y hy => h y (List.mem_cons_of_mem _ hy)]
theorem pick_back (xs : Array Value) : (List.filterMap (fun m : Nat => xs[(((xs.size : Int) - 1) + (m : Int) * (-1)).toNat]?) (List.range xs.size)).toArray = xs.toList.reverse.toArray := by
  congr 1
  have e : ∀ m ∈ List.range xs.size, xs[(((xs.size : Int) - 1) + (m : Int) * (-1)).toNat]? = xs.toList.reverse[m]? := by
    intro m hm
    have hm' := List.mem_range.mp hm
    have e1 : (((xs.size : Int) - 1) + (m : Int) * (-1)).toNat = xs.toList.length - 1 - m := by
      rw [Array.length_toList]
      omega
    rw [List.getElem?_reverse (by rw [Array.length_toList]; exact hm'), e1, Array.getElem?_toList]
  rw [filterMap_same e, filterMap_at, List.take_of_length_le]
  rw [List.length_reverse, Array.length_toList]
  exact Nat.le_refl _
theorem getItem_tuple_back {prog : Program} {w : World} {A : Around} {E : Value → Shared → Prop} {s : Shared} {t sl : Addr} {items : Array Value} {vs : Value} {Q : Value → Shared → Prop} (ht : IsTup s.heap t items) (hs : s.heap.IsSliceOf sl .none .none vs) (hv : IsPart vs (some (-1)))
    (h : Q (.ref s.heap.objs.size) { s with heap := s.heap.push { cls := .type "tuple", data := .seq items.toList.reverse.toArray } }) (hz : items.size ≤ sizeLine) : wpAny (model prog w) A (getItem (.ref t) (.ref sl)) Q E s := by
  obtain ⟨os, hos, hcs, hds⟩ := id hs
  have hTs : s.TypeIs (.ref sl) "slice" := ⟨os, hos, hcs⟩
  unfold getItem
  refine wpAny_holding ?_
  refine wpAny_bind (wpAny_sequenceKey ht.typeIs (by decide) ?_)
  refine wpAny_bind (wpAny_callSpecial?_slot ht.typeIs slot_tuple_getitem ?_)
  refine wpAny_call_entry slot_tuple_getitem ht.typeIs entry_tuple_getitem ?_ (args_tuple_getitem _ _)
  show wpAny _ _ (do
      let xs ← Builtin.Tuple.tupleItemsOf (.ref t)
      let __do_lift ← typeOf (.ref sl)
      if (__do_lift == Value.type "slice") = true then do
          let __x ← Builtin.Slice.sliceApplied (.ref sl) (pure ↑xs.size)
          match __x with
            | (lo, step, n) =>
              have __do_jp := fun __r => do
                let __do_lift ←
                  Builtin.Tuple.tupleExact
                      (List.filterMap (fun k => xs[(lo + ↑k * step).toNat]?) (List.range n)).toArray
                ret __do_lift;
              if (lo == 0 && step == 1 && n == xs.size) = true then do
                let __do_lift ← Builtin.Tuple.tupleIsExact (.ref t)
                if __do_lift = true then do
                    rule "tuple.getitem.whole"
                    ret (.ref t)
                  else __do_jp ()
              else __do_jp ()
        else _) _ _ _
  refine wpAny_bind (tupleItemsOf_ ht ?_)
  refine wpAny_bind (wpAny_typeOf hTs ?_)
  rw [if_pos (by decide)]
  refine wpAny_bind (sliceApplied_back hs hv ?_)
  have hno : ¬ ((((items.size : Int) - 1 == 0) && ((-1 : Int) == 1) && (items.size == items.size)) = true) := by
    rw [show ((-1 : Int) == 1) = false by decide, Bool.and_false, Bool.false_and]
    decide
  show wpAny _ _ (if (((items.size : Int) - 1 == 0) && ((-1 : Int) == 1) && (items.size == items.size)) = true then _ else _) _ _ _
  rw [if_neg hno]
  refine wpAny_bind ?_
  unfold Builtin.Tuple.tupleExact
  rw [pick_back]
  refine wpAny_newObj_type ?_ ?_
  · exact wpAny_pure ⟨_, rfl, wpAny_pure h⟩
  · show _ ≤ sizeLine
    rw [List.size_toArray, List.length_reverse, Array.length_toList]
    exact hz
section
variable {X : Cx}
def tRevT (K : PySem.W.Frag) (te : TE) : TE := fun σ H Q => te σ H fun x H1 => ∃ a xs, x = V.ref a ∧ SqT K H1 a xs ∧ ∀ p, H1 p = none → Q (.ref p) (upd H1 p (.tup xs.reverse))
theorem pe_revT {e : Expr} {te : TE} {k : Nat} {p1 p2 p3 pos : Pos} (he : PE X e te) : PE X (.Subscript e (.Slice none none (some (.UnaryOp .USub (.Constant (.int 1) k p1) p2)) p3) pos) (tRevT X.K te) := by
  refine ⟨fun pins s σ H Q I h => ?_⟩
  refine Subscript_ (thn (he.run pins s σ H _ I h) fun v s1 x => ?_)
  obtain ⟨x1, H1, I1, r1, a, xs, rfl, hx, q⟩ := x
  cases r1
  have hst : PO X (some (.UnaryOp .USub (.Constant (.int 1) k p1) p2)) _ := po_some (pe_un un_neg pe_int)
  refine wpAny_Slice (thn ((po_none (X := X)).run pins s1 σ H1 (fun o H2 => o = none ∧ H2 = H1) I1 ⟨rfl, rfl⟩) fun vl s2 x => ?_)
  obtain ⟨l, H2, I2, pl, rfl, rfl⟩ := x
  refine thn ((po_none (X := X)).run pins s2 σ H2 (fun o H3 => o = none ∧ H3 = H2) I2 ⟨rfl, rfl⟩) fun vu s3 x => ?_
  obtain ⟨u, H3, I3, pu, rfl, rfl⟩ := x
  refine thn (hst.run pins s3 σ H3 (fun o H4 => o = some (-1) ∧ H4 = H3) I3 ?_) fun vs s4 x => ?_
  · exact ⟨1, rfl, -1, rfl, rfl, rfl⟩
  obtain ⟨st, H4, I4, pst, rfl, rfl⟩ := x
  cases pl
  cases pu
  have I5 := I4.kept (h' := s4.heap.push { cls := Value.type "slice", data := Data.fields #[Value.none, Value.none, vs] }) (t' := s4.toks) (fun b u h => Heap.get?_push_of_some _ h)
  obtain ⟨its, hvals, ht, hz⟩ := I5.tuple hx
  have hlen : xs.length = its.length := hvals.length
  refine tail_any ht.typeIs slot_tuple_getitem.lookup (getItem_tuple_back ht (Heap.IsSliceOf.new ..) pst ?_ (by rw [List.size_toArray, ← hlen]; exact hz)) rfl
  refine ⟨.ref _, upd H4 _ (.tup xs.reverse), I5.laid (fun b u h => Heap.get?_push_of_some _ h) (Nat.le_refl _) ?_, rfl, q _ (I5.hok.fresh (Nat.le_refl _))⟩
  unfold ObjOk
  exact ⟨by rw [List.length_reverse]; exact hz, its.reverse, hvals.reverse, _, Heap.get?_push_size _ (o := { cls := Value.type "tuple", data := Data.seq its.toArray.toList.reverse.toArray }) rfl, rfl, _, rfl⟩
end
end Rp
/-! St: sorted of lists of tuples of ints, of any lengths above 0. -/
namespace Rp
open PySem L2 PyProof.Rows
/-- a tuple of these ints -/
def IsTI (h : Heap) (v : Value) (ns : List Int) : Prop := ∃ (a : Addr) (o : Obj) (its : List Value) (n : Nat), v = .ref a ∧ h.get? a = some o ∧ o.cls = .type "tuple" ∧ o.data = .seq its.toArray n ∧ Vals (ns.map V.int) its
theorem lex_go {prog : Program} {w : World} {A : Around} {s : Shared} {fin : Bool} {Q : Bool → Shared → Prop} : ∀ (xs ys : List Int) (us vs : List Value) (i : Nat), Vals (xs.map V.int) us → Vals (ys.map V.int) vs → fin = decide (xs.length < ys.length) → Q (HT.lexLt xs ys) s →
    W.KatLex prog w A true fin Q (us.zip vs) i s
  | [], [], us, vs, i, hu, hv, hf, q => by
    cases hu
    refine W.kat_nil ?_
    rw [hf]
    exact q
  | [], y :: ys, us, vs, i, hu, hv, hf, q => by
    cases hu
    refine W.kat_nil ?_
    rw [hf]
    exact q
  | x :: xs, [], us, vs, i, hu, hv, hf, q => by
    cases hv
    have e : us.zip ([] : List Value) = [] := by simp
    rw [e]
    refine W.kat_nil ?_
    rw [hf]
    exact q
  | x :: xs, y :: ys, us, vs, i, hu, hv, hf, q => by
    cases hu with
    | cons ru hu =>
    cases hv with
    | cons rv hv =>
    obtain ⟨t, rfl⟩ := ru
    obtain ⟨t', rfl⟩ := rv
    rw [List.zip_cons_cons]
    refine W.kat_cons ?_
    refine SeqAt.EqAt.int_int x t y t' prog w _ _ ?_
    refine W.kat_go (fun e => ?_) (fun e => ?_)
    · have exy : x = y := by simpa using e
      refine W.kat_yes (lex_go xs ys _ _ (i + 1) hu hv ?_ ?_)
      · rw [hf]
        simp
      · rw [HT.lexLt_cons, if_pos exy] at q
        exact q
    · have exy : ¬ x = y := by simpa using e
      rw [HT.lexLt_cons, if_neg exy] at q
      refine W.kat_no ?_
      cases i with
      | zero => exact oneLt_int q
      | succ i => exact W.kat_one _ _ (lt_int q)
theorem ti_cmp {prog : Program} {w : World} {A : Around} {s : Shared} {vs : List Value} {k : Value → List Int} (h : ∀ v ∈ vs, IsTI s.heap v (k v)) :
    SrtO.Cmp prog w A s (tuples' true) (fun p => p.fst ∈ vs) (SrtO.lt2 fun v u => HT.lexLt (k v) (k u)) := by
  intro p q hp hq
  obtain ⟨a, o, its, n, e, ho, hc, hd, hv⟩ := h p.fst hp
  obtain ⟨a', o', its', n', e', ho', hc', hd', hv'⟩ := h q.fst hq
  rw [e, e']
  refine W.kat_lt ho hd ho' hd' ?_
  refine lex_go (k p.fst) (k q.fst) _ _ 0 hv hv' ?_ ?_
  · have l1 := hv.length
    have l2 := hv'.length
    rw [List.length_map] at l1 l2
    rw [List.size_toArray, List.size_toArray, ← l1, ← l2]
  · refine ⟨rfl, ?_⟩
    show HT.lexLt (k p.fst) (k q.fst) = HT.lexLt (k p.fst) (k q.fst)
    rfl
theorem ti_tups {h : Heap} : ∀ {vs : List Value} {k : Value → List Int}, (∀ v ∈ vs, IsTI h v (k v) ∧ k v ≠ []) → ∃ fs, W.KatTups h vs fs ∧ fs.length = vs.length ∧ ∀ f ∈ fs, ∃ x t, f = Value.int x t
  | [], _, _ => ⟨[], trivial, rfl, fun f hf => by cases hf⟩
  | v :: vs, k, hh => by
    obtain ⟨fs, h1, h2, h3⟩ := ti_tups (vs := vs) (k := k) fun u hu => hh u (List.mem_cons_of_mem _ hu)
    obtain ⟨⟨a, o, its, n, rfl, ho, hc, hd, hv⟩, hne⟩ := hh v (List.mem_cons_self ..)
    cases ek : k (.ref a) with
    | nil => exact absurd ek hne
    | cons x xs =>
      rw [ek] at hv
      cases hv with
      | cons rx hv =>
      obtain ⟨t, rfl⟩ := rx
      refine ⟨.int x t :: fs, ?_, by rw [List.length_cons, h2, List.length_cons], fun f hf => ?_⟩
      · unfold W.KatTups
        exact ⟨⟨a, o, _, n, rfl, ho, hc, hd, rfl⟩, h1⟩
      · rcases List.mem_cons.mp hf with rfl | hf
        · exact ⟨x, t, rfl⟩
        · exact h3 f hf
theorem ti_keeps {h h' : Heap} {v : Value} {ns : List Int} (x : IsTI h v ns) (k : ∀ (b : Addr) (o : Obj), h.get? b = some o → o.cls = .type "tuple" → h'.get? b = some o) : IsTI h' v ns := by
  obtain ⟨a, o, its, n, rfl, ho, hc, hd, hv⟩ := x
  exact ⟨a, o, its, n, rfl, k a o ho hc, hc, hd, hv⟩
theorem ti_sortable {prog : Program} {w : World} {A : Around} {s : Shared} {a : Addr} {vs : List Value} {k : Value → List Int} (h0 : 0 < vs.length) (hp : ∀ v ∈ vs, IsTI s.heap v (k v) ∧ k v ≠ []) (ha : ∀ o, s.heap.get? a = some o → o.cls ≠ .type "tuple") :
    SrtO.SortableO prog w A s a vs fun v u => HT.lexLt (k v) (k u) := by
  intro h' keep
  have hp' : ∀ v ∈ vs, IsTI h' v (k v) ∧ k v ≠ [] := fun v hv => ⟨ti_keeps (hp v hv).1 fun b o e c => keep b o (fun z => ha o (z ▸ e) c) e, (hp v hv).2⟩
  obtain ⟨fs, h1, h2, h3⟩ := ti_tups hp'
  refine ⟨tuples' true, fun Q E hq => ?_, ti_cmp fun v hv => (hp' v hv).1⟩
  refine W.kat_kind (T := .type "int") h1 (by omega) (fun f hf => ?_) (by decide) ?_
  · obtain ⟨x, t, rfl⟩ := h3 f hf
    exact W.Looks.now
  · have e : (Value.type "int" != Value.type "tuple") = true := by decide
    rw [e]
    exact hq
section
variable {X : Cx}
def rSortTI (K : PySem.W.Frag) : List V → Hp → VK → Prop := fun vs H Q => ∃ (a : Addr) (xs : List V) (k : V → List Int), vs = [V.ref a] ∧ SqL K H a xs ∧ (∀ x ∈ xs, ∃ t, x = V.ref t ∧ SqT K H t ((k x).map V.int) ∧ k x ≠ []) ∧
  ∀ (ys : List V) (p : Addr), SrtO.Srtd (fun x y => HT.lexLt (k x) (k y)) ys → SrtO.Stb (fun x y => HT.lexLt (k x) (k y)) ys xs → H p = none → Q (.ref p) (upd H p (.lst ys))
theorem cr_sortTI : CallR X (.builtin "sorted") (rSortTI X.K) := by
  intro pins s σ H vs us Q I r h
  obtain ⟨a, xs, k, rfl, hs, hx, q⟩ := h
  obtain ⟨its, rv, hl, hz⟩ := I.list hs
  obtain ⟨u, rfl, ru⟩ := vals1 r
  cases ru
  obtain ⟨e1, e2⟩ := refs_back rv fun x m => let ⟨t, e, _⟩ := hx x m; ⟨t, e⟩
  have hlen : xs.length = its.length := rv.length
  have hti : ∀ v ∈ its, IsTI s.heap v (k (backV v)) ∧ k (backV v) ≠ [] := by
    intro v hv
    obtain ⟨t, rfl⟩ := e2 v hv
    have hm : V.ref t ∈ xs := by rw [e1]; exact List.mem_map.mpr ⟨_, hv, rfl⟩
    obtain ⟨t', e, ht, hne⟩ := hx _ hm
    cases e
    obtain ⟨is, rvs, ⟨o, ho, hc, n, hd⟩, _⟩ := I.tuple ht
    exact ⟨⟨t, o, is, n, rfl, ho, hc, hd, rvs⟩, hne⟩
  refine SrtO.sorted_ord (ltv := fun v u => HT.lexLt (k (backV v)) (k (backV u))) (NtL.swo_lexL _) hl.isList (by rw [← hlen]; exact hz) (fun h2 h₁ b hb hk => ?_) (fun out h1 h2 => ?_)
  · refine ti_sortable (by omega) (fun v hv => ⟨ti_keeps (hti v hv).1 fun c o e _ => (hk c o e).2, (hti v hv).2⟩) (fun o ho => ?_)
    rw [hb] at ho
    cases ho
    show (Value.type "list") ≠ Value.type "tuple"
    decide
  · have h3 : ∀ u ∈ out, ∃ t, u = Value.ref t := fun u hu => e2 u (h2.perm.mem_iff.mp hu)
    have hb : SrtO.Stb (fun x y => HT.lexLt (k x) (k y)) (out.map backV) xs := by
      rw [e1]
      exact SrtO.Stb.map (NtL.swo_lexL k) backV h2
    have hd : s.heap.objs.size ≤ s.heap.objs.size + 1 := Nat.le_succ _
    obtain ⟨e, he⟩ := sortedAll_at s.heap its out.toArray
    refine ⟨.ref _, upd H _ (.lst (out.map backV)), I.laid (fun b o hbo => sortedAll_old hbo) hd ?_, rfl, q _ _ (SrtO.srtd_map h1) hb (I.hok.fresh hd)⟩
    exact ⟨by rw [hb.len]; exact hz, out, e, vals_back h3, he⟩
end
end Rp
/-! Su: sorted of a list of non-empty tuples of ints that stand in order already. -/
namespace Rp
open PySem L2 PyProof.Rows
theorem ti_one : ∀ {ns ms : List Int} {its : List Value}, Vals (ns.map V.int) its → Vals (ms.map V.int) its → ns = ms
  | [], [], _, _, _ => rfl
  | [], m :: ms, _, h1, h2 => by
    cases h1
    cases h2
  | n :: ns, [], _, h1, h2 => by
    cases h2
    cases h1
  | n :: ns, m :: ms, _, h1, h2 => by
    cases h1 with
    | cons r1 h1 =>
    cases h2 with
    | cons r2 h2 =>
    obtain ⟨t, rfl⟩ := r1
    obtain ⟨t', e⟩ := r2
    cases e
    rw [ti_one h1 h2]
theorem isTI_one {h : Heap} {v : Value} {ns ms : List Int} (h1 : IsTI h v ns) (h2 : IsTI h v ms) : ns = ms := by
  obtain ⟨a, o, its, n, rfl, ho, _, hd, hv⟩ := h1
  obtain ⟨a', o', its', n', e, ho', _, hd', hv'⟩ := h2
  cases e
  rw [ho] at ho'
  cases ho'
  rw [hd] at hd'
  cases hd'
  exact ti_one hv hv'
open Classical in
/-- the ints of a tuple -/
noncomputable def keyTI (h : Heap) (v : Value) : List Int := if e : ∃ ns, IsTI h v ns then e.choose else []
theorem keyTI_of {h : Heap} {v : Value} {ns : List Int} (e : IsTI h v ns) : keyTI h v = ns := by
  have e' : ∃ ns, IsTI h v ns := ⟨ns, e⟩
  unfold keyTI
  rw [dif_pos e']
  exact isTI_one e'.choose_spec e
inductive KeysT (K : PySem.W.Frag) (H : Hp) : List V → List (List Int) → Prop
  | nil : KeysT K H [] []
  | cons {t : Addr} {ns : List Int} {xs : List V} {ks : List (List Int)} (h : SqT K H t (ns.map V.int)) (ne : ns ≠ []) (r : KeysT K H xs ks) : KeysT K H (.ref t :: xs) (ns :: ks)
section
variable {X : Cx}
def rSortTS (K : PySem.W.Frag) : List V → Hp → VK → Prop := fun vs H Q => ∃ (a : Addr) (xs : List V) (ks : List (List Int)), vs = [V.ref a] ∧ SqL K H a xs ∧ KeysT K H xs ks ∧ ks.Pairwise (fun x y => HT.lexLt y x = false) ∧
  ∀ (p : Addr), H p = none → Q (.ref p) (upd H p (.lst xs))
theorem keysT_vals {pins : List (Addr × Obj)} {σ : L2.St} {H : Hp} {s : Shared} (I : L2.Inv X pins σ H s) : ∀ {xs : List V} {ks : List (List Int)} {its : List Value}, KeysT X.K H xs ks → Vals xs its →
    its.map (keyTI s.heap) = ks ∧ (∀ v ∈ its, IsTI s.heap v (keyTI s.heap v) ∧ keyTI s.heap v ≠ []) ∧ its.map backV = xs ∧ ∀ v ∈ its, ∃ t, v = Value.ref t
  | [], _, _, .nil, .nil => by simp
  | _ :: xs, _ :: ks, _, .cons h ne r, .cons rv rs => by
    cases rv
    obtain ⟨e1, e2, e3, e4⟩ := keysT_vals I r rs
    obtain ⟨is, rvs, ⟨o, ho, hc, n, hd⟩, _⟩ := I.tuple h
    have ti : IsTI s.heap (.ref _) _ := ⟨_, o, is, n, rfl, ho, hc, hd, rvs⟩
    have ek := keyTI_of ti
    refine ⟨by rw [List.map_cons, e1, ek], fun v hv => ?_, by rw [List.map_cons, e3]; rfl, fun v hv => ?_⟩
    · rcases List.mem_cons.mp hv with rfl | hv
      · rw [ek]
        exact ⟨ti, ne⟩
      · exact e2 v hv
    · rcases List.mem_cons.mp hv with rfl | hv
      · exact ⟨_, rfl⟩
      · exact e4 v hv
theorem cr_sortTS : CallR X (.builtin "sorted") (rSortTS X.K) := by
  intro pins s σ H vs us Q I r h
  obtain ⟨a, xs, ks, rfl, hs, hx, hord, q⟩ := h
  obtain ⟨its, rv, hl, hz⟩ := I.list hs
  obtain ⟨u, rfl, ru⟩ := vals1 r
  cases ru
  obtain ⟨ek, hti, e1, e2⟩ := keysT_vals I hx rv
  have hlen : xs.length = its.length := rv.length
  refine SrtO.sorted_ord (ltv := fun v u => HT.lexLt (keyTI s.heap v) (keyTI s.heap u)) (NtL.swo_lexL _) hl.isList (by rw [← hlen]; exact hz) (fun h2 h₁ b hb hk => ?_) (fun out h1 h2 => ?_)
  · refine ti_sortable (by omega) (fun v hv => ⟨ti_keeps (hti v hv).1 fun c o e _ => (hk c o e).2, (hti v hv).2⟩) (fun o ho => ?_)
    rw [hb] at ho
    cases ho
    show (Value.type "list") ≠ Value.type "tuple"
    decide
  · have hso : SrtO.Srtd (fun v u => HT.lexLt (keyTI s.heap v) (keyTI s.heap u)) its := by
      rw [← ek] at hord
      exact List.pairwise_map.mp hord
    have eo : out = its := SrtO.stb_uniq (NtL.swo_lexL (keyTI s.heap)) h1 hso h2
    subst eo
    have hd : s.heap.objs.size ≤ s.heap.objs.size + 1 := Nat.le_succ _
    obtain ⟨e, he⟩ := sortedAll_at s.heap out out.toArray
    refine ⟨.ref _, upd H _ (.lst xs), I.laid (fun b o hbo => sortedAll_old hbo) hd ?_, rfl, q _ (I.hok.fresh hd)⟩
    exact ⟨hz, out, e, rv, he⟩
/-- sorted of a list of non-empty tuples of ints, known by position -/
def rSortTP (K : PySem.W.Frag) : List V → Hp → VK → Prop := fun vs H Q => ∃ (a : Addr) (xs : List V) (ks : List (List Int)), vs = [V.ref a] ∧ SqL K H a xs ∧ KeysT K H xs ks ∧
  ∀ (ys : List V) (ls : List (List Int)) (p : Addr), KeysT K H ys ls → ls.Pairwise (fun x y => HT.lexLt y x = false) → ls.Perm ks → H p = none → Q (.ref p) (upd H p (.lst ys))
theorem cr_sortTP : CallR X (.builtin "sorted") (rSortTP X.K) := by
  intro pins s σ H vs us Q I r h
  obtain ⟨a, xs, ks, rfl, hs, hx, q⟩ := h
  obtain ⟨its, rv, hl, hz⟩ := I.list hs
  obtain ⟨u, rfl, ru⟩ := vals1 r
  cases ru
  obtain ⟨ek, hti, e1, e2⟩ := keysT_vals I hx rv
  have hlen : xs.length = its.length := rv.length
  refine SrtO.sorted_ord (ltv := fun v u => HT.lexLt (keyTI s.heap v) (keyTI s.heap u)) (NtL.swo_lexL _) hl.isList (by rw [← hlen]; exact hz) (fun h2 h₁ b hb hk => ?_) (fun out h1 h2 => ?_)
  · refine ti_sortable (by omega) (fun v hv => ⟨ti_keeps (hti v hv).1 fun c o e _ => (hk c o e).2, (hti v hv).2⟩) (fun o ho => ?_)
    rw [hb] at ho
    cases ho
    show (Value.type "list") ≠ Value.type "tuple"
    decide
  · have h3 : ∀ u ∈ out, ∃ t, u = Value.ref t := fun u hu => e2 u (h2.perm.mem_iff.mp hu)
    have hd : s.heap.objs.size ≤ s.heap.objs.size + 1 := Nat.le_succ _
    obtain ⟨e, he⟩ := sortedAll_at s.heap its out.toArray
    have kk : KeysT X.K H (out.map backV) (out.map (keyTI s.heap)) := by
      have g : ∀ (l m : List Value), (∀ v ∈ l, v ∈ m) → (∀ v ∈ m, ∃ t, v = Value.ref t) → KeysT X.K H (m.map backV) (m.map (keyTI s.heap)) → KeysT X.K H (l.map backV) (l.map (keyTI s.heap)) := by
        intro l m hl hr hk
        have one : ∀ (m : List Value), (∀ v ∈ m, ∃ t, v = Value.ref t) → KeysT X.K H (m.map backV) (m.map (keyTI s.heap)) → ∀ v ∈ m, ∃ t, v = Value.ref t ∧ SqT X.K H t ((keyTI s.heap v).map V.int) ∧ keyTI s.heap v ≠ [] := by
          intro m
          induction m with
          | nil => intro _ _ v hv; cases hv
          | cons u m ih =>
            intro hr hk v hv
            obtain ⟨t, rfl⟩ := hr u (List.mem_cons_self ..)
            rw [List.map_cons, List.map_cons] at hk
            have hk' : KeysT X.K H (V.ref t :: m.map backV) (keyTI s.heap (.ref t) :: m.map (keyTI s.heap)) := hk
            cases hk' with
            | cons hh ne rr =>
              rcases List.mem_cons.mp hv with rfl | hv
              · exact ⟨t, rfl, hh, ne⟩
              · exact ih (fun v hv => hr v (List.mem_cons_of_mem _ hv)) rr v hv
        induction l with
        | nil => exact .nil
        | cons u l ih =>
          obtain ⟨t, rfl, hh, ne⟩ := one m hr hk u (hl u (List.mem_cons_self ..))
          exact .cons hh ne (ih fun v hv => hl v (List.mem_cons_of_mem _ hv))
      refine g out its (fun v hv => h2.perm.mem_iff.mp hv) e2 ?_
      rw [e1, ek]
      exact hx
    refine ⟨.ref _, upd H _ (.lst (out.map backV)), I.laid (fun b o hbo => sortedAll_old hbo) hd ?_, rfl, q _ _ _ kk (List.pairwise_map.mpr h1) ?_ (I.hok.fresh hd)⟩
    · exact ⟨by rw [List.length_map, h2.perm.length_eq, ← hlen]; exact hz, out, e, vals_back h3, he⟩
    · rw [← ek]
      exact h2.perm.map _
end
end Rp
/-! Jst: sets of steps that hold, with a step, all that come ahead of it; the least sum over them. No Python here. -/
namespace Lw
abbrev Row1 := List Int × Int
/-- rows of steps and what comes ahead of what -/
structure Sys where
  rows : List Row1
  ahead : List Int → List Int → Bool
def sumD (rows : List Row1) (D : List Int → Bool) : Int := (rows.map fun r => if D r.1 then r.2 else 0).sum
def Sys.net (S : Sys) : Int := (S.rows.map (·.2)).sum
def Sys.Closed (S : Sys) (D : List Int → Bool) : Prop := ∀ a ∈ S.rows, ∀ b ∈ S.rows, S.ahead a.1 b.1 = true → D b.1 = true → D a.1 = true
structure Sys.Low (S : Sys) (l : Int) : Prop where
  le : ∀ D, S.Closed D → l ≤ sumD S.rows D
  at_ : ∃ D, S.Closed D ∧ sumD S.rows D = l
theorem sumD_app (r s : List Row1) (D : List Int → Bool) : sumD (r ++ s) D = sumD r D + sumD s D := by
  unfold sumD
  rw [List.map_append, List.sum_append]
theorem sumD_all {r : List Row1} {D : List Int → Bool} (h : ∀ a ∈ r, D a.1 = true) : sumD r D = (r.map (·.2)).sum := by
  induction r with
  | nil => rfl
  | cons x r ih =>
    have h1 := h x List.mem_cons_self
    have h2 := ih fun a ha => h a (List.mem_cons_of_mem _ ha)
    unfold sumD at h2 ⊢
    simp only [List.map_cons, List.sum_cons, h1, if_true, h2]
theorem sumD_none {r : List Row1} {D : List Int → Bool} (h : ∀ a ∈ r, D a.1 = false) : sumD r D = 0 := by
  induction r with
  | nil => rfl
  | cons x r ih =>
    have h1 := h x List.mem_cons_self
    have h2 := ih fun a ha => h a (List.mem_cons_of_mem _ ha)
    unfold sumD at h2 ⊢
    simp only [List.map_cons, List.sum_cons, h1, Bool.false_eq_true, if_false, h2]
    rfl
theorem sumD_congr {r : List Row1} {D E : List Int → Bool} (h : ∀ a ∈ r, D a.1 = E a.1) : sumD r D = sumD r E := by
  induction r with
  | nil => rfl
  | cons x r ih =>
    have h1 := h x List.mem_cons_self
    have h2 := ih fun a ha => h a (List.mem_cons_of_mem _ ha)
    unfold sumD at h2 ⊢
    simp only [List.map_cons, List.sum_cons, h1, h2]
def pre (i : Int) (r : List Row1) : List Row1 := r.map fun a => (i :: a.1, a.2)
theorem sumD_pre (i : Int) (r : List Row1) (D : List Int → Bool) : sumD (pre i r) D = sumD r (fun a => D (i :: a)) := by
  unfold sumD pre
  rw [List.map_map]
  rfl
theorem net_pre (i : Int) (r : List Row1) : ((pre i r).map (·.2)).sum = (r.map (·.2)).sum := by
  unfold pre
  rw [List.map_map]
  rfl
/-- systems behind their indices -/
def cRows : List Sys → Int → List Row1
  | [], _ => []
  | S :: r, i => pre i S.rows ++ cRows r (i + 1)
def aheadAt : List Sys → Int → Int → List Int → List Int → Bool
  | [], _, _, _, _ => false
  | S :: r, i, k, a, b => if k = i then S.ahead a b else aheadAt r (i + 1) k a b
/-- in a row (sq), or side by side -/
def cAhead (sq : Bool) (Ss : List Sys) (i : Int) : List Int → List Int → Bool
  | k :: a, m :: b => if k ≠ m then sq && decide (k < m) else aheadAt Ss i k a b
  | _, _ => false
def comp (sq : Bool) (Ss : List Sys) (i : Int) : Sys := ⟨cRows Ss i, cAhead sq Ss i⟩
theorem cRows_head : ∀ {Ss : List Sys} {i : Int} {a : Row1}, a ∈ cRows Ss i → ∃ k b, a.1 = k :: b ∧ i ≤ k
  | S :: r, i, a, h => by
    simp only [cRows, List.mem_append, pre, List.mem_map] at h
    rcases h with ⟨b, _, rfl⟩ | h
    · exact ⟨i, b.1, rfl, Int.le_refl _⟩
    · obtain ⟨k, b, h1, h2⟩ := cRows_head h
      exact ⟨k, b, h1, by omega⟩
theorem net_comp (sq : Bool) : ∀ (Ss : List Sys) (i : Int), (comp sq Ss i).net = (Ss.map Sys.net).sum
  | [], i => rfl
  | S :: r, i => by
    have ih := net_comp sq r (i + 1)
    unfold Sys.net comp at ih ⊢
    simp only [cRows, List.map_append, List.sum_append, net_pre, List.map_cons, List.sum_cons, ih]
/-- the first of them alone -/
theorem closed_first {sq : Bool} {S : Sys} {r : List Sys} {i : Int} {D : List Int → Bool} (h : (comp sq (S :: r) i).Closed D) : S.Closed fun a => D (i :: a) := by
  intro a ha b hb hab hD
  refine h (i :: a.1, a.2) ?_ (i :: b.1, b.2) ?_ ?_ hD
  · simp only [comp, cRows, List.mem_append, pre, List.mem_map]
    exact .inl ⟨a, ha, rfl⟩
  · simp only [comp, cRows, List.mem_append, pre, List.mem_map]
    exact .inl ⟨b, hb, rfl⟩
  · simp only [comp, cAhead, aheadAt, ne_eq, not_true_eq_false, if_false, if_true]
    exact hab
theorem closed_rest {sq : Bool} {S : Sys} {r : List Sys} {i : Int} {D : List Int → Bool} (h : (comp sq (S :: r) i).Closed D) : (comp sq r (i + 1)).Closed D := by
  intro a ha b hb hab hD
  obtain ⟨k, a', ea, hk⟩ := cRows_head ha
  obtain ⟨m, b', eb, hm⟩ := cRows_head hb
  refine h a ?_ b ?_ ?_ hD
  · simp only [comp, cRows, List.mem_append]
    exact .inr ha
  · simp only [comp, cRows, List.mem_append]
    exact .inr hb
  · rw [ea, eb] at hab ⊢
    simp only [comp, cAhead] at hab ⊢
    by_cases e : k = m
    · subst e
      simp only [ne_eq, not_true_eq_false, if_false, aheadAt] at hab ⊢
      rw [if_neg (by omega)]
      exact hab
    · simp only [ne_eq, e, not_false_eq_true, if_true] at hab ⊢
      exact hab
/-- all of the first come ahead of what stands behind -/
theorem seq_full {S : Sys} {r : List Sys} {i : Int} {D : List Int → Bool} (h : (comp true (S :: r) i).Closed D) {b : Row1} (hb : b ∈ cRows r (i + 1)) (hD : D b.1 = true) : ∀ a ∈ S.rows, D (i :: a.1) = true := by
  intro a ha
  obtain ⟨m, b', eb, hm⟩ := cRows_head hb
  refine h (i :: a.1, a.2) ?_ b ?_ ?_ hD
  · simp only [comp, cRows, List.mem_append, pre, List.mem_map]
    exact .inl ⟨a, ha, rfl⟩
  · simp only [comp, cRows, List.mem_append]
    exact .inr hb
  · rw [eb]
    simp only [comp, cAhead, ne_eq]
    rw [if_pos (by omega)]
    simp only [Bool.true_and, decide_eq_true_eq]
    omega
abbrev Part := Sys × Int
def sysOf (Ps : List Part) : List Sys := Ps.map (·.1)
def lowSeq : List Part → Int
  | [] => 0
  | p :: r => min p.2 (p.1.net + lowSeq r)
def lowPar : List Part → Int
  | [] => 0
  | p :: r => p.2 + lowPar r
theorem seq_le : ∀ (Ps : List Part) (i : Int), (∀ p ∈ Ps, p.1.Low p.2) → ∀ D, (comp true (sysOf Ps) i).Closed D → lowSeq Ps ≤ sumD (cRows (sysOf Ps) i) D
  | [], i, h, D, hc => Int.le_refl _
  | p :: r, i, h, D, hc => by
    have c1 := (h p List.mem_cons_self).le _ (closed_first hc)
    have c2 := seq_le r (i + 1) (fun q hq => h q (List.mem_cons_of_mem _ hq)) D (closed_rest hc)
    simp only [sysOf, List.map_cons, cRows, sumD_app, sumD_pre, lowSeq] at c2 ⊢
    by_cases e : ∃ b ∈ cRows (sysOf r) (i + 1), D b.1 = true
    · obtain ⟨b, hb, hD⟩ := e
      have full := sumD_all (r := p.1.rows) (D := fun a => D (i :: a)) (seq_full hc hb hD)
      rw [full]
      have : p.1.net = (p.1.rows.map (·.2)).sum := rfl
      omega
    · have none : sumD (cRows (sysOf r) (i + 1)) D = 0 := sumD_none fun a ha => by
        cases ed : D a.1 with
        | false => rfl
        | true => exact absurd ⟨a, ha, ed⟩ e
      simp only [sysOf] at none
      rw [none]
      omega
theorem par_le : ∀ (Ps : List Part) (i : Int), (∀ p ∈ Ps, p.1.Low p.2) → ∀ D, (comp false (sysOf Ps) i).Closed D → lowPar Ps ≤ sumD (cRows (sysOf Ps) i) D
  | [], i, h, D, hc => Int.le_refl _
  | p :: r, i, h, D, hc => by
    have c1 := (h p List.mem_cons_self).le _ (closed_first hc)
    have c2 := par_le r (i + 1) (fun q hq => h q (List.mem_cons_of_mem _ hq)) D (closed_rest hc)
    simp only [sysOf, List.map_cons, cRows, sumD_app, sumD_pre, lowPar] at c2 ⊢
    omega
/-- a set of the first one and one of what stands behind -/
def join (i : Int) (D E : List Int → Bool) : List Int → Bool
  | k :: a => if k = i then D a else E (k :: a)
  | [] => false
theorem join_first {i : Int} {D E : List Int → Bool} {r : List Row1} : sumD (pre i r) (join i D E) = sumD r D := by
  rw [sumD_pre]
  exact sumD_congr fun a _ => by simp only [join, if_true]
theorem join_rest {i : Int} {D E : List Int → Bool} {Ss : List Sys} : sumD (cRows Ss (i + 1)) (join i D E) = sumD (cRows Ss (i + 1)) E := by
  refine sumD_congr fun a ha => ?_
  obtain ⟨k, b, e, hk⟩ := cRows_head ha
  rw [e]
  simp only [join]
  rw [if_neg (by omega)]
theorem join_closed {sq : Bool} {S : Sys} {r : List Sys} {i : Int} {D E : List Int → Bool} (h1 : S.Closed D) (h2 : (comp sq r (i + 1)).Closed E)
    (h3 : sq = true → (∀ b ∈ cRows r (i + 1), E b.1 = true → ∀ a ∈ S.rows, D a.1 = true)) : (comp sq (S :: r) i).Closed (join i D E) := by
  intro a ha b hb hab hD
  simp only [comp, cRows, List.mem_append, pre, List.mem_map] at ha hb
  rcases hb with ⟨b', hb', rfl⟩ | hb
  · simp only [join, if_true] at hD
    rcases ha with ⟨a', ha', rfl⟩ | ha
    · simp only [join, if_true]
      simp only [comp, cAhead, aheadAt, ne_eq, not_true_eq_false, if_false, if_true] at hab
      exact h1 a' ha' b' hb' hab hD
    · exfalso
      obtain ⟨k, a', ea, hk⟩ := cRows_head ha
      rw [ea] at hab
      simp only [comp, cAhead, ne_eq] at hab
      rw [if_pos (by omega)] at hab
      simp only [Bool.and_eq_true, decide_eq_true_eq] at hab
      omega
  · obtain ⟨m, b', eb, hm⟩ := cRows_head hb
    have hE : E b.1 = true := by
      rw [eb] at hD ⊢
      simp only [join] at hD
      rwa [if_neg (by omega)] at hD
    rcases ha with ⟨a', ha', rfl⟩ | ha
    · simp only [join, if_true]
      rw [eb] at hab
      simp only [comp, cAhead, ne_eq] at hab
      rw [if_pos (by omega)] at hab
      simp only [Bool.and_eq_true] at hab
      exact h3 hab.1 b hb hE a' ha'
    · obtain ⟨k, a', ea, hk⟩ := cRows_head ha
      have hE' : E a.1 = true := by
        refine h2 a ha b hb ?_ hE
        rw [ea, eb] at hab ⊢
        simp only [comp, cAhead] at hab ⊢
        by_cases e : k = m
        · subst e
          simp only [ne_eq, not_true_eq_false, if_false, aheadAt] at hab ⊢
          rw [if_neg (by omega)] at hab
          exact hab
        · simp only [ne_eq, e, not_false_eq_true, if_true] at hab ⊢
          exact hab
      rw [ea] at hE' ⊢
      simp only [join]
      rw [if_neg (by omega)]
      exact hE'
theorem seq_at : ∀ (Ps : List Part) (i : Int), (∀ p ∈ Ps, p.1.Low p.2) → ∃ D, (comp true (sysOf Ps) i).Closed D ∧ sumD (cRows (sysOf Ps) i) D = lowSeq Ps
  | [], i, h => ⟨fun _ => false, fun a ha => by simp [comp, sysOf, cRows] at ha, rfl⟩
  | p :: r, i, h => by
    obtain ⟨E, e1, e2⟩ := seq_at r (i + 1) (fun q hq => h q (List.mem_cons_of_mem _ hq))
    obtain ⟨D, d1, d2⟩ := (h p List.mem_cons_self).at_
    by_cases c : p.2 ≤ p.1.net + lowSeq r
    · refine ⟨join i D fun _ => false, join_closed d1 (fun a _ b _ _ hb => by cases hb) (fun _ b _ hb => by cases hb), ?_⟩
      simp only [sysOf, List.map_cons, cRows, sumD_app, lowSeq]
      rw [join_first, join_rest, d2, sumD_none fun _ _ => rfl]
      omega
    · refine ⟨join i (fun _ => true) E, join_closed (fun _ _ _ _ _ _ => rfl) e1 (fun _ _ _ _ _ _ => rfl), ?_⟩
      simp only [sysOf, List.map_cons, cRows, sumD_app, lowSeq] at e2 ⊢
      rw [join_first, join_rest, e2, sumD_all fun _ _ => rfl]
      have : p.1.net = (p.1.rows.map (·.2)).sum := rfl
      omega
theorem par_at : ∀ (Ps : List Part) (i : Int), (∀ p ∈ Ps, p.1.Low p.2) → ∃ D, (comp false (sysOf Ps) i).Closed D ∧ sumD (cRows (sysOf Ps) i) D = lowPar Ps
  | [], i, h => ⟨fun _ => false, fun a ha => by simp [comp, sysOf, cRows] at ha, rfl⟩
  | p :: r, i, h => by
    obtain ⟨E, e1, e2⟩ := par_at r (i + 1) (fun q hq => h q (List.mem_cons_of_mem _ hq))
    obtain ⟨D, d1, d2⟩ := (h p List.mem_cons_self).at_
    refine ⟨join i D E, join_closed d1 e1 (fun z => by cases z), ?_⟩
    simp only [sysOf, List.map_cons, cRows, sumD_app, lowPar] at e2 ⊢
    rw [join_first, join_rest, d2, e2]
theorem low_seq (Ps : List Part) (i : Int) (h : ∀ p ∈ Ps, p.1.Low p.2) : (comp true (sysOf Ps) i).Low (lowSeq Ps) := ⟨seq_le Ps i h, seq_at Ps i h⟩
theorem low_par (Ps : List Part) (i : Int) (h : ∀ p ∈ Ps, p.1.Low p.2) : (comp false (sysOf Ps) i).Low (lowPar Ps) := ⟨par_le Ps i h, par_at Ps i h⟩
end Lw
/-! Dt: dicts whose keys are tuples of ints, wherever these tuples stand. -/
namespace Rp
open PySem PySem.Spec L2 PyProof.Rows
abbrev DRow := List Int × Addr × V
def look (rs : List DRow) (k : List Int) : Option V := (rs.find? fun r => decide (r.1 = k)).map (·.2.2)
def putD (rs : List DRow) (k : List Int) (b : Addr) (v : V) : List DRow :=
  if (look rs k).isSome = true then rs.map (fun r => if r.1 = k then (r.1, r.2.1, v) else r) else rs ++ [(k, b, v)]
abbrev ik (k : List Int) : List Key := k.map Sum.inl
theorem ik_inj : ∀ {a b : List Int}, ik a = ik b → a = b
  | [], [], _ => rfl
  | [], _ :: _, e => by cases e
  | _ :: _, [], e => by cases e
  | x :: a, y :: b, e => by
    have e' : (Sum.inl x : Key) :: ik a = Sum.inl y :: ik b := e
    injection e' with e1 e2
    injection e1 with e1
    rw [e1, ik_inj e2]
theorem ik_kV (k : List Int) : (ik k).map kV = k.map V.int := by
  rw [ik, List.map_map]
  rfl
abbrev RelD : List DRow → List (List Key × Addr × Value) → Prop := Paired fun p q => q.1 = ik p.1 ∧ q.2.1 = p.2.1 ∧ RelV p.2.2 q.2.2
theorem look_cons {r : DRow} {rs : List DRow} {k : List Int} : look (r :: rs) k = if r.1 = k then some r.2.2 else look rs k := by
  unfold look
  by_cases e : r.1 = k
  · simp [List.find?_cons, e]
  · simp [List.find?_cons, e]
theorem atKey_cons {q : List Key × Addr × Value} {xs : List (List Key × Addr × Value)} {k : List Key} : atKey (q :: xs) k = if q.1 = k then some q.2 else atKey xs k := by
  unfold atKey
  by_cases e : q.1 = k
  · simp [List.find?_cons, e]
  · simp [List.find?_cons, e]
theorem RelD.look (k : List Int) {rs : List DRow} {xs : List (List Key × Addr × Value)} (r : RelD rs xs) : RelO (look rs k) ((atKey xs (ik k)).map (·.2)) := by
  induction r with
  | nil => exact True.intro
  | @cons p q ps qs h t ih =>
    obtain ⟨h1, h2, h3⟩ := h
    rw [look_cons, atKey_cons]
    by_cases e : p.1 = k
    · rw [if_pos e, if_pos (by rw [h1, e])]
      exact h3
    · rw [if_neg e, if_neg (fun z => e (ik_inj (h1.symm.trans z)))]
      exact ih
theorem RelD.repl (k : List Int) {y : V} {u : Value} (ry : RelV y u) {rs : List DRow} {xs : List (List Key × Addr × Value)} (r : RelD rs xs) :
    RelD (rs.map fun r => if r.1 = k then (r.1, r.2.1, y) else r) (xs.map (putAt (ik k) u)) := by
  induction r with
  | nil => exact .nil
  | @cons p q ps qs h t ih =>
    rw [List.map_cons, List.map_cons]
    refine .cons ?_ ih
    obtain ⟨h1, h2, h3⟩ := h
    unfold putAt
    by_cases e : p.1 = k
    · rw [if_pos e, if_pos (by rw [h1, e])]
      exact ⟨h1, h2, ry⟩
    · rw [if_neg e, if_neg (fun z => e (ik_inj (h1.symm.trans z)))]
      exact ⟨h1, h2, h3⟩
theorem RelD.put (k : List Int) (b : Addr) {y : V} {u : Value} (ry : RelV y u) {rs : List DRow} {xs : List (List Key × Addr × Value)} (r : RelD rs xs) :
    RelD (putD rs k b y) (storedH xs (ik k) b u) := by
  have e : (Rp.look rs k).isSome = (atKey xs (ik k)).isSome := by rw [(r.look k).isSome_eq, Option.isSome_map]
  unfold putD storedH
  rw [e]
  split
  · exact r.repl k ry
  · exact Paired.snoc r ⟨rfl, rfl, ry⟩
theorem putD_len (rs : List DRow) (k : List Int) (b : Addr) (v : V) : (putD rs k b v).length ≤ rs.length + 1 := by
  unfold putD
  split
  · rw [List.length_map]
    omega
  · rw [List.length_append]
    exact Nat.le_refl _
theorem look_app {rs ss : List DRow} {k : List Int} : look (rs ++ ss) k = (look rs k).or (look ss k) := by
  unfold look
  rw [List.find?_append]
  cases rs.find? fun r => decide (r.1 = k) <;> rfl
theorem look_putD (rs : List DRow) (k j : List Int) (b : Addr) (v : V) : look (putD rs k b v) j = if j = k then some v else look rs j := by
  unfold putD
  split
  · rename_i h
    induction rs with
    | nil => simp [look] at h
    | cons r rs ih =>
      rw [List.map_cons, look_cons, look_cons]
      rw [look_cons] at h
      by_cases e : r.1 = k
      · rw [if_pos e]
        dsimp only
        by_cases ej : r.1 = j
        · rw [if_pos ej, if_pos (ej.symm.trans e)]
        · rw [if_neg ej, if_neg ej, if_neg (fun z => ej (e.trans z.symm))]
          have skip : ∀ l : List DRow, look (l.map fun r => if r.1 = k then (r.1, r.2.1, v) else r) j = look l j := by
            intro l
            induction l with
            | nil => rfl
            | cons x l ih2 =>
              rw [List.map_cons, look_cons, look_cons, ih2]
              by_cases ex : x.1 = k
              · rw [if_pos ex]
                have nx : ¬ x.1 = j := fun z => ej (e.trans (ex.symm.trans z))
                dsimp only
                rw [if_neg nx, if_neg nx]
              · rw [if_neg ex]
          exact skip rs
      · rw [if_neg e]
        rw [if_neg e] at h
        rw [ih h]
        by_cases ej : r.1 = j
        · rw [if_pos ej, if_pos ej, if_neg (fun z => e (ej.trans z))]
        · rw [if_neg ej, if_neg ej]
  · rename_i h
    have hn : look rs k = none := by
      cases q : look rs k with
      | none => rfl
      | some x => rw [q] at h; exact absurd rfl h
    rw [look_app, look_cons]
    by_cases ej : j = k
    · rw [if_pos ej, ej, hn, if_pos rfl]
      rfl
    · rw [if_neg ej, if_neg (fun z => ej z.symm)]
      cases look rs j <;> rfl
theorem putD_new {rs : List DRow} {k : List Int} {b : Addr} {v : V} (h : look rs k = none) : putD rs k b v = rs ++ [(k, b, v)] := by
  unfold putD
  rw [h]
  exact if_neg Bool.false_ne_true
/-- the keys' tuples stand -/
def KeysAt (K : PySem.W.Frag) (H : Hp) (rs : List DRow) : Prop := ∀ r ∈ rs, SqT K H r.2.1 (r.1.map V.int)
theorem KeysAt.nil {K : PySem.W.Frag} {H : Hp} : KeysAt K H [] := fun r h => by cases h
theorem KeysAt.keep {K : PySem.W.Frag} {H H' : Hp} {rs : List DRow} (k : KeysAt K H rs) (t : ∀ a xs, SqT K H a xs → SqT K H' a xs) : KeysAt K H' rs := fun r h => t _ _ (k r h)
theorem KeysAt.put {K : PySem.W.Frag} {H : Hp} {rs : List DRow} (k : KeysAt K H rs) {key : List Int} {b : Addr} {v : V} (hb : SqT K H b (key.map V.int)) : KeysAt K H (putD rs key b v) := by
  intro r h
  unfold putD at h
  split at h
  · obtain ⟨r0, h0, rfl⟩ := List.mem_map.mp h
    have := k r0 h0
    split
    · exact this
    · exact this
  · rcases List.mem_append.mp h with h | h
    · exact k r h
    · rw [List.mem_singleton.mp h]
      exact hb
section
variable (P : Program) (w : World)
/-- what the heap says of a dict at a -/
def DHolds (a : Addr) (rs : List DRow) (h : Heap) : Prop :=
  rs.length ≤ sizeLine ∧ (a == sysModules) = false ∧ ∃ xs : List (List Key × Addr × Value), RelD rs xs ∧ (xs.map (·.1)).Nodup ∧
    ∃ (es : Array DictEntry) (ep : Nat) (o : Obj), h.get? a = some o ∧ o.ExactDict ∧ o.data = .dict es ep ∧ es.toList = xs.map (entryOfKey (tupleKind (mixKind P w)))
def DtO (a : Addr) (rs : List DRow) : HO := .ext (DHolds P w a rs)
end
section
variable {P : Program} {w : World} {H : Hp} {h : Heap} {a : Addr} {rs : List DRow}
theorem dtO_ok (d : DHolds P w a rs h) : ObjOk P w H h a (DtO P w a rs) := by
  refine ⟨d, ?_, fun h1 h2 d1 k => ?_⟩
  · obtain ⟨_, _, _, _, _, _, _, o, e, _⟩ := d
    exact ⟨o, e⟩
  · obtain ⟨z1, z2, xs, z3, z4, es, ep, o, e, z5⟩ := d1
    exact ⟨z1, z2, xs, z3, z4, es, ep, o, k _ e, z5⟩
theorem dtO_tup {xs : List V} : DtO P w a rs ≠ .tup xs := fun z => by cases (show HO.ext _ = HO.tup xs from z)
theorem dtO_lst {xs : List V} : DtO P w a rs ≠ .lst xs := fun z => by cases (show HO.ext _ = HO.lst xs from z)
theorem dtO_ins {C dx : Addr} {fs : List (Str × V)} : DtO P w a rs ≠ .ins C dx fs := fun z => by cases (show HO.ext _ = HO.ins C dx fs from z)
theorem dtO_frz {o : Obj} {u : HO} : DtO P w a rs ≠ .frz o u := fun z => by cases (show HO.ext _ = HO.frz o u from z)
theorem dtO_own {x : Addr} : DtO P w a rs ≠ .own x := fun z => by cases (show HO.ext _ = HO.own x from z)
end
section
variable {X : Cx} {pins : List (Addr × Obj)} {σ : L2.St} {H : Hp} {s : Shared} {a b : Addr} {rs : List DRow} {k : List Int}
theorem key_sq (I : Inv X pins σ H s) (h : SqT X.K H b (k.map V.int)) : (tupleKind (mixKind X.prog X.w)).is s.heap (ik k) b := by
  obtain ⟨its, hv, o, h1, h2, n, h3⟩ := isTuple_of I h
  rw [← ik_kV] at hv
  exact ⟨o, its, n, h1, h2, h3, items_are hv⟩
theorem dt_at (I : Inv X pins σ H s) (e : Rd H a (DtO X.prog X.w a rs)) (hk : KeysAt X.K H rs) :
    rs.length ≤ sizeLine ∧ (a == sysModules) = false ∧ ∃ xs, RelD rs xs ∧ s.heap.DictOfH (tupleKind (mixKind X.prog X.w)) a xs := by
  obtain ⟨⟨z, y, xs, r, nd, es, ep, o, h1, h2, h3, h4⟩, _, _⟩ := (show ObjOk X.prog X.w H s.heap a (.ext (DHolds X.prog X.w a rs)) from e.ok I.hok)
  refine ⟨z, y, xs, r, o, es, ep, h1, h2, h3, h4, ?_, nd⟩
  have all : ∀ {l : List DRow} {m : List (List Key × Addr × Value)}, RelD l m → KeysAt X.K H l → ∀ x ∈ m, (tupleKind (mixKind X.prog X.w)).is s.heap x.1 x.2.1 := by
    intro l m q
    induction q with
    | nil => intro _ x hx; cases hx
    | @cons p q ps qs hq t ih =>
      intro hk x hx
      rcases List.mem_cons.mp hx with rfl | hx
      · rw [hq.1, hq.2.1]
        exact key_sq I (hk p (List.mem_cons_self ..))
      · exact ih (fun r hr => hk r (List.mem_cons_of_mem _ hr)) x hx
  exact all r hk
end
theorem dt_sqT {P : Program} {w : World} {K : PySem.W.Frag} {H : Hp} {p a c : Addr} {rs : List DRow} {z : HO} {xs : List V} (e : H p = some (DtO P w c rs)) (h : SqT K H a xs) : SqT K (upd H p z) a xs := by
  rcases h with (h | ⟨o, h⟩) | h
  · refine .inl (.inl ?_)
    rw [upd_ne (fun q => by rw [q, e] at h; exact dtO_tup (Option.some.inj h))]
    exact h
  · refine .inl (.inr ⟨o, ?_⟩)
    rw [upd_ne (fun q => by rw [q, e] at h; exact dtO_frz (Option.some.inj h))]
    exact h
  · exact .inr h
theorem sx_dt {P : Program} {w : World} {K : PySem.W.Frag} {H G : Hp} {p a c : Addr} {rs : List DRow} {xs : List V} (e : H p = some (DtO P w c rs)) (s : Sx p H G) (h : SqT K H a xs) : SqT K G a xs := by
  rcases h with (h | ⟨o, h⟩) | h
  · exact .inl (.inl (s _ _ (fun q => by rw [q, e] at h; exact dtO_tup (Option.some.inj h)) h))
  · exact .inl (.inr ⟨o, s _ _ (fun q => by rw [q, e] at h; exact dtO_frz (Option.some.inj h)) h⟩)
  · exact .inr h
theorem rd_same {H H' : Hp} {a : Addr} {u : HO} (s : Same H H') (r : Rd H a u) : Rd H' a u := by
  rcases r with r | ⟨o, r⟩
  · exact .inl (s _ _ r)
  · exact .inr ⟨o, s _ _ r⟩
/-! rules -/
/-- the dict at a, asked for the key at y: what is there -/
def DAsk (P : Program) (w : World) (K : PySem.W.Frag) (H : Hp) (x y : V) (r : Option V) : Prop :=
  ∃ (a b : Addr) (rs : List DRow) (k : List Int), x = .ref a ∧ y = .ref b ∧ Rd H a (DtO P w a rs) ∧ KeysAt K H rs ∧ SqT K H b (k.map V.int) ∧ r = look rs k
section
variable {X : Cx} {pins : List (Addr × Obj)} {σ : L2.St} {H : Hp} {s : Shared} {x y v z : V} {u i : Value} {r : Option V} {A : Around} {E : Value → Shared → Prop}
theorem dt_dict (I : Inv X pins σ H s) (g : DAsk X.prog X.w X.K H x y r) (rx : RelV x u) : s.TypeIs u "dict" := by
  obtain ⟨a, b, rs, k, rfl, rfl, e, hk, _, _⟩ := g
  obtain rfl : u = .ref a := rx
  obtain ⟨_, _, xs, _, dd⟩ := dt_at I e hk
  exact dd.typeIs
theorem dt_get {Q : Value → Shared → Prop} (hu : A.units + 1 < cLine) (I : Inv X pins σ H s) (g : DAsk X.prog X.w X.K H x y (some v)) (rx : RelV x u) (ry : RelV y i) (h : ∀ w' s', Inv X pins σ H s' → RelV v w' → Q w' s') :
    wpAny (model X.prog X.w) A (getItem u i) Q E s := by
  obtain ⟨a, b, rs, k, rfl, rfl, e, hk, hb, l⟩ := g
  obtain rfl : u = .ref a := rx
  obtain rfl : i = .ref b := ry
  obtain ⟨_, _, xs, rel, dd⟩ := dt_at I e hk
  obtain ⟨w', hw, rw'⟩ := RelO.some_of (v := v) (o := (atKey xs (ik k)).map (·.2)) (by rw [l]; exact rel.look k)
  obtain ⟨p, hp, rfl⟩ := Option.map_eq_some_iff.mp hw
  exact wpAny_getItem_heap (tupleKind_room_in1 hu) (key_sq I hb) dd hp (h p.2 _ (I.tok _) rw')
theorem dt_in {Q : Value → Shared → Prop} (hu : A.units + 1 < cLine) (I : Inv X pins σ H s) (g : DAsk X.prog X.w X.K H x y r) (rx : RelV x u) (ry : RelV y i) (h : ∀ s', Inv X pins σ H s' → Q (.bool r.isSome) s') :
    wpAny (model X.prog X.w) A (compareOp .In i u) Q E s := by
  obtain ⟨a, b, rs, k, rfl, rfl, e, hk, hb, l⟩ := g
  obtain rfl : u = .ref a := rx
  obtain rfl : i = .ref b := ry
  obtain ⟨_, hd, xs, rel, dd⟩ := dt_at I e hk
  refine wpAny_in_heap (tupleKind_room_in1 hu) (key_sq I hb) hd dd ?_
  have q := (rel.look k).isSome_eq
  rw [Option.isSome_map] at q
  rw [← q, ← l]
  exact h _ (I.tok _)
theorem dt_notIn {Q : Value → Shared → Prop} (hu : A.units + 1 < cLine) (I : Inv X pins σ H s) (g : DAsk X.prog X.w X.K H x y r) (rx : RelV x u) (ry : RelV y i) (h : ∀ s', Inv X pins σ H s' → Q (.bool (!r.isSome)) s') :
    wpAny (model X.prog X.w) A (compareOp .NotIn i u) Q E s := by
  obtain ⟨a, b, rs, k, rfl, rfl, e, hk, hb, l⟩ := g
  obtain rfl : u = .ref a := rx
  obtain rfl : i = .ref b := ry
  obtain ⟨_, hd, xs, rel, dd⟩ := dt_at I e hk
  refine wpAny_notIn_heap (tupleKind_room_in1 hu) (key_sq I hb) hd dd ?_
  have q := (rel.look k).isSome_eq
  rw [Option.isSome_map] at q
  rw [← q, ← l]
  exact h _ (I.tok _)
theorem dt_getD {Q : Value → Shared → Prop} {d : Value} (hu : A.units + 1 < cLine) (I : Inv X pins σ H s) (g : DAsk X.prog X.w X.K H x y r) (rx : RelV x u) (ry : RelV y i) (rz : RelV z d) (h : ∀ w' s', Inv X pins σ H s' → RelV (r.getD z) w' → Q w' s') :
    wpAny (model X.prog X.w) A (call (.builtin "dict.get") [u, i, d]) Q E s := by
  obtain ⟨a, b, rs, k, rfl, rfl, e, hk, hb, l⟩ := g
  obtain rfl : u = .ref a := rx
  obtain rfl : i = .ref b := ry
  obtain ⟨_, hd, xs, rel, dd⟩ := dt_at I e hk
  refine call_meetsIn PySem.F.slot_dict_get dd.typeIs PySem.F.entry_dict_get (PySem.F.args_dict_get_3 _ _ _) (meetsH_dict_get_default (tupleKind (mixKind X.prog X.w)) a b hd d) ⟨tupleKind_room_in1 hu, ik k, xs, key_sq I hb, dd, h _ _ (I.tok _) ?_⟩
  rw [l]
  exact (rel.look k).getD rz
/-- the heap behind x[y] = v -/
def DLay (P : Program) (w : World) (K : PySem.W.Frag) (H : Hp) (x y v : V) (H' : Hp) : Prop :=
  ∃ (a b : Addr) (rs : List DRow) (k : List Int), x = .ref a ∧ y = .ref b ∧ H a = some (DtO P w a rs) ∧ KeysAt K H rs ∧ SqT K H b (k.map V.int) ∧ rs.length < 1000000 ∧ H' = upd H a (DtO P w a (putD rs k b v))
theorem dt_laid {h' : Heap} {a b : Addr} {rs : List DRow} {k : List Int} {xs : List (List Key × Addr × Value)} {t' : Nat} (I : Inv X pins σ H s) (e : H a = some (DtO X.prog X.w a rs)) (hd : (a == sysModules) = false) (l : rs.length < 1000000) (rel : RelD rs xs) (rv : RelV v u)
    (dd' : h'.DictOfH (tupleKind (mixKind X.prog X.w)) a (storedH xs (ik k) b u)) (hs : Heap.SameBut a s.heap h') : Inv X pins σ (upd H a (DtO X.prog X.w a (putD rs k b v))) { s with heap := h', toks := t' } := by
  obtain ⟨q, es, ep, hq, h2, h3, h4, _, h5⟩ := dd'
  have hl : (putD rs k b v).length ≤ sizeLine := by
    have := putD_len rs k b v
    rw [sizeLine_eq]
    omega
  exact d_write I (by rw [e]; exact True.intro) hs ⟨q, hq⟩ (dtO_ok ⟨hl, hd, _, rel.put k b rv, h5, es, ep, q, hq, h2, h3, h4⟩)
theorem dt_set {H' : Hp} {Q : Unit → Shared → Prop} (hu : A.units + 1 < cLine) (I : Inv X pins σ H s) (g : DLay X.prog X.w X.K H x y v H') (rx : RelV x u) (ry : RelV y i) {d : Value} (rv : RelV v d) (h : ∀ s', Inv X pins σ H' s' → Q () s') :
    wpAny (model X.prog X.w) A (setItem u i d) Q E s := by
  obtain ⟨a, b, rs, k, rfl, rfl, e, hk, hb, l, rfl⟩ := g
  obtain rfl : u = .ref a := rx
  obtain rfl : i = .ref b := ry
  obtain ⟨z, hd, xs, rel, dd⟩ := dt_at I (.inl e) hk
  have hz : xs.length ≤ sizeLine := by rw [← Paired.length rel]; exact z
  exact wpAny_setItem_heap (hsz := hz) (tupleKind_room_in1 hu) (key_sq I hb) dd fun h' dd' hs => h _ (dt_laid I e hd l rel rv dd' hs)
theorem dt_compSet {H' : Hp} {Q : Unit → Shared → Prop} (hu : X.A.units + 1 < cLine) (I : Inv X pins σ H s) {D : Addr} (g : DLay X.prog X.w X.K H (.ref D) y v H') (ry : RelV y i) {d : Value} (rv : RelV v d) (h : ∀ s', Inv X pins σ H' s' → Q () s') :
    wpAny (model X.prog X.w) X.A (dictSet D i d) Q E s := by
  obtain ⟨a, b, rs, k, ea, rfl, e, hk, hb, l, rfl⟩ := g
  cases ea
  obtain rfl : i = .ref b := ry
  obtain ⟨z, hd, xs, rel, dd⟩ := dt_at I (.inl e) hk
  have hz : xs.length ≤ sizeLine := by rw [← Paired.length rel]; exact z
  exact wpAny_dictSet_heap (hsz := hz) (show X.A.units < cLine by omega) (key_sq I hb) dd fun h' dd' hs => h _ (dt_laid I e hd l rel rv dd' hs)
end
section
variable {X : Cx} {o e f value : Expr} {pos pos' cpos apos : Pos} {td ty tx tv : TE}
/-- {} -/
theorem pe_dtNew : PE X (.Dict [] [] pos) (fun _ H Q => ∀ p, H p = none → Q (.ref p) (upd H p (DtO X.prog X.w p []))) := by
  refine ⟨fun pins s σ H Q I h => wpAny_Dict_empty ⟨.ref s.heap.objs.size, _, I.laid (a := s.heap.objs.size) (o := DtO X.prog X.w s.heap.objs.size []) (t' := s.toks) (fun _ _ q => Heap.get?_push_of_some _ q) (Nat.le_refl _) ?_, rfl, h _ (I.hok.fresh (Nat.le_refl _))⟩⟩
  exact dtO_ok ⟨Nat.zero_le _, beq_eq_false_iff_ne.mpr (Ne.symm (Nat.ne_of_lt I.big)), [], .nil, List.nodup_nil, #[], 0, _, Heap.get?_push_size _ rfl, ⟨rfl, rfl, rfl⟩, rfl, rfl⟩
theorem pe_dtGet (hu : X.A.units + 1 < cLine) (ho : PE X o td) (he : PE X e ty) (hs : NoSl e) :
    PE X (.Subscript o e pos) (fun σ H Q => td σ H fun x H1 => ty σ H1 fun y H2 => ∃ v, DAsk X.prog X.w X.K H2 x y (some v) ∧ Q v H2) := by
  refine ⟨fun pins s σ H Q I h => subD_of PySem.F.slot_dict_getitem.lookup hs (thn (ho.run pins s σ H _ I h) fun u s1 ⟨x, H1, I1, rx, q1⟩ => thn (he.run pins s1 σ H1 _ I1 q1) fun iv s2 ⟨y, H2, I2, ry, v, g, q2⟩ => ?_)⟩
  exact ⟨dt_dict I2 g rx, dt_get hu I2 g rx ry fun w' s3 I3 rw' => ⟨v, H2, I3, rw', q2⟩⟩
theorem pc_dtIn (hu : X.A.units + 1 < cLine) (he : PE X e ty) (ho : PE X o td) : PC X .In e o (fun σ H Q => ty σ H fun y H1 => td σ H1 fun x H2 => ∃ r, DAsk X.prog X.w X.K H2 x y r ∧ Q (.bl r.isSome) H2) := by
  refine ⟨fun pins s σ H Q I h => thn (he.run pins s σ H _ I h) fun iv s1 ⟨y, H1, I1, ry, q1⟩ => thn (ho.run pins s1 σ H1 _ I1 q1) fun u s2 ⟨x, H2, I2, rx, r, g, q2⟩ => ?_⟩
  exact dt_in hu I2 g rx ry fun s3 I3 => ⟨.bl r.isSome, H2, I3, rfl, q2⟩
theorem pc_dtNotIn (hu : X.A.units + 1 < cLine) (he : PE X e ty) (ho : PE X o td) : PC X .NotIn e o (fun σ H Q => ty σ H fun y H1 => td σ H1 fun x H2 => ∃ r, DAsk X.prog X.w X.K H2 x y r ∧ Q (.bl (!r.isSome)) H2) := by
  refine ⟨fun pins s σ H Q I h => thn (he.run pins s σ H _ I h) fun iv s1 ⟨y, H1, I1, ry, q1⟩ => thn (ho.run pins s1 σ H1 _ I1 q1) fun u s2 ⟨x, H2, I2, rx, r, g, q2⟩ => ?_⟩
  exact dt_notIn hu I2 g rx ry fun s3 I3 => ⟨.bl (!r.isSome), H2, I3, rfl, q2⟩
theorem ps_dtPut (hu : X.A.units + 1 < cLine) (ho : PE X o td) (he : PE X e ty) (hv : PE X value tv) (hs : swapsWith value (some (.Subscript o e pos')) pos.line X.env = pure false) :
    PS X (.Assign [.Subscript o e pos'] value pos) (fun D σ H => tv σ H fun v H1 => td σ H1 fun x H2 => ty σ H2 fun y H3 => ∃ H4, DLay X.prog X.w X.K H3 x y v H4 ∧ D.nx σ H4) := by
  refine ⟨fun pins s σ H D I h => wpAny_Assign_Subscript (thn (hv.run pins s σ H _ I h) fun r s1 ⟨v, H1, I1, rv, q1⟩ => thn (ho.run pins s1 σ H1 _ I1 q1) fun u s2 ⟨x, H2, I2, rx, q2⟩ => thn (he.run pins s2 σ H2 _ I2 q2) fun iv s3 ⟨y, H3, I3, ry, H4, g, q3⟩ => ?_) hs⟩
  exact dt_set hu I3 g rx ry rv fun s4 I4 => ⟨σ, H4, I4, q3⟩
/-- d.get(y, z) -/
theorem pe_dtGetD (hu : X.A.units + 1 < cLine) (ho : PE X o td) (he : PE X e ty) (hf : PE X f tx) (m : M2 X o "get" apos e f cpos) :
    PE X (.Call (.Attribute o "get" apos) [e, f] [] cpos) (fun σ H Q => td σ H fun x H1 => (∃ (a : Addr) (rs : List DRow), x = .ref a ∧ Rd H1 a (DtO X.prog X.w a rs) ∧ KeysAt X.K H1 rs) ∧
      ty σ H1 fun y H2 => tx σ H2 fun z H3 => ∃ r, DAsk X.prog X.w X.K H3 x y r ∧ Q (r.getD z) H3) := by
  refine ⟨fun pins s σ H Q I h => ?_⟩
  refine wpAny_Call_method m.base m.few m.line PySem.F.plainAttrs_dict PySem.F.slot_dict_get PySem.F.type_dict_get (thn (ho.run pins s σ H _ I h) fun u s1 ⟨x, H1, I1, rx, ⟨a, rs, ex, ea, hk⟩, q1⟩ => ?_)
  subst ex
  obtain rfl : u = Value.ref a := rx
  obtain ⟨_, _, xs, _, dd⟩ := dt_at I1 ea hk
  refine ⟨dd.typeIs, fun b q => ?_, ?_⟩
  · cases q
    obtain ⟨ob, _, _, h1, h2, _⟩ := dd
    exact ⟨ob, h1, h2.2.1⟩
  · rw [m.trees]
    refine Calls.callWith_builtin rfl (Calls.evalArgs_plain (Calls.spliced_cons (thn (he.run pins s1 σ H1 _ I1 q1) fun iv s2 ⟨y, H2, I2, ry, q2⟩ =>
      Calls.spliced_cons (thn (hf.run pins s2 σ H2 _ I2 q2) fun fv s3 ⟨z, H3, I3, rz, r, g, q3⟩ => Calls.spliced_nil (dt_getD hu I3 g rfl ry rz fun w' s4 I4 rw' => ⟨_, H3, I4, rw', q3⟩)))))
end
/-! the same within a comprehension -/
section
variable {X : Cx} {o e f value : Expr} {g : Str} {pos pos' cpos apos : Pos} {td ty tx tv : TE}
theorem pe_fldK (K : PySem.W.Frag) (hk : X.K = K) (he : PE X o td) (hb : attributeBase o g X.env (eval o X.env) = eval o X.env) : PE X (.Attribute o g pos) (tFld K td g) := by
  subst hk
  exact pe_fld he hb
theorem pe_dtGetK (P : Program) (w : World) (K : PySem.W.Frag) (hp : X.prog = P) (hw : X.w = w) (hk : X.K = K) (hu : X.A.units + 1 < cLine) (ho : PE X o td) (he : PE X e ty) (hs : NoSl e) :
    PE X (.Subscript o e pos) (fun σ H Q => td σ H fun x H1 => ty σ H1 fun y H2 => ∃ v, DAsk P w K H2 x y (some v) ∧ Q v H2) := by
  subst hp hw hk
  exact pe_dtGet hu ho he hs
theorem pe_dtGetDK (P : Program) (w : World) (K : PySem.W.Frag) (hp : X.prog = P) (hw : X.w = w) (hk : X.K = K) (hu : X.A.units + 1 < cLine) (ho : PE X o td) (he : PE X e ty) (hf : PE X f tx) (m : M2 X o "get" apos e f cpos) :
    PE X (.Call (.Attribute o "get" apos) [e, f] [] cpos) (fun σ H Q => td σ H fun x H1 => (∃ (a : Addr) (rs : List DRow), x = .ref a ∧ Rd H1 a (DtO P w a rs) ∧ KeysAt K H1 rs) ∧
      ty σ H1 fun y H2 => tx σ H2 fun z H3 => ∃ r, DAsk P w K H3 x y r ∧ Q (r.getD z) H3) := by
  subst hp hw hk
  exact pe_dtGetD hu ho he hf m
theorem pc_dtInK (P : Program) (w : World) (K : PySem.W.Frag) (hp : X.prog = P) (hw : X.w = w) (hk : X.K = K) (hu : X.A.units + 1 < cLine) (he : PE X e ty) (ho : PE X o td) :
    PC X .In e o (fun σ H Q => ty σ H fun y H1 => td σ H1 fun x H2 => ∃ r, DAsk P w K H2 x y r ∧ Q (.bl r.isSome) H2) := by
  subst hp hw hk
  exact pc_dtIn hu he ho
end
/-! {k: v for t in xs}, the keys tuples of ints -/
section
variable {X : Cx}
def tDtc (P : Program) (w : World) (K : PySem.W.Frag) (wi : TI) (g : TG) (tk tv : TE) (vs : List Nat) : TE := fun σ H Q => wi σ H fun J H1 =>
  ∀ D, H1 D = none → ∃ W : Nat → Nat → Hp → Prop, (∃ m, W 0 m (upd H1 D (DtO P w D []))) ∧
    ∀ i m H, W i m H → (J.stop i H ∧ Q (.ref D) H) ∨ (J.go i H ∧ ∃ Nx : Hp → Prop, (∀ H', Nx H' → ∃ m', m' < m ∧ W (i + 1) m' H') ∧
      ∀ x H', J.yld i H x H' → g x (wipe σ vs) H' fun σ2 H2 => wipe σ2 vs = wipe σ vs ∧ tk σ2 H2 fun y H4 => tv σ2 H4 fun z H5 => ∃ H6, DLay P w K H5 (.ref D) y z H6 ∧ Nx H6)
theorem pe_dtc {kx vx tg iter : Expr} {scope : Scope} {own : List (Str × Nat)} {pos : Pos} {wi : TI} {g : TG} {tk tv : TE} (hu : X.A.units + 1 < cLine) (hc : X.calm = true) (hN : X.N.Nodup) (hi : PI X tg iter wi) (ok : BlkOk X.N X.env.scope scope own)
    (hg : ∀ (s : Shared) (H : Hp) (C : Addr) (cl : List (Str × Addr)) (fp : List Addr), PG (X.blk s H scope (compEnvC scope cl C X.env) fp) tg g)
    (hk : ∀ (s : Shared) (H : Hp) (C : Addr) (cl : List (Str × Addr)) (fp : List Addr), PE (X.blk s H scope (compEnvC scope cl C X.env) fp) kx tk)
    (he : ∀ (s : Shared) (H : Hp) (C : Addr) (cl : List (Str × Addr)) (fp : List Addr), PE (X.blk s H scope (compEnvC scope cl C X.env) fp) vx tv)
    (hs : ∀ x, foldedSetIterable iter X.env x = pure x := by intro _; rfl) :
    PE X (.DictComp kx vx [⟨tg, iter, [], 0⟩] scope pos) (tDtc X.prog X.w X.K wi g tk tv (own.map (·.2))) := by
  refine ⟨fun pins s σ H Q I h => ?_⟩
  rw [arm_eval_DictComp]
  have free : ∀ y ∈ scope.names, y.2 = .free → ∃ c, X.env.cells.lookup y.1 = some c := fun y hy e => I.ok.has _ ((ok.free y hy e).imp id id)
  refine wpAny_comprehension_free rfl hs (closure_ok free) ok.kind (fun y hy e => by rw [ok.uniq y hy, e]) (thn (hi.run pins s σ H _ I h) fun xv s1 hx => thn hx fun itv s2 h2 => ?_)
  obtain ⟨it, fp, tn, J, H2, rfl, I2, T, st2, f2, q⟩ := h2
  refine wpAny_newObj_type (newEnv_comp ?_)
  -- the dict
  generalize hD : s2.heap.objs.size = D
  have nD : H2 D = none := I2.hok.fresh (Nat.le_of_eq hD)
  obtain ⟨W, ⟨m0, w0⟩, turn⟩ := q D nD
  generalize e3 : ({ s2 with heap := s2.heap.push { cls := .type "dict", data := .dict #[] } } : Shared) = s3
  have h3 : s3.heap = s2.heap.push { cls := .type "dict", data := .dict #[] } := by rw [← e3]
  have I3 : Inv X pins σ (upd H2 D (DtO X.prog X.w D [])) s3 := by
    rw [← e3]
    refine I2.laid (t' := s2.toks) (fun b o e => Heap.get?_push_of_some _ e) (Nat.le_of_eq hD) (dtO_ok ⟨Nat.zero_le _, ?_, [], .nil, List.nodup_nil, #[], 0, _, by rw [← hD]; exact Heap.get?_push_size _ rfl, ⟨rfl, rfl, rfl⟩, rfl, rfl⟩)
    rw [← hD]
    exact beq_eq_false_iff_ne.mpr (Ne.symm (Nat.ne_of_lt I2.big))
  have low : ∀ b ∈ fp, b < s2.heap.objs.size := fun b hb => let ⟨_, e, _⟩ := T.obj _ _ st2 b hb; Heap.lt_size e
  have f3 : ∀ b ∈ fp, FpOk X pins (upd H2 D (DtO X.prog X.w D [])) b ∧ b < s3.heap.objs.size := fun b hb => by
    refine ⟨⟨?_, (f2 b hb).2⟩, by rw [h3, Heap.size_push]; exact Nat.lt_succ_of_lt (low b hb)⟩
    rw [upd_ne (by rw [← hD]; exact Nat.ne_of_lt (low b hb))]
    exact (f2 b hb).1
  have st3 : tn 0 s3.heap := T.keep _ _ _ st2 fun b _ o e => by rw [h3]; exact Heap.get?_push_of_some _ e
  have I4 := block_start I3 ok hN f3
  -- the block's frame
  generalize ecl : cellsFrom (s3.heap.objs.size + 1) scope.names (cloFrom X.env.cells scope.names []) = cl at I4
  have pg := hg s3 (upd H2 D (DtO X.prog X.w D [])) s3.heap.objs.size cl fp
  have pk := hk s3 (upd H2 D (DtO X.prog X.w D [])) s3.heap.objs.size cl fp
  have pe := he s3 (upd H2 D (DtO X.prog X.w D [])) s3.heap.objs.size cl fp
  have nfp : ∀ b ∈ fp, upd H2 D (DtO X.prog X.w D []) b = none := fun b hb => (f3 b hb).1.1
  have cL : (compEnvC scope cl s3.heap.objs.size X.env).locals = s3.heap.objs.size := rfl
  subst ecl
  show codeAny _ _ (.compStart (.DictComp kx vx [⟨tg, iter, [], 0⟩] scope pos) 0 (.ref it) (.ref D) (compEnvC scope (cellsFrom (s3.heap.objs.size + 1) scope.names (cloFrom X.env.cells scope.names [])) s3.heap.objs.size X.env)) _ { s3 with heap := pushCells (s3.heap.push { cls := .type "dict", data := .dict #[] }) scope.names }
  generalize compEnvC scope (cellsFrom (s3.heap.objs.size + 1) scope.names (cloFrom X.env.cells scope.names [])) s3.heap.objs.size X.env = ce at I4 pg pk pe cL ⊢
  generalize upd H2 D (DtO X.prog X.w D []) = H3 at I3 I4 pg pk pe w0 nfp f3
  generalize e4 : ({ s3 with heap := pushCells (s3.heap.push { cls := .type "dict", data := .dict #[] }) scope.names } : Shared) = s4 at I4 ⊢
  have st4 : tn 0 s4.heap := T.keep _ _ _ st3 fun b _ o e => by rw [← e4]; exact pushCells_keeps _ _ _ _ (Heap.get?_push_of_some _ e)
  have stat : ∀ {σ' : L2.St} {H' : Hp} {s' : Shared}, Inv (X.blk s3 H3 scope ce fp) [] σ' H' s' → (∀ b ∈ fp, H' b = none) → ∀ b ∈ fp, FpOk (X.blk s3 H3 scope ce fp) [] H' b := fun I' hn b hb =>
    ⟨hn b hb, (I'.ok.exf b hb).1, I'.ok.exfs b hb, .inl hb, fun x c e => (I'.ok.exf b hb).2 x c e, fun p hp => absurd (show p ∈ ([] : List (Addr × Obj)) ++ [] from hp) (by simp)⟩
  refine codeAny_compStart_dict ?_ (T.self X.A 0 _ _ _ st4 ?_)
  all_goals
    refine compLoop_anyD (fun n s' => ∃ i H', Inv (X.blk s3 H3 scope ce fp) [] (wipe σ (own.map (·.2))) H' s' ∧ tn i s'.heap ∧ (∀ b ∈ fp, H' b = none) ∧ W i n H') ?_ m0 ⟨0, H3, I4, st4, nfp, w0⟩
    rintro n s5 ⟨i, H5, I5, st5, n5, w5⟩
    rcases turn i n H5 w5 with ⟨stop, qq⟩ | ⟨go, Nx, hNx, step⟩
    · refine thnF (T.done (X.blk s3 H3 scope ce fp) rfl rfl rfl hc i [] s5 _ H5 (fun _ _ => False) I5 (stat I5 n5) st5 stop) fun r s6 ⟨hr, I6⟩ => ?_
      subst hr
      have I7 : Inv X pins σ H5 s6 := I3.call' (ch := fp) I6.os I6.base I6.hok I6.bare fun b hb => ⟨(f3 b hb).1.2.2.2.1, (f3 b hb).1.2.1, (f3 b hb).1.2.2.2.2.1, (f3 b hb).1.2.2.2.2.2⟩
      obtain ⟨m, hn, _⟩ := I6.loc
      have nC : H5 s3.heap.objs.size = none := cL ▸ I6.free
      have hn : s6.heap.Ns s3.heap.objs.size m := cL ▸ hn
      obtain ⟨p0, p1, p2, p3, p4, p5⟩ := I3.fpOk (Nat.le_refl _) nC
      exact ⟨m, hn, fun h'' sb => ⟨.ref D, H5, I7.turned (t' := s6.toks) (fun b o hb e => (sb.2 b hb).trans e) p0 p1 p3 p4 p5, rfl, qq⟩⟩
    · refine thnF (T.item (X.blk s3 H3 scope ce fp) rfl rfl rfl hc i [] s5 _ H5 (fun _ _ => False) I5 (stat I5 n5) st5 go) fun r s6 ⟨u, hr, h6⟩ => ?_
      subst hr
      refine thnF h6 fun _ s7 ⟨x, H7, I7, r7, y7, st7, n7⟩ => ?_
      refine thnF (pg.run _ s7 _ H7 x u _ (I7.pinned (stat I7 n7) (T.obj _ _ st7)) r7 (step x H7 y7)) fun _ s8 ⟨σ8, H8, I8, hw8, q8⟩ => ?_
      refine wpAny_pure ?_
      simp only [if_true]
      refine thnF (pk.run _ s8 σ8 H8 _ I8 q8) fun z s10 ⟨yk, H10, I10, r10, q10⟩ => ?_
      refine thnF (pe.run _ s10 σ8 H10 _ I10 q10) fun z2 s11 ⟨yv, H11, I11, r11, H12, lay, nx⟩ => ?_
      refine dt_compSet (X := X.blk s3 H3 scope ce fp) hu I11 lay r10 r11 fun s12 I12 => ?_
      obtain ⟨m', hm, w'⟩ := hNx H12 nx
      have pin' : ∀ b ∈ fp, ∀ o, s7.heap.get? b = some o → s12.heap.get? b = some o ∧ H12 b = none := fun b hb o e =>
        let z := I12.pin (b, o) (List.mem_append_right _ (List.mem_append_right _ (mem_pinsAt hb e)))
        ⟨z.1, z.2.1⟩
      refine ⟨m', hm, i + 1, H12, (I12.unpinned (pins := [])).weak (by rw [← hw8, wipe_length]) (fun j v e => ?_), T.keep _ _ _ st7 fun b hb o e => (pin' b hb o e).1, fun b hb => ?_, w'⟩
      · rw [← hw8] at e
        exact (wipe_some e).1
      · obtain ⟨o, e, _⟩ := T.obj _ _ st7 b hb
        exact (pin' b hb o e).2
/-- over a list that stays -/
theorem dtc_list {P : Program} {w : World} {K : PySem.W.Frag} {a : Addr} {xs : List V} {g : TG} {tk tv : TE} {vs : List Nat} {σ : L2.St} {H1 : Hp} {D : Addr} {Qd : Hp → Prop} (Pv : Nat → Hp → Prop) (h0 : Pv 0 (upd H1 D (DtO P w D [])))
    (hl : ∀ i H, i ≤ xs.length → Pv i H → SqL K H a xs)
    (hs : ∀ i x H, xs[i]? = some x → Pv i H → g x (wipe σ vs) H fun σ2 H2 => wipe σ2 vs = wipe σ vs ∧ tk σ2 H2 fun y H4 => tv σ2 H4 fun z H5 => ∃ H6, DLay P w K H5 (.ref D) y z H6 ∧ Pv (i + 1) H6)
    (hd : ∀ H, Pv xs.length H → Qd H) :
    ∃ W : Nat → Nat → Hp → Prop, (∃ m, W 0 m (upd H1 D (DtO P w D []))) ∧ ∀ i m H, W i m H → ((Itl K a).stop i H ∧ Qd H) ∨ ((Itl K a).go i H ∧ ∃ Nx : Hp → Prop, (∀ H', Nx H' → ∃ m', m' < m ∧ W (i + 1) m' H') ∧
      ∀ x H', (Itl K a).yld i H x H' → g x (wipe σ vs) H' fun σ2 H2 => wipe σ2 vs = wipe σ vs ∧ tk σ2 H2 fun y H4 => tv σ2 H4 fun z H5 => ∃ H6, DLay P w K H5 (.ref D) y z H6 ∧ Nx H6) := by
  refine ⟨fun i m H => i ≤ xs.length ∧ m + i = xs.length ∧ Pv i H, ⟨xs.length, Nat.zero_le _, rfl, h0⟩, fun i m H ⟨hi, hm, p⟩ => ?_⟩
  have q := hl i H hi p
  rcases Nat.lt_or_eq_of_le hi with lt | e
  · refine .inr ⟨⟨xs, xs[i], q, by simp [lt]⟩, Pv (i + 1), fun H' p' => ⟨m - 1, by omega, lt, by omega, p'⟩, fun x H' y => ?_⟩
    obtain ⟨rfl, y⟩ := y
    exact hs i x _ (y xs q) p
  · subst e
    exact .inl ⟨⟨xs, q, Nat.le_refl _⟩, hd H p⟩
end
end Rp
/-! Mx: max of four ints, and a for over what is a list or a tuple. -/
namespace Rp
open PySem L2 PyProof.Rows
theorem best_is (f : Nat → Int) : ∀ k : Nat, argBest (fun i j => decide (f i > f j)) k ≤ k ∧ ∀ i, i ≤ k → f i ≤ f (argBest (fun i j => decide (f i > f j)) k)
  | 0 => ⟨Nat.le_refl _, fun i hi => by
      have e : i = 0 := by omega
      rw [e]
      exact Int.le_refl _⟩
  | k + 1 => by
    obtain ⟨h1, h2⟩ := best_is f k
    by_cases g : f (k + 1) > f (argBest (fun i j => decide (f i > f j)) k)
    · have e : argBest (fun i j => decide (f i > f j)) (k + 1) = k + 1 := by simp [argBest, g]
      rw [e]
      refine ⟨Nat.le_refl _, fun i hi => ?_⟩
      by_cases z : i = k + 1
      · rw [z]
        exact Int.le_refl _
      · have := h2 i (by omega)
        omega
    · have e : argBest (fun i j => decide (f i > f j)) (k + 1) = argBest (fun i j => decide (f i > f j)) k := by simp [argBest, g]
      rw [e]
      refine ⟨by omega, fun i hi => ?_⟩
      by_cases z : i = k + 1
      · rw [z]
        omega
      · exact h2 i (by omega)
section
variable {prog : Program} {w : World} {A : Around} {E : Value → Shared → Prop} {s : Shared}
theorem max4_args (a b c d : Value) : argsOk "max" ⟨[a, b, c, d], []⟩ := by
  unfold argsOk
  kernel_rfl
theorem far1 {n : Nat} : n ≠ n + 1 := by omega
theorem far2 {n : Nat} : n + 1 + 1 ∉ [n + 1, n] := by simp; omega
theorem far3 {z n : Nat} (h : z < n) : z ∉ [n + 1] := by simp; omega
theorem far4 {z n : Nat} (h : z < n) : z ≠ n + 1 + 1 := by omega
/-- the greatest of four -/
theorem max4 {n : Nat → Int} {t : Nat → Tok} {Q : Value → Shared → Prop} (hh : A.handled = none)
    (h : ∀ (g : Heap) (tk : Nat) (k : Nat), k < 4 → (∀ i, i < 4 → n i ≤ n k) → (∀ z o, s.heap.get? z = some o → g.get? z = some o) → Q (.int (n k) (t k)) { s with heap := g, toks := tk }) :
    wpAny (model prog w) A (call (.builtin "max") [.int (n 0) (t 0), .int (n 1) (t 1), .int (n 2) (t 2), .int (n 3) (t 3)]) Q E s := by
  have nm : (toString "max" ++ toString ".loop" : String) = "max.loop" := by decide
  have at4 : ∀ i v, (#[Value.int (n 0) (t 0), .int (n 1) (t 1), .int (n 2) (t 2), .int (n 3) (t 3)] : Array Value)[i]? = some v → i < 4 ∧ v = .int (n i) (t i) := by
    intro i v e
    match i, e with
    | 0, e => exact ⟨by omega, by simpa using e.symm⟩
    | 1, e => exact ⟨by omega, by simpa using e.symm⟩
    | 2, e => exact ⟨by omega, by simpa using e.symm⟩
    | 3, e => exact ⟨by omega, by simpa using e.symm⟩
    | i + 4, e => simp at e
  have at4 : ∀ (arr : Array Value) (i : Nat) (v : Value), arr = #[Value.int (n 0) (t 0), .int (n 1) (t 1), .int (n 2) (t 2), .int (n 3) (t 3)] → arr[i]? = some v → i < 4 ∧ v = .int (n i) (t i) := fun arr i v e h => at4 i v (e ▸ h)
  have sz : ∀ arr : Array Value, (s.heap.push { cls := .type "tuple", data := .seq arr }).objs.size = s.heap.objs.size + 1 := fun _ => Heap.size_push ..
  have tup : ∀ arr : Array Value, (s.heap.push { cls := .type "tuple", data := .seq arr }).IsTuple s.heap.objs.size arr := fun arr => ⟨_, Heap.get?_push_size _ rfl, rfl, 0, rfl⟩
  have four : ∀ arr : Array Value, arr = #[Value.int (n 0) (t 0), .int (n 1) (t 1), .int (n 2) (t 2), .int (n 3) (t 3)] → arr.size = 4 := fun arr e => by rw [e]; rfl
  refine call_function_tree F.kind_max F.plain_max F.entry_max (max4_args _ _ _ _) (wpAny_bind (wpAny_of_eq (a := [none, none]) rfl ?_))
  refine wpAny_bind (M := model prog w) (A := A.in1) (m := newTuple [.int (n 0) (t 0), .int (n 1) (t 1), .int (n 2) (t 2), .int (n 3) (t 3)]) (wpAny_newObj_type ?_)
  generalize ea : ([Value.int (n 0) (t 0), .int (n 1) (t 1), .int (n 2) (t 2), .int (n 3) (t 3)] : List Value).toArray = arr
  have ea' := ea.symm
  refine wpAny_bind (wpAny_pyIter_tuple (tup arr) (wpAny_bind (wpAny_newObj_type ?_)))
  rw [nm]
  have W := Walks.tuple (prog := prog) (w := w) (A := A.in1) hh (s.heap.objs.size + 1) s.heap.objs.size far1 arr
  have i1 : (s.heap.push { cls := .type "tuple", data := .seq arr }).objs.size = s.heap.objs.size + 1 := sz arr
  have i2 : ((s.heap.push { cls := .type "tuple", data := .seq arr }).push { cls := .type "tuple_iterator", data := .fields #[.ref s.heap.objs.size, .int 0 0] }).objs.size = s.heap.objs.size + 1 + 1 := by
    rw [Heap.size_push, i1]
  dsimp only [Option.getD_none, Option.toList_none, List.map_nil]
  rw [i1, i2]
  have hit : ((s.heap.push { cls := .type "tuple", data := .seq arr }).push { cls := .type "tuple_iterator", data := .fields #[.ref s.heap.objs.size, .int 0 0] }).IsTupleIter (s.heap.objs.size + 1) s.heap.objs.size 0 :=
    ⟨_, by rw [← i1]; exact Heap.get?_push_size _ rfl, rfl, rfl⟩
  have ht2 := (tup arr).push { cls := .type "tuple_iterator", data := .fields #[.ref s.heap.objs.size, .int 0 0] }
  have hst := W.frame 0 _ _ ⟨hit, ht2⟩ fun b (_ : b ∈ [s.heap.objs.size + 1, s.heap.objs.size]) o e => Heap.get?_push_of_some { cls := .type "list", data := .seq #[] } e
  refine wpAny_pure ⟨plainId_quiet F.plain_max_loop _, codeAny_max_loop_first W _ (CmpOf.ints_gt n fun i v e => ⟨t i, (at4 arr i v ea' e).2⟩) (s.heap.objs.size + 1 + 1) far2 (by rw [four arr ea']; omega) hst (by rw [← i2]; exact Heap.get?_push_size _ rfl) fun v g tk hP hk => ?_⟩
  obtain ⟨b1, b2⟩ := best_is n 3
  rw [four arr ea'] at hP
  obtain ⟨k4, rfl⟩ := at4 arr _ v ea' hP
  refine h g tk _ k4 (fun i hi => b2 i (by omega)) fun z o e => ?_
  have hz := Heap.lt_size e
  refine hk z o (far3 hz) (far4 hz) (Heap.get?_push_of_some _ (Heap.get?_push_of_some _ (Heap.get?_push_of_some _ e)))
end
section
variable {X : Cx}
theorem call_max4 (hc : X.calm = true) : CallR X (.builtin "max") (fun xs H Q => ∃ a b c d : Int, xs = [.int a, .int b, .int c, .int d] ∧ ∀ m, m ∈ [a, b, c, d] → a ≤ m → b ≤ m → c ≤ m → d ≤ m → Q (.int m) H) := by
  intro pins s σ H xs us Q I r h
  obtain ⟨a, b, c, d, rfl, q⟩ := h
  cases r with
  | cons r1 r =>
  cases r with
  | cons r2 r =>
  cases r with
  | cons r3 r =>
  cases r with
  | cons r4 r =>
  cases r
  obtain ⟨t1, rfl⟩ := r1
  obtain ⟨t2, rfl⟩ := r2
  obtain ⟨t3, rfl⟩ := r3
  obtain ⟨t4, rfl⟩ := r4
  refine max4 (n := fun i => [a, b, c, d].getD i 0) (t := fun i => [t1, t2, t3, t4].getD i t1) (I.ok.hd hc) fun g tk k hk hm hold => ⟨.int ([a, b, c, d].getD k 0), H, I.kept hold, ⟨_, rfl⟩, ?_⟩
  have m0 := hm 0 (by omega)
  have m1 := hm 1 (by omega)
  have m2 := hm 2 (by omega)
  have m3 := hm 3 (by omega)
  refine q _ ?_ m0 m1 m2 m3
  match k, hk with
  | 0, _ => simp
  | 1, _ => simp
  | 2, _ => simp
  | 3, _ => simp
/-- a for over a list or a tuple -/
def iSeqA (K : PySem.W.Frag) (te : TE) : TI := fun σ H R => te σ H fun x H1 => ∃ a, x = .ref a ∧ (((∃ xs, SqL K H1 a xs) ∧ R (Itl K a) H1) ∨ ((∃ xs, SqT K H1 a xs) ∧ R (Itt K a) H1))
theorem pi_seqA {tg l : Expr} {te : TE} (hl : PE X l te) : PI X tg l (iSeqA X.K te) := by
  refine ⟨fun pins s σ H R I h => thn (hl.run pins s σ H _ I h) fun v s1 ⟨x, H1, I1, r1, a, e, q⟩ => ?_⟩
  subst e
  cases r1
  have fresh : ∀ b ∈ [s1.heap.objs.size], FpOk X pins H1 b := fun b hb => by
    rw [List.mem_singleton] at hb
    rw [hb]
    exact I1.fpOk (Nat.le_refl _) (I1.hok.fresh (Nat.le_refl _))
  rcases q with ⟨⟨xs, hx⟩, q⟩ | ⟨⟨xs, hx⟩, q⟩
  · obtain ⟨its, rv, p, hz⟩ := I1.list hx
    exact wpAny_pyIter_list p.isList ⟨_, [s1.heap.objs.size], _, _, H1, rfl, I1.kept (t' := s1.toks) fun b o e => Heap.get?_push_of_some _ e, turn_list a _, ⟨_, Heap.get?_push_size _ rfl, rfl, rfl⟩, fresh, q⟩
  · obtain ⟨its, rv, p, hz⟩ := I1.tuple hx
    exact wpAny_pyIter_tuple (items := its.toArray) p ⟨_, [s1.heap.objs.size], _, _, H1, rfl, I1.kept (t' := s1.toks) fun b o e => Heap.get?_push_of_some _ e, turn_tuple a _, ⟨_, Heap.get?_push_size _ rfl, rfl, rfl⟩, fresh, q⟩
end
/-- a list or a tuple with these items -/
def SeqA (K : PySem.W.Frag) (H : Hp) (a : Addr) (xs : List V) : Prop := SqL K H a xs ∨ SqT K H a xs
theorem SeqA.same {K : PySem.W.Frag} {H H' : Hp} {a : Addr} {xs : List V} (h : SeqA K H a xs) (s : Same H H') : SeqA K H' a xs := by
  rcases h with h | h
  · rcases h with (h | ⟨o, h⟩) | h
    · exact .inl (.inl (.inl (s _ _ h)))
    · exact .inl (.inl (.inr ⟨o, s _ _ h⟩))
    · exact .inl (.inr h)
  · exact .inr (same_sqT s h)
theorem walk_revT {K : PySem.W.Frag} {a : Addr} {xs : List V} : Walk (RT.ItvT K a xs.length) xs.length (fun H => SqT K H a xs) (fun i H x H' => H' = H ∧ xs[xs.length - 1 - i]? = some x) :=
  ⟨fun i H hi h => ⟨hi, xs, xs[xs.length - 1 - i]'(by omega), h, List.getElem?_eq_getElem (by omega)⟩, fun _ _ => Nat.le_refl _, fun i H x H' hi h y => ⟨y.1, y.2 xs h⟩⟩
theorem same_sqL {K : PySem.W.Frag} {H H' : Hp} {a : Addr} {xs : List V} (s : Same H H') (h : SqL K H a xs) : SqL K H' a xs := by
  rcases h with (h | ⟨o, h⟩) | h
  · exact .inl (.inl (s _ _ h))
  · exact .inl (.inr ⟨o, s _ _ h⟩)
  · exact .inr h
/-- what a for asks of what it walks -/
def ForR (g : TG) (tb : TS) (D : Ends) (σ : L2.St) (J : It) (H : Hp) : Prop := ∃ W : Nat → Nat → L2.St → Hp → Prop, (∃ m, W 0 m σ H) ∧ ∀ (i m : Nat) (σ : L2.St) (H : Hp), W i m σ H →
  (J.stop i H ∧ D.nx σ H) ∨ (J.go i H ∧ ∃ N : L2.St → Hp → Prop, (∀ (σ' : L2.St) (H' : Hp), N σ' H' → ∃ m', m' < m ∧ W (i + 1) m' σ' H') ∧ ∀ (x : V) (H' : Hp), J.yld i H x H' → g x σ H' fun σ2 H2 => tb { nx := N, rt := D.rt, bk := D.nx, ct := N } σ2 H2)
theorem for_seqA {K : PySem.W.Frag} {a : Addr} {xs : List V} {g : TG} {tb : TS} {D : Ends} {σ : L2.St} {Hb H : Hp} (h : SeqA K Hb a xs) (hb : Same Hb H) (Pv : Nat → L2.St → Hp → Prop) (h0 : Pv 0 σ H)
    (hs : ∀ (i : Nat) (σ : L2.St) (H' : Hp), i ≤ xs.length → Pv i σ H' → Same Hb H')
    (step : ∀ (i : Nat) (x : V) (σ : L2.St) (H' : Hp), xs[i]? = some x → Pv i σ H' → g x σ H' fun σ2 H2 => tb { nx := Pv (i + 1), rt := D.rt, bk := D.nx, ct := Pv (i + 1) } σ2 H2)
    (fin : ∀ (σ : L2.St) (H' : Hp), Pv xs.length σ H' → D.nx σ H') : ((∃ xs, SqL K H a xs) ∧ ForR g tb D σ (Itl K a) H) ∨ ((∃ xs, SqT K H a xs) ∧ ForR g tb D σ (Itt K a) H) := by
  rcases h with h | h
  · exact .inl ⟨⟨xs, same_sqL hb h⟩, for_it (walk_list (xs := xs)) Pv h0 (fun i σ H' hi p => same_sqL (hs i σ H' hi p) h) (fun i x σ H1 H2 hi p y => by obtain ⟨rfl, y⟩ := y; exact step i x σ _ y p) fin⟩
  · exact .inr ⟨⟨xs, same_sqT hb h⟩, for_it (walk_tup (xs := xs)) Pv h0 (fun i σ H' hi p => same_sqT (hs i σ H' hi p) h) (fun i x σ H1 H2 hi p y => by obtain ⟨rfl, y⟩ := y; exact step i x σ _ y p) fin⟩
theorem for_revA {K : PySem.W.Frag} {a : Addr} {xs : List V} {g : TG} {tb : TS} {D : Ends} {σ : L2.St} {Hb H : Hp} (h : SeqA K Hb a xs) (hb : Same Hb H) (Pv : Nat → L2.St → Hp → Prop) (h0 : Pv 0 σ H)
    (hs : ∀ (i : Nat) (σ : L2.St) (H' : Hp), i ≤ xs.length → Pv i σ H' → Same Hb H')
    (step : ∀ (i : Nat) (x : V) (σ : L2.St) (H' : Hp), i < xs.length → xs[xs.length - 1 - i]? = some x → Pv i σ H' → g x σ H' fun σ2 H2 => tb { nx := Pv (i + 1), rt := D.rt, bk := D.nx, ct := Pv (i + 1) } σ2 H2)
    (fin : ∀ (σ : L2.St) (H' : Hp), Pv xs.length σ H' → D.nx σ H') : (SqL K H a xs ∧ ForR g tb D σ (Itv K a xs.length) H) ∨ (SqT K H a xs ∧ ForR g tb D σ (RT.ItvT K a xs.length) H) := by
  rcases h with h | h
  · exact .inl ⟨same_sqL hb h, for_it (walk_rev (xs := xs)) Pv h0 (fun i σ H' hi p => same_sqL (hs i σ H' hi p) h) (fun i x σ H1 H2 hi p y => by obtain ⟨rfl, y⟩ := y; exact step i x σ _ hi y p) fin⟩
  · exact .inr ⟨same_sqT hb h, for_it (walk_revT (xs := xs)) Pv h0 (fun i σ H' hi p => same_sqT (hs i σ H' hi p) h) (fun i x σ H1 H2 hi p y => by obtain ⟨rfl, y⟩ := y; exact step i x σ _ hi y p) fin⟩
theorem walk_zipT2 {K : PySem.W.Frag} {a b : Addr} {xs ys : List V} {n : Nat} (hn : n = min xs.length ys.length) : Walk (RZ.ItzT K a b) n (fun H => SqT K H a xs ∧ SqT K H b ys) (YPair (fun i => xs[i]?) (fun i => ys[i]?)) := by
  subst hn
  refine ⟨fun i H hi h => ?_, fun H h => ⟨xs, ys, h.1, h.2, by omega⟩, fun i H v H' hi h y => ?_⟩
  · have l1 : i < xs.length := by omega
    have l2 : i < ys.length := by omega
    exact ⟨xs, ys, xs[i], ys[i], h.1, h.2, List.getElem?_eq_getElem l1, List.getElem?_eq_getElem l2⟩
  · obtain ⟨T, x, z, rfl, hT, rfl, f1, f2⟩ := y
    exact ⟨T, x, z, rfl, hT, rfl, f1 xs h.1, f2 ys h.2⟩
end Rp
/-! Ts: set of a tuple of tuples of ints, and such a set sorted whatever the lengths. -/
namespace Rp
open PySem PySem.Spec L2 PyProof.Rows
section
variable {P : Program} {w : World} {A : Around} {E : Value → Shared → Prop} {s : Shared}
/-- the object of an empty new set -/
abbrev setOb (w : World) : Obj := { cls := .type "set", dict := none, data := .set #[] 0 (.fresh 0 0 (!w.params.followText "set-order")) }
abbrev setHp (w : World) (s : Shared) : Heap := s.heap.push (setOb w)
theorem past_none {h : Heap} {b : Addr} (hb : h.objs.size ≤ b) : h.get? b = none := by
  cases q : h.get? b with
  | none => rfl
  | some o => exact absurd (Heap.lt_size q) (Nat.not_lt.mpr hb)
theorem set_tupT {l : Addr} {items : Array Value} (ks : List (Addr × List Int)) {Q : Value → Shared → Prop} (free : A.handled = none) (tupl : s.heap.IsTuple l items) (eit : items.toList = ks.map fun p => Value.ref p.1)
    (ek : ∀ p ∈ ks, IsT P w s.heap p.2 p.1) (few : ks.length < 64) (un : A.units + 3 < cLine)
    (out : ∀ (g : Heap) (tk : Nat) L es ep t, SetTR P w g s.heap.objs.size L es ep t → Got ks ks.length L → (∀ b o, s.heap.get? b = some o → g.get? b = some o) → Q (.ref s.heap.objs.size) { s with heap := g, toks := tk }) :
    wpAny (model P w) A (call (.type "set") [.ref l]) Q E s := by
  have esz : items.size = ks.length := by rw [← Array.length_toList, eit, List.length_map]
  obtain ⟨c, tl, mro1⟩ := F.called_set.mro
  have made1 := F.called_set.made
  have subm := F.called_set.sub
  refine wpAny_call (codeAny_of_tree (show wpAny _ _ (callAny (.type "set") _) _ _ _ from wpAny_pure ⟨Code.quiet_builtin _ (by decide +kernel), codeAny_builtin F.entry_type_call ?_⟩))
  rw [Around.under_plain (weight_type_call_type "set" [.ref l] []) rfl]
  have nty := F.called_set.notType
  have cancr := F.called_set.canCreate
  have tcall := F.typeCall_set_1 (.ref l)
  repeat (any_goals (first | assumption | wp_step))
  refine codeAny_mono (code_set_led1 (.ref l) (E := E) (Q₁ := fun x s1 => x = .ref s.heap.objs.size ∧ s1 = { s with heap := setHp w s }) ⟨rfl, rfl⟩) fun r s1 hr => ?_
  rcases r with e | fl
  · exact hr
  cases fl <;> first | exact hr.elim | skip
  rename_i made
  obtain ⟨rfl, rfl⟩ := hr
  have atS : (setHp w s).get? s.heap.objs.size = some (setOb w) := Heap.get?_push_size _ rfl
  have tyS : Shared.TypeIs { s with heap := setHp w s } (.ref s.heap.objs.size) "set" := ⟨_, atS, rfl⟩
  have lki := F.called_set.init.lookup
  have bdi := F.called_set.init.bind (.ref s.heap.objs.size)
  repeat (any_goals (first | assumption | wp_step))
  refine codeAny_mono (codeAny_call_builtin (R := wants (fun r s2 => r = .none ∧ ∃ g tk L es ep t, s2 = { s with heap := g, toks := tk } ∧ SetTR P w g s.heap.objs.size L es ep t ∧ Got ks ks.length L ∧
      (∀ b o, s.heap.get? b = some o → g.get? b = some o)) E) F.called_set.init.plain F.entry_set_init (check_set_init_1 tyS ?_)) fun r2 s2 hr2 => ?_
  · obtain ⟨ob, atl, cl, nl, dt⟩ := tupl
    rcases ob with ⟨c0, d0, dat0, sl0⟩
    dsimp only at cl dt
    subst cl dt
    have atl' : (setHp w s).get? l = some { cls := .type "tuple", dict := d0, data := .seq items nl, slots := sl0 } := Heap.get?_push_of_some _ atl
    have sb1 := F.sub_tuple_set
    have sb2 := F.sub_tuple_frozenset
    have nd : (Value.type "tuple" == Value.type "dict") = false := by decide
    have isT1 : (setHp w s).IsTuple l items := ⟨_, atl', rfl, nl, rfl⟩
    unfold Builtin.«set.__init__» noKeywords Builtin.Frozenset.updateFrom
    generalize hit : pyIter = IT
    wp_walk
    subst hit
    refine wpAny_pyIter_tuple isT1 (wpAny_bind (wpAny_runValue ?_))
    have ltl : l < s.heap.objs.size := Heap.lt_size atl
    have sz : (setHp w s).objs.size = s.heap.objs.size + 1 := Heap.size_push ..
    have farl : l ≠ (setHp w s).objs.size := by
      rw [sz]
      exact Nat.ne_of_lt (Nat.lt_succ_of_lt ltl)
    have farS : s.heap.objs.size ∉ [(setHp w s).objs.size, l] := by
      intro hm
      rcases List.mem_cons.mp hm with e | e
      · rw [sz] at e
        exact absurd e (Nat.ne_of_lt (Nat.lt_succ_self _))
      · exact absurd (List.mem_singleton.mp e) (Nat.ne_of_gt ltl)
    have each : ∀ (i : Nat) (v : Value), items[i]? = some v → ∃ p, ks[i]? = some p ∧ v = .ref p.1 := fun i v hv => by
      rw [← Array.getElem?_toList, eit, List.getElem?_map] at hv
      obtain ⟨p, e1, e2⟩ := Option.map_eq_some_iff.mp hv
      exact ⟨p, e1, e2.symm⟩
    refine set_update_tups ((Walks.tuple (A := A.in1.in1.in1) (by simp [free]) _ l farl items).toS) s.heap.objs.size farS ks esz few each s.heap ek (past_none (Nat.le_refl _)) (fun b hb => past_none (by
        rw [List.mem_singleton.mp hb]
        omega)) un (items.size - 0) 0 _ (by omega) (Nat.zero_le _) ⟨⟨_, Heap.get?_push_size _ rfl, rfl, rfl⟩, (isT1.push _)⟩ (fun b o e => Heap.get?_push_of_some _ (Heap.get?_push_of_some _ e)) ⟨[], #[], 0, _, setTR_fresh (Heap.get?_push_of_some _ atS), Got.zero ks⟩ ?_
    intro s' L es ep t mv R' g' kp
    rcases s' with ⟨h', g2, dr', tk', os'⟩
    have q1 : g2 = s.gens := mv.gens
    have q2 : dr' = s.drawn := mv.drawn
    have q3 : os' = s.os := mv.os
    subst q1 q2 q3
    rw [esz] at g'
    exact wpAny_pure (wpAny_pure ⟨rfl, h', tk', L, es, ep, t, rfl, R', g', kp⟩)
  · rcases r2 with e | fl
    · exact hr2
    cases fl <;> first | exact hr2.elim | skip
    obtain ⟨rfl, g, tk, L, es, ep, t, rfl, R', g', kp⟩ := hr2
    repeat (any_goals (first | assumption | wp_step))
    exact out _ _ _ _ _ _ R' g' kp
/-- such a set sorted -/
theorem setT_sorted {a : Addr} {L : List (Addr × List Int)} {es : Array (Int × Value)} {ep : Nat} {t : SetTable} {Q : Value → Shared → Prop} (R : SetTR P w s.heap a L es ep t) (free : A.handled = none) (full : 2 ≤ L.length → ∀ p ∈ L, p.2 ≠ [])
    (hQ : ∀ s' p (out : Array Value) (c : Nat) (M : List (Addr × List Int)), (∀ b o, s.heap.get? b = some o → s'.heap.get? b = some o) → s'.gens = s.gens → s'.os = s.os → s.heap.objs.size ≤ p →
      s'.heap.get? p = some (seqObj "list" out c) → out.toList = M.map (fun q => Value.ref q.1) → M.Perm L → M.Pairwise (fun q r => HT.lexLt r.2 q.2 = false) → Q (.ref p) s') :
    wpAny (model P w) A (call (.builtin "sorted") [.ref a]) Q E s := by
  obtain ⟨o, ho, hex, dat⟩ := R.ob
  have hsz := R.size
  have hfew := R.few
  refine Calls.call_function_entry kind_sorted plain_sorted entry_sorted (args_sorted1 _) ?_
  unfold Builtin.«sorted»
  refine wpAny_bind (m := checkCount "sorted" 1 1 _) (wpAny_pure (wpAny_bind (collect_set (A := A.in1) free ⟨o, ho, hex.1, dat⟩ R.fits (by unfold scanBound; omega) R.tab.ris R.led fun s1 vs old z1 g1 o1 pm => ?_)))
  have ees : es.toList.map (·.2) = L.map fun q => Value.ref q.1 := by
    rw [R.rows, rowsOf, List.map_map]
    rfl
  rw [ees] at pm
  have lay : ∀ us : List Value, (∀ u ∈ us, ∃ q ∈ L, u = Value.ref q.1) → ∃ M : List (Addr × List Int), us = M.map (fun q => Value.ref q.1) ∧ ∀ q ∈ M, q ∈ L := by
    intro us hu
    induction us with
    | nil => exact ⟨[], rfl, fun q hq => nomatch hq⟩
    | cons u us ih =>
      obtain ⟨q, mq, rfl⟩ := hu u (List.mem_cons_self ..)
      obtain ⟨M, rfl, hM⟩ := ih fun x hx => hu x (List.mem_cons_of_mem _ hx)
      refine ⟨q :: M, rfl, fun r hr => ?_⟩
      rcases List.mem_cons.mp hr with rfl | hr
      · exact mq
      · exact hM r hr
  have uniq : ∀ q ∈ L, ∀ r ∈ L, q.1 = r.1 → q = r := fun q hq r hr e => by
    have x1 := R.tup q hq
    rw [e] at x1
    exact Prod.ext e (x1.inj (R.tup r hr))
  have ndL : L.Nodup := nodup_of_map R.nd
  have ndV : (L.map fun q => Value.ref q.1).Nodup := List.pairwise_map.mpr (ndL.imp_of_mem fun {q r} hq hr ne e => ne (uniq q hq r hr (by injection e)))
  have back : ∀ M : List (Addr × List Int), (∀ q ∈ M, q ∈ L) → (M.map (fun q => Value.ref q.1)).Perm (L.map fun q => Value.ref q.1) → M.Perm L := by
    intro M hM pmM
    refine (List.perm_ext_iff_of_nodup (nodup_of_map (pmM.nodup_iff.mpr ndV)) ndL).mpr fun q => ⟨hM q, fun hq => ?_⟩
    obtain ⟨r, hr, e⟩ := List.mem_map.mp (pmM.mem_iff.mpr (List.mem_map.mpr ⟨q, hq, rfl⟩))
    injection e with e
    rw [← uniq r (hM r hr) q hq e]
    exact hr
  have lv : vs.length < 64 := by
    rw [pm.length_eq, List.length_map]
    exact hfew
  refine wpAny_bind (wpAny_newList ?_ (by rw [sizeLine_eq]; omega))
  have atL : (s1.heap.push (seqObj "list" vs.toArray 0)).get? s1.heap.objs.size = some (seqObj "list" vs.toArray 0) := Heap.get?_push_size _ rfl
  have isK : ∀ q ∈ L, IsTI (s1.heap.push (seqObj "list" vs.toArray 0)) (.ref q.1) q.2 := fun q hq => by
    obtain ⟨ob, its, n, h1, h2, h3, h4⟩ := R.tup q hq
    refine ⟨q.1, ob, its.toList, n, rfl, Heap.get?_push_of_some _ (old _ _ h1), h2, h3, ?_⟩
    have va : ∀ {k : List Int} {us : List Value}, ItemsAre (intKind P w) k us → Vals (k.map V.int) us := by
      intro k us hh
      induction hh with
      | nil => exact .nil
      | @cons k0 v ks vs h1 _ ih =>
        obtain ⟨tk, rfl⟩ := Value.isInt_shape h1
        exact .cons ⟨tk, rfl⟩ ih
    exact va h4
  have keyed : ∀ v ∈ vs, ∃ q ∈ L, v = Value.ref q.1 := fun v hv => by
    obtain ⟨q, hq, e⟩ := List.mem_map.mp (pm.mem_iff.mp hv)
    exact ⟨q, hq, e.symm⟩
  have kOf : ∀ q ∈ L, keyTI (s1.heap.push (seqObj "list" vs.toArray 0)) (.ref q.1) = q.2 := fun q hq => keyTI_of (isK q hq)
  have hs : wpAny (model P w) A.in1 (call (.builtin "list.sort") [.ref s1.heap.objs.size]) (fun _ s2 => ∃ out : List Value, SrtO.Srtd (fun v u => HT.lexLt (keyTI (s1.heap.push (seqObj "list" vs.toArray 0)) v) (keyTI (s1.heap.push (seqObj "list" vs.toArray 0)) u)) out ∧ out.Perm vs ∧
      s2 = { s1 with heap := sortedHeap (s1.heap.push (seqObj "list" vs.toArray 0)) s1.heap.objs.size vs out.toArray }) E { s1 with heap := s1.heap.push (seqObj "list" vs.toArray 0) } := by
    refine wpAny_call_entry slot_list_sort ⟨_, atL, rfl⟩ entry_list_sort (SrtO.list_sort_ord (NtL.swo_lexL _) atL (by rw [sizeLine_eq]; omega) (fun h2 => ?_) fun out a1 a2 => ⟨_, rfl, out, a1, a2.perm, rfl⟩) (args_list_sort _)
    refine ti_sortable (by omega) (fun v hv => ?_) fun ob hob => ?_
    · obtain ⟨q, hq, rfl⟩ := keyed v hv
      rw [kOf q hq]
      exact ⟨isK q hq, full (by rw [pm.length_eq, List.length_map] at h2; omega) q hq⟩
    · rw [atL] at hob
      cases hob
      show (Value.type "list") ≠ Value.type "tuple"
      decide
  refine wpAny_bind (wpAny_holding (wpAny_mono hs ?_ fun _ _ h => h))
  rintro _ _ ⟨out, a1, a2, rfl⟩
  obtain ⟨c, hc⟩ := sortedHeap_at (vs := vs) (out := out.toArray) atL
  obtain ⟨M, eM, hM⟩ := lay out fun v hv => keyed v (a2.mem_iff.mp hv)
  have pM : M.Perm L := back M hM (by rw [← eM]; exact a2.trans pm)
  refine wpAny_pure ⟨_, rfl, hQ _ s1.heap.objs.size out.toArray c M (fun b u e => ?_) g1 o1 z1 hc eM pM ?_⟩
  · have lt := Heap.lt_size (old b u e)
    show (sortedHeap (s1.heap.push (seqObj "list" vs.toArray 0)) s1.heap.objs.size vs out.toArray).get? b = some u
    rw [sortedHeap_old (Nat.ne_of_lt lt) (by rw [size_push']; exact Nat.lt_succ_of_lt lt)]
    exact Heap.get?_push_of_some _ (old b u e)
  · rw [eM] at a1
    refine (List.pairwise_map.mp a1).imp_of_mem fun {q r} hq hr h => ?_
    dsimp only at h
    rw [kOf q (hM q hq), kOf r (hM r hr)] at h
    exact h
end
section
variable {X : Cx}
/-- set(xs), xs a tuple of tuples of ints -/
def rSetTT (K : PySem.W.Frag) (P : Program) (w : World) : List V → Hp → VK → Prop := fun xs H Q => ∃ (l : Addr) (ks : List (Addr × List Int)), xs = [V.ref l] ∧ SqT K H l (ks.map fun p => V.ref p.1) ∧ (∀ p ∈ ks, SqT K H p.1 (p.2.map V.int)) ∧ ks.length < 64 ∧
  ∀ a L, H a = none → (∀ p ∈ L, p ∈ ks) → (∀ p ∈ ks, p.2 ∈ L.map (·.2)) → Q (.ref a) (upd H a (SetTO P w a L))
theorem cr_setTT (hc : X.calm = true) (hu : X.A.units + 64 < cLine) : CallR X (.type "set") (rSetTT X.K X.prog X.w) := by
  intro pins s σ H xs us Q I r h
  obtain ⟨l, ks, rfl, hl, hk, hf, q⟩ := h
  rw [Vals.ref1 r]
  obtain ⟨its, rv, pl, hz⟩ := I.tuple hl
  refine set_tupT (P := X.prog) (w := X.w) ks (I.ok.hd hc) pl (by simpa using refs_of_vals rv) (fun p hp => I.isT (hk p hp)) hf (by omega) fun g tk L es ep t R gt kp => ?_
  refine ⟨.ref s.heap.objs.size, _, I.laid (t' := tk) kp (Nat.le_refl _) (setTO_new R.t0), rfl, q _ L (I.hok.fresh (Nat.le_refl _)) (fun p hp => List.mem_of_mem_take (gt.sub p hp)) fun p hp => gt.all p ?_⟩
  rw [List.take_length]
  exact hp
/-- sorted(set) -/
def rSortSet (K : PySem.W.Frag) (P : Program) (w : World) : List V → Hp → VK → Prop := fun vs H Q => ∃ (a : Addr) (L : List (Addr × List Int)), vs = [V.ref a] ∧ H a = some (SetTO P w a L) ∧ (∀ p ∈ L, SqT K H p.1 (p.2.map V.int) ∧ p.2 ≠ []) ∧
  ∀ (M : List (Addr × List Int)) (p : Addr), M.Perm L → (M.map (·.2)).Nodup → M.Pairwise (fun q r => HT.lexLt r.2 q.2 = false) → M.length < 64 → H p = none → Q (.ref p) (upd H p (.lst (M.map fun q => V.ref q.1)))
theorem cr_sortSet (hc : X.calm = true) : CallR X (.builtin "sorted") (rSortSet X.K X.prog X.w) := by
  intro pins s σ H vs us Q I r h
  obtain ⟨a, L, rfl, ha, hk, q⟩ := h
  have R0 : SetT0 X.prog X.w s.heap a L := (I.hok a _ ha).1
  obtain ⟨es, ep, t, R⟩ := R0.full fun p hp => I.isT (hk p hp).1
  rw [Vals.ref1 r]
  refine setT_sorted R (I.ok.hd hc) (fun _ p hp => (hk p hp).2) fun s' p out c M old g o hp hg eo pm pw => ?_
  have lM : M.length < 64 := by
    rw [pm.length_eq]
    exact R.few
  have fresh : H p = none := I.hok.fresh hp
  have J : L2.Inv X pins σ (upd H p (.lst (M.map fun q => V.ref q.1))) { s with heap := s'.heap, gens := s'.gens, drawn := s'.drawn, toks := s'.toks } :=
    I.call (ch := []) (Un.laid old hp fresh) (I.hok.laid old hp ⟨by rw [List.length_map, sizeLine_eq]; omega, out.toList, c, by rw [eo]; exact vals_of_refs M, hg⟩) (by rw [g]; exact I.bare) (fun _ z => nomatch z)
  have es : s' = { s with heap := s'.heap, gens := s'.gens, drawn := s'.drawn, toks := s'.toks } := by
    cases s'
    cases s
    cases o
    rfl
  rw [es]
  exact ⟨.ref p, _, J, rfl, q M p pm ((pm.map (·.2)).nodup_iff.mpr R.nd) pw lM fresh⟩
/-- the same, where a set of two or more has no empty tuple -/
def rSortSZ (K : PySem.W.Frag) (P : Program) (w : World) : List V → Hp → VK → Prop := fun vs H Q => ∃ (a : Addr) (L : List (Addr × List Int)), vs = [V.ref a] ∧ H a = some (SetTO P w a L) ∧ (∀ p ∈ L, SqT K H p.1 (p.2.map V.int)) ∧ ((L.map (·.2)).Nodup → 2 ≤ L.length → ∀ p ∈ L, p.2 ≠ []) ∧
  ∀ (M : List (Addr × List Int)) (p : Addr), M.Perm L → (M.map (·.2)).Nodup → M.Pairwise (fun q r => HT.lexLt r.2 q.2 = false) → M.length < 64 → H p = none → Q (.ref p) (upd H p (.lst (M.map fun q => V.ref q.1)))
theorem cr_sortSZ (hc : X.calm = true) : CallR X (.builtin "sorted") (rSortSZ X.K X.prog X.w) := by
  intro pins s σ H vs us Q I r h
  obtain ⟨a, L, rfl, ha, hk, full, q⟩ := h
  have R0 : SetT0 X.prog X.w s.heap a L := (I.hok a _ ha).1
  obtain ⟨es, ep, t, R⟩ := R0.full fun p hp => I.isT (hk p hp)
  rw [Vals.ref1 r]
  refine setT_sorted R (I.ok.hd hc) (full R.nd) fun s' p out c M old g o hp hg eo pm pw => ?_
  have lM : M.length < 64 := by
    rw [pm.length_eq]
    exact R.few
  have fresh : H p = none := I.hok.fresh hp
  have J : L2.Inv X pins σ (upd H p (.lst (M.map fun q => V.ref q.1))) { s with heap := s'.heap, gens := s'.gens, drawn := s'.drawn, toks := s'.toks } :=
    I.call (ch := []) (Un.laid old hp fresh) (I.hok.laid old hp ⟨by rw [List.length_map, sizeLine_eq]; omega, out.toList, c, by rw [eo]; exact vals_of_refs M, hg⟩) (by rw [g]; exact I.bare) (fun _ z => nomatch z)
  have es : s' = { s with heap := s'.heap, gens := s'.gens, drawn := s'.drawn, toks := s'.toks } := by
    cases s'
    cases s
    cases o
    rfl
  rw [es]
  exact ⟨.ref p, _, J, rfl, q M p pm ((pm.map (·.2)).nodup_iff.mpr R.nd) pw lM fresh⟩
end
end Rp
/-! Dw: walks over a dict whose keys are tuples of ints: its keys, its items. The dict is locked meanwhile. -/
namespace Rp
open PySem PySem.Spec L2 PyProof.Rows
theorem rel_get {rs : List DRow} {xs : List (List Key × Addr × Value)} (rel : RelD rs xs) : ∀ {i : Nat} {k : List Int} {b : Addr} {v : V}, rs[i]? = some (k, b, v) → ∃ q, xs[i]? = some q ∧ q.1 = ik k ∧ q.2.1 = b ∧ RelV v q.2.2 := by
  induction rel with
  | nil => intro i k b v hi; cases hi
  | @cons p q ps qs h t ih =>
    intro i k b v hi
    cases i with
    | zero =>
      have hi : some p = some (k, b, v) := hi
      obtain rfl := Option.some.inj hi
      exact ⟨q, rfl, h⟩
    | succ i => exact ih (by simpa using hi)
theorem frzD {X : Cx} {pins : List (Addr × Obj)} {σ : L2.St} {H : Hp} {s : Shared} {d : Addr} {o : Obj} {rs : List DRow} (I : Inv X pins σ H s) (e : H d = some (.frz o (DtO X.prog X.w d rs))) :
    (d == sysModules) = false ∧ s.heap.get? d = some o ∧ o.ExactDict ∧ ∃ (es : Array DictEntry) (ep : Nat), o.data = .dict es ep ∧ es.size = rs.length ∧
      ∀ (i : Nat) (k : List Int) (b : Addr) (v : V), rs[i]? = some (k, b, v) → ∃ en : DictEntry, es[i]? = some en ∧ en.key = .ref b ∧ RelV v en.val := by
  obtain ⟨h0, ⟨z1, z2, xs, rel, nd, es, ep, o', h1, h2, h3, h4⟩, _, _⟩ := (show ObjOk X.prog X.w H s.heap d (.frz o (.ext (DHolds X.prog X.w d rs))) from I.hok d _ e)
  rw [h0] at h1
  obtain rfl := Option.some.inj h1
  refine ⟨z2, h0, h2, es, ep, h3, ?_, fun i k b v hi => ?_⟩
  · rw [← Array.length_toList, h4, List.length_map, ← Paired.length rel]
  · obtain ⟨q, hq, e1, e2, e3⟩ : ∃ q, xs[i]? = some q ∧ q.1 = ik k ∧ q.2.1 = b ∧ RelV v q.2.2 := by
      exact rel_get rel hi
    refine ⟨entryOfKey (tupleKind (mixKind X.prog X.w)) q, ?_, ?_, ?_⟩
    · rw [← Array.getElem?_toList, h4, List.getElem?_map, hq]
      rfl
    · show Value.ref q.2.1 = _
      rw [e2]
    · exact e3
/-- its keys' own tuples, in their order -/
def Itdk (P : Program) (w : World) (d : Addr) (o : Obj) (rs : List DRow) : It :=
  ⟨fun i H => H d = some (.frz o (DtO P w d rs)) ∧ i < rs.length, fun i H x H' => H' = H ∧ ∃ (k : List Int) (b : Addr) (v : V), rs[i]? = some (k, b, v) ∧ x = .ref b, fun i H => H d = some (.frz o (DtO P w d rs)) ∧ rs.length ≤ i⟩
/-- its pairs, each a new tuple -/
def Itdi (P : Program) (w : World) (d : Addr) (o : Obj) (rs : List DRow) : It :=
  ⟨fun i H => H d = some (.frz o (DtO P w d rs)) ∧ i < rs.length, fun i H x H' => ∃ (T : Addr) (k : List Int) (b : Addr) (v : V), rs[i]? = some (k, b, v) ∧ x = .ref T ∧ H T = none ∧ H' = upd H T (.tup [.ref b, v]), fun i H => H d = some (.frz o (DtO P w d rs)) ∧ rs.length ≤ i⟩
section
variable {P : Program} {w : World} {K : PySem.W.Frag} {tg : Expr} {d : Addr} {o : Obj} {es : Array DictEntry} {ep : Nat}
theorem turn_dk {rs : List DRow} (it : Addr) (hod : o.data = .dict es ep) : Turn P w K tg (Itdk P w d o rs) [it] it (fun i h => h.IsKeyIter it d i rs.length ep) where
  mem := by simp
  obj := fun i h st b hb => by
    have e : b = it := by simpa using hb
    subst e
    obtain ⟨oi, e, c, dd⟩ := st
    exact ⟨oi, e, fun v z => by rw [dd] at z; cases z⟩
  keep := fun i h h' st k => st.at fun oi e => k it (by simp) oi e
  item := by
    intro X hP hw hK hc i pins s σ H E I hf st hg
    subst hP hw hK
    obtain ⟨hd, hi⟩ := hg
    obtain ⟨f0, f1, f2, f3, f4, f5⟩ := hf it (by simp)
    obtain ⟨hs, hgd, hx, es', ep', hdt, hsz, ent⟩ := frzD I hd
    obtain ⟨rfl, rfl⟩ := dict_ep hod hdt
    obtain ⟨⟨k, b, v⟩, hkv⟩ : ∃ p, rs[i]? = some p := ⟨rs[i], List.getElem?_eq_getElem hi⟩
    obtain ⟨en, hen, hkey, hval⟩ := ent i k b v hkv
    refine next_key_item st hgd hdt hsz hen fun h' st' sb => ?_
    have I1 : Inv X pins σ H { s with heap := h' } := I.turned (t' := s.toks) (fun b ob hb e => (sb.2 b hb).trans e) f0 f1 f3 f4 f5
    obtain ⟨oi, e, c, dd⟩ := id st'
    exact ⟨en.key, rfl, go_of (s := { s with heap := h' }) e c dd (by decide) ⟨.ref b, H, I1, hkey, ⟨rfl, k, b, v, hkv, rfl⟩, st', fun b hb => (hf b hb).1⟩⟩
  done := by
    intro X hP hw hK hc i pins s σ H E I hf st hg
    subst hP hw hK
    obtain ⟨hd, hi⟩ := hg
    obtain ⟨f0, f1, f2, f3, f4, f5⟩ := hf it (by simp)
    obtain ⟨hs, hgd, hx, es', ep', hdt, hsz, ent⟩ := frzD I hd
    obtain ⟨rfl, rfl⟩ := dict_ep hod hdt
    exact next_key_end (I.ok.hd hc) st hgd hdt hsz hi fun h' eb => ⟨rfl, I.turned (t' := s.toks) (fun b ob hb e => eb b ob hb e) f0 f1 f3 f4 f5⟩
  self := fun A i s Q E st h => by
    refine wpAny_pyIter_slot st.typeIs F.slot_dict_keyiterator_iter (wpAny_call_entry F.slot_dict_keyiterator_iter st.typeIs F.entry_dict_keyiterator_iter ?_ (F.args_dict_keyiterator_iter_1 _))
    show wpAny _ _ (ret (.ref it)) _ _ s
    exact wpAny_pure ⟨_, rfl, "dict_keyiterator", _, st.typeIs, F.slot_dict_keyiterator_next.lookup, h⟩
theorem turn_di {rs : List DRow} {elts : List Expr} {kk : Nat} {tpos : Pos} (it : Addr) (hod : o.data = .dict es ep) :
    Turn P w K (.Tuple elts kk tpos) (Itdi P w d o rs) [it] it (fun i h => ∃ ok ov, IsItemIter h it d i rs.length ep ok ov) where
  mem := by simp
  obj := fun i h st b hb => by
    have e : b = it := by simpa using hb
    subst e
    obtain ⟨ok, ov, e⟩ := st
    exact ⟨_, e, fun v z => nomatch z⟩
  keep := fun i h h' st k => let ⟨ok, ov, e⟩ := st; ⟨ok, ov, k it (by simp) _ e⟩
  item := by
    intro X hP hw hK hc i pins s σ H E I hf st hg
    subst hP hw hK
    obtain ⟨hd, hi⟩ := hg
    obtain ⟨hs, hgd, hx, es', ep', hdt, hsz, ent⟩ := frzD I hd
    obtain ⟨rfl, rfl⟩ := dict_ep hod hdt
    obtain ⟨⟨k, b, v⟩, hkv⟩ : ∃ p, rs[i]? = some p := ⟨rs[i], List.getElem?_eq_getElem hi⟩
    obtain ⟨en, hen, hkey, hval⟩ := ent i k b v hkv
    obtain ⟨ok, ov, he⟩ := st
    rw [← hsz] at he
    have hlt : it < s.heap.objs.size := Heap.lt_size he
    have hi2 : i < es'.size := by rw [hsz]; exact hi
    have een : es'[i] = en := by
      have := Array.getElem?_eq_getElem hi2
      rw [hen] at this
      exact (Option.some.inj this).symm
    refine DT.nextI he (⟨o, hgd, hx, hdt⟩ : DT.Raw s.heap d es' ep') hi2 fun h' ho hT hz hk => ?_
    rw [een] at ho hT
    refine ⟨_, rfl, wpAny_letOwnedTupleGo_items (s := { s with heap := h' }) ho fun h'' he' sb => ?_⟩
    have hT2 : h''.get? s.heap.objs.size = some { cls := .type "tuple", data := .seq #[en.key, en.val] } := (sb.2 _ (Nat.ne_of_gt hlt)).trans hT
    have new : ObjOk X.prog X.w (upd H s.heap.objs.size (.tup [.ref b, v])) h'' s.heap.objs.size (.tup [.ref b, v]) :=
      ⟨by show 2 ≤ sizeLine; decide, [en.key, en.val], .cons hkey (.cons hval .nil), ⟨_, hT2, rfl, _, rfl⟩⟩
    have I1 : Inv X pins σ (upd H s.heap.objs.size (.tup [.ref b, v])) { s with heap := h'' } :=
      I.turnedNew (t' := s.toks) (ch := [it]) (fun b ob hb e => (sb.2 b (by simpa using hb)).trans (hk b ob (by simpa using hb) e)) hf (Nat.le_refl _) new
    refine ⟨.ref s.heap.objs.size, _, I1, rfl, ⟨_, k, b, v, hkv, rfl, I.hok.fresh (Nat.le_refl _), rfl⟩, ⟨en.key, en.val, ?_⟩, fun b hb => ?_⟩
    · rw [← hsz]; exact he'
    · have e : b = it := by simpa using hb
      rw [e, upd_ne (Nat.ne_of_lt hlt)]
      exact (hf it (by simp)).1
  done := by
    intro X hP hw hK hc i pins s σ H E I hf st hg
    subst hP hw hK
    obtain ⟨hd, hi⟩ := hg
    obtain ⟨f0, f1, f2, f3, f4, f5⟩ := hf it (by simp)
    obtain ⟨hs, hgd, hx, es', ep', hdt, hsz, ent⟩ := frzD I hd
    obtain ⟨rfl, rfl⟩ := dict_ep hod hdt
    obtain ⟨ok, ov, he⟩ := st
    rw [← hsz] at he
    exact DT.endI (I.ok.hd hc) he (⟨o, hgd, hx, hdt⟩ : DT.Raw s.heap d es' ep') (by rw [hsz]; exact hi) fun h' eb => ⟨rfl, I.turned (t' := s.toks) (fun b ob hb e => eb b ob hb e) f0 f1 f3 f4 f5⟩
  self := fun A i s Q E st h => let ⟨_, _, e⟩ := st; PySem.W.kcp_self e h
end
/-- for k in d -/
def iDk (P : Program) (w : World) (td : TE) : TI := fun σ H R => td σ H fun x H1 => ∃ d o rs, x = .ref d ∧ H1 d = some (.frz o (DtO P w d rs)) ∧ R (Itdk P w d o rs) H1
def iDi (P : Program) (w : World) (td : TE) : TI := fun σ H R => td σ H fun x H1 => ∃ d o rs, x = .ref d ∧ H1 d = some (.frz o (DtO P w d rs)) ∧ R (Itdi P w d o rs) H1
section
variable {X : Cx} {tg e : Expr} {td : TE} {apos cpos : Pos}
theorem pi_dk (he : PE X e td) : PI X tg e (iDk X.prog X.w td) := by
  refine ⟨fun pins s σ H R I h => ?_⟩
  refine thn (he.run pins s σ H _ I h) fun u s1 ⟨x, H1, I1, rx, d, o, rs, ex, hd, q⟩ => ?_
  subst ex
  obtain rfl : u = Value.ref d := rx
  obtain ⟨hs, hgd, hx, es, ep, hdt, hsz, ent⟩ := frzD I1 hd
  refine iter_keys hs hgd hx hdt (pi_one (tk := s1.toks) I1 _ (turn_dk _ hdt) ⟨_, Heap.get?_push_size _ rfl, rfl, ?_⟩ q)
  rw [hsz] <;> rfl
theorem pi_di {elts : List Expr} {kk : Nat} {tpos : Pos} (he : PE X e td) (hbase : attributeBase e "items" X.env (eval e X.env) = eval e X.env := by rfl) (hline : (apos.endLine == cpos.line) = true := by rfl) :
    PI X (.Tuple elts kk tpos) (.Call (.Attribute e "items" apos) [] [] cpos) (iDi X.prog X.w td) := by
  refine ⟨fun pins s σ H R I h => ?_⟩
  refine wpAny_Call_method (T := "dict") (id := "dict.items") hbase rfl hline F.plainAttrs_dict F.slot_dict_items F.type_dict_items (thn (he.run pins s σ H _ I h) fun u s1 ⟨x, H1, I1, rx, d, o, rs, ex, hd, q⟩ => ?_)
  subst ex
  obtain rfl : u = Value.ref d := rx
  obtain ⟨hs, hgd, hx, es, ep, hdt, hsz, ent⟩ := frzD I1 hd
  have hm : DT.Raw s1.heap d es ep := ⟨o, hgd, hx, hdt⟩
  refine ⟨hm.typeIs, fun b q => ?_, ?_⟩
  · cases q
    exact ⟨o, hgd, hx.2.1⟩
  have I2 : Inv X pins σ H1 { s1 with heap := s1.heap.push { cls := .type "dict_items", data := .fields #[.ref d] } } := I1.kept (t' := s1.toks) fun b ob q => Heap.get?_push_of_some _ q
  have fin : wpAny (model X.prog X.w) X.A (pyIter (.ref s1.heap.objs.size)) (PIE X pins σ (.Tuple elts kk tpos) R) X.xe { s1 with heap := s1.heap.push { cls := .type "dict_items", data := .fields #[.ref d] } } := by
    refine DT.iterI (d := d) ⟨_, Heap.get?_push_size _ rfl, rfl, rfl⟩ (hm.push _) (pi_one (tk := s1.toks) I2 _ (turn_di _ hdt) ⟨.none, .none, ?_⟩ q)
    rw [← hsz]
    exact Heap.get?_push_size _ rfl
  show wpAny _ _ (callWith cpos (.builtin "dict.items") [.ref d] [] []) _ X.xe s1
  exact method_meetsIn F.slot_dict_items F.entry_dict_items rfl (PySem.evalArgs_none ⟨rfl, hm.typeIs, F.args_dict_items_1 _, _, DT.meetsItems (es := es) (ep := ep) hs, ⟨hm, fin⟩⟩)
end
section
variable {P : Program} {w : World} {d : Addr} {o : Obj} {rs : List DRow}
theorem walk_dk : Walk (Itdk P w d o rs) rs.length (fun H => H d = some (.frz o (DtO P w d rs))) (fun i H x H' => H' = H ∧ ∃ (k : List Int) (b : Addr) (v : V), rs[i]? = some (k, b, v) ∧ x = .ref b) :=
  ⟨fun _ _ hi q => ⟨q, hi⟩, fun _ q => ⟨q, Nat.le_refl _⟩, fun _ _ _ _ _ _ y => y⟩
theorem walk_di : Walk (Itdi P w d o rs) rs.length (fun H => H d = some (.frz o (DtO P w d rs))) (fun i H x H' => ∃ (T : Addr) (k : List Int) (b : Addr) (v : V), rs[i]? = some (k, b, v) ∧ x = .ref T ∧ H T = none ∧ H' = upd H T (.tup [.ref b, v])) :=
  ⟨fun _ _ hi q => ⟨q, hi⟩, fun _ q => ⟨q, Nat.le_refl _⟩, fun _ _ _ _ _ _ y => y⟩
end
/-- a dict made over any walk -/
theorem dtc_it {P : Program} {w : World} {K : PySem.W.Frag} {J : It} {n : Nat} {G : Hp → Prop} {Y : Nat → Hp → V → Hp → Prop} (wk : Walk J n G Y) {g : TG} {tk tv : TE} {vs : List Nat} {σ : L2.St} {H1 : Hp} {D : Addr} {Qd : Hp → Prop} (Pv : Nat → Hp → Prop)
    (h0 : Pv 0 (upd H1 D (DtO P w D []))) (hG : ∀ i H, i ≤ n → Pv i H → G H)
    (hs : ∀ i x H H', i < n → Pv i H → Y i H x H' → g x (wipe σ vs) H' fun σ2 H2 => wipe σ2 vs = wipe σ vs ∧ tk σ2 H2 fun y H4 => tv σ2 H4 fun z H5 => ∃ H6, DLay P w K H5 (.ref D) y z H6 ∧ Pv (i + 1) H6)
    (hd : ∀ H, Pv n H → Qd H) :
    ∃ W : Nat → Nat → Hp → Prop, (∃ m, W 0 m (upd H1 D (DtO P w D []))) ∧ ∀ i m H, W i m H → (J.stop i H ∧ Qd H) ∨ (J.go i H ∧ ∃ Nx : Hp → Prop, (∀ H', Nx H' → ∃ m', m' < m ∧ W (i + 1) m' H') ∧
      ∀ x H', J.yld i H x H' → g x (wipe σ vs) H' fun σ2 H2 => wipe σ2 vs = wipe σ vs ∧ tk σ2 H2 fun y H4 => tv σ2 H4 fun z H5 => ∃ H6, DLay P w K H5 (.ref D) y z H6 ∧ Nx H6) := by
  refine ⟨fun i m H => i ≤ n ∧ m + i = n ∧ Pv i H, ⟨n, Nat.zero_le _, rfl, h0⟩, fun i m H ⟨hi, hm, p⟩ => ?_⟩
  have q := hG i H hi p
  rcases Nat.lt_or_eq_of_le hi with lt | e
  · exact .inr ⟨wk.goes i H lt q, Pv (i + 1), fun H' p' => ⟨m - 1, by omega, lt, by omega, p'⟩, fun x H' y => hs i x H H' lt p (wk.yields i H x H' lt q y)⟩
  · subst e
    exact .inl ⟨wk.stops H q, hd H p⟩
end Rp
/-! Sw: sorted of a tuple of tuples of ints; tuples read at every second place. -/
namespace Rp
open PySem PySem.Spec L2 PyProof.Rows
section
variable {prog : Program} {w : World} {A : Around} {E : Value → Shared → Prop} {s : Shared}
theorem sorted_tupO {l : Addr} {vs : List Value} {ltv : Value → Value → Bool} {Q : Value → Shared → Prop} (O : SrtO.Swo ltv) (hl : s.heap.IsTuple l vs.toArray) (hz : vs.length ≤ sizeLine)
    (hS : 2 ≤ vs.length → ∀ (h₁ : Heap) (a : Addr), h₁.get? a = some (seqObj "list" vs.toArray 0) → (∀ b o, s.heap.get? b = some o → b ≠ a ∧ h₁.get? b = some o) → SrtO.SortableO prog w A.in1.in1 { s with heap := h₁ } a vs ltv)
    (h : ∀ (out : List Value) (h1 h' : Heap) (c : Nat), SrtO.Srtd ltv out → out.Perm vs → (∀ b o, s.heap.get? b = some o → h1.get? b = some o) → (∀ b o, h1.get? b = some o → h'.get? b = some o) → h'.get? h1.objs.size = some (seqObj "list" out.toArray c) → Q (.ref h1.objs.size) { s with heap := h' }) :
    wpAny (model prog w) A (call (.builtin "sorted") [.ref l]) Q E s := by
  obtain ⟨o, ho, hc, n, hd⟩ := id hl
  refine Calls.call_function_entry kind_sorted plain_sorted entry_sorted (args_sorted1 _) ?_
  unfold Builtin.«sorted»
  refine wpAny_bind (m := checkCount "sorted" 1 1 _) (wpAny_pure ?_)
  refine wpAny_bind (wpAny_collect_seq l (.inr rfl) ho hc hd (fun h' k => ?_) (by rw [List.size_toArray]; exact hz))
  refine wpAny_bind (wpAny_newList ?_ hz)
  have atL : (h'.push (seqObj "list" vs.toArray 0)).get? h'.objs.size = some (seqObj "list" vs.toArray 0) := Heap.get?_push_size _ rfl
  have keep : ∀ b o, s.heap.get? b = some o → b ≠ h'.objs.size ∧ (h'.push (seqObj "list" vs.toArray 0)).get? b = some o := fun b o e =>
    ⟨Nat.ne_of_lt (Heap.lt_size (k b o e)), Heap.get?_push_of_some _ (k b o e)⟩
  have hs : wpAny (model prog w) A.in1 (call (.builtin "list.sort") [.ref h'.objs.size]) (fun _ s2 => ∃ out : List Value, SrtO.Srtd ltv out ∧ out.Perm vs ∧
      s2 = { s with heap := sortedHeap (h'.push (seqObj "list" vs.toArray 0)) h'.objs.size vs out.toArray }) E { s with heap := h'.push (seqObj "list" vs.toArray 0) } :=
    wpAny_call_entry slot_list_sort ⟨_, atL, rfl⟩ entry_list_sort (SrtO.list_sort_ord O atL hz (fun h2 => hS h2 _ _ atL keep) fun out a1 a2 => ⟨_, rfl, out, a1, a2.perm, rfl⟩) (args_list_sort _)
  refine wpAny_bind (wpAny_holding (wpAny_mono hs ?_ fun _ _ h => h))
  rintro _ _ ⟨out, a1, a2, rfl⟩
  obtain ⟨c, hc'⟩ := sortedHeap_at (vs := vs) (out := out.toArray) atL
  refine wpAny_pure ⟨_, rfl, h out h' _ c a1 a2 k (fun b u e => ?_) hc'⟩
  have lt := Heap.lt_size e
  rw [sortedHeap_old (Nat.ne_of_lt lt) (by rw [size_push']; exact Nat.lt_succ_of_lt lt)]
  exact Heap.get?_push_of_some _ e
end
section
variable {X : Cx}
/-- sorted of a tuple of non-empty tuples of ints, known by position -/
def rSortTT (K : PySem.W.Frag) : List V → Hp → VK → Prop := fun vs H Q => ∃ (a : Addr) (xs : List V) (ks : List (List Int)), vs = [V.ref a] ∧ SqT K H a xs ∧ KeysT K H xs ks ∧
  ∀ (ys : List V) (ls : List (List Int)) (p : Addr), KeysT K H ys ls → ls.Pairwise (fun x y => HT.lexLt y x = false) → ls.Perm ks → H p = none → Q (.ref p) (upd H p (.lst ys))
theorem cr_sortTT : CallR X (.builtin "sorted") (rSortTT X.K) := by
  intro pins s σ H vs us Q I r h
  obtain ⟨a, xs, ks, rfl, hs, hx, q⟩ := h
  obtain ⟨its, rv, hl, hz⟩ := I.tuple hs
  obtain ⟨u, rfl, ru⟩ := vals1 r
  cases ru
  obtain ⟨ek, hti, e1, e2⟩ := keysT_vals I hx rv
  have hlen : xs.length = its.length := rv.length
  refine sorted_tupO (ltv := fun v u => HT.lexLt (keyTI s.heap v) (keyTI s.heap u)) (NtL.swo_lexL _) hl (by rw [← hlen]; exact hz) (fun h2 h₁ b hb hk => ?_) (fun out h0 h' c h1 h2 old old2 he => ?_)
  · refine ti_sortable (by omega) (fun v hv => ⟨ti_keeps (hti v hv).1 fun c o e _ => (hk c o e).2, (hti v hv).2⟩) (fun o ho => ?_)
    rw [hb] at ho
    cases ho
    show (Value.type "list") ≠ Value.type "tuple"
    decide
  · have h3 : ∀ u ∈ out, ∃ t, u = Value.ref t := fun u hu => e2 u (h2.mem_iff.mp hu)
    have kk : KeysT X.K H (out.map backV) (out.map (keyTI s.heap)) := by
      have g : ∀ (l m : List Value), (∀ v ∈ l, v ∈ m) → (∀ v ∈ m, ∃ t, v = Value.ref t) → KeysT X.K H (m.map backV) (m.map (keyTI s.heap)) → KeysT X.K H (l.map backV) (l.map (keyTI s.heap)) := by
        intro l m hl hr hk
        have one : ∀ (m : List Value), (∀ v ∈ m, ∃ t, v = Value.ref t) → KeysT X.K H (m.map backV) (m.map (keyTI s.heap)) → ∀ v ∈ m, ∃ t, v = Value.ref t ∧ SqT X.K H t ((keyTI s.heap v).map V.int) ∧ keyTI s.heap v ≠ [] := by
          intro m
          induction m with
          | nil => intro _ _ v hv; cases hv
          | cons u m ih =>
            intro hr hk v hv
            obtain ⟨t, rfl⟩ := hr u (List.mem_cons_self ..)
            rw [List.map_cons, List.map_cons] at hk
            have hk' : KeysT X.K H (V.ref t :: m.map backV) (keyTI s.heap (.ref t) :: m.map (keyTI s.heap)) := hk
            cases hk' with
            | cons hh ne rr =>
              rcases List.mem_cons.mp hv with rfl | hv
              · exact ⟨t, rfl, hh, ne⟩
              · exact ih (fun v hv => hr v (List.mem_cons_of_mem _ hv)) rr v hv
        induction l with
        | nil => exact .nil
        | cons u l ih =>
          obtain ⟨t, rfl, hh, ne⟩ := one m hr hk u (hl u (List.mem_cons_self ..))
          exact .cons hh ne (ih fun v hv => hl v (List.mem_cons_of_mem _ hv))
      refine g out its (fun v hv => h2.mem_iff.mp hv) e2 ?_
      rw [e1, ek]
      exact hx
    have I1 : L2.Inv X pins σ H { s with heap := h0, toks := s.toks } := I.kept old
    refine ⟨.ref _, upd H _ (.lst (out.map backV)), I1.laid (t' := s.toks) old2 (Nat.le_refl _) ?_, rfl, q _ _ _ kk (List.pairwise_map.mpr h1) ?_ (I1.hok.fresh (Nat.le_refl _))⟩
    · exact ⟨by rw [List.length_map, h2.length_eq, ← hlen]; exact hz, out, c, vals_back h3, he⟩
    · rw [← ek]
      exact h2.map _
end
/-! every second place -/
theorem sliceApplied_step {prog : Program} {w : World} {A : Around} {E : Value → Shared → Prop} {s : Shared} {sl : Addr} {vl vs : Value} {o : Option Int} {n k : Nat} {l h : Int} {Q : Int × Int × Nat → Shared → Prop}
    (hs : s.heap.IsSliceOf sl vl .none vs) (hl : IsPart vl o) (hv : IsPart vs (some 2)) (ea : Builtin.Slice.sliceAdjust o none 2 (n : Int) = (l, h)) (ep : Builtin.Slice.slicePlaces l h 2 = k) (q : Q (l, 2, k) s) :
    wpAny (model prog w) A (Builtin.Slice.sliceApplied (.ref sl) (pure (n : Int))) Q E s := by
  obtain ⟨os, hos, hcs, hds⟩ := hs
  unfold Builtin.Slice.sliceApplied Builtin.Slice.sliceFields
  refine wpAny_bind (wpAny_bind (wpAny_field hos hds rfl (wpAny_bind (wpAny_field hos hds rfl (wpAny_bind (wpAny_field hos hds rfl (wpAny_pure ?_)))))))
  refine wpAny_bind (HT.slicePart_ (o := some 2) hv ?_)
  refine wpAny_bind (HT.slicePart_ (o := o) hl ?_)
  refine wpAny_bind (HT.slicePart_ (o := none) .none ?_)
  refine wpAny_bind (wpAny_pure ?_)
  show wpAny _ _ (match Builtin.Slice.sliceAdjust o none 2 (n : Int) with | (lo, hi) => pure (lo, (2 : Int), Builtin.Slice.slicePlaces lo hi 2)) Q E s
  rw [ea]
  show wpAny _ _ (pure (l, (2 : Int), Builtin.Slice.slicePlaces l h 2)) Q E s
  rw [ep]
  exact wpAny_pure q
theorem getItem_tuple_step {prog : Program} {w : World} {A : Around} {E : Value → Shared → Prop} {s : Shared} {t sl : Addr} {items : Array Value} {vl vs : Value} {o : Option Int} {k : Nat} {l h : Int} {Q : Value → Shared → Prop} (ht : IsTup s.heap t items) (hs : s.heap.IsSliceOf sl vl .none vs) (hl : IsPart vl o) (hv : IsPart vs (some 2))
    (ea : Builtin.Slice.sliceAdjust o none 2 (items.size : Int) = (l, h)) (ep : Builtin.Slice.slicePlaces l h 2 = k)
    (q : Q (.ref s.heap.objs.size) { s with heap := s.heap.push { cls := .type "tuple", data := .seq (List.filterMap (fun m : Nat => items[(l + (m : Int) * 2).toNat]?) (List.range k)).toArray } }) (hz : k ≤ sizeLine) : wpAny (model prog w) A (getItem (.ref t) (.ref sl)) Q E s := by
  obtain ⟨os, hos, hcs, hds⟩ := id hs
  have hTs : s.TypeIs (.ref sl) "slice" := ⟨os, hos, hcs⟩
  unfold getItem
  refine wpAny_holding ?_
  refine wpAny_bind (wpAny_sequenceKey ht.typeIs (by decide) ?_)
  refine wpAny_bind (wpAny_callSpecial?_slot ht.typeIs slot_tuple_getitem ?_)
  refine wpAny_call_entry slot_tuple_getitem ht.typeIs entry_tuple_getitem ?_ (args_tuple_getitem _ _)
  show wpAny _ _ (do
      let xs ← Builtin.Tuple.tupleItemsOf (.ref t)
      let __do_lift ← typeOf (.ref sl)
      if (__do_lift == Value.type "slice") = true then do
          let __x ← Builtin.Slice.sliceApplied (.ref sl) (pure ↑xs.size)
          match __x with
            | (lo, step, n) =>
              have __do_jp := fun __r => do
                let __do_lift ←
                  Builtin.Tuple.tupleExact
                      (List.filterMap (fun k => xs[(lo + ↑k * step).toNat]?) (List.range n)).toArray
                ret __do_lift;
              if (lo == 0 && step == 1 && n == xs.size) = true then do
                let __do_lift ← Builtin.Tuple.tupleIsExact (.ref t)
                if __do_lift = true then do
                    rule "tuple.getitem.whole"
                    ret (.ref t)
                  else __do_jp ()
              else __do_jp ()
        else _) _ _ _
  refine wpAny_bind (tupleItemsOf_ ht ?_)
  refine wpAny_bind (wpAny_typeOf hTs ?_)
  rw [if_pos (by decide)]
  refine wpAny_bind (sliceApplied_step hs hl hv ea ep ?_)
  have hno : ¬ (((l == 0) && ((2 : Int) == 1) && (k == items.size)) = true) := by
    rw [show ((2 : Int) == 1) = false by decide, Bool.and_false, Bool.false_and]
    decide
  show wpAny _ _ (if ((l == 0) && ((2 : Int) == 1) && (k == items.size)) = true then _ else _) _ _ _
  rw [if_neg hno]
  refine wpAny_bind ?_
  unfold Builtin.Tuple.tupleExact
  refine wpAny_newObj_type ?_ ?_
  · exact wpAny_pure ⟨_, rfl, wpAny_pure q⟩
  · show _ ≤ sizeLine
    rw [List.size_toArray]
    refine Nat.le_trans (List.length_filterMap_le _ _) ?_
    rw [List.length_range]
    exact hz
theorem vals_pick {xs : List V} {us : List Value} (r : Vals xs us) (f : Nat → Nat) : ∀ l : List Nat, Vals (l.filterMap fun m => xs[f m]?) (l.filterMap fun m => us[f m]?)
  | [] => .nil
  | m :: l => by
    have ih := vals_pick r f l
    rw [List.filterMap_cons, List.filterMap_cons]
    cases h : xs[f m]? with
    | none =>
      have e : us[f m]? = none := by
        rw [List.getElem?_eq_none_iff] at h ⊢
        rw [← r.length]
        exact h
      rw [e]
      exact ih
    | some x =>
      obtain ⟨u, e, ru⟩ := r.get h
      rw [e]
      exact .cons ru ih
section
variable {X : Cx}
def tStepT (K : PySem.W.Frag) (o : Option Int) (te : TE) : TE := fun σ H Q => te σ H fun x H1 => ∃ (a : Addr) (xs : List V) (l h : Int) (k : Nat), x = V.ref a ∧ SqT K H1 a xs ∧ Builtin.Slice.sliceAdjust o none 2 (xs.length : Int) = (l, h) ∧ Builtin.Slice.slicePlaces l h 2 = k ∧ k ≤ sizeLine ∧
  ∀ p, H1 p = none → Q (.ref p) (upd H1 p (.tup ((List.range k).filterMap fun m : Nat => xs[(l + (m : Int) * 2).toNat]?)))
theorem po_int {i : Int} {c : Nat} {p2 : Pos} : PO X (some (.Constant (.int i) c p2)) fun _ H Q => Q (some i) H :=
  ⟨fun pins s σ H Q I h => (po_some (X := X) pe_int).run pins s σ H Q I ⟨i, rfl, h⟩⟩
theorem pe_stepT {e : Expr} {te : TE} {lo : Option Expr} {o : Option Int} {c : Nat} {p2 p3 pos : Pos} (he : PE X e te) (hl : PO X lo fun _ H Q => Q o H) : PE X (.Subscript e (.Slice lo none (some (.Constant (.int 2) c p2)) p3) pos) (tStepT X.K o te) := by
  refine ⟨fun pins s σ H Q I h => ?_⟩
  refine Subscript_ (thn (he.run pins s σ H _ I h) fun v s1 x => ?_)
  obtain ⟨x1, H1, I1, r1, a, xs, l, hh, k, rfl, hx, ea, ep, hk, q⟩ := x
  cases r1
  have hst : PO X (some (.Constant (.int 2) c p2)) _ := po_some pe_int
  refine wpAny_Slice (thn (hl.run pins s1 σ H1 (fun o' H2 => o' = o ∧ H2 = H1) I1 ⟨rfl, rfl⟩) fun vl s2 x => ?_)
  obtain ⟨l', H2, I2, pl, rfl, rfl⟩ := x
  refine thn ((po_none (X := X)).run pins s2 σ H2 (fun o H3 => o = none ∧ H3 = H2) I2 ⟨rfl, rfl⟩) fun vu s3 x => ?_
  obtain ⟨u, H3, I3, pu, rfl, rfl⟩ := x
  refine thn (hst.run pins s3 σ H3 (fun o H4 => o = some 2 ∧ H4 = H3) I3 ?_) fun vs s4 x => ?_
  · exact ⟨2, rfl, rfl, rfl⟩
  obtain ⟨st, H4, I4, pst, rfl, rfl⟩ := x
  cases pu
  have I5 := I4.kept (h' := s4.heap.push { cls := Value.type "slice", data := Data.fields #[vl, Value.none, vs] }) (t' := s4.toks) (fun b u h => Heap.get?_push_of_some _ h)
  obtain ⟨its, hvals, ht, hz⟩ := I5.tuple hx
  have hlen : xs.length = its.length := hvals.length
  refine tail_any ht.typeIs slot_tuple_getitem.lookup (getItem_tuple_step ht (Heap.IsSliceOf.new ..) pl pst (by rw [List.size_toArray, ← hlen]; exact ea) ep ?_ hk) rfl
  have lk : ((List.range k).filterMap fun m : Nat => xs[(l + (m : Int) * 2).toNat]?).length ≤ sizeLine := by
    refine Nat.le_trans (List.length_filterMap_le _ _) ?_
    rw [List.length_range]
    exact hk
  refine ⟨.ref _, upd H4 _ (.tup ((List.range k).filterMap fun m : Nat => xs[(l + (m : Int) * 2).toNat]?)), I5.laid (fun b u h => Heap.get?_push_of_some _ h) (Nat.le_refl _) ?_, rfl, q _ (I5.hok.fresh (Nat.le_refl _))⟩
  unfold ObjOk
  have ef : (fun m : Nat => its.toArray[(l + (m : Int) * 2).toNat]?) = fun m : Nat => its[(l + (m : Int) * 2).toNat]? := by
    funext m
    simp
  rw [ef]
  refine ⟨lk, (List.range k).filterMap fun m : Nat => its[(l + (m : Int) * 2).toNat]?, vals_pick hvals (fun m => (l + (m : Int) * 2).toNat) _, _, Heap.get?_push_size _ (o := { cls := Value.type "tuple", data := Data.seq (List.filterMap (fun m : Nat => its[(l + (m : Int) * 2).toNat]?) (List.range k)).toArray }) rfl, rfl, _, rfl⟩
end
end Rp
/-! Rl: written data (ints, texts, None, tuples, lists, names of data) as one step; as Rd, but over Dp, and it asks nothing of the heap. -/
namespace Rp
open PySem L2 PyProof.Rows
/-- data held in slots -/
def Ns (K : PySem.W.Frag) (E : List (Nat × PyData)) (σ : L2.St) (H : Hp) : Prop := ∀ e ∈ E, ∃ v, σ[e.1]? = some (some v) ∧ Dp K H v e.2
theorem Ns.same {K : PySem.W.Frag} {E : List (Nat × PyData)} {σ : L2.St} {H H' : Hp} (h : Ns K E σ H) (s : Same H H') : Ns K E σ H' := fun e he => by
  obtain ⟨v, h1, h2⟩ := h e he
  exact ⟨v, h1, dp_same s h2⟩
theorem Ns.nil {K : PySem.W.Frag} {σ : L2.St} {H : Hp} : Ns K [] σ H := fun e he => by cases he
theorem Ns.cons {K : PySem.W.Frag} {E : List (Nat × PyData)} {σ : L2.St} {H : Hp} {i : Nat} {v : V} {d : PyData} (h : σ[i]? = some (some v)) (hd : Dp K H v d) (t : Ns K E σ H) : Ns K ((i, d) :: E) σ H := fun e he => by
  rcases List.mem_cons.mp he with rfl | he
  · exact ⟨v, h, hd⟩
  · exact t e he
def tW (K : PySem.W.Frag) (E : List (Nat × PyData)) (d : PyData) : TE := fun σ H Q => Ns K E σ H ∧ ∀ (H' : Hp) (v : V), Same H H' → Dp K H' v d → Q v H'
def tWs (K : PySem.W.Frag) (E : List (Nat × PyData)) (ds : List PyData) : TA := fun σ H Q => Ns K E σ H ∧ ∀ (H' : Hp) (vs : List V), Same H H' → DpAll K H' vs ds → Q vs H'
section
variable {X : Cx} {E : List (Nat × PyData)}
theorem pw_mono {e : Expr} {t t' : TE} (h : PE X e t) (f : ∀ σ H Q, t' σ H Q → t σ H Q) : PE X e t' := ⟨fun pins s σ H Q I z => h.run pins s σ H Q I (f σ H Q z)⟩
theorem pws_mono {es : List Expr} {t t' : TA} (h : PA X es t) (f : ∀ σ H Q, t' σ H Q → t σ H Q) : PA X es t' := ⟨fun pos pins s σ H Q I z => h.run pos pins s σ H Q I (f σ H Q z)⟩
theorem pw_int {e : Expr} {t : TE} {m n : Int} (h : PE X e t) (hm : m = n) (f : ∀ σ H (Q : VK), Q (.int m) H → t σ H Q) : PE X e (tW X.K E (.int n)) := by
  refine pw_mono h fun σ H Q z => f σ H Q ?_
  obtain ⟨_, q⟩ := z
  subst hm
  exact q H _ (Same.refl _) (.int _)
theorem pw_str {x : Str} {j : Nat} {pos : Pos} : PE X (.Constant (.str x) j pos) (tW X.K E (.str x)) :=
  pw_mono pe_str fun σ H Q ⟨_, q⟩ => q H _ (Same.refl _) (.str _)
theorem pw_non {j : Nat} {pos : Pos} : PE X (.Constant .none j pos) (tW X.K E .none) :=
  pw_mono pe_non fun σ H Q ⟨_, q⟩ => q H _ (Same.refl _) .non
theorem pw_bl {b : Bool} {j : Nat} {pos : Pos} : PE X (.Constant (.bool b) j pos) (tW X.K E (.bool b)) :=
  pw_mono pe_bl fun σ H Q ⟨_, q⟩ => q H _ (Same.refl _) (.bl _)
theorem pw_var {e : Expr} {i : Nat} {d : PyData} (h : PE X e (tVar i)) (m : (i, d) ∈ E) : PE X e (tW X.K E d) := by
  refine pw_mono h fun σ H Q z => ?_
  obtain ⟨n, q⟩ := z
  obtain ⟨v, h1, h2⟩ := n _ m
  exact ⟨v, h1, q H _ (Same.refl _) h2⟩
theorem pws_nil : PA X [] (tWs X.K E []) :=
  pws_mono pa_nil fun σ H Q ⟨_, q⟩ => q H _ (Same.refl _) .nil
theorem pws_cons {e : Expr} {es : List Expr} {d : PyData} {ds : List PyData} (h : PE X e (tW X.K E d)) (t : PA X es (tWs X.K E ds)) (hs : starEach (e :: es) X.env = (false, eval e X.env) :: starEach es X.env := by rfl) : PA X (e :: es) (tWs X.K E (d :: ds)) := by
  refine pws_mono (pa_cons h t hs) fun σ H Q z => ?_
  obtain ⟨n, q⟩ := z
  exact ⟨n, fun H' v s hd => ⟨n.same s, fun H2 vs s2 hvs => q H2 _ (s.trans s2) (.cons (dp_same s2 hd) hvs)⟩⟩
theorem pw_tup {es : List Expr} {ds : List PyData} {k : Nat} {pos : Pos} (h : PA X es (tWs X.K E ds)) (hl : ds.length ≤ 1000) : PE X (.Tuple es k pos) (tW X.K E (.tuple ds)) := by
  refine pw_mono (pe_tup h) fun σ H Q z => ?_
  obtain ⟨n, q⟩ := z
  refine ⟨n, fun H' vs s hvs => ⟨small (by rw [dpAll_length hvs]; exact hl), fun t ht => ?_⟩⟩
  obtain ⟨s2, hd⟩ := tup_fresh ht hvs
  exact q _ _ (s.trans s2) hd
theorem pw_lst {es : List Expr} {ds : List PyData} {pos : Pos} (h : PA X es (tWs X.K E ds)) (hl : ds.length ≤ 1000) : PE X (.List es pos) (tW X.K E (.list ds)) := by
  refine pw_mono (pe_lst h) fun σ H Q z => ?_
  obtain ⟨n, q⟩ := z
  refine ⟨n, fun H' vs s hvs => ⟨small (by rw [dpAll_length hvs]; exact hl), fun t ht => ?_⟩⟩
  obtain ⟨s2, hd⟩ := lst_fresh ht hvs
  exact q _ _ (s.trans s2) hd
theorem dpAll_repW {K : PySem.W.Frag} {H : Hp} {vs : List V} {ds : List PyData} (h : DpAll K H vs ds) : ∀ k : Nat, DpAll K H (List.replicate k vs).flatten (List.replicate k ds).flatten
  | 0 => .nil
  | k + 1 => by
    simp only [List.replicate_succ, List.flatten_cons]
    exact dpAll_append h (dpAll_repW h k)
theorem pw_rep {a b : Expr} {ds : List PyData} {k : Nat} {pos : Pos} (h : PE X a (tW X.K E (.tuple ds))) (hb : PE X b (tC (.int (k : Int)))) (h2 : 2 ≤ k) (hk : k ≤ 1000) (h0 : ds ≠ []) (hl : ds.length ≤ 1000) :
    PE X (.BinOp a .Mult b pos) (tW X.K E (.tuple (List.replicate k ds).flatten)) := by
  refine pw_mono (pe_op (r := rRepT X.K) op_repT h hb) fun σ H Q z => ?_
  obtain ⟨n, q⟩ := z
  refine ⟨n, fun H' v s hd => ?_⟩
  obtain ⟨l, xs, rfl, hs, hall⟩ := dp_tup_inv hd
  refine ⟨l, _, xs, rfl, rfl, hs, ?_, by omega, by omega, by rw [dpAll_length hall]; exact hl, fun t ht => ?_⟩
  · intro z
    subst z
    cases hall
    exact h0 rfl
  · have e : ((k : Int)).toNat = k := by omega
    rw [e]
    obtain ⟨s2, hd2⟩ := tup_fresh ht (dpAll_repW hall k)
    exact q _ _ (s.trans s2) hd2
theorem pw_cat {a b : Expr} {ds es : List PyData} {pos : Pos} (h : PE X a (tW X.K E (.tuple ds))) (h' : PE X b (tW X.K E (.tuple es))) (hl : ds.length + es.length ≤ 1000) :
    PE X (.BinOp a .Add b pos) (tW X.K E (.tuple (ds ++ es))) := by
  refine pw_mono (pe_op (r := rCatA X.K) op_catA h h') fun σ H Q z => ?_
  obtain ⟨n, q⟩ := z
  refine ⟨n, fun H1 v s1 hd => ⟨n.same s1, fun H2 u s2 hd2 => ?_⟩⟩
  obtain ⟨l, xs, rfl, hs, hall⟩ := dp_tup_inv (dp_same s2 hd)
  obtain ⟨l', ys, rfl, hs', hall'⟩ := dp_tup_inv hd2
  have hlen : xs.length + ys.length ≤ sizeLine := small (by rw [dpAll_length hall, dpAll_length hall']; exact hl)
  have hcat := dpAll_append hall hall'
  refine ⟨l, l', xs, ys, rfl, rfl, hs, hs', hlen, fun z => ?_, fun _ z => ?_, fun _ _ t ht => ?_⟩
  · subst z
    exact q _ _ (s1.trans s2) (.tup hs' hcat)
  · subst z
    rw [List.append_nil] at hcat
    exact q _ _ (s1.trans s2) (.tup hs hcat)
  · obtain ⟨s3, hd3⟩ := tup_fresh ht hcat
    exact q _ _ (s1.trans (s2.trans s3)) hd3
end
end Rp
/-! Dv: dict(a list of pairs), list(d), len(d) of dicts whose keys are tuples of ints; sorted of a tuple of at most one. -/
namespace Rp
open PySem PySem.Spec L2 PyProof.Rows
section
variable {X : Cx} {pins : List (Addr × Obj)} {σ : L2.St} {H : Hp} {s : Shared}
/-- the pair at t is that of the row -/
abbrev PairT (K : PySem.W.Frag) (H : Hp) : Addr → DRow → Prop := fun t r => SqT K H t [.ref r.2.1, r.2.2]
def hrow (p : DRow × Value) : List Key × Addr × Value := (ik p.1.1, p.1.2.1, p.2)
theorem pairs_at (I : Inv X pins σ H s) : ∀ {ts : List Addr} {rs : List DRow}, Paired (PairT X.K H) ts rs → ∃ us : List Value, us.length = rs.length ∧ RelD rs ((rs.zip us).map hrow) ∧
    ∀ (j : Nat) (t : Addr), ts[j]? = some t → ∃ (p : DRow) (u : Value), rs[j]? = some p ∧ us[j]? = some u ∧ PairAt s.heap t (.ref p.2.1) u
  | _, _, .nil => ⟨[], rfl, .nil, fun j t h => by cases h⟩
  | t :: ts, r :: rs, .cons h q => by
    obtain ⟨us, lu, rel, at'⟩ := pairs_at I q
    obtain ⟨its, hv, ht⟩ := isTuple_of I h
    obtain ⟨its⟩ := its
    cases hv with
    | cons h1 hv =>
    cases hv with
    | @cons _ u _ _ h2 hv =>
    cases hv
    have h1' := h1
    obtain rfl := h1'
    refine ⟨u :: us, by simp [lu], .cons ⟨rfl, rfl, h2⟩ rel, fun j t' hj => ?_⟩
    cases j with
    | zero =>
      have hj : some t = some t' := hj
      obtain rfl := Option.some.inj hj
      exact ⟨r, u, rfl, rfl, .inl ht⟩
    | succ j => exact at' j t' (by simpa using hj)
theorem stored_new {K : Type} [DecidableEq K] : ∀ (ps acc : List (K × Addr × Value)), ((acc ++ ps).map (·.1)).Nodup → storedAllH acc ps = acc ++ ps
  | [], acc, _ => by simp [storedAllH]
  | p :: ps, acc, nd => by
    have hno : (atKey acc p.1).isSome = false := by
      have : atKey acc p.1 = none := by
        unfold atKey
        rw [Option.map_eq_none_iff, List.find?_eq_none]
        intro x hx
        have nd' := nd
        rw [List.map_append, List.nodup_append] at nd'
        have := nd'.2.2 x.1 (List.mem_map.mpr ⟨x, hx, rfl⟩) p.1 (List.mem_map.mpr ⟨p, List.mem_cons_self .., rfl⟩)
        simpa using this
      rw [this]
      rfl
    have e : storedH acc p.1 p.2.1 p.2.2 = acc ++ [p] := by
      unfold storedH
      rw [hno]
      rfl
    have ih := stored_new ps (acc ++ [p]) (by rw [List.append_assoc]; exact nd)
    unfold storedAllH at ih ⊢
    rw [List.foldl_cons, e, ih, List.append_assoc]
    rfl
def rDictPs (K : PySem.W.Frag) (P : Program) (w : World) : List V → Hp → VK → Prop := fun vs H Q => ∃ (l : Addr) (ts : List Addr) (rs : List DRow), vs = [V.ref l] ∧ SqL K H l (ts.map V.ref) ∧ Paired (PairT K H) ts rs ∧ KeysAt K H rs ∧ (rs.map (·.1)).Nodup ∧
  ∀ a, H a = none → Q (.ref a) (upd H a (DtO P w a rs))
theorem cr_dictPs (hc : X.calm = true) (hu : X.A.units + 66 < cLine) : CallR X (.type "dict") (rDictPs X.K X.prog X.w) := by
  intro pins s σ H xs us Q I r h
  obtain ⟨l, ts, rs, rfl, hl, hp, hk, nd, q⟩ := h
  rw [Vals.ref1 r]
  obtain ⟨its, rv, pl, hz⟩ := I.list hl
  obtain ⟨us, lu, rel, at'⟩ := pairs_at I hp
  have lt : ts.length = rs.length := Paired.length hp
  have eits : its = ts.map Value.ref := by
    have g : ∀ (ts : List Addr) (its : List Value), Vals (ts.map V.ref) its → its = ts.map Value.ref := by
      intro ts
      induction ts with
      | nil => intro its h; cases h; rfl
      | cons t ts ih =>
        intro its h
        cases h with
        | @cons _ u _ us' h t =>
        have h' : u = Value.ref _ := h
        rw [h', ih _ t]
        rfl
    exact g ts its rv
  rw [List.length_map] at hz
  have lp : ((rs.zip us).map hrow).length = rs.length := by rw [List.length_map, List.length_zip, lu, Nat.min_self]
  -- the pairs as values
  have A := PairArg.list (prog := X.prog) (w := X.w) l its.toArray (fun j => ts[j]?.getD 0) ((rs.zip us).map fun p => (Value.ref p.1.2.1, p.2))
  have keys : ((rs.zip us).map hrow).map (·.1) = rs.map fun r => ik r.1 := by
    rw [List.map_map]
    have : ((rs.zip us).map (·.1)) = rs := by rw [List.map_fst_zip]; omega
    conv => rhs; rw [← this]
    rw [List.map_map]
    rfl
  have ndk : (((rs.zip us).map hrow).map (·.1)).Nodup := by
    rw [keys]
    have : rs.map (fun r => ik r.1) = (rs.map (·.1)).map ik := by rw [List.map_map]; rfl
    rw [this]
    exact List.Pairwise.map _ (fun a b h e => h (ik_inj e)) nd
  refine call_dict_pairsH (knd := tupleKind (mixKind X.prog X.w)) (ps := (rs.zip us).map hrow) A (I.ok.hd hc) (tupleKind_room_in1 (by show X.A.in1.units + 1 < cLine; simp only [Around.in1]; omega)) ?_ ?_ ?_ ?_ fun h' tk dd kp => ?_
  · refine ⟨pl, by rw [eits, List.length_map, List.size_toArray, List.length_map, List.length_zip, lu, Nat.min_self, lt], fun j k v hj => ?_⟩
    rw [List.getElem?_map] at hj
    obtain ⟨⟨p, u⟩, hz2, e⟩ := Option.map_eq_some_iff.mp hj
    obtain ⟨rfl, rfl⟩ := Prod.mk.inj e
    rw [List.getElem?_zip_eq_some] at hz2
    obtain ⟨hp2, hu2⟩ := hz2
    have jl := (List.getElem?_eq_some_iff.mp hp2).1
    obtain ⟨t, ht⟩ : ∃ t, ts[j]? = some t := ⟨ts[j], List.getElem?_eq_getElem (by omega)⟩
    obtain ⟨p', u', e1, e2, e3⟩ := at' j t ht
    rw [hp2] at e1
    rw [hu2] at e2
    obtain rfl := Option.some.inj e1
    obtain rfl := Option.some.inj e2
    refine ⟨?_, by show PairAt _ (ts[j]?.getD 0) _ _; rw [ht]; exact e3⟩
    rw [eits]
    simp only [List.getElem?_toArray, List.getElem?_map, ht]
    rfl
  · refine ⟨by rw [lp, List.length_map, List.length_zip, lu, Nat.min_self], fun i key v hi => ?_⟩
    rw [PairRel, List.getElem?_map] at hi
    obtain ⟨⟨p, u⟩, hz2, e⟩ := Option.map_eq_some_iff.mp hi
    obtain ⟨rfl, rfl⟩ := Prod.mk.inj e
    exact ⟨ik p.1, p.2.1, by rw [List.getElem?_map, hz2]; rfl, rfl⟩
  · intro h2 keep x hx
    obtain ⟨⟨p, u⟩, hpu, rfl⟩ := List.mem_map.mp hx
    obtain ⟨o, its2, n, h1, h2', h3, h4⟩ := key_sq I (hk p (List.of_mem_zip hpu).1)
    refine ⟨o, its2, n, keep _ _ (Nat.ne_of_lt (Heap.lt_size h1)) (by simp) h1, h2', h3, h4⟩
  · rw [List.length_map, List.length_zip, lu, Nat.min_self]
    omega
  · rw [stored_new _ _ (by simpa using ndk), List.nil_append] at dd
    obtain ⟨o, es, ep, d1, d2, d3, d4, d5, d6⟩ := dd
    refine ⟨.ref s.heap.objs.size, _, I.laid (t' := tk) (fun b u hb => kp b u (by simp) hb) (Nat.le_refl _) (dtO_ok (rs := rs) ⟨by omega, ?_, _, rel, d6, es, ep, o, d1, d2, d3, d4⟩), rfl, q _ (I.hok.fresh (Nat.le_refl _))⟩
    exact beq_eq_false_iff_ne.mpr (Ne.symm (Nat.ne_of_lt I.big))
theorem vals_of_get : ∀ {xs : List V} {us : List Value}, xs.length = us.length → (∀ (i : Nat) (x : V), xs[i]? = some x → ∃ u : Value, us[i]? = some u ∧ RelV x u) → Vals xs us
  | [], [], _, _ => .nil
  | [], _ :: _, h, _ => by simp at h
  | _ :: _, [], h, _ => by simp at h
  | x :: xs, u :: us, h, g => by
    obtain ⟨u', e, r⟩ := g 0 x rfl
    have e : some u = some u' := e
    obtain rfl := Option.some.inj e
    exact .cons r (vals_of_get (by simpa using h) fun i y hy => by
      obtain ⟨w, e, r⟩ := g (i + 1) y (by simpa using hy)
      exact ⟨w, by simpa using e, r⟩)
/-- len(d) -/
def rLenDt (P : Program) (w : World) (K : PySem.W.Frag) : List V → Hp → VK → Prop := fun vs H Q => ∃ (a : Addr) (rs : List DRow), vs = [V.ref a] ∧ Rd H a (DtO P w a rs) ∧ KeysAt K H rs ∧ Q (.int (rs.length : Nat)) H
theorem cr_lenDt : CallR X (.builtin "len") (rLenDt X.prog X.w X.K) := by
  intro pins s σ H xs us Q I r h
  obtain ⟨a, rs, rfl, ea, hk, q⟩ := h
  rw [Vals.ref1 r]
  obtain ⟨hz, hd, xs, rel, dd⟩ := dt_at I ea hk
  have hl : xs.length = rs.length := (Paired.length rel).symm
  have dk : Heap.DictKeyed (tupleKind (mixKind X.prog X.w)) s.heap a (pairsH xs) := ⟨xs, dd, rfl⟩
  have lp : (pairsH xs).length = rs.length := by rw [← hl]; simp [pairsH]
  refine call_len_slot (n := (pairsH xs).length) dd.typeIs F.slot_dict_len (fun Q' hq => len_keyed hd dk hq) (by omega) (by rw [sizeLine_eq] at hz; omega) ?_
  rw [lp]
  exact ⟨.int (rs.length : Nat), H, I.tok _, ⟨_, rfl⟩, q⟩
/-- list(d) -/
def rListDt (P : Program) (w : World) (K : PySem.W.Frag) : List V → Hp → VK → Prop := fun vs H Q => ∃ (a : Addr) (rs : List DRow), vs = [V.ref a] ∧ Rd H a (DtO P w a rs) ∧ KeysAt K H rs ∧ ∀ p, H p = none → Q (.ref p) (upd H p (.lst (rs.map fun r => V.ref r.2.1)))
theorem cr_listDt (hc : X.calm = true) : CallR X (.type "list") (rListDt X.prog X.w X.K) := by
  intro pins s σ H xs us Q I r h
  obtain ⟨a, rs, rfl, ea, hk, q⟩ := h
  rw [Vals.ref1 r]
  obtain ⟨hz, hd, xs, rel, dd⟩ := dt_at I ea hk
  obtain ⟨o, es, ep, d1, d2, d3, d4, d5, d6⟩ := dd
  have hl : xs.length = rs.length := (Paired.length rel).symm
  have hes : es.size = rs.length := by rw [← Array.length_toList, d4, List.length_map, hl]
  refine PySem.W.kdl_call (KdlSrc.rawDict (es := es) (ep := ep) hd) (I.ok.hd hc) ⟨o, d1, d2, d3⟩ (by omega) fun h' tk acc c kp hat hit => ?_
  obtain ⟨sz, each⟩ := hit
  have rv : Vals (rs.map fun r => V.ref r.2.1) acc.toList := by
    refine vals_of_get (by have e1 : acc.toList.length = acc.size := Array.length_toList; rw [List.length_map]; omega) fun i x hx => ?_
    rw [List.getElem?_map] at hx
    obtain ⟨r, hr, rfl⟩ := Option.map_eq_some_iff.mp hx
    obtain ⟨k, b, v⟩ := r
    obtain ⟨q', hq, e1, e2, e3⟩ := rel_get rel hr
    have il := (List.getElem?_eq_some_iff.mp hr).1
    have ia : i < acc.size := by rw [sz, hes]; exact il
    have ea : acc[i]? = some acc[i] := Array.getElem?_eq_getElem ia
    obtain ⟨hi, e⟩ := each i _ ea
    refine ⟨acc[i], by rw [Array.getElem?_toList]; exact ea, ?_⟩
    have ee : es[i]? = some (entryOfKey (tupleKind (mixKind X.prog X.w)) q') := by
      rw [← Array.getElem?_toList, d4, List.getElem?_map, hq]
      rfl
    rw [Array.getElem?_eq_getElem hi] at ee
    rw [e, Option.some.inj ee]
    show Value.ref q'.2.1 = Value.ref b
    rw [e2]
  refine ⟨.ref s.heap.objs.size, _, I.laid (t' := tk) kp (Nat.le_refl _) (o := .lst (rs.map fun r => V.ref r.2.1)) ?_, rfl, q _ (I.hok.fresh (Nat.le_refl _))⟩
  exact ⟨by rw [List.length_map]; exact hz, acc.toList, c, rv, by simpa using hat⟩
/-- sorted of a tuple, also of a short one -/
def rSortTZ (K : PySem.W.Frag) : List V → Hp → VK → Prop := fun vs H Q => rSortTT K vs H Q ∨ ∃ (a : Addr) (xs : List V), vs = [V.ref a] ∧ SqT K H a xs ∧ xs.length ≤ 1 ∧ ∀ p, H p = none → Q (.ref p) (upd H p (.lst xs))
theorem cr_sortTZ : CallR X (.builtin "sorted") (rSortTZ X.K) := by
  intro pins s σ H vs us Q I r h
  rcases h with h | ⟨a, xs, rfl, hs, h1, q⟩
  · exact cr_sortTT pins s σ H vs us Q I r h
  obtain ⟨its, rv, hl, hz⟩ := I.tuple hs
  obtain ⟨u, rfl, ru⟩ := vals1 r
  cases ru
  have hlen : xs.length = its.length := rv.length
  refine sorted_tupO (ltv := fun _ _ => false) (by constructor <;> intros <;> simp_all) hl (by rw [← hlen]; exact hz) (fun h2 => by omega) (fun out h0 h' c h1' h2 old old2 he => ?_)
  have eo : out = its := by
    have l1 : its.length ≤ 1 := by omega
    clear hl rv hz hlen he q old old2
    rcases its with _ | ⟨x, _ | ⟨y, its⟩⟩
    · exact List.perm_nil.mp h2
    · exact List.perm_singleton.mp h2
    · simp at l1
  subst eo
  have I1 : L2.Inv X pins σ H { s with heap := h0, toks := s.toks } := I.kept old
  refine ⟨.ref _, upd H _ (.lst xs), I1.laid (t' := s.toks) old2 (Nat.le_refl _) ?_, rfl, q _ (I1.hok.fresh (Nat.le_refl _))⟩
  exact ⟨hz, out, c, rv, he⟩
end
section
variable {X : Cx} {o e : Expr} {td ty : TE}
theorem pc_dtNotInK (P : Program) (w : World) (K : PySem.W.Frag) (hp : X.prog = P) (hw : X.w = w) (hk : X.K = K) (hu : X.A.units + 1 < cLine) (he : PE X e ty) (ho : PE X o td) :
    PC X .NotIn e o (fun σ H Q => ty σ H fun y H1 => td σ H1 fun x H2 => ∃ r, DAsk P w K H2 x y r ∧ Q (.bl (!r.isSome)) H2) := by
  subst hp hw hk
  exact pc_dtNotIn hu he ho
end
end Rp
/-! Tm: a tuple times a number, 0 and 1 too. -/
namespace Rp
open PySem PySem.Spec L2 PyProof.Rows
theorem tuple_mul1 (l : Addr) (items : Array Value) (n : Nat) (dd : Option Addr) (sl : Array (Option Value)) (u : Tok) :
    Meets (Builtin.«tuple.__mul__» ⟨[.ref l, .int 1 u], []⟩) (fun _ R s => s.heap.get? l = some { cls := .type "tuple", dict := dd, data := .seq items n, slots := sl } ∧ R (.ok (.ret (Value.ref l))) s) :=
  .of_wp fun prog w A R s h => by
    obtain ⟨hp, g, d, tk, os⟩ := s
    obtain ⟨hl, h⟩ := h
    have f1 := AutoSeq1.idx_int
    have c1 : (items.isEmpty || (1 : Int) == 1) = true := by simp
    wp_walk using wpAny_loadPart' hl
    repeat (first
      | (refine wpAny_ite_true (decide_eq_true (by rw [c1])) ?_; wp_walk using wpAny_loadPart' hl)
      | (refine wpAny_ite_true (decide_eq_true c1) ?_; wp_walk using wpAny_loadPart' hl))
    exact ⟨_, rfl, h⟩
theorem tuple_mul0 (l : Addr) (items : Array Value) (n : Nat) (dd : Option Addr) (sl : Array (Option Value)) (u : Tok) (c0 : items.isEmpty = false) :
    Meets (Builtin.«tuple.__mul__» ⟨[.ref l, .int 0 u], []⟩) (fun _ R s => s.heap.get? l = some { cls := .type "tuple", dict := dd, data := .seq items n, slots := sl } ∧
      R (.ok (.ret (Value.ref s.heap.objs.size))) { s with heap := s.heap.push { cls := Value.type "tuple", data := Data.seq #[] }, toks := s.toks }) :=
  .of_wp fun prog w A R s h => by
    obtain ⟨hp, g, d, tk, os⟩ := s
    obtain ⟨hl, h⟩ := h
    have f1 := AutoSeq1.idx_int
    have c1 : (items.isEmpty || (0 : Int) == 1) = false := by rw [c0]; rfl
    wp_walk using wpAny_loadPart' hl
    repeat (first
      | (refine wpAny_ite_false (decide_eq_false (by rw [c1]; exact Bool.false_ne_true)) ?_; wp_walk using wpAny_loadPart' hl))
    exact ⟨_, rfl, h⟩
def rRepZ (K : PySem.W.Frag) : R2 := fun x y H Q => ∃ (l : Addr) (k : Int) (xs : List V), x = .ref l ∧ y = .int k ∧ SqT K H l xs ∧ xs ≠ [] ∧ 0 ≤ k ∧ k ≤ 1000 ∧ xs.length ≤ 1000 ∧ ∀ (H' : Hp) (p : Addr), Same H H' → SqT K H' p (List.replicate k.toNat xs).flatten → Q (.ref p) H'
section
variable {X : Cx}
theorem op_repZ : OpR X (binaryOp .Mult) (rRepZ X.K) := by
  intro pins s σ H x y v u Q I rx ry h
  obtain ⟨l, k, xs, rfl, rfl, hT, hne, h1, h2, hz, q⟩ := h
  by_cases k2 : 2 ≤ k
  · exact op_repT pins s σ H _ _ v u Q I rx ry ⟨l, k, xs, rfl, rfl, hT, hne, k2, h2, hz, fun p hp => q _ p (same_new hp) (SqT.of upd_same)⟩
  cases rx
  obtain ⟨t, rfl⟩ := ry
  obtain ⟨its, r, ⟨⟨cls, dd, data, sl⟩, ho, hc, n, hd⟩, hs⟩ := I.tuple hT
  simp only at hc hd
  subst hc hd
  have hle : its.length = xs.length := r.length.symm
  have hn : its ≠ [] := fun e => hne (by
    rw [e] at hle
    exact List.eq_nil_of_length_eq_zero hle.symm)
  have hi : its.toArray.isEmpty = false := by
    cases its with
    | nil => exact absurd rfl hn
    | cons a b => rfl
  rcases (by omega : k = 0 ∨ k = 1) with rfl | rfl
  · refine wpAny_binaryOp_repeat_ref (T := "tuple") (U := "int") (by decide) ⟨_, ho, rfl⟩ (fun s' => typeIs_int s' 0 t) noFill_tuple_mul F.fills_int_mul F.slot_int_rmul repeat_tuple F.slot_int_index.lookup
      (call_meets F.slot_int_rmul (typeIs_int s 0 t) F.entry_int_rmul (F.args_int_rmul_2 _ _) (int_rmul_tuple 0 t l its.toArray n dd sl)
        ⟨ho, rfl, ⟨_, ho, rfl⟩, call_meets F.slot_tuple_mul ⟨_, ho, rfl⟩ F.entry_tuple_mul (F.args_tuple_mul_2 _ _) (tuple_mul0 l its.toArray n dd sl t hi) ⟨ho, ?_⟩⟩)
    have hp := I.hok.fresh (Nat.le_refl s.heap.objs.size)
    refine ⟨.ref s.heap.objs.size, _, I.laid (t' := s.toks) (o := .tup []) (fun b ob q => Heap.get?_push_of_some _ q) (Nat.le_refl _) ?_, rfl, q _ _ (same_new hp) (SqT.of upd_same)⟩
    exact ⟨Nat.zero_le _, [], .nil, IsTup.new _ _⟩
  · refine wpAny_binaryOp_repeat_ref (T := "tuple") (U := "int") (by decide) ⟨_, ho, rfl⟩ (fun s' => typeIs_int s' 1 t) noFill_tuple_mul F.fills_int_mul F.slot_int_rmul repeat_tuple F.slot_int_index.lookup
      (call_meets F.slot_int_rmul (typeIs_int s 1 t) F.entry_int_rmul (F.args_int_rmul_2 _ _) (int_rmul_tuple 1 t l its.toArray n dd sl)
        ⟨ho, rfl, ⟨_, ho, rfl⟩, call_meets F.slot_tuple_mul ⟨_, ho, rfl⟩ F.entry_tuple_mul (F.args_tuple_mul_2 _ _) (tuple_mul1 l its.toArray n dd sl t) ⟨ho, ?_⟩⟩)
    have e : (List.replicate (1 : Int).toNat xs).flatten = xs := by simp
    rw [e] at q
    exact ⟨.ref l, H, I.tok _, rfl, q H l (Same.refl _) hT⟩
end
end Rp
/-! Mt: max of a tuple of ints. -/
namespace Rp
open PySem PySem.Spec L2 PyProof.Rows PySem.W
section
variable {X : Cx}
theorem readsAll_ints {h : Heap} : ∀ {ns : List Int} {us : List Value}, Vals (ns.map V.int) us → ∃ as, ReadsAll h us (ns.map .int) as
  | [], _, .nil => ⟨_, .nil⟩
  | n :: ns, _, .cons h1 t => by
    obtain ⟨as, r⟩ := readsAll_ints (ns := ns) t
    obtain ⟨tk, rfl⟩ := h1
    exact ⟨_, .cons (.int n tk) r⟩
theorem foldl_max_mem : ∀ (ns : List Int) (n : Int), ns.foldl max n ∈ n :: ns ∧ ∀ y ∈ n :: ns, y ≤ ns.foldl max n
  | [], n => ⟨by simp, by simp⟩
  | k :: ns, n => by
    obtain ⟨h1, h2⟩ := foldl_max_mem ns (max n k)
    rw [List.foldl_cons]
    refine ⟨?_, fun y hy => ?_⟩
    · rcases List.mem_cons.mp h1 with e | e
      · rw [e]
        rcases (show max n k = n ∨ max n k = k by omega) with e | e <;> rw [e] <;> simp
      · exact List.mem_cons_of_mem _ (List.mem_cons_of_mem _ e)
    · have h0 := h2 (max n k) (List.mem_cons_self ..)
      rcases List.mem_cons.mp hy with rfl | hy
      · omega
      rcases List.mem_cons.mp hy with rfl | hy
      · omega
      · exact h2 y (List.mem_cons_of_mem _ hy)
def rMaxT (K : PySem.W.Frag) : List V → Hp → VK → Prop := fun vs H Q => ∃ (a : Addr) (ns : List Int), vs = [V.ref a] ∧ SqT K H a (ns.map V.int) ∧ 0 < ns.length ∧ ∀ m, m ∈ ns → (∀ y, y ∈ ns → y ≤ m) → Q (.int m) H
theorem cr_maxT (hc : X.calm = true) (hu : X.A.units + 66 < cLine) : CallR X (.builtin "max") (rMaxT X.K) := by
  intro pins s σ H vs us Q I r h
  obtain ⟨a, ns, rfl, hs, hne, q⟩ := h
  obtain ⟨its, rv, ht⟩ := isTuple_of I hs
  rw [Vals.ref1 r]
  cases ns with
  | nil => simp at hne
  | cons n ns =>
  obtain ⟨as, ra⟩ := readsAll_ints (h := s.heap) (ns := n :: ns) rv
  have dep : ∀ l : List Int, PyData.depthAll (l.map .int) ≤ 1 := by
    intro l
    induction l with
    | nil => simp [PyData.depthAll]
    | cons x l ih =>
      simp only [List.map_cons, PyData.depthAll, PyData.depth]
      omega
  refine max_tuple_data (x := .int n) (xs := ns.map .int) (I.ok.hd hc) ht ra ⟨fun x hx y hy => ?_, fun x hx => ?_⟩ ?_ fun i v h' tk bs hv hr hk => ?_
  · obtain ⟨i, _, rfl⟩ := List.mem_map.mp (show x ∈ (n :: ns).map PyData.int from hx)
    obtain ⟨k, _, rfl⟩ := List.mem_map.mp (show y ∈ (n :: ns).map PyData.int from hy)
    rfl
  · obtain ⟨i, _, rfl⟩ := List.mem_map.mp (show x ∈ (n :: ns).map PyData.int from hx)
    exact fun z => by cases z
  · have := dep (n :: ns)
    rw [List.map_cons] at this
    omega
  · rw [maxD_ints] at hr
    cases hr with
    | int i t =>
    obtain ⟨h1, h2⟩ := foldl_max_mem ns n
    exact ⟨.int _, H, I.kept hk, ⟨_, rfl⟩, q _ h1 h2⟩
end
end Rp
/-! Sa: `in` and `not in` for a tuple of data. -/
namespace Rp
open PySem L2 PyProof.Rows
section
variable {X : Cx}
def rInTD (K : PySem.W.Frag) : R2 := fun x y H Q => ∃ (ds : List PyData) (d : PyData), Dp K H y (.tuple ds) ∧ Dp K H x d ∧ PyData.canLayAll0 ds = true ∧ d.canLay0 = true ∧ d.depth ≤ 60 ∧ Q (.bl (ds.any fun e => e.eqv d)) H
theorem op_inTD (hu : X.A.units + 66 < cLine) : OpR X (compareOp .In) (rInTD X.K) := by
  rintro pins s σ H x y v u Q I rv ru ⟨ds, d, hy, hx, c1, c2, c3, q⟩
  obtain ⟨as, r1⟩ := Dp.reads I _ _ _ hy ru
  obtain ⟨bs, r2⟩ := Dp.reads I _ _ _ hx rv
  refine SeqAt.in_tuple_reads r1 r2 c1 c2 ?_ ⟨.bl _, H, I, rfl, q⟩
  have : min (PyData.depthAll ds) d.depth ≤ 60 := Nat.le_trans (Nat.min_le_right _ _) c3
  omega
def rNotTD (K : PySem.W.Frag) : R2 := fun x y H Q => ∃ (ds : List PyData) (d : PyData), Dp K H y (.tuple ds) ∧ Dp K H x d ∧ PyData.canLayAll0 ds = true ∧ d.canLay0 = true ∧ d.depth ≤ 60 ∧ Q (.bl (!(ds.any fun e => e.eqv d))) H
theorem op_notInTD (hu : X.A.units + 66 < cLine) : OpR X (compareOp .NotIn) (rNotTD X.K) := by
  rintro pins s σ H x y v u Q I rv ru ⟨ds, d, hy, hx, c1, c2, c3, q⟩
  obtain ⟨as, r1⟩ := Dp.reads I _ _ _ hy ru
  obtain ⟨bs, r2⟩ := Dp.reads I _ _ _ hx rv
  refine SeqAt.notIn_tuple_reads r1 r2 c1 c2 ?_ ⟨.bl _, H, I, rfl, q⟩
  have : min (PyData.depthAll ds) d.depth ≤ 60 := Nat.le_trans (Nat.min_le_right _ _) c3
  omega
end
end Rp
/-! Sn: the common part of two sets of tuples of ints. -/
namespace Rp
open PySem PySem.Spec L2 PyProof.Rows
section
variable {P : Program} {w : World} {A : Around} {E : Value → Shared → Prop} {s : Shared} {a : Addr} {L : List (Addr × List Int)} {es : Array (Int × Value)} {ep : Nat} {t : SetTable}
/-- the members in some order -/
theorem setWalk_at (R : SetTR P w s.heap a L es ep t) {Q : Array (Int × Value) → Shared → Prop} (h : ∀ out : Array (Int × Value), out.toList.Perm es.toList → Q out s) : wpAny (model P w) A (setWalk a) Q E s := by
  obtain ⟨o, ho, hex, hd⟩ := R.ob
  unfold setWalk
  refine wpAny_bind (wpAny_setState_of ho hd R.fits ?_)
  dsimp only
  refine wpAny_bind (wpAny_byText ?_)
  cases hb : w.params.followText "set-order" with
  | true =>
    refine wp_if_pos rfl ?_
    exact wpAny_bind (wpAny_askSetting (wpAny_pure (h _ (pick_perm _ _))))
  | false =>
    refine wp_if_neg Bool.false_ne_true ?_
    try refine wpAny_bind (wpAny_pure ?_)
    have led : t.led = true := R.led.resolve_left (by rw [hb]; exact Bool.false_ne_true)
    refine wp_if_neg (by show ¬ ((!t.plain && decide (es.size > 1)) = true); rw [R.plain]; exact Bool.false_ne_true) ?_
    try refine wpAny_bind (wpAny_pure ?_)
    refine wpAny_bind (wpAny_of_eq (a := ()) ?_ ?_)
    · show (if (!t.led && decide (es.size > 1)) = true then unsupported "set:maker-not-led" else pure ()) = pure ()
      rw [led] <;> rfl
    · exact wpAny_pure (h _ (List.Perm.refl _))
theorem setWalkUnseen_at (R : SetTR P w s.heap a L es ep t) {others : List Addr} {f : Option Addr} {Q : Array (Int × Value) → Shared → Prop} (h : ∀ out : Array (Int × Value), out.toList.Perm es.toList → Q out s) : wpAny (model P w) A (setWalkUnseen a others f) Q E s := by
  obtain ⟨o, ho, hex, hd⟩ := R.ob
  unfold setWalkUnseen
  refine wpAny_bind (wpAny_setState_of ho hd R.fits ?_)
  dsimp only
  refine wpAny_bind (wpAny_byText ?_)
  have c : (w.params.followText "set-order" || (t.led && t.plain) || decide (es.size ≤ 1)) = true := by
    rcases R.led with e | e
    · rw [e]; rfl
    · rw [e, R.plain]
      cases w.params.followText "set-order" <;> rfl
  refine wp_if_pos c ?_
  exact setWalk_at R h
/-- how the walk of a hash begins -/
abbrev beg (P : Program) (w : World) (t : SetTable) (k : List Int) : SetTable.Probe := runAt t.mask (SetTable.bits (thash P w k) % (t.mask + 1)) (SetTable.bits (thash P w k))
theorem nth_dum (m : Nat) : ∀ (n : Nat) (p : SetTable.Probe), p.dummy = none → (nth m p n).dummy = none
  | 0, p, h => h
  | n + 1, p, h => nth_dum m n (adv m p) (by unfold adv; split <;> exact h)
/-- where the key stands, if it is there, no place that is behind the walker -/
def Ahead (P : Program) (w : World) (t : SetTable) (L : List (Addr × List Int)) (k : List Int) (K c : Nat) : Prop :=
  ∀ (i : Nat) (p : Addr × List Int), L[i]? = some p → p.2 = k → ∃ c', c ≤ c' ∧ c' < K ∧ t.place.toList[i]? = some (way t.mask (thash P w k) c')
theorem find_walk (R : SetTR P w s.heap a L es ep t) {x : Addr} {k : List Int} (tx : IsT P w s.heap k x) (un : A.units < cLine) {K : Nat} (kK : K < 10 * SetTable.turns t.mask)
    (free : way t.mask (thash P w k) K ∉ t.place.toList) (held : ∀ c, c < K → way t.mask (thash P w k) c ∈ t.place.toList) {Q : SetFound → Shared → Prop}
    (yes : ∀ i, k ∈ L.map (·.2) → Q (.there (some i)) s) (no : ∀ j b, k ∉ L.map (·.2) → Q (.free j b) s) (f : Nat) :
    ∀ (c : Nat) (stand : Option SetTable.Probe), stand.getD (t.probeStart (thash P w k)) = nth t.mask (beg P w t k) c → c ≤ K → K - c < f → Ahead P w t L k K c →
      wpAny (model P w) A (setSearchFrom a (.ref x) (thash P w k) false f stand) Q E s := by
  obtain ⟨o, ho, hex, hd⟩ := R.ob
  induction f with
  | zero => intro c stand _ _ h _; exact absurd h (Nat.not_lt_zero _)
  | succ f ih =>
    intro c stand est cK cf ah
    have at_ : ∀ q, (nth t.mask (nth t.mask (beg P w t k) c) q).j = way t.mask (thash P w k) (c + q) := fun q => by rw [← nth_add]
    have hash_ : ∀ (i : Nat) (p : Addr × List Int), L[i]? = some p → (es[i]?.map (·.1)).getD 0 = thash P w p.2 := fun i p hp => by rw [R.entry hp] <;> rfl
    rw [setSearchFrom_succ]
    refine wpAny_bind (wpAny_setState_of ho hd R.fits ?_)
    dsimp only
    refine wp_if_neg R.gw ?_
    try refine wpAny_bind (wpAny_pure ?_)
    rw [est]
    rcases go_spec t R.tab.ris R.tab.dm (fun i => (es[i]?.map (·.1)).getD 0) (thash P w k) (10 * SetTable.turns t.mask) (K - c) (nth t.mask (beg P w t k) c) (nth_dum _ _ _ rfl) (by omega)
      (fun q hq => by rw [at_]; exact held (c + q) (by omega)) (by rw [at_, show c + (K - c) = K by omega]; exact free) with ⟨q, i, qK, ei, eh, none_, pr⟩ | ⟨none_, pr⟩
    · rw [show t.probe (fun i => (es[i]?.map (·.1)).getD 0) (thash P w k) (nth t.mask (beg P w t k) c) = _ from pr]
      dsimp only
      rw [at_] at ei
      have il : i < L.length := by
        have h1 := (List.getElem?_eq_some_iff.mp ei).1
        have h2 := R.tab.sz
        rw [List.length_map] at h2
        rw [Array.length_toList] at h1
        omega
      obtain ⟨p, ep_⟩ : ∃ p, L[i]? = some p := ⟨_, List.getElem?_eq_getElem il⟩
      have pL : p ∈ L := List.mem_of_getElem? ep_
      have rest : wpAny (model P w) A (searchRest a (.ref x) (thash P w k) false f es t (nth t.mask (nth t.mask (beg P w t k) c) q).j i (nth t.mask (nth t.mask (beg P w t k) c) (q + 1))) Q E s := by
        unfold searchRest
        rw [R.entry ep_]
        dsimp only
        refine wpAny_bind (wpAny_holding (wpAny_eqBool_tuple un (R.tup p pL) tx ?_))
        refine wpAny_bind (wpAny_setState_of ho hd R.fits ?_)
        dsimp only
        refine wp_if_neg (by simp) ?_
        try refine wpAny_bind (wpAny_pure ?_)
        rw [sameMem]
        dsimp only
        have live : t.slot (nth t.mask (nth t.mask (beg P w t k) c) q).j = .live i := by rw [at_]; exact slot_live R.tab.ris ei
        simp only [if_true, live, R.entry ep_]
        refine wpAny_bind (wpAny_isSame_ref_self (wpAny_bind (wpAny_pure ?_)))
        simp only [if_true]
        by_cases e : p.2 = k
        · refine wp_if_pos (by simp [e]) ?_
          exact wpAny_pure (yes i (List.mem_map.mpr ⟨p, pL, e⟩))
        · refine wp_if_neg (by simp [e]) ?_
          refine ih (c + (q + 1)) _ (nth_add t.mask c _ (q + 1)).symm (by omega) (by omega) fun i' p' h1 h2 => ?_
          obtain ⟨c', b1, b2, b3⟩ := ah i' p' h1 h2
          refine ⟨c', ?_, b2, b3⟩
          by_cases z : c' < c + q
          · refine absurd ((hash_ i' p' h1).trans (congrArg _ h2)) (none_ (c' - c) i' (by omega) ?_)
            rw [at_, show c + (c' - c) = c' by omega]
            exact b3
          · by_cases y : c' = c + q
            · subst y
              have l2 := slot_live R.tab.ris b3
              rw [← at_, live] at l2
              cases l2
              rw [ep_] at h1
              exact absurd ((congrArg Prod.snd (Option.some.inj h1)).trans h2) e
            · omega
      by_cases led : t.led = true
      · refine wp_if_neg (by simp [led]) ?_
        try refine wpAny_bind (wpAny_pure ?_)
        exact rest
      · refine wp_if_pos (by simp [led]) ?_
        refine wpAny_bind (seen_tup tx (fun y hy => ?_) ?_)
        · obtain ⟨u, hu, eu⟩ := List.mem_map.mp hy
          have hu2 : u ∈ es.toList := by
            have : u ∈ es ∧ u.1 = thash P w k := by simpa using hu
            simpa using this.1
          rw [R.rows] at hu2
          obtain ⟨p2, m2, e2⟩ := List.mem_map.mp hu2
          exact ⟨p2.2, p2.1, by rw [← eu, ← e2], R.tup p2 m2⟩
        · refine wp_if_neg (by decide) ?_
          try refine wpAny_bind (wpAny_pure ?_)
          exact rest
    · rw [show t.probe (fun i => (es[i]?.map (·.1)).getD 0) (thash P w k) (nth t.mask (beg P w t k) c) = _ from pr]
      dsimp only
      refine wpAny_pure (no _ _ fun hm => ?_)
      obtain ⟨p, pL, e⟩ := List.mem_map.mp hm
      obtain ⟨i, ei⟩ := List.getElem?_of_mem pL
      obtain ⟨c', b1, b2, b3⟩ := ah i p ei e
      refine absurd ((hash_ i p ei).trans (congrArg _ e)) (none_ (c' - c) i (by omega) ?_)
      rw [at_, show c + (c' - c) = c' by omega]
      exact b3
/-- whether a tuple is in the set -/
theorem find_at (R : SetTR P w s.heap a L es ep t) {x : Addr} {k : List Int} (tx : IsT P w s.heap k x) (un : A.units < cLine) {Q : Option Nat → Shared → Prop}
    (h : ∀ r : Option Nat, r.isSome = decide (k ∈ L.map (·.2)) → Q r s) : wpAny (model P w) A (setFind a (.ref x) (thash P w k)) Q E s := by
  obtain ⟨o, ho, hex, hd⟩ := R.ob
  unfold setFind
  rw [show (100000 : Nat) = 99999 + 1 from rfl]
  unfold setFindIn
  refine wpAny_bind (wpAny_setState_of ho hd R.fits ?_)
  dsimp only
  refine wp_if_neg (by simp [byScan, Value.scannable]) ?_
  try refine wpAny_bind (wpAny_pure ?_)
  have room := R.room
  obtain ⟨K, kK, free, held⟩ := R.tab.first (by rw [List.length_map]; omega) (thash P w k)
  have big : K < 100000 := by
    have : 10 * SetTable.turns t.mask ≤ 1420 := by
      unfold SetTable.turns
      rcases R.tab.mok with e | e | e <;> omega
    omega
  unfold setSearch
  refine wpAny_bind (find_walk R tx un kK free held (fun i m => ?_) (fun j b m => ?_) 100000 0 none rfl (Nat.zero_le _) (by omega) fun i p hp e => ?_)
  · exact wpAny_pure (h _ (by simp [m]))
  · exact wpAny_pure (h _ (by simp [m]))
  · have hi : (L.map fun p => thash P w p.2)[i]? = some (thash P w k) := by rw [List.getElem?_map, hp, ← e]; rfl
    have il : i < t.place.toList.length := by
      have h1 := (List.getElem?_eq_some_iff.mp hp).1
      have h2 := R.tab.sz
      rw [List.length_map] at h2
      rw [Array.length_toList]
      omega
    obtain ⟨c, cK, ec⟩ := R.tab.before free hi (List.getElem?_eq_getElem il)
    exact ⟨c, Nat.zero_le _, cK, by rw [List.getElem?_eq_getElem il, ec]⟩
end
theorem entry_set_and : entryFor table "set.__and__" = some Builtin.«frozenset.__and__» :=
  entryFor_alias (id' := "frozenset.__and__") (by kernel_rfl) rfl (by decide +kernel) (by kernel_rfl)
section
variable {P : Program} {w : World} {A : Around} {E : Value → Shared → Prop} {s : Shared} {a b : Addr} {La Lb : List (Addr × List Int)} {esa esb : Array (Int × Value)} {epa epb : Nat} {ta tb : SetTable}
theorem keys_len : ∀ (l D : List (List Int)), l.Nodup → (∀ x ∈ l, x ∈ D) → l.length ≤ D.length
  | [], _, _, _ => Nat.zero_le _
  | x :: l, D, hn, hs => by
    obtain ⟨h1, h2⟩ := List.nodup_cons.mp hn
    have hx : x ∈ D := hs x (List.mem_cons_self ..)
    have ih := keys_len l (D.erase x) h2 fun y hy => (List.mem_erase_of_ne fun e => h1 (by rw [← e]; exact hy)).mpr (hs y (List.mem_cons_of_mem _ hy))
    have e := List.length_erase_of_mem hx
    have : 0 < D.length := List.length_pos_of_mem hx
    rw [List.length_cons]
    omega
theorem inter_loop {k m r : Addr} {Lk Lm : List (Addr × List Int)} {esk esm : Array (Int × Value)} {epk epm : Nat} {tk tm : SetTable} {es0 : Array (Int × Value)} {ep0 : Nat} {t0 : SetTable}
    (Rk : SetTR P w s.heap k Lk esk epk tk) (Rm : SetTR P w s.heap m Lm esm epm tm) (R0 : SetTR P w s.heap r [] es0 ep0 t0) (nk : k ≠ r) (nm : m ≠ r) (nt : ∀ p ∈ Lk ++ Lm, p.1 ≠ r) (un : A.units < cLine) (few : Lm.length < 63) {ii : String} {Q : PUnit → Shared → Prop}
    (out : ∀ (g : Heap) L es ep t, SetTR P w g r L es ep t → (∀ p ∈ L, p ∈ Lm) → (∀ x, x ∈ L.map (·.2) ↔ x ∈ Lm.map (·.2) ∧ x ∈ Lk.map (·.2)) → (∀ c o, c ≠ r → s.heap.get? c = some o → g.get? c = some o) → Q PUnit.unit { s with heap := g }) :
    wpAny (model P w) A (do
      let was ← setEpoch m
      let ys ← setWalkUnseen m [k, r] (some r)
      forIn ys PUnit.unit fun x _ =>
        match x with
        | (h, x) => do
          holding [x] do
            let f ← setFind k x h
            if f.isSome = true then do
              let _ ← setAddHashed r x h
              pure ()
            else pure ()
          Builtin.Frozenset.unchanged ii m was
          pure (ForInStep.yield PUnit.unit)
      pure ()) Q E s := by
  obtain ⟨om, hm, exm, dm⟩ := id Rm.ob
  refine wpAny_bind (wpAny_setEpoch_of hm dm Rm.fits ?_)
  refine wpAny_bind (setWalkUnseen_at Rm fun ys pm => ?_)
  refine wpAny_bind ?_
  refine MeetsSeq2.wpAny_forIn_array _ (fun rest _ s' => ∃ (g : Heap) (L : List (Addr × List Int)) (es : Array (Int × Value)) (ep : Nat) (t : SetTable), s' = { s with heap := g } ∧ SetTR P w g r L es ep t ∧ (∀ p ∈ L, p ∈ Lm) ∧ (∀ p ∈ L, p.2 ∈ Lk.map (·.2)) ∧
    (∀ p ∈ Lm, p.2 ∈ Lk.map (·.2) → p.2 ∈ L.map (·.2) ∨ (thash P w p.2, Value.ref p.1) ∈ rest) ∧ (∀ x ∈ rest, ∃ p ∈ Lm, x = (thash P w p.2, Value.ref p.1)) ∧ ∀ c o, c ≠ r → s.heap.get? c = some o → g.get? c = some o) _ ?_ ?_ ys _ ?_
  · rintro ⟨h, v⟩ rest _ _ ⟨g, L, es, ep, t, rfl, R, i1, i2, i3, i4, kp⟩
    obtain ⟨p, pL, e⟩ := i4 _ (List.mem_cons_self ..)
    obtain ⟨rfl, rfl⟩ := Prod.mk.inj e
    have kT : ∀ q ∈ Lk ++ Lm, IsT P w s.heap q.2 q.1 → IsT P w g q.2 q.1 := fun q hq hT => by
      obtain ⟨o, its, n, h1, h2⟩ := hT
      exact ⟨o, its, n, kp _ _ (nt q hq) h1, h2⟩
    have Rk' : SetTR P w g k Lk esk epk tk := Rk.keep (fun o ho => kp k o nk ho) fun q hq => kT q (List.mem_append_left _ hq) (Rk.tup q hq)
    have Rm' : SetTR P w g m Lm esm epm tm := Rm.keep (fun o ho => kp m o nm ho) fun q hq => kT q (List.mem_append_right _ hq) (Rm.tup q hq)
    have tx := Rm'.tup p pL
    have ll : L.length ≤ Lm.length := by
      have := keys_len (L.map (·.2)) (Lm.map (·.2)) R.nd fun x hx => by
        obtain ⟨q, hq, rfl⟩ := List.mem_map.mp hx
        exact List.mem_map.mpr ⟨q, i1 q hq, rfl⟩
      simpa using this
    dsimp only
    refine wpAny_bind (wpAny_holding ?_)
    refine wpAny_bind (find_at Rk' tx un fun f hf => ?_)
    have fin : ∀ (g2 : Heap) (Q2 : ForInStep PUnit → Shared → Prop), (∀ c o, c ≠ r → s.heap.get? c = some o → g2.get? c = some o) → Q2 (.yield PUnit.unit) { s with heap := g2 } →
        wpAny (model P w) A (do
          Builtin.Frozenset.unchanged ii m epm
          pure (ForInStep.yield PUnit.unit)) Q2 E { s with heap := g2 } := by
      intro g2 Q2 kp2 q2
      unfold Builtin.Frozenset.unchanged
      exact wpAny_bind (wpAny_bind (wpAny_setEpoch_of (kp2 m om nm hm) dm Rm.fits (wp_if_neg (by simp) (wpAny_pure (wpAny_pure q2)))))
    by_cases c : p.2 ∈ Lk.map (·.2)
    · refine wp_if_pos (by rw [hf, decide_eq_true c]) ?_
      refine wpAny_bind (add_at R tx un (by omega) fun b h' L' es' ep' t' sb R' c1 c2 => wpAny_pure ?_)
      have kp' : ∀ c o, c ≠ r → s.heap.get? c = some o → h'.get? c = some o := fun c o hc ho => (sb.2 c hc).trans (kp c o hc ho)
      refine fin h' _ kp' ⟨h', L', es', ep', t', rfl, R', ?_, ?_, ?_, fun x hx => i4 x (List.mem_cons_of_mem _ hx), kp'⟩
      · intro q hq
        by_cases z : p.2 ∈ L.map (·.2)
        · rw [c1 z] at hq
          exact i1 q hq
        · rcases List.mem_cons.mp ((c2 z).mem_iff.mp hq) with rfl | hq
          · exact pL
          · exact i1 q hq
      · intro q hq
        by_cases z : p.2 ∈ L.map (·.2)
        · rw [c1 z] at hq
          exact i2 q hq
        · rcases List.mem_cons.mp ((c2 z).mem_iff.mp hq) with rfl | hq
          · exact c
          · exact i2 q hq
      · intro q hq hk
        have mem : ∀ x, x ∈ L.map (·.2) ∨ x = p.2 → x ∈ L'.map (·.2) := fun x hx => by
          by_cases z : p.2 ∈ L.map (·.2)
          · rw [c1 z]
            rcases hx with hx | rfl
            · exact hx
            · exact z
          · rw [((c2 z).map (·.2)).mem_iff, List.map_cons, List.mem_cons]
            exact hx.symm
        rcases i3 q hq hk with h | h
        · exact .inl (mem _ (.inl h))
        · rcases List.mem_cons.mp h with h | h
          · have e := (Prod.mk.inj h).2
            injection e with e
            have same : q = p := by
              have h1 := Rm'.tup q hq
              rw [e] at h1
              exact Prod.ext e (h1.inj tx)
            exact .inl (mem _ (.inr (by rw [same])))
          · exact .inr h
    · refine wp_if_neg (by rw [hf, decide_eq_false c]; exact Bool.false_ne_true) ?_
      refine wpAny_pure (fin g _ kp ⟨g, L, es, ep, t, rfl, R, i1, i2, fun q hq hk => ?_, fun x hx => i4 x (List.mem_cons_of_mem _ hx), kp⟩)
      rcases i3 q hq hk with h | h
      · exact .inl h
      · rcases List.mem_cons.mp h with h | h
        · have e := (Prod.mk.inj h).2
          injection e with e
          have same : q = p := by
            have h1 := Rm'.tup q hq
            rw [e] at h1
            exact Prod.ext e (h1.inj tx)
          rw [same] at hk
          exact absurd hk c
        · exact .inr h
  · rintro _ _ ⟨g, L, es, ep, t, rfl, R, i1, i2, i3, i4, kp⟩
    refine wpAny_pure (out g L es ep t R i1 (fun x => ⟨fun hx => ?_, fun ⟨h1, h2⟩ => ?_⟩) kp)
    · obtain ⟨q, hq, rfl⟩ := List.mem_map.mp hx
      exact ⟨List.mem_map.mpr ⟨q, i1 q hq, rfl⟩, i2 q hq⟩
    · obtain ⟨q, hq, rfl⟩ := List.mem_map.mp h1
      rcases i3 q hq h2 with h | h
      · exact h
      · exact absurd h List.not_mem_nil
  · refine ⟨s.heap, [], es0, ep0, t0, rfl, R0, fun p hp => absurd hp List.not_mem_nil, fun p hp => absurd hp List.not_mem_nil, fun p hp _ => .inr ?_, fun x hx => ?_, fun c o _ h => h⟩
    · rw [pm.mem_iff, Rm.rows]
      exact List.mem_map.mpr ⟨p, hp, rfl⟩
    · rw [pm.mem_iff, Rm.rows] at hx
      obtain ⟨p, hp, rfl⟩ := List.mem_map.mp hx
      exact ⟨p, hp, rfl⟩
theorem inter_at (Ra : SetTR P w s.heap a La esa epa ta) (Rb : SetTR P w s.heap b Lb esb epb tb) (ne : a ≠ b) (un : A.units < cLine) (fa : La.length < 63) (fb : Lb.length < 63) {ii : String} {Q : Value → Shared → Prop}
    (out : ∀ (g : Heap) L es ep t, SetTR P w g s.heap.objs.size L es ep t → (∀ p ∈ L, p ∈ La ∨ p ∈ Lb) → (∀ k, k ∈ L.map (·.2) ↔ k ∈ La.map (·.2) ∧ k ∈ Lb.map (·.2)) → (∀ c o, s.heap.get? c = some o → g.get? c = some o) → Q (.ref s.heap.objs.size) { s with heap := g }) :
    wpAny (model P w) A (Builtin.Frozenset.intersection ii a (.ref b)) Q E s := by
  obtain ⟨oa, ha, exa, da⟩ := id Ra.ob
  obtain ⟨ob, hb, exb, db⟩ := id Rb.ob
  have tA : s.TypeIs (.ref a) "set" := ⟨oa, ha, exa.1⟩
  unfold Builtin.Frozenset.intersection
  refine wp_if_neg (by simp [Ne.symm ne]) ?_
  try refine wpAny_bind (wpAny_pure ?_)
  refine wpAny_bind (m := Builtin.Frozenset.baseOf a) ?_
  unfold Builtin.Frozenset.baseOf
  refine wpAny_bind (wpAny_isInstance (b := true) tA sub_set_self (wpAny_pure ?_))
  refine wpAny_bind (m := newSet (.type "set")) ?_
  unfold newSet
  refine wpAny_bind (wpAny_byText ?_)
  refine wpAny_newObj_type ?_
  refine wpAny_bind (m := Builtin.Frozenset.addrOf (.ref s.heap.objs.size)) (wpAny_pure ?_)
  have R0 : SetTR P w (s.heap.push (setOb w)) s.heap.objs.size [] #[] 0 (.fresh 0 0 (!w.params.followText "set-order")) := setTR_fresh (Heap.get?_push_size _ rfl)
  have k0 : ∀ c o, s.heap.get? c = some o → (s.heap.push (setOb w)).get? c = some o := fun c o h => Heap.get?_push_of_some _ h
  have Ra0 := Ra.keep (k0 a) fun p hp => isT_keep (Ra.tup p hp) k0
  have Rb0 := Rb.keep (k0 b) fun p hp => isT_keep (Rb.tup p hp) k0
  refine wpAny_bind (wpAny_holding ?_)
  have tB0 : ({ s with heap := s.heap.push (setOb w) } : Shared).TypeIs (.ref b) "set" := ⟨ob, k0 b ob hb, exb.1⟩
  have old : ∀ {c : Addr} {o : Obj}, s.heap.get? c = some o → c ≠ s.heap.objs.size := fun h => Nat.ne_of_lt (Heap.lt_size h)
  have oldT : ∀ (p : Addr × List Int), p ∈ La ∨ p ∈ Lb → p.1 ≠ s.heap.objs.size := fun p hp => by
    rcases hp with hp | hp
    · obtain ⟨o, its, n, h1, _⟩ := Ra.tup p hp
      exact old h1
    · obtain ⟨o, its, n, h1, _⟩ := Rb.tup p hp
      exact old h1
  refine wpAny_bind (m := Builtin.Frozenset.isAnySet (.ref b)) ?_
  unfold Builtin.Frozenset.isAnySet orM
  refine wpAny_bind (wpAny_isInstance (b := true) tB0 sub_set_self ?_)
  refine wpAny_pure ?_
  refine wp_if_pos rfl ?_
  refine wpAny_bind (m := Builtin.Frozenset.addrOf (.ref b)) (wpAny_pure ?_)
  refine wpAny_bind (m := Builtin.Frozenset.sizeOf b) ?_
  unfold Builtin.Frozenset.sizeOf
  refine wpAny_bind (wpAny_setEntries_of (k0 b ob hb) db Rb.fits (wpAny_pure ?_))
  refine wpAny_bind (wpAny_bind (wpAny_setEntries_of (k0 a oa ha) da Ra.fits (wpAny_pure ?_)))
  have kz : ∀ g : Heap, (∀ c o, c ≠ s.heap.objs.size → (s.heap.push (setOb w)).get? c = some o → g.get? c = some o) → ∀ c o, s.heap.get? c = some o → g.get? c = some o := fun g kp c o h => kp c o (old h) (k0 c o h)
  by_cases c : esb.size > esa.size
  · rw [if_pos c]
    dsimp only
    refine inter_loop (s := { s with heap := s.heap.push (setOb w) }) Rb0 Ra0 R0 (old hb) (old ha) (fun p hp => oldT p (List.mem_append.mp hp).symm) un fa fun g L es ep t R sub iff_ kp => ?_
    exact wpAny_pure (out g L es ep t R (fun p hp => .inl (sub p hp)) iff_ (kz g kp))
  · rw [if_neg c]
    dsimp only
    refine inter_loop (s := { s with heap := s.heap.push (setOb w) }) Ra0 Rb0 R0 (old ha) (old hb) (fun p hp => oldT p (List.mem_append.mp hp)) un fb fun g L es ep t R sub iff_ kp => ?_
    exact wpAny_pure (out g L es ep t R (fun p hp => .inr (sub p hp)) (fun k => (iff_ k).trans and_comm) (kz g kp))
theorem set_and (Ra : SetTR P w s.heap a La esa epa ta) (Rb : SetTR P w s.heap b Lb esb epb tb) (ne : a ≠ b) (un : A.units + 8 < cLine) (fa : La.length < 63) (fb : Lb.length < 63) {Q : Value → Shared → Prop}
    (out : ∀ (g : Heap) L es ep t, SetTR P w g s.heap.objs.size L es ep t → (∀ p ∈ L, p ∈ La ∨ p ∈ Lb) → (∀ k, k ∈ L.map (·.2) ↔ k ∈ La.map (·.2) ∧ k ∈ Lb.map (·.2)) → (∀ c o, s.heap.get? c = some o → g.get? c = some o) → Q (.ref s.heap.objs.size) { s with heap := g }) :
    wpAny (model P w) A (binaryOp .BitAnd (.ref a) (.ref b)) Q E s := by
  obtain ⟨oa, ha, exa, da⟩ := Ra.ob
  obtain ⟨ob, hb, exb, db⟩ := Rb.ob
  have tA : s.TypeIs (.ref a) "set" := ⟨oa, ha, exa.1⟩
  have tB : s.TypeIs (.ref b) "set" := ⟨ob, hb, exb.1⟩
  refine wpAny_binaryOp_same (T := "set") tA tB F.fills_set_and F.slot_set_and ?_
  refine wpAny_call_entry F.slot_set_and tA entry_set_and ?_ (F.args_set_and_2 _ _)
  unfold Builtin.«frozenset.__and__»
  rcases oa with ⟨ca, dca, dta, sla⟩
  rcases ob with ⟨cb, dcb, dtb, slb⟩
  have e1 := exa.1
  have e2 := exb.1
  dsimp only at e1 e2
  subst e1 e2
  have sb := sub_set_self
  generalize eis : Builtin.Frozenset.intersection = IS
  wp_walk
  subst eis
  refine inter_at Ra Rb ne (by show A.units + 1 < cLine; omega) fa fb fun g L es ep t R h1 h2 h3 => ?_
  exact wpAny_pure ⟨_, rfl, (fun z => nomatch z), out g L es ep t R h1 h2 h3⟩
end
section
variable {X : Cx}
/-- a & b, sets of tuples of ints -/
def rSetAnd (K : PySem.W.Frag) (P : Program) (w : World) : R2 := fun x y H Q => ∃ (a b : Addr) (La Lb : List (Addr × List Int)), x = V.ref a ∧ y = V.ref b ∧ a ≠ b ∧ H a = some (SetTO P w a La) ∧ H b = some (SetTO P w b Lb) ∧
  (∀ p ∈ La ++ Lb, SqT K H p.1 (p.2.map V.int)) ∧ ((La.map (·.2)).Nodup → La.length < 63) ∧ ((Lb.map (·.2)).Nodup → Lb.length < 63) ∧
  ∀ r L, H r = none → (∀ p ∈ L, p ∈ La ∨ p ∈ Lb) → (∀ k, k ∈ L.map (·.2) ↔ k ∈ La.map (·.2) ∧ k ∈ Lb.map (·.2)) → Q (.ref r) (upd H r (SetTO P w r L))
theorem op_setand (hc : X.calm = true) (hu : X.A.units + 66 < cLine) : OpR X (binaryOp .BitAnd) (rSetAnd X.K X.prog X.w) := by
  intro pins s σ H x y v u Q I rx ry h
  obtain ⟨a, b, La, Lb, rfl, rfl, ne, ha, hb, hk, fa, fb, q⟩ := h
  cases rx
  cases ry
  obtain ⟨esa, epa, ta, Ra⟩ := SetT0.full (P := X.prog) (w := X.w) (h := s.heap) (a := a) (L := La) (I.hok a _ ha).1 fun p hp => I.isT (hk p (List.mem_append_left _ hp))
  obtain ⟨esb, epb, tb, Rb⟩ := SetT0.full (P := X.prog) (w := X.w) (h := s.heap) (a := b) (L := Lb) (I.hok b _ hb).1 fun p hp => I.isT (hk p (List.mem_append_right _ hp))
  refine set_and Ra Rb ne (by omega) (fa Ra.nd) (fb Rb.nd) fun g L es ep t R h1 h2 h3 => ?_
  exact ⟨.ref s.heap.objs.size, _, I.laid (t' := s.toks) h3 (Nat.le_refl _) (setTO_new R.t0), rfl, q _ L (I.hok.fresh (Nat.le_refl _)) h1 h2⟩
end
end Rp
/-! Sta: sorted of a list or of a tuple of tuples of ints, by one rule (behind Sw, Mx). -/
namespace Rp
open PySem L2
theorem cr_or {X : Cx} {f : Value} {r t : List V → Hp → VK → Prop} (h : CallR X f r) (k : CallR X f t) : CallR X f (fun vs H Q => r vs H Q ∨ t vs H Q) :=
  fun pins s σ H xs us Q I v z => z.elim (h pins s σ H xs us Q I v) (k pins s σ H xs us Q I v)
def rSortPA (K : PySem.W.Frag) : List V → Hp → VK → Prop := fun vs H Q => rSortTP K vs H Q ∨ rSortTT K vs H Q
theorem cr_sortPA {X : Cx} : CallR X (.builtin "sorted") (rSortPA X.K) := cr_or cr_sortTP cr_sortTT
theorem sortPA {K : PySem.W.Frag} {H : Hp} {Q : VK} {a : Addr} {xs : List V} {ks : List (List Int)} (h : SeqA K H a xs) (hk : KeysT K H xs ks)
    (q : ∀ (ys : List V) (ls : List (List Int)) (p : Addr), KeysT K H ys ls → ls.Pairwise (fun x y => HT.lexLt y x = false) → ls.Perm ks → H p = none → Q (.ref p) (upd H p (.lst ys))) : rSortPA K [.ref a] H Q := by
  rcases h with h | h
  · exact .inl ⟨a, xs, ks, rfl, h, hk, q⟩
  · exact .inr ⟨a, xs, ks, rfl, h, hk, q⟩
/-- (0, 0, ((0, 0),), ((0, 0),)) that lies in the written part -/
theorem dp_nothing {K : PySem.W.Frag} {r a b c d : Addr} {o0 o1 o2 o3 o4 : Option Addr} {n0 n1 n2 n3 n4 : Nat} {s0 s1 s2 s3 s4 : Array (Option Value)} {w1 w2 w3 w4 w5 w6 : Tok}
    (h0 : K.lookup r = some ⟨.type "tuple", o0, .seq #[.int 0 w1, .int 0 w2, .ref a, .ref b] n0, s0⟩) (h1 : K.lookup a = some ⟨.type "tuple", o1, .seq #[.ref c] n1, s1⟩) (h2 : K.lookup c = some ⟨.type "tuple", o2, .seq #[.int 0 w3, .int 0 w4] n2, s2⟩)
    (h3 : K.lookup b = some ⟨.type "tuple", o3, .seq #[.ref d] n3, s3⟩) (h4 : K.lookup d = some ⟨.type "tuple", o4, .seq #[.int 0 w5, .int 0 w6] n4, s4⟩) :
    ∀ H, Dp K H (.ref r) (.tuple [.int 0, .int 0, .tuple [.tuple [.int 0, .int 0]], .tuple [.tuple [.int 0, .int 0]]]) := by
  intro H
  have v0 : Vals [V.int 0, V.int 0, V.ref a, V.ref b] [Value.int 0 w1, Value.int 0 w2, Value.ref a, Value.ref b] := .cons ⟨_, rfl⟩ (.cons ⟨_, rfl⟩ (.cons rfl (.cons rfl .nil)))
  have t0 : SqT K H r [V.int 0, V.int 0, V.ref a, V.ref b] := .inr ⟨_, _, _, h0, rfl, rfl, (by show 4 ≤ sizeLine; decide), v0⟩
  have t1 : SqT K H a [V.ref c] := .inr ⟨_, _, _, h1, rfl, rfl, (by show 1 ≤ sizeLine; decide), .cons rfl .nil⟩
  have t2 : SqT K H c [V.int 0, V.int 0] := .inr ⟨_, _, _, h2, rfl, rfl, (by show 2 ≤ sizeLine; decide), .cons ⟨_, rfl⟩ (.cons ⟨_, rfl⟩ .nil)⟩
  have t3 : SqT K H b [V.ref d] := .inr ⟨_, _, _, h3, rfl, rfl, (by show 1 ≤ sizeLine; decide), .cons rfl .nil⟩
  have t4 : SqT K H d [V.int 0, V.int 0] := .inr ⟨_, _, _, h4, rfl, rfl, (by show 2 ≤ sizeLine; decide), .cons ⟨_, rfl⟩ (.cons ⟨_, rfl⟩ .nil)⟩
  exact .tup t0 (.cons (.int _) (.cons (.int _) (.cons (.tup t1 (.cons (.tup t2 (.cons (.int _) (.cons (.int _) .nil))) .nil)) (.cons (.tup t3 (.cons (.tup t4 (.cons (.int _) (.cons (.int _) .nil))) .nil)) .nil))))
section
variable {prog : Program} {w : World} {A : Around} {E : Value → Shared → Prop} {s : Shared}
theorem max3_args (a b c : Value) : argsOk "max" ⟨[a, b, c], []⟩ := by
  unfold argsOk
  kernel_rfl
/-- the greatest of three -/
theorem max3 {n : Nat → Int} {t : Nat → Tok} {Q : Value → Shared → Prop} (hh : A.handled = none)
    (h : ∀ (g : Heap) (tk : Nat) (k : Nat), k < 3 → (∀ i, i < 3 → n i ≤ n k) → (∀ z o, s.heap.get? z = some o → g.get? z = some o) → Q (.int (n k) (t k)) { s with heap := g, toks := tk }) :
    wpAny (model prog w) A (call (.builtin "max") [.int (n 0) (t 0), .int (n 1) (t 1), .int (n 2) (t 2)]) Q E s := by
  have nm : (toString "max" ++ toString ".loop" : String) = "max.loop" := by decide
  have at4 : ∀ i v, (#[Value.int (n 0) (t 0), .int (n 1) (t 1), .int (n 2) (t 2)] : Array Value)[i]? = some v → i < 3 ∧ v = .int (n i) (t i) := by
    intro i v e
    match i, e with
    | 0, e => exact ⟨by omega, by simpa using e.symm⟩
    | 1, e => exact ⟨by omega, by simpa using e.symm⟩
    | 2, e => exact ⟨by omega, by simpa using e.symm⟩
    | i + 3, e => simp at e
  have at4 : ∀ (arr : Array Value) (i : Nat) (v : Value), arr = #[Value.int (n 0) (t 0), .int (n 1) (t 1), .int (n 2) (t 2)] → arr[i]? = some v → i < 3 ∧ v = .int (n i) (t i) := fun arr i v e h => at4 i v (e ▸ h)
  have sz : ∀ arr : Array Value, (s.heap.push { cls := .type "tuple", data := .seq arr }).objs.size = s.heap.objs.size + 1 := fun _ => Heap.size_push ..
  have tup : ∀ arr : Array Value, (s.heap.push { cls := .type "tuple", data := .seq arr }).IsTuple s.heap.objs.size arr := fun arr => ⟨_, Heap.get?_push_size _ rfl, rfl, 0, rfl⟩
  have four : ∀ arr : Array Value, arr = #[Value.int (n 0) (t 0), .int (n 1) (t 1), .int (n 2) (t 2)] → arr.size = 3 := fun arr e => by rw [e]; rfl
  refine call_function_tree F.kind_max F.plain_max F.entry_max (max3_args _ _ _) (wpAny_bind (wpAny_of_eq (a := [none, none]) rfl ?_))
  refine wpAny_bind (M := model prog w) (A := A.in1) (m := newTuple [.int (n 0) (t 0), .int (n 1) (t 1), .int (n 2) (t 2)]) (wpAny_newObj_type ?_)
  generalize ea : ([Value.int (n 0) (t 0), .int (n 1) (t 1), .int (n 2) (t 2)] : List Value).toArray = arr
  have ea' := ea.symm
  refine wpAny_bind (wpAny_pyIter_tuple (tup arr) (wpAny_bind (wpAny_newObj_type ?_)))
  rw [nm]
  have W := Walks.tuple (prog := prog) (w := w) (A := A.in1) hh (s.heap.objs.size + 1) s.heap.objs.size far1 arr
  have i1 : (s.heap.push { cls := .type "tuple", data := .seq arr }).objs.size = s.heap.objs.size + 1 := sz arr
  have i2 : ((s.heap.push { cls := .type "tuple", data := .seq arr }).push { cls := .type "tuple_iterator", data := .fields #[.ref s.heap.objs.size, .int 0 0] }).objs.size = s.heap.objs.size + 1 + 1 := by
    rw [Heap.size_push, i1]
  dsimp only [Option.getD_none, Option.toList_none, List.map_nil]
  rw [i1, i2]
  have hit : ((s.heap.push { cls := .type "tuple", data := .seq arr }).push { cls := .type "tuple_iterator", data := .fields #[.ref s.heap.objs.size, .int 0 0] }).IsTupleIter (s.heap.objs.size + 1) s.heap.objs.size 0 :=
    ⟨_, by rw [← i1]; exact Heap.get?_push_size _ rfl, rfl, rfl⟩
  have ht2 := (tup arr).push { cls := .type "tuple_iterator", data := .fields #[.ref s.heap.objs.size, .int 0 0] }
  have hst := W.frame 0 _ _ ⟨hit, ht2⟩ fun b (_ : b ∈ [s.heap.objs.size + 1, s.heap.objs.size]) o e => Heap.get?_push_of_some { cls := .type "list", data := .seq #[] } e
  refine wpAny_pure ⟨plainId_quiet F.plain_max_loop _, codeAny_max_loop_first W _ (CmpOf.ints_gt n fun i v e => ⟨t i, (at4 arr i v ea' e).2⟩) (s.heap.objs.size + 1 + 1) far2 (by rw [four arr ea']; omega) hst (by rw [← i2]; exact Heap.get?_push_size _ rfl) fun v g tk hP hk => ?_⟩
  obtain ⟨b1, b2⟩ := best_is n 2
  rw [four arr ea'] at hP
  obtain ⟨k4, rfl⟩ := at4 arr _ v ea' hP
  refine h g tk _ k4 (fun i hi => b2 i (by omega)) fun z o e => ?_
  have hz := Heap.lt_size e
  refine hk z o (far3 hz) (far4 hz) (Heap.get?_push_of_some _ (Heap.get?_push_of_some _ (Heap.get?_push_of_some _ e)))
end
section
variable {X : Cx}
theorem call_max3 (hc : X.calm = true) : CallR X (.builtin "max") (fun xs H Q => ∃ a b c : Int, xs = [.int a, .int b, .int c] ∧ ∀ m, m ∈ [a, b, c] → a ≤ m → b ≤ m → c ≤ m → Q (.int m) H) := by
  intro pins s σ H xs us Q I r h
  obtain ⟨a, b, c, rfl, q⟩ := h
  cases r with
  | cons r1 r =>
  cases r with
  | cons r2 r =>
  cases r with
  | cons r3 r =>
  cases r
  obtain ⟨t1, rfl⟩ := r1
  obtain ⟨t2, rfl⟩ := r2
  obtain ⟨t3, rfl⟩ := r3
  refine max3 (n := fun i => [a, b, c].getD i 0) (t := fun i => [t1, t2, t3].getD i t1) (I.ok.hd hc) fun g tk k hk hm hold => ⟨.int ([a, b, c].getD k 0), H, I.kept hold, ⟨_, rfl⟩, ?_⟩
  have m0 := hm 0 (by omega)
  have m1 := hm 1 (by omega)
  have m2 := hm 2 (by omega)
  refine q _ ?_ m0 m1 m2
  match k, hk with
  | 0, _ => simp
  | 1, _ => simp
  | 2, _ => simp
end
end Rp
/-! Tp: min of a list of pairs of ints; sorted of a list of tuples, also of a short one. -/
namespace Rp
open PySem PySem.Spec L2 PyProof.Rows PySem.W
def pairD (p : Int × Int) : PyData := .tuple [.int p.1, .int p.2]
theorem pair_alike (p q : Int × Int) : alike (pairD p) (pairD q) = true := rfl
theorem pair_less {p q : Int × Int} (h : p.1 ≠ q.1) : dataLt (pairD p) (pairD q) = decide (p.1 < q.1) := by
  unfold pairD
  rw [dataLt_tuple, dataLt_all_no rfl (by simp [PyData.eqv, h]), dataLt_int]
/-- the least pair has a least first number -/
theorem minD_pairs : ∀ (ps : List (Int × Int)) (p : Int × Int), ∃ q ∈ p :: ps, minD (pairD p) (ps.map pairD) = pairD q ∧ ∀ r ∈ p :: ps, q.1 ≤ r.1
  | [], p => ⟨p, List.mem_cons_self .., rfl, fun r hr => by rw [List.mem_singleton.mp hr]; exact Int.le_refl _⟩
  | k :: ps, p => by
    have step : minD (pairD p) ((k :: ps).map pairD) = minD (if dataLt (pairD k) (pairD p) = true then pairD k else pairD p) (ps.map pairD) := rfl
    cases e : dataLt (pairD k) (pairD p) with
    | true =>
      rw [e, if_pos rfl] at step
      obtain ⟨q, hq, e1, e2⟩ := minD_pairs ps k
      refine ⟨q, List.mem_cons_of_mem _ hq, step.trans e1, fun r hr => ?_⟩
      rcases List.mem_cons.mp hr with rfl | hr
      · have h1 := e2 k (List.mem_cons_self ..)
        by_cases ne : k.1 = r.1
        · rw [← ne]; exact h1
        · rw [pair_less ne] at e
          have := of_decide_eq_true e
          omega
      · exact e2 r hr
    | false =>
      rw [e, if_neg Bool.false_ne_true] at step
      obtain ⟨q, hq, e1, e2⟩ := minD_pairs ps p
      refine ⟨q, ?_, step.trans e1, fun r hr => ?_⟩
      · rcases List.mem_cons.mp hq with rfl | hq
        · exact List.mem_cons_self ..
        · exact List.mem_cons_of_mem _ (List.mem_cons_of_mem _ hq)
      have h1 := e2 p (List.mem_cons_self ..)
      rcases List.mem_cons.mp hr with rfl | hr
      · exact h1
      rcases List.mem_cons.mp hr with rfl | hr
      · by_cases ne : r.1 = p.1
        · rw [ne]; exact h1
        · rw [pair_less ne] at e
          have := of_decide_eq_false e
          omega
      · exact e2 r (List.mem_cons_of_mem _ hr)
section
variable {X : Cx}
theorem pairs_depth : ∀ ps : List (Int × Int), PyData.depthAll (ps.map pairD) ≤ 4
  | [] => by simp [PyData.depthAll]
  | p :: ps => by
    have := pairs_depth ps
    simp only [List.map_cons, pairD, PyData.depthAll, PyData.depth] at this ⊢
    omega
theorem dpAll_readsP {pins : List (Addr × Obj)} {σ : L2.St} {H : Hp} {s : Shared} (I : L2.Inv X pins σ H s) : ∀ {xs : List V} {ds : List PyData} {us : List Value}, DpAll X.K H xs ds → Vals xs us → ∃ as, ReadsAll s.heap us ds as
  | [], [], _, .nil, .nil => ⟨_, .nil⟩
  | x :: xs, d :: ds, _, .cons hx hr, .cons rv rs => by
    obtain ⟨as, r⟩ := Dp.reads I d x _ hx rv
    obtain ⟨bs, r2⟩ := dpAll_readsP I hr rs
    exact ⟨_, .cons r r2⟩
/-- min(xs), xs a list of pairs of ints: an item of least first number -/
def rMinP (K : PySem.W.Frag) : List V → Hp → VK → Prop := fun vs H Q => ∃ (a : Addr) (xs : List V) (ps : List (Int × Int)), vs = [V.ref a] ∧ SqL K H a xs ∧ DpAll K H xs (ps.map pairD) ∧ 0 < ps.length ∧
  ∀ (i : Nat) (x : V) (p : Int × Int), xs[i]? = some x → ps[i]? = some p → (∀ q ∈ ps, p.1 ≤ q.1) → Q x H
theorem cr_minP (hc : X.calm = true) (hu : X.A.units + 66 < cLine) : CallR X (.builtin "min") (rMinP X.K) := by
  intro pins s σ H vs us Q I r h
  obtain ⟨a, xs, ps, rfl, hs, hx, hne, q⟩ := h
  obtain ⟨its, rv, hl, hz⟩ := I.list hs
  rw [Vals.ref1 r]
  cases ps with
  | nil => simp at hne
  | cons p ps =>
  obtain ⟨as, ra⟩ := dpAll_readsP I hx rv
  have rax := ra
  refine min_list_data (x := pairD p) (xs := ps.map pairD) (vs := its.toArray) (as := as) (I.ok.hd hc) hl.isList (by simpa using ra) ⟨fun x hx y hy => ?_, fun x hx => ?_⟩ ?_ fun i v h' tk bs hv hr hk => ?_
  · obtain ⟨i, _, rfl⟩ := List.mem_map.mp (show x ∈ (p :: ps).map pairD from hx)
    obtain ⟨k, _, rfl⟩ := List.mem_map.mp (show y ∈ (p :: ps).map pairD from hy)
    exact pair_alike _ _
  · obtain ⟨i, _, rfl⟩ := List.mem_map.mp (show x ∈ (p :: ps).map pairD from hx)
    exact fun z => by cases z
  · have := pairs_depth (p :: ps)
    rw [List.map_cons] at this
    omega
  · have hv' : its[i]? = some v := by simpa using hv
    obtain ⟨x, ex, rx⟩ : ∃ x, xs[i]? = some x ∧ RelV x v := by
      have go : ∀ {xs : List V} {its : List Value} {i : Nat}, Vals xs its → its[i]? = some v → ∃ x, xs[i]? = some x ∧ RelV x v := by
        intro xs its i h
        induction h generalizing i with
        | nil => intro e; simp at e
        | @cons x0 u xs us h1 _ ih =>
          intro e
          cases i with
          | zero =>
            have e : some u = some v := e
            rw [← Option.some.inj e]
            exact ⟨x0, rfl, h1⟩
          | succ i => exact ih (by simpa using e)
      exact go rv hv'
    obtain ⟨d, ed, hd⟩ := dpAll_get hx ex
    rw [List.getElem?_map] at ed
    obtain ⟨k, ek, rfl⟩ := Option.map_eq_some_iff.mp ed
    obtain ⟨m, hm, em, hmin⟩ := minD_pairs ps p
    rw [em] at hr
    obtain ⟨cs, hr2⟩ := Dp.reads I (pairD k) x v hd rx
    have e1 := alike_unique _ _ v _ _ (pair_alike k m) (Reads.keeps hk hr2) hr
    have e2 : k = m := by
      unfold pairD at e1
      injection e1 with e1
      injection e1 with a1 a2
      injection a1 with a1
      injection a2 with a2 a3
      injection a2 with a2
      exact Prod.ext a1 a2
    subst e2
    exact ⟨x, H, I.kept hk, rx, q i x k ex ek hmin⟩
/-- sorted of a list, also of a short one -/
def rSortLZ (K : PySem.W.Frag) : List V → Hp → VK → Prop := fun vs H Q => rSortTP K vs H Q ∨ ∃ (a : Addr) (xs : List V), vs = [V.ref a] ∧ SqL K H a xs ∧ xs.length ≤ 1 ∧ ∀ p, H p = none → Q (.ref p) (upd H p (.lst xs))
theorem cr_sortLZ : CallR X (.builtin "sorted") (rSortLZ X.K) := by
  intro pins s σ H vs us Q I r h
  rcases h with h | ⟨a, xs, rfl, hs, h1, q⟩
  · exact cr_sortTP pins s σ H vs us Q I r h
  obtain ⟨its, rv, hl, hz⟩ := I.list hs
  obtain ⟨u, rfl, ru⟩ := vals1 r
  cases ru
  have hlen : xs.length = its.length := rv.length
  refine SrtO.sorted_ord (ltv := fun _ _ => false) (by constructor <;> intros <;> simp_all) hl.isList (by rw [← hlen]; exact hz) (fun h2 h₁ b hb hk => by omega) (fun out h1' h2 => ?_)
  have eo : out = its := by
    have l1 : its.length ≤ 1 := by omega
    have pm := h2.perm
    clear hl rv hz hlen q h1' h2
    rcases its with _ | ⟨x, _ | ⟨y, its⟩⟩
    · exact List.perm_nil.mp pm
    · exact List.perm_singleton.mp pm
    · simp at l1
  subst eo
  have hd : s.heap.objs.size ≤ s.heap.objs.size + 1 := Nat.le_succ _
  obtain ⟨e, he⟩ := sortedAll_at s.heap out out.toArray
  refine ⟨.ref _, upd H _ (.lst xs), I.laid (fun b o hbo => sortedAll_old hbo) hd ?_, rfl, q _ (I.hok.fresh hd)⟩
  exact ⟨hz, out, e, rv, he⟩
end
end Rp
/-! Tw: set of a tuple of tuples of ints, of any length, where fewer than 63 of them differ. -/
namespace Rp
open PySem PySem.Spec L2 PyProof.Rows
section
variable {P : Program} {w : World} {A : Around} {E : Value → Shared → Prop} {s : Shared}
/-- one more item, till none is left -/
theorem set_more {It : Addr} {own wr : List Addr} {Gs : Array GenState → Array GenState → Prop} {n : Nat} {Pv : Nat → Value → Prop} {St : Nat → Shared → Prop} {R : Result → Shared → Prop}
    (walk : WalksS P w A.in1 It own wr Gs n Pv St) (Z : Addr) (far : Z ∉ own) (ks : List (Addr × List Int)) (en : n = ks.length) (few : ∀ L : List (Addr × List Int), (∀ p ∈ L, p ∈ ks) → (L.map (·.2)).Nodup → L.length < 63)
    (each : ∀ i v, Pv i v → ∃ p, ks[i]? = some p ∧ v = .ref p.1) (hp0 : Heap) (ek : ∀ p ∈ ks, IsT P w hp0 p.2 p.1) (newZ : hp0.get? Z = none) (neww : ∀ b ∈ wr, hp0.get? b = none) (un : A.in1.units < cLine) :
    ∀ (k i : Nat) (s : Shared), n - i = k → i ≤ n → St i s → (∀ b o, hp0.get? b = some o → s.heap.get? b = some o) → (∃ L es ep t, SetTR P w s.heap Z L es ep t ∧ Got ks i L) →
      (∀ s' L es ep t, Moved (Z :: wr) Gs s s' → SetTR P w s'.heap Z L es ep t → Got ks n L → (∀ b o, hp0.get? b = some o → s'.heap.get? b = some o) → R (.ok (.ret .none)) s') →
      codeAny (model P w) A (.builtin "set.update.loop" ⟨[.ref Z, .ref It], []⟩) R s := by
  have outw : Z ∉ wr := fun z => far (walk.sub _ z)
  have wider : ∀ b ∈ wr, b ∈ Z :: wr := fun _ hb => List.mem_cons_of_mem _ hb
  have old : ∀ {s s' : Shared}, Moved wr Gs s s' → (∀ b o, hp0.get? b = some o → s.heap.get? b = some o) → ∀ b o, hp0.get? b = some o → s'.heap.get? b = some o := fun mv kp b o e => by
    refine mv.heap b o (fun hb => ?_) (kp b o e)
    rw [neww b hb] at e
    cases e
  intro k
  induction k with
  | zero =>
    rintro i s ek' hi st kp ⟨L, es, ep, t, RZ, got⟩ fin
    obtain rfl : i = n := by omega
    refine codeAny_builtin F.entry_set_update_loop ?_
    rw [Around.under_plainId F.plain_set_update_loop _]
    show wpAny _ A.in1 (pyNext (.ref It) >>= _) _ _ s
    refine wpAny_bind (walk.done s _ _ st fun s' mv => ?_)
    show wpAny _ A.in1 (ret Value.none) _ _ s'
    have kp' := old mv kp
    have inks : ∀ p ∈ L, p ∈ ks := fun p hp => List.mem_of_mem_take (got.sub p hp)
    refine wpAny_pure (fin s' L es ep t (mv.mono wider) (RZ.keep (fun o e => mv.heap Z o outw e) fun p hp => isT_keep (ek p (inks p hp)) kp') got kp')
  | succ k ih =>
    rintro i s ek' hi st kp ⟨L, es, ep, t, RZ, got⟩ fin
    have lt : i < n := by omega
    refine codeAny_builtin F.entry_set_update_loop ?_
    rw [Around.under_plainId F.plain_set_update_loop _]
    show wpAny _ A.in1 (pyNext (.ref It) >>= _) _ _ s
    refine wpAny_bind (walk.item i s _ _ lt st fun v s' hP st' mv => ?_)
    obtain ⟨p, hp, rfl⟩ := each i v hP
    have kp' := old mv kp
    have inks : ∀ p ∈ L, p ∈ ks := fun p hp => List.mem_of_mem_take (got.sub p hp)
    have RZ' : SetTR P w s'.heap Z L es ep t := RZ.keep (fun o e => mv.heap Z o outw e) fun q hq => isT_keep (ek q (inks q hq)) kp'
    have tx : IsT P w s'.heap p.2 p.1 := isT_keep (ek p (List.mem_of_getElem? hp)) kp'
    have room := few L inks RZ.nd
    show wpAny _ A.in1 (holding [Value.ref p.1] (setAdd Z (.ref p.1)) >>= _) _ _ s'
    refine wpAny_bind (wpAny_holding ?_)
    unfold setAdd
    refine wpAny_holding ?_
    refine wpAny_bind (wpAny_pyHash_tuple un tx ?_)
    refine add_at (s := { s' with toks := s'.toks + (p.2.length + 1) }) RZ' tx un (by omega) fun b g L' es' ep' t' same R2 c1 c2 => ?_
    have got' : Got ks (i + 1) L' := by
      by_cases c : p.2 ∈ L.map (·.2)
      · rw [c1 c]
        exact got.same hp c
      · exact got.more hp (c2 c)
    have kp2 : ∀ b o, hp0.get? b = some o → g.get? b = some o := fun b o e => by
      refine (same.2 b (fun z => ?_)).trans (kp' b o e)
      rw [z, newZ] at e
      cases e
    refine wpAny_pure ⟨plainId_quiet F.plain_set_update_loop _, ih (i + 1) _ (by omega) lt (walk.frame _ s' _ _ st' (Nat.le_add_right _ _) fun b hb o e => ?_) kp2 ⟨L', es', ep', t', R2, got'⟩ fun s2 L2 es2 ep2 t2 mv2 RL g2 kpz => ?_⟩
    · have nb : b ≠ Z := fun z => far (by rw [← z]; exact hb)
      rw [same.2 b nb]
      exact e
    · refine fin s2 L2 es2 ep2 t2 (Moved.trans walk.gtrans ((mv.mono wider).then_heap (Nat.le_add_right _ _) fun b o hb e => ?_) mv2) RL g2 kpz
      have nb : b ≠ Z := fun z => hb (by rw [z]; exact List.mem_cons_self)
      rw [same.2 b nb]
      exact e
theorem set_tupW {l : Addr} {items : Array Value} (ks : List (Addr × List Int)) {Q : Value → Shared → Prop} (free : A.handled = none) (tupl : s.heap.IsTuple l items) (eit : items.toList = ks.map fun p => Value.ref p.1)
    (ek : ∀ p ∈ ks, IsT P w s.heap p.2 p.1) (few : ∀ L : List (Addr × List Int), (∀ p ∈ L, p ∈ ks) → (L.map (·.2)).Nodup → L.length < 63) (un : A.units + 3 < cLine)
    (out : ∀ (g : Heap) (tk : Nat) L es ep t, SetTR P w g s.heap.objs.size L es ep t → Got ks ks.length L → (∀ b o, s.heap.get? b = some o → g.get? b = some o) → Q (.ref s.heap.objs.size) { s with heap := g, toks := tk }) :
    wpAny (model P w) A (call (.type "set") [.ref l]) Q E s := by
  have esz : items.size = ks.length := by rw [← Array.length_toList, eit, List.length_map]
  obtain ⟨c, tl, mro1⟩ := F.called_set.mro
  have made1 := F.called_set.made
  have subm := F.called_set.sub
  refine wpAny_call (codeAny_of_tree (show wpAny _ _ (callAny (.type "set") _) _ _ _ from wpAny_pure ⟨Code.quiet_builtin _ (by decide +kernel), codeAny_builtin F.entry_type_call ?_⟩))
  rw [Around.under_plain (weight_type_call_type "set" [.ref l] []) rfl]
  have nty := F.called_set.notType
  have cancr := F.called_set.canCreate
  have tcall := F.typeCall_set_1 (.ref l)
  repeat (any_goals (first | assumption | wp_step))
  refine codeAny_mono (code_set_led1 (.ref l) (E := E) (Q₁ := fun x s1 => x = .ref s.heap.objs.size ∧ s1 = { s with heap := setHp w s }) ⟨rfl, rfl⟩) fun r s1 hr => ?_
  rcases r with e | fl
  · exact hr
  cases fl <;> first | exact hr.elim | skip
  rename_i made
  obtain ⟨rfl, rfl⟩ := hr
  have atS : (setHp w s).get? s.heap.objs.size = some (setOb w) := Heap.get?_push_size _ rfl
  have tyS : Shared.TypeIs { s with heap := setHp w s } (.ref s.heap.objs.size) "set" := ⟨_, atS, rfl⟩
  have lki := F.called_set.init.lookup
  have bdi := F.called_set.init.bind (.ref s.heap.objs.size)
  repeat (any_goals (first | assumption | wp_step))
  refine codeAny_mono (codeAny_call_builtin (R := wants (fun r s2 => r = .none ∧ ∃ g tk L es ep t, s2 = { s with heap := g, toks := tk } ∧ SetTR P w g s.heap.objs.size L es ep t ∧ Got ks ks.length L ∧
      (∀ b o, s.heap.get? b = some o → g.get? b = some o)) E) F.called_set.init.plain F.entry_set_init (check_set_init_1 tyS ?_)) fun r2 s2 hr2 => ?_
  · obtain ⟨ob, atl, cl, nl, dt⟩ := tupl
    rcases ob with ⟨c0, d0, dat0, sl0⟩
    dsimp only at cl dt
    subst cl dt
    have atl' : (setHp w s).get? l = some { cls := .type "tuple", dict := d0, data := .seq items nl, slots := sl0 } := Heap.get?_push_of_some _ atl
    have sb1 := F.sub_tuple_set
    have sb2 := F.sub_tuple_frozenset
    have nd : (Value.type "tuple" == Value.type "dict") = false := by decide
    have isT1 : (setHp w s).IsTuple l items := ⟨_, atl', rfl, nl, rfl⟩
    unfold Builtin.«set.__init__» noKeywords Builtin.Frozenset.updateFrom
    generalize hit : pyIter = IT
    wp_walk
    subst hit
    refine wpAny_pyIter_tuple isT1 (wpAny_bind (wpAny_runValue ?_))
    have ltl : l < s.heap.objs.size := Heap.lt_size atl
    have sz : (setHp w s).objs.size = s.heap.objs.size + 1 := Heap.size_push ..
    have farl : l ≠ (setHp w s).objs.size := by
      rw [sz]
      exact Nat.ne_of_lt (Nat.lt_succ_of_lt ltl)
    have farS : s.heap.objs.size ∉ [(setHp w s).objs.size, l] := by
      intro hm
      rcases List.mem_cons.mp hm with e | e
      · rw [sz] at e
        exact absurd e (Nat.ne_of_lt (Nat.lt_succ_self _))
      · exact absurd (List.mem_singleton.mp e) (Nat.ne_of_gt ltl)
    have each : ∀ (i : Nat) (v : Value), items[i]? = some v → ∃ p, ks[i]? = some p ∧ v = .ref p.1 := fun i v hv => by
      rw [← Array.getElem?_toList, eit, List.getElem?_map] at hv
      obtain ⟨p, e1, e2⟩ := Option.map_eq_some_iff.mp hv
      exact ⟨p, e1, e2.symm⟩
    refine set_more ((Walks.tuple (A := A.in1.in1.in1) (by simp [free]) _ l farl items).toS) s.heap.objs.size farS ks esz few each s.heap ek (past_none (Nat.le_refl _)) (fun b hb => past_none (by
        rw [List.mem_singleton.mp hb]
        omega)) un (items.size - 0) 0 _ (by omega) (Nat.zero_le _) ⟨⟨_, Heap.get?_push_size _ rfl, rfl, rfl⟩, (isT1.push _)⟩ (fun b o e => Heap.get?_push_of_some _ (Heap.get?_push_of_some _ e)) ⟨[], #[], 0, _, setTR_fresh (Heap.get?_push_of_some _ atS), Got.zero ks⟩ ?_
    intro s' L es ep t mv R' g' kp
    rcases s' with ⟨h', g2, dr', tk', os'⟩
    have q1 : g2 = s.gens := mv.gens
    have q2 : dr' = s.drawn := mv.drawn
    have q3 : os' = s.os := mv.os
    subst q1 q2 q3
    rw [esz] at g'
    exact wpAny_pure (wpAny_pure ⟨rfl, h', tk', L, es, ep, t, rfl, R', g', kp⟩)
  · rcases r2 with e | fl
    · exact hr2
    cases fl <;> first | exact hr2.elim | skip
    obtain ⟨rfl, g, tk, L, es, ep, t, rfl, R', g', kp⟩ := hr2
    repeat (any_goals (first | assumption | wp_step))
    exact out _ _ _ _ _ _ R' g' kp
end
section
variable {X : Cx}
/-- set(xs), xs a tuple of tuples of ints, of which fewer than 63 differ -/
def rSetTW (K : PySem.W.Frag) (P : Program) (w : World) : List V → Hp → VK → Prop := fun xs H Q => ∃ (l : Addr) (ks : List (Addr × List Int)), xs = [V.ref l] ∧ SqT K H l (ks.map fun p => V.ref p.1) ∧ (∀ p ∈ ks, SqT K H p.1 (p.2.map V.int)) ∧ (∀ L : List (Addr × List Int), (∀ p ∈ L, p ∈ ks) → (L.map (·.2)).Nodup → L.length < 63) ∧
  ∀ a L, H a = none → (∀ p ∈ L, p ∈ ks) → (∀ p ∈ ks, p.2 ∈ L.map (·.2)) → Q (.ref a) (upd H a (SetTO P w a L))
theorem cr_setTW (hc : X.calm = true) (hu : X.A.units + 64 < cLine) : CallR X (.type "set") (rSetTW X.K X.prog X.w) := by
  intro pins s σ H xs us Q I r h
  obtain ⟨l, ks, rfl, hl, hk, hf, q⟩ := h
  rw [Vals.ref1 r]
  obtain ⟨its, rv, pl, hz⟩ := I.tuple hl
  refine set_tupW (P := X.prog) (w := X.w) ks (I.ok.hd hc) pl (by simpa using refs_of_vals rv) (fun p hp => I.isT (hk p hp)) hf (by omega) fun g tk L es ep t R gt kp => ?_
  refine ⟨.ref s.heap.objs.size, _, I.laid (t' := tk) kp (Nat.le_refl _) (setTO_new R.t0), rfl, q _ L (I.hok.fresh (Nat.le_refl _)) (fun p hp => List.mem_of_mem_take (gt.sub p hp)) fun p hp => gt.all p ?_⟩
  rw [List.take_length]
  exact hp
end
end Rp
/-! Qt: data of any kind (a dict, too) in a list of tuples. -/
namespace Rp
open PySem L2 PyProof.Rows
theorem tuple_eq_dict (l b : Addr) (items : Array Value) (n : Nat) (o2 : Obj) (dd : Option Addr) (sl : Array (Option Value)) :
    Meets (Builtin.«tuple.__eq__» ⟨[.ref l, .ref b], []⟩) (fun _ R s => s.heap.get? l = some { cls := .type "tuple", dict := dd, data := .seq items n, slots := sl } ∧ s.heap.get? b = some o2 ∧ o2.cls = .type "dict" ∧ R (.ok (.ret .notImplemented)) s) :=
  .of_wp fun prog w A R s h => by
    obtain ⟨hp, g, d, tk, os⟩ := s
    obtain ⟨hl, hb, hc, h⟩ := h
    obtain ⟨cls, dd2, data2, sl2⟩ := o2
    simp only at hc
    subst hc
    have f1 := F.sub_dict_tuple
    wp_walk using wpAny_loadPart' hl, wpAny_loadPart' hb
    exact ⟨_, rfl, h⟩
theorem dict_eq_tuple (l b : Addr) (items : Array Value) (n : Nat) (dd : Option Addr) (sl : Array (Option Value)) :
    Meets (Builtin.«dict.__eq__» ⟨[.ref b, .ref l], []⟩) (fun _ R s => s.heap.get? l = some { cls := .type "tuple", dict := dd, data := .seq items n, slots := sl } ∧ R (.ok (.ret .notImplemented)) s) :=
  .of_wp fun prog w A R s h => by
    obtain ⟨hp, g, d, tk, os⟩ := s
    obtain ⟨hl, h⟩ := h
    have f1 := F.sub_tuple_dict
    wp_walk using wpAny_loadPart' hl
    exact ⟨_, rfl, h⟩
theorem eq_tuple_dict {A : Around} {s : Shared} {l b : Addr} {items : Array Value} {o2 : Obj} {es : Array DictEntry} {m : Nat} (hl : s.heap.IsTuple l items) (hb : s.heap.get? b = some o2) (hc : o2.cls = .type "dict") (hd : o2.data = .dict es m) (hu : A.units < cLine) : SeqAt.EqAt A s (.ref l) (.ref b) false := by
  have hne : l ≠ b := fun e => by
    subst e
    obtain ⟨o, ho, h1, _⟩ := hl
    rw [ho] at hb
    cases hb
    rw [h1] at hc
    exact absurd hc (by simp)
  refine SeqAt.EqAt.of_refs hne fun prog w E Q h => ?_
  obtain ⟨⟨cls, dd, data, sl⟩, ho, h1, n, h2⟩ := id hl
  obtain ⟨cls2, dd2, data2, sl2⟩ := o2
  simp only at h1 h2 hc hd
  subst h1 h2 hc hd
  exact (SeqAt.rc_eq_decline_or (k := false) ⟨_, ho, rfl⟩ ⟨_, hb, rfl⟩ (by decide) F.sub_dict_tuple F.slot_tuple_eq F.slot_dict_eq_refl
    (fun _ hq => call_meets F.slot_tuple_eq ⟨_, ho, rfl⟩ F.entry_tuple_eq (F.args_tuple_eq_2 _ _) (tuple_eq_dict l b items n _ dd sl) ⟨ho, hb, rfl, hq⟩)
    (fun _ hq => call_meets F.slot_dict_eq_refl ⟨_, hb, rfl⟩ F.entry_dict_eq (F.args_dict_eq_2 _ _) (dict_eq_tuple l b items n dd sl) ⟨ho, hq⟩)
    (fun _ hq => SeqAt.wpAny_isSame_ref_other' hne ho hb (by simp) hq) (.inr hu) h)
end Rp
namespace Rp
open PySem L2 PyProof.Rows
/-- each is a tuple -/
def allT : List PyData → Bool
  | [] => true
  | .tuple _ :: ds => allT ds
  | _ :: _ => false
theorem readsT_mem {h : Heap} : ∀ (xs : List PyData) (vs : List Value) (as : List Addr), allT xs = true → ReadsAll h vs xs as → ∀ y ∈ vs, ∃ (l : Addr) (its : Array Value), y = .ref l ∧ h.IsTuple l its
  | [], _, _, _, r, y, hy => by cases r; cases hy
  | x :: xs, _, _, hc, r, y, hy => by
    cases r with
    | cons r1 r2 =>
      cases x with
      | tuple ds =>
        rcases List.mem_cons.mp hy with rfl | hy
        · cases r1 with
          | tuple h1 h2 h3 h4 => exact ⟨_, _, rfl, _, h1, h2, _, h3⟩
        · exact readsT_mem xs _ _ hc r2 y hy
      | _ => cases hc
def isDct : PyData → Bool
  | .dict _ => true
  | _ => false
/-- is it one of these tuples -/
def inTQ (ds : List PyData) (d : PyData) : Bool := !isDct d && ds.any fun e => e.eqv d
def rInTQ (K : PySem.W.Frag) : R2 := fun x y H Q => ∃ (p : Addr) (ds : List PyData) (d : PyData), Dp K H y (.list ds) ∧ allT ds = true ∧ Dq K p H x d ∧ PyData.canLayAll0 ds = true ∧ (isDct d = true ∨ noD d = true ∧ d.canLay0 = true ∧ d.depth ≤ 60) ∧ Q (.bl (inTQ ds d)) H
theorem op_inTQ {X : Cx} (hu : X.A.units + 66 < cLine) : OpR X (compareOp .In) (rInTQ X.K) := by
  rintro pins s σ H x y v u Q I rv ru ⟨p, ds, d, hy, ht, hx, c1, hd, q⟩
  obtain ⟨as, r1⟩ := Dp.reads I _ _ _ hy ru
  rcases hd with hd | ⟨c0, c2, c3⟩
  · have e : inTQ ds d = false := by unfold inTQ; rw [hd]; rfl
    rw [e] at q
    cases d with
    | dict kvs =>
      cases hx with
      | dct n e1 z =>
        rename_i b kv
        obtain rfl : v = .ref b := rv
        cases r1 with
        | list h1 h2 h3 h4 =>
          rename_i a o vs n' as'
          obtain ⟨_, _, ms, _, o2, es, ep, g1, g2, g3, _⟩ := I.hok _ _ e1
          refine SeqAt.in_listAt (fun _ => false) ⟨_, h1, h2, _, h3⟩ (fun y hy => ?_) ?_
          · obtain ⟨l, its, rfl, hl⟩ := readsT_mem _ _ _ ht h4 y (by simpa using hy)
            exact eq_tuple_dict hl g1 g2.1 g3 (by show X.A.units + 1 < cLine; omega)
          · have : vs.any (fun _ => false) = false := by simp
            rw [this]
            exact ⟨.bl _, H, I, rfl, q⟩
    | _ => cases hd
  · have nd : isDct d = false := by cases d <;> first | rfl | (simp [noD] at c0)
    have e : inTQ ds d = ds.any fun e => e.eqv d := by unfold inTQ; rw [nd]; rfl
    rw [e] at q
    obtain ⟨bs, r2⟩ := Dp.reads I _ _ _ (hx.dp c0) rv
    refine SeqAt.in_list_reads r1 r2 c1 c2 ?_ ⟨.bl _, H, I, rfl, q⟩
    have : min (PyData.depthAll ds) d.depth ≤ 60 := Nat.le_trans (Nat.min_le_right _ _) c3
    omega
end Rp
/-! Mit: min of a tuple of ints. -/
namespace Rp
open PySem PySem.Spec L2 PyProof.Rows PySem.W
section
variable {X : Cx}
theorem foldl_min_mem : ∀ (ns : List Int) (n : Int), ns.foldl min n ∈ n :: ns ∧ ∀ y ∈ n :: ns, ns.foldl min n ≤ y
  | [], n => ⟨by simp, by simp⟩
  | k :: ns, n => by
    obtain ⟨h1, h2⟩ := foldl_min_mem ns (min n k)
    rw [List.foldl_cons]
    refine ⟨?_, fun y hy => ?_⟩
    · rcases List.mem_cons.mp h1 with e | e
      · rw [e]
        rcases (show min n k = n ∨ min n k = k by omega) with e | e <;> rw [e] <;> simp
      · exact List.mem_cons_of_mem _ (List.mem_cons_of_mem _ e)
    · have h0 := h2 (min n k) (List.mem_cons_self ..)
      rcases List.mem_cons.mp hy with rfl | hy
      · omega
      rcases List.mem_cons.mp hy with rfl | hy
      · omega
      · exact h2 y (List.mem_cons_of_mem _ hy)
def rMinT (K : PySem.W.Frag) : List V → Hp → VK → Prop := fun vs H Q => ∃ (a : Addr) (ns : List Int), vs = [V.ref a] ∧ SqT K H a (ns.map V.int) ∧ 0 < ns.length ∧ ∀ m, m ∈ ns → (∀ y, y ∈ ns → m ≤ y) → Q (.int m) H
theorem cr_minT (hc : X.calm = true) (hu : X.A.units + 66 < cLine) : CallR X (.builtin "min") (rMinT X.K) := by
  intro pins s σ H vs us Q I r h
  obtain ⟨a, ns, rfl, hs, hne, q⟩ := h
  obtain ⟨its, rv, ht⟩ := isTuple_of I hs
  rw [Vals.ref1 r]
  cases ns with
  | nil => simp at hne
  | cons n ns =>
  obtain ⟨as, ra⟩ := readsAll_ints (h := s.heap) (ns := n :: ns) rv
  have dep : ∀ l : List Int, PyData.depthAll (l.map .int) ≤ 1 := by
    intro l
    induction l with
    | nil => simp [PyData.depthAll]
    | cons x l ih =>
      simp only [List.map_cons, PyData.depthAll, PyData.depth]
      omega
  refine min_tuple_data (x := .int n) (xs := ns.map .int) (I.ok.hd hc) ht ra ⟨fun x hx y hy => ?_, fun x hx => ?_⟩ ?_ fun i v h' tk bs hv hr hk => ?_
  · obtain ⟨i, _, rfl⟩ := List.mem_map.mp (show x ∈ (n :: ns).map PyData.int from hx)
    obtain ⟨k, _, rfl⟩ := List.mem_map.mp (show y ∈ (n :: ns).map PyData.int from hy)
    rfl
  · obtain ⟨i, _, rfl⟩ := List.mem_map.mp (show x ∈ (n :: ns).map PyData.int from hx)
    exact fun z => by cases z
  · have := dep (n :: ns)
    rw [List.map_cons] at this
    omega
  · rw [minD_ints] at hr
    cases hr with
    | int i t =>
    obtain ⟨h1, h2⟩ := foldl_min_mem ns n
    exact ⟨.int _, H, I.kept hk, ⟨_, rfl⟩, q _ h1 h2⟩
end
end Rp
namespace Lw
open PySem L2 Rp
local macro_rules | `(tactic| walk_at "rd") => `(tactic| repeat (first | refine ⟨_, rfl, ?_⟩ | refine ⟨_, _, rfl, rfl, ?_⟩))
abbrev N__wall : List Str := ["k"]
theorem sc__wall : FnScope N__wall ["k"] (defScope s__wall) := ⟨rfl, rfl, rfl, by decide +kernel, rfl, by decide +kernel, by decide +kernel⟩
abbrev N_is_integer : List Str := ["value"]
theorem sc_is_integer : FnScope N_is_integer ["value"] (defScope s_is_integer) := ⟨rfl, rfl, rfl, by decide +kernel, rfl, by decide +kernel, by decide +kernel⟩
abbrev N_is_within : List Str := ["value", "least", "greatest"]
theorem sc_is_within : FnScope N_is_within ["value", "least", "greatest"] (defScope s_is_within) := ⟨rfl, rfl, rfl, by decide +kernel, rfl, by decide +kernel, by decide +kernel⟩
abbrev N_is_short_integer : List Str := ["value"]
theorem sc_is_short_integer : FnScope N_is_short_integer ["value"] (defScope s_is_short_integer) := ⟨rfl, rfl, rfl, by decide +kernel, rfl, by decide +kernel, by decide +kernel⟩
abbrev N_check_number : List Str := ["value"]
theorem sc_check_number : FnScope N_check_number ["value"] (defScope s_check_number) := ⟨rfl, rfl, rfl, by decide +kernel, rfl, by decide +kernel, by decide +kernel⟩
abbrev N_checked_sizes : List Str := ["job", "sizes"]
theorem sc_checked_sizes : FnScope N_checked_sizes ["job"] (defScope s_checked_sizes) := ⟨rfl, rfl, rfl, by decide +kernel, rfl, by decide +kernel, by decide +kernel⟩
abbrev N_steps_of_leaf : List Str := ["value"]
theorem sc_steps_of_leaf : FnScope N_steps_of_leaf ["value"] (defScope s_steps_of_leaf) := ⟨rfl, rfl, rfl, by decide +kernel, rfl, by decide +kernel, by decide +kernel⟩
abbrev N_sizes_of : List Str := ["value", "leaf_steps"]
theorem sc_sizes_of : FnScope N_sizes_of ["value", "leaf_steps"] (defScope s_sizes_of) := ⟨rfl, rfl, rfl, by decide +kernel, rfl, by decide +kernel, by decide +kernel⟩
abbrev N__sizes : List Str := ["value", "leaf_steps", "room", "levels", "steps"]
theorem sc__sizes : FnScope N__sizes ["value", "leaf_steps", "room", "levels"] (defScope s__sizes) := ⟨rfl, rfl, rfl, by decide +kernel, rfl, by decide +kernel, by decide +kernel⟩
abbrev N__sizes_of_parts : List Str := ["parts", "leaf_steps", "room", "levels", "nodes", "steps", "part", "sizes"]
theorem sc__sizes_of_parts : FnScope N__sizes_of_parts ["parts", "leaf_steps", "room", "levels"] (defScope s__sizes_of_parts) := ⟨rfl, rfl, rfl, by decide +kernel, rfl, by decide +kernel, by decide +kernel⟩
abbrev N__sizes_of_rounds : List Str := ["n", "inner", "leaf_steps", "room", "levels", "sizes"]
theorem sc__sizes_of_rounds : FnScope N__sizes_of_rounds ["n", "inner", "leaf_steps", "room", "levels"] (defScope s__sizes_of_rounds) := ⟨rfl, rfl, rfl, by decide +kernel, rfl, by decide +kernel, by decide +kernel⟩
abbrev N__within_count : List Str := ["nodes", "steps"]
theorem sc__within_count : FnScope N__within_count ["nodes", "steps"] (defScope s__within_count) := ⟨rfl, rfl, rfl, by decide +kernel, rfl, by decide +kernel, by decide +kernel⟩
abbrev N_is_address : List Str := ["job", "value"]
theorem sc_is_address : FnScope N_is_address ["job", "value"] (defScope s_is_address) := ⟨rfl, rfl, rfl, by decide +kernel, rfl, by decide +kernel, by decide +kernel⟩
abbrev N_precedes : List Str := ["job", "first", "second", "inner", "before", "after"]
theorem sc_precedes : FnScope N_precedes ["job", "first", "second"] (defScope s_precedes) := ⟨rfl, rfl, rfl, by decide +kernel, rfl, by decide +kernel, by decide +kernel⟩
abbrev N_check_small : List Str := ["job"]
theorem sc_check_small : FnScope N_check_small ["job"] (defScope s_check_small) := ⟨rfl, rfl, rfl, by decide +kernel, rfl, by decide +kernel, by decide +kernel⟩
abbrev N_is_index_tuple : List Str := ["value", "index"]
theorem sc_is_index_tuple : FnScope N_is_index_tuple ["value"] (defScope s_is_index_tuple) := ⟨rfl, rfl, rfl, by decide +kernel, rfl, by decide +kernel, by decide +kernel⟩
abbrev N_find_step : List Str := ["job", "value", "inner", "index"]
theorem sc_find_step : FnScope N_find_step ["job", "value"] (defScope s_find_step) := ⟨rfl, rfl, rfl, by decide +kernel, rfl, by decide +kernel, by decide +kernel⟩
abbrev N__checked_step : List Str := ["job", "address", "step"]
theorem sc__checked_step : FnScope N__checked_step ["job", "address"] (defScope s__checked_step) := ⟨rfl, rfl, rfl, by decide +kernel, rfl, by decide +kernel, by decide +kernel⟩
abbrev N__part_at : List Str := ["job", "index"]
theorem sc__part_at : FnScope N__part_at ["job", "index"] (defScope s__part_at) := ⟨rfl, rfl, rfl, by decide +kernel, rfl, by decide +kernel, by decide +kernel⟩
abbrev N_step_rows : List Str := ["job", "rows", "index", "inner_rows", "gates", "row"]
theorem sc_step_rows : FnScope N_step_rows ["job"] (defScope s_step_rows) := ⟨rfl, rfl, rfl, by decide +kernel, rfl, by decide +kernel, by decide +kernel⟩
abbrev N__rows_by_index : List Str := ["job", "inner_rows", "index", "part"]
theorem sc__rows_by_index : FnScope N__rows_by_index ["job"] (defScope s__rows_by_index) := ⟨rfl, rfl, rfl, by decide +kernel, rfl, by decide +kernel, by decide +kernel⟩
abbrev N__row_within : List Str := ["index", "outer_gates", "row", "address", "step", "gates", "inner_gates", "level", "least"]
theorem sc__row_within : FnScope N__row_within ["index", "outer_gates", "row"] (defScope s__row_within) := ⟨rfl, rfl, rfl, by decide +kernel, rfl, by decide +kernel, by decide +kernel⟩
abbrev N_choices : List Str := ["job"]
theorem sc_choices : FnScope N_choices ["job"] (defScope s_choices) := ⟨rfl, rfl, rfl, by decide +kernel, rfl, by decide +kernel, by decide +kernel⟩
abbrev N_is_choice : List Str := ["job", "value"]
theorem sc_is_choice : FnScope N_is_choice ["job", "value"] (defScope s_is_choice) := ⟨rfl, rfl, rfl, by decide +kernel, rfl, by decide +kernel, by decide +kernel⟩
abbrev N__choices : List Str := ["job", "inner", "found", "index", "part", "choice"]
theorem sc__choices : FnScope N__choices ["job"] (defScope s__choices) := ⟨rfl, rfl, rfl, by decide +kernel, rfl, by decide +kernel, by decide +kernel⟩
abbrev N__is_choice : List Str := ["job", "value"]
theorem sc__is_choice : FnScope N__is_choice ["job", "value"] (defScope s__is_choice) := ⟨rfl, rfl, rfl, by decide +kernel, rfl, by decide +kernel, by decide +kernel⟩
abbrev N_available : List Str := ["job", "state", "most", "steps", "found", "address", "row", "step"]
theorem sc_available : FnScope N_available ["job", "state", "most"] (defScope s_available) := ⟨rfl, rfl, rfl, by decide +kernel, rfl, by decide +kernel, by decide +kernel⟩
abbrev N_checked_state : List Str := ["job", "state", "steps"]
theorem sc_checked_state : FnScope N_checked_state ["job", "state"] (defScope s_checked_state) := ⟨rfl, rfl, rfl, by decide +kernel, rfl, by decide +kernel, by decide +kernel⟩
abbrev N__find_state : List Str := ["job", "value", "steps"]
theorem sc__find_state : FnScope N__find_state ["job", "value"] (defScope s__find_state) := ⟨rfl, rfl, rfl, by decide +kernel, rfl, by decide +kernel, by decide +kernel⟩
abbrev N__is_ascending : List Str := ["addresses", "before", "after"]
theorem sc__is_ascending : FnScope N__is_ascending ["addresses"] (defScope s__is_ascending) := ⟨rfl, rfl, rfl, by decide +kernel, rfl, by decide +kernel, by decide +kernel⟩
abbrev N__law_source : List Str := ["_law_script", "_law_at", "_law_cell", "_law_size", "_law_mixed"]
theorem sc__law_source : FnScope N__law_source ["_law_script", "_law_at"] (defScope s__law_source) := ⟨rfl, rfl, rfl, by decide +kernel, rfl, by decide +kernel, by decide +kernel⟩
abbrev N__law_draw : List Str := ["_law_source_here", "_law_many", "_law_found", "_law_one", "_law_two"]
theorem sc__law_draw : FnScope N__law_draw ["_law_source_here", "_law_many"] (defScope s__law_draw) := ⟨rfl, rfl, rfl, by decide +kernel, rfl, by decide +kernel, by decide +kernel⟩
abbrev N__law_great : List Str := ["_law_source_here", "_law_many", "_law_found", "_law_turn"]
theorem sc__law_great : FnScope N__law_great ["_law_source_here", "_law_many"] (defScope s__law_great) := ⟨rfl, rfl, rfl, by decide +kernel, rfl, by decide +kernel, by decide +kernel⟩
abbrev N__law_step : List Str := ["_law_source_here", "_law_way", "_law_some"]
theorem sc__law_step : FnScope N__law_step ["_law_source_here"] (defScope s__law_step) := ⟨rfl, rfl, rfl, by decide +kernel, rfl, by decide +kernel, by decide +kernel⟩
abbrev N__law_empty : List Str := ["_law_source_here"]
theorem sc__law_empty : FnScope N__law_empty ["_law_source_here"] (defScope s__law_empty) := ⟨rfl, rfl, rfl, by decide +kernel, rfl, by decide +kernel, by decide +kernel⟩
abbrev N__law_job : List Str := ["_law_source_here", "_law_most", "_law_deep", "_law_way", "_law_parts", "_law_left", "_law_turn", "_law_few", "_law_count"]
theorem sc__law_job : FnScope N__law_job ["_law_source_here", "_law_most", "_law_deep"] (defScope s__law_job) := ⟨rfl, rfl, rfl, by decide +kernel, rfl, by decide +kernel, by decide +kernel⟩
abbrev N__law_great_job : List Str := ["_law_source_here", "_law_deep", "_law_counts", "_law_way", "_law_parts", "_law_count", "_law_turn"]
theorem sc__law_great_job : FnScope N__law_great_job ["_law_source_here", "_law_deep", "_law_counts"] (defScope s__law_great_job) := ⟨rfl, rfl, rfl, by decide +kernel, rfl, by decide +kernel, by decide +kernel⟩
abbrev N__law_odd : List Str := ["_law_source_here", "_law_some"]
theorem sc__law_odd : FnScope N__law_odd ["_law_source_here"] (defScope s__law_odd) := ⟨rfl, rfl, rfl, by decide +kernel, rfl, by decide +kernel, by decide +kernel⟩
abbrev N__law_rows : List Str := ["_law_job_here", "_law_rows_here", "_law_ahead", "_law_address", "_law_parts", "_law_done", "_law_at", "_law_part", "_law_before"]
theorem sc__law_rows : FnScope N__law_rows ["_law_job_here", "_law_rows_here", "_law_ahead", "_law_address"] (defScope s__law_rows) := ⟨rfl, rfl, rfl, by decide +kernel, rfl, by decide +kernel, by decide +kernel⟩
abbrev N__law_firsts : List Str := ["_law_job_here", "_law_rows_here", "_law_found", "_law_value", "_law_before", "_law_address", "_law_inner", "_law_is_first", "_law_at"]
theorem sc__law_firsts : FnScope N__law_firsts ["_law_job_here"] (defScope s__law_firsts) := ⟨rfl, rfl, rfl, by decide +kernel, rfl, by decide +kernel, by decide +kernel⟩
abbrev N__law_small_right : List Str := ["_law_source_here", "_law_job_here", "_law_due", "_law_rows_here", "_law_value", "_law_before", "_law_address", "_law_wrong", "_law_free", "_law_odd_here", "_law_at", "_law_one", "_law_row"]
theorem sc__law_small_right : FnScope N__law_small_right ["_law_source_here"] (defScope s__law_small_right) := ⟨rfl, rfl, rfl, by decide +kernel, rfl, by decide +kernel, by decide +kernel⟩
abbrev N__law_great_right : List Str := ["_law_source_here", "_law_job_here", "_law_found", "_law_one"]
theorem sc__law_great_right : FnScope N__law_great_right ["_law_source_here"] (defScope s__law_great_right) := ⟨rfl, rfl, rfl, by decide +kernel, rfl, by decide +kernel, by decide +kernel⟩
abbrev N_DoneSteps_init : List Str := ["self", "job", "address", "step", "gates"]
theorem sc_DoneSteps_init : FnScope N_DoneSteps_init ["self", "job"] (defScope s_DoneSteps_init) := ⟨rfl, rfl, rfl, by decide +kernel, rfl, by decide +kernel, by decide +kernel⟩
abbrev N_DoneSteps_may_do : List Str := ["self", "address", "gates", "level", "least"]
theorem sc_DoneSteps_may_do : FnScope N_DoneSteps_may_do ["self", "address"] (defScope s_DoneSteps_may_do) := ⟨rfl, rfl, rfl, by decide +kernel, rfl, by decide +kernel, by decide +kernel⟩
abbrev N_DoneSteps_do_step : List Str := ["self", "address", "step", "gates", "level", "_", "around"]
theorem sc_DoneSteps_do_step : FnScope N_DoneSteps_do_step ["self", "address"] (defScope s_DoneSteps_do_step) := ⟨rfl, rfl, rfl, by decide +kernel, rfl, by decide +kernel, by decide +kernel⟩
abbrev N_DoneSteps_do_all : List Str := ["self", "addresses", "address"]
theorem sc_DoneSteps_do_all : FnScope N_DoneSteps_do_all ["self", "addresses"] (defScope s_DoneSteps_do_all) := ⟨rfl, rfl, rfl, by decide +kernel, rfl, by decide +kernel, by decide +kernel⟩
abbrev N_DoneSteps_is_complete : List Str := ["self"]
theorem sc_DoneSteps_is_complete : FnScope N_DoneSteps_is_complete ["self"] (defScope s_DoneSteps_is_complete) := ⟨rfl, rfl, rfl, by decide +kernel, rfl, by decide +kernel, by decide +kernel⟩
abbrev N_law : List Str := ["_law_script", "_law_k", "_law_source_here", "_law_job_here"]
theorem sc_law : FnScope N_law ["_law_script"] (defScope s_law) := ⟨rfl, rfl, rfl, by decide +kernel, rfl, by decide +kernel, by decide +kernel⟩
structure Fd (K : PySem.W.Frag) (mg : Str → Option Value) (n : Str) (st : Stmt) (ps : List Str) where
  f : Addr
  d : FuncData
  F : Fun K n n st f d
  b : Binds K d ps []
  m : mg n = some (.ref f)
structure Txt (K : PySem.W.Frag) (mg : Str → Option Value) where
  x__wall : Fd K mg "_wall" s__wall ["k"]
  x_is_integer : Fd K mg "is_integer" s_is_integer ["value"]
  x_is_within : Fd K mg "is_within" s_is_within ["value", "least", "greatest"]
  x_is_short_integer : Fd K mg "is_short_integer" s_is_short_integer ["value"]
  x_check_number : Fd K mg "check_number" s_check_number ["value"]
  x_checked_sizes : Fd K mg "checked_sizes" s_checked_sizes ["job"]
  x_steps_of_leaf : Fd K mg "steps_of_leaf" s_steps_of_leaf ["value"]
  x_sizes_of : Fd K mg "sizes_of" s_sizes_of ["value", "leaf_steps"]
  x__sizes : Fd K mg "_sizes" s__sizes ["value", "leaf_steps", "room", "levels"]
  x__sizes_of_parts : Fd K mg "_sizes_of_parts" s__sizes_of_parts ["parts", "leaf_steps", "room", "levels"]
  x__sizes_of_rounds : Fd K mg "_sizes_of_rounds" s__sizes_of_rounds ["n", "inner", "leaf_steps", "room", "levels"]
  x__within_count : Fd K mg "_within_count" s__within_count ["nodes", "steps"]
  x_is_address : Fd K mg "is_address" s_is_address ["job", "value"]
  x_precedes : Fd K mg "precedes" s_precedes ["job", "first", "second"]
  x_check_small : Fd K mg "check_small" s_check_small ["job"]
  x_is_index_tuple : Fd K mg "is_index_tuple" s_is_index_tuple ["value"]
  x_find_step : Fd K mg "find_step" s_find_step ["job", "value"]
  x__checked_step : Fd K mg "_checked_step" s__checked_step ["job", "address"]
  x__part_at : Fd K mg "_part_at" s__part_at ["job", "index"]
  x_step_rows : Fd K mg "step_rows" s_step_rows ["job"]
  x__rows_by_index : Fd K mg "_rows_by_index" s__rows_by_index ["job"]
  x__row_within : Fd K mg "_row_within" s__row_within ["index", "outer_gates", "row"]
  x_choices : Fd K mg "choices" s_choices ["job"]
  x_is_choice : Fd K mg "is_choice" s_is_choice ["job", "value"]
  x__choices : Fd K mg "_choices" s__choices ["job"]
  x__is_choice : Fd K mg "_is_choice" s__is_choice ["job", "value"]
  f_available : Addr
  d_available : FuncData
  F_available : Fun K "available" "available" s_available f_available d_available
  ds_available : List Value
  vd_available : Vals [.non] ds_available
  b_available : Binds K d_available ["job", "state", "most"] ds_available
  gn_available : List Value → List Value → List Value
  kn_available : KBn K d_available ["job", "state", "most"] 2 ["most"] gn_available (fun vs zs => vs ++ zs)
  m_available : mg "available" = some (.ref f_available)
  x_checked_state : Fd K mg "checked_state" s_checked_state ["job", "state"]
  x__find_state : Fd K mg "_find_state" s__find_state ["job", "value"]
  x__is_ascending : Fd K mg "_is_ascending" s__is_ascending ["addresses"]
  x__law_source : Fd K mg "_law_source" s__law_source ["_law_script", "_law_at"]
  x__law_draw : Fd K mg "_law_draw" s__law_draw ["_law_source_here", "_law_many"]
  x__law_great : Fd K mg "_law_great" s__law_great ["_law_source_here", "_law_many"]
  x__law_step : Fd K mg "_law_step" s__law_step ["_law_source_here"]
  x__law_empty : Fd K mg "_law_empty" s__law_empty ["_law_source_here"]
  x__law_job : Fd K mg "_law_job" s__law_job ["_law_source_here", "_law_most", "_law_deep"]
  x__law_great_job : Fd K mg "_law_great_job" s__law_great_job ["_law_source_here", "_law_deep", "_law_counts"]
  x__law_odd : Fd K mg "_law_odd" s__law_odd ["_law_source_here"]
  x__law_rows : Fd K mg "_law_rows" s__law_rows ["_law_job_here", "_law_rows_here", "_law_ahead", "_law_address"]
  x__law_firsts : Fd K mg "_law_firsts" s__law_firsts ["_law_job_here"]
  x__law_small_right : Fd K mg "_law_small_right" s__law_small_right ["_law_source_here"]
  x__law_great_right : Fd K mg "_law_great_right" s__law_great_right ["_law_source_here"]
  c_DoneSteps : Addr
  g_DoneSteps : mg "DoneSteps" = some (.ref c_DoneSteps)
  cl_DoneSteps : Cls K c_DoneSteps
  na_DoneSteps_rows : NoAttr K c_DoneSteps "rows"
  na_DoneSteps_done : NoAttr K c_DoneSteps "done"
  na_DoneSteps_below : NoAttr K c_DoneSteps "below"
  na_DoneSteps_usages : NoAttr K c_DoneSteps "usages"
  f_DoneSteps_init : Addr
  d_DoneSteps_init : FuncData
  F_DoneSteps_init : Fun K "__init__" "DoneSteps.__init__" s_DoneSteps_init f_DoneSteps_init d_DoneSteps_init
  b_DoneSteps_init : Binds K d_DoneSteps_init ["self", "job"] []
  mk_DoneSteps : Mk K c_DoneSteps f_DoneSteps_init
  f_DoneSteps_may_do : Addr
  d_DoneSteps_may_do : FuncData
  F_DoneSteps_may_do : Fun K "may_do" "DoneSteps.may_do" s_DoneSteps_may_do f_DoneSteps_may_do d_DoneSteps_may_do
  b_DoneSteps_may_do : Binds K d_DoneSteps_may_do ["self", "address"] []
  mt_DoneSteps_may_do : Meth K c_DoneSteps "may_do" f_DoneSteps_may_do
  f_DoneSteps_do_step : Addr
  d_DoneSteps_do_step : FuncData
  F_DoneSteps_do_step : Fun K "do_step" "DoneSteps.do_step" s_DoneSteps_do_step f_DoneSteps_do_step d_DoneSteps_do_step
  b_DoneSteps_do_step : Binds K d_DoneSteps_do_step ["self", "address"] []
  mt_DoneSteps_do_step : Meth K c_DoneSteps "do_step" f_DoneSteps_do_step
  f_DoneSteps_do_all : Addr
  d_DoneSteps_do_all : FuncData
  F_DoneSteps_do_all : Fun K "do_all" "DoneSteps.do_all" s_DoneSteps_do_all f_DoneSteps_do_all d_DoneSteps_do_all
  b_DoneSteps_do_all : Binds K d_DoneSteps_do_all ["self", "addresses"] []
  mt_DoneSteps_do_all : Meth K c_DoneSteps "do_all" f_DoneSteps_do_all
  f_DoneSteps_is_complete : Addr
  d_DoneSteps_is_complete : FuncData
  F_DoneSteps_is_complete : Fun K "is_complete" "DoneSteps.is_complete" s_DoneSteps_is_complete f_DoneSteps_is_complete d_DoneSteps_is_complete
  b_DoneSteps_is_complete : Binds K d_DoneSteps_is_complete ["self"] []
  mt_DoneSteps_is_complete : Meth K c_DoneSteps "is_complete" f_DoneSteps_is_complete
  t_NUMBER_END : Tok
  g_NUMBER_END : mg "NUMBER_END" = some (.int 10000000000000000000000000000000000000000000000000000000000000 t_NUMBER_END)
  t_MAX_STEP : Tok
  g_MAX_STEP : mg "MAX_STEP" = some (.int 1000000000000000000000000000000 t_MAX_STEP)
  t_MAX_COUNT : Tok
  g_MAX_COUNT : mg "MAX_COUNT" = some (.int 1000000000000000000000000000000 t_MAX_COUNT)
  t_MAX_PARTS : Tok
  g_MAX_PARTS : mg "MAX_PARTS" = some (.int 400 t_MAX_PARTS)
  t_MAX_NODES : Tok
  g_MAX_NODES : mg "MAX_NODES" = some (.int 400 t_MAX_NODES)
  t_MAX_DEPTH : Tok
  g_MAX_DEPTH : mg "MAX_DEPTH" = some (.int 13 t_MAX_DEPTH)
  t_MAX_SMALL : Tok
  g_MAX_SMALL : mg "MAX_SMALL" = some (.int 400 t_MAX_SMALL)
  c_InvalidState : Addr
  g_InvalidState : mg "InvalidState" = some (.ref c_InvalidState)
  x_InvalidState : PySem.W.excIn K c_InvalidState [.type "ValueError", .type "Exception", .type "BaseException", .type "object"] "ValueError.__new__" = true
  k_InvalidState : PySem.W.keepIn K (.ref c_InvalidState) = true
  bb_InvalidState : PySem.W.subIn K (.ref c_InvalidState) (.type "BaseException") = some true
  tt_InvalidState : PySem.W.typeIn K (.ref c_InvalidState) = some (.type "type")
  n_abs : mg "abs" = none
  n_all : mg "all" = none
  n_bool : mg "bool" = none
  n_enumerate : mg "enumerate" = none
  n_int : mg "int" = none
  n_isinstance : mg "isinstance" = none
  n_len : mg "len" = none
  n_list : mg "list" = none
  n_max : mg "max" = none
  n_min : mg "min" = none
  n_range : mg "range" = none
  n_repr : mg "repr" = none
  n_set : mg "set" = none
  n_sorted : mg "sorted" = none
  n_tuple : mg "tuple" = none
  n_zip : mg "zip" = none
abbrev Txt.f__wall {K : PySem.W.Frag} {mg : Str → Option Value} (T : Txt K mg) : Addr := T.x__wall.f
abbrev Txt.d__wall {K : PySem.W.Frag} {mg : Str → Option Value} (T : Txt K mg) : FuncData := T.x__wall.d
theorem Txt.F__wall {K : PySem.W.Frag} {mg : Str → Option Value} (T : Txt K mg) : Fun K "_wall" "_wall" s__wall T.f__wall T.d__wall := T.x__wall.F
theorem Txt.b__wall {K : PySem.W.Frag} {mg : Str → Option Value} (T : Txt K mg) : Binds K T.d__wall ["k"] [] := T.x__wall.b
theorem Txt.m__wall {K : PySem.W.Frag} {mg : Str → Option Value} (T : Txt K mg) : mg "_wall" = some (.ref T.f__wall) := T.x__wall.m
abbrev Txt.f_is_integer {K : PySem.W.Frag} {mg : Str → Option Value} (T : Txt K mg) : Addr := T.x_is_integer.f
abbrev Txt.d_is_integer {K : PySem.W.Frag} {mg : Str → Option Value} (T : Txt K mg) : FuncData := T.x_is_integer.d
theorem Txt.F_is_integer {K : PySem.W.Frag} {mg : Str → Option Value} (T : Txt K mg) : Fun K "is_integer" "is_integer" s_is_integer T.f_is_integer T.d_is_integer := T.x_is_integer.F
theorem Txt.b_is_integer {K : PySem.W.Frag} {mg : Str → Option Value} (T : Txt K mg) : Binds K T.d_is_integer ["value"] [] := T.x_is_integer.b
theorem Txt.m_is_integer {K : PySem.W.Frag} {mg : Str → Option Value} (T : Txt K mg) : mg "is_integer" = some (.ref T.f_is_integer) := T.x_is_integer.m
abbrev Txt.f_is_within {K : PySem.W.Frag} {mg : Str → Option Value} (T : Txt K mg) : Addr := T.x_is_within.f
abbrev Txt.d_is_within {K : PySem.W.Frag} {mg : Str → Option Value} (T : Txt K mg) : FuncData := T.x_is_within.d
theorem Txt.F_is_within {K : PySem.W.Frag} {mg : Str → Option Value} (T : Txt K mg) : Fun K "is_within" "is_within" s_is_within T.f_is_within T.d_is_within := T.x_is_within.F
theorem Txt.b_is_within {K : PySem.W.Frag} {mg : Str → Option Value} (T : Txt K mg) : Binds K T.d_is_within ["value", "least", "greatest"] [] := T.x_is_within.b
theorem Txt.m_is_within {K : PySem.W.Frag} {mg : Str → Option Value} (T : Txt K mg) : mg "is_within" = some (.ref T.f_is_within) := T.x_is_within.m
abbrev Txt.f_is_short_integer {K : PySem.W.Frag} {mg : Str → Option Value} (T : Txt K mg) : Addr := T.x_is_short_integer.f
abbrev Txt.d_is_short_integer {K : PySem.W.Frag} {mg : Str → Option Value} (T : Txt K mg) : FuncData := T.x_is_short_integer.d
theorem Txt.F_is_short_integer {K : PySem.W.Frag} {mg : Str → Option Value} (T : Txt K mg) : Fun K "is_short_integer" "is_short_integer" s_is_short_integer T.f_is_short_integer T.d_is_short_integer := T.x_is_short_integer.F
theorem Txt.b_is_short_integer {K : PySem.W.Frag} {mg : Str → Option Value} (T : Txt K mg) : Binds K T.d_is_short_integer ["value"] [] := T.x_is_short_integer.b
theorem Txt.m_is_short_integer {K : PySem.W.Frag} {mg : Str → Option Value} (T : Txt K mg) : mg "is_short_integer" = some (.ref T.f_is_short_integer) := T.x_is_short_integer.m
abbrev Txt.f_check_number {K : PySem.W.Frag} {mg : Str → Option Value} (T : Txt K mg) : Addr := T.x_check_number.f
abbrev Txt.d_check_number {K : PySem.W.Frag} {mg : Str → Option Value} (T : Txt K mg) : FuncData := T.x_check_number.d
theorem Txt.F_check_number {K : PySem.W.Frag} {mg : Str → Option Value} (T : Txt K mg) : Fun K "check_number" "check_number" s_check_number T.f_check_number T.d_check_number := T.x_check_number.F
theorem Txt.b_check_number {K : PySem.W.Frag} {mg : Str → Option Value} (T : Txt K mg) : Binds K T.d_check_number ["value"] [] := T.x_check_number.b
theorem Txt.m_check_number {K : PySem.W.Frag} {mg : Str → Option Value} (T : Txt K mg) : mg "check_number" = some (.ref T.f_check_number) := T.x_check_number.m
abbrev Txt.f_checked_sizes {K : PySem.W.Frag} {mg : Str → Option Value} (T : Txt K mg) : Addr := T.x_checked_sizes.f
abbrev Txt.d_checked_sizes {K : PySem.W.Frag} {mg : Str → Option Value} (T : Txt K mg) : FuncData := T.x_checked_sizes.d
theorem Txt.F_checked_sizes {K : PySem.W.Frag} {mg : Str → Option Value} (T : Txt K mg) : Fun K "checked_sizes" "checked_sizes" s_checked_sizes T.f_checked_sizes T.d_checked_sizes := T.x_checked_sizes.F
theorem Txt.b_checked_sizes {K : PySem.W.Frag} {mg : Str → Option Value} (T : Txt K mg) : Binds K T.d_checked_sizes ["job"] [] := T.x_checked_sizes.b
theorem Txt.m_checked_sizes {K : PySem.W.Frag} {mg : Str → Option Value} (T : Txt K mg) : mg "checked_sizes" = some (.ref T.f_checked_sizes) := T.x_checked_sizes.m
abbrev Txt.f_steps_of_leaf {K : PySem.W.Frag} {mg : Str → Option Value} (T : Txt K mg) : Addr := T.x_steps_of_leaf.f
abbrev Txt.d_steps_of_leaf {K : PySem.W.Frag} {mg : Str → Option Value} (T : Txt K mg) : FuncData := T.x_steps_of_leaf.d
theorem Txt.F_steps_of_leaf {K : PySem.W.Frag} {mg : Str → Option Value} (T : Txt K mg) : Fun K "steps_of_leaf" "steps_of_leaf" s_steps_of_leaf T.f_steps_of_leaf T.d_steps_of_leaf := T.x_steps_of_leaf.F
theorem Txt.b_steps_of_leaf {K : PySem.W.Frag} {mg : Str → Option Value} (T : Txt K mg) : Binds K T.d_steps_of_leaf ["value"] [] := T.x_steps_of_leaf.b
theorem Txt.m_steps_of_leaf {K : PySem.W.Frag} {mg : Str → Option Value} (T : Txt K mg) : mg "steps_of_leaf" = some (.ref T.f_steps_of_leaf) := T.x_steps_of_leaf.m
abbrev Txt.f_sizes_of {K : PySem.W.Frag} {mg : Str → Option Value} (T : Txt K mg) : Addr := T.x_sizes_of.f
abbrev Txt.d_sizes_of {K : PySem.W.Frag} {mg : Str → Option Value} (T : Txt K mg) : FuncData := T.x_sizes_of.d
theorem Txt.F_sizes_of {K : PySem.W.Frag} {mg : Str → Option Value} (T : Txt K mg) : Fun K "sizes_of" "sizes_of" s_sizes_of T.f_sizes_of T.d_sizes_of := T.x_sizes_of.F
theorem Txt.b_sizes_of {K : PySem.W.Frag} {mg : Str → Option Value} (T : Txt K mg) : Binds K T.d_sizes_of ["value", "leaf_steps"] [] := T.x_sizes_of.b
theorem Txt.m_sizes_of {K : PySem.W.Frag} {mg : Str → Option Value} (T : Txt K mg) : mg "sizes_of" = some (.ref T.f_sizes_of) := T.x_sizes_of.m
abbrev Txt.f__sizes {K : PySem.W.Frag} {mg : Str → Option Value} (T : Txt K mg) : Addr := T.x__sizes.f
abbrev Txt.d__sizes {K : PySem.W.Frag} {mg : Str → Option Value} (T : Txt K mg) : FuncData := T.x__sizes.d
theorem Txt.F__sizes {K : PySem.W.Frag} {mg : Str → Option Value} (T : Txt K mg) : Fun K "_sizes" "_sizes" s__sizes T.f__sizes T.d__sizes := T.x__sizes.F
theorem Txt.b__sizes {K : PySem.W.Frag} {mg : Str → Option Value} (T : Txt K mg) : Binds K T.d__sizes ["value", "leaf_steps", "room", "levels"] [] := T.x__sizes.b
theorem Txt.m__sizes {K : PySem.W.Frag} {mg : Str → Option Value} (T : Txt K mg) : mg "_sizes" = some (.ref T.f__sizes) := T.x__sizes.m
abbrev Txt.f__sizes_of_parts {K : PySem.W.Frag} {mg : Str → Option Value} (T : Txt K mg) : Addr := T.x__sizes_of_parts.f
abbrev Txt.d__sizes_of_parts {K : PySem.W.Frag} {mg : Str → Option Value} (T : Txt K mg) : FuncData := T.x__sizes_of_parts.d
theorem Txt.F__sizes_of_parts {K : PySem.W.Frag} {mg : Str → Option Value} (T : Txt K mg) : Fun K "_sizes_of_parts" "_sizes_of_parts" s__sizes_of_parts T.f__sizes_of_parts T.d__sizes_of_parts := T.x__sizes_of_parts.F
theorem Txt.b__sizes_of_parts {K : PySem.W.Frag} {mg : Str → Option Value} (T : Txt K mg) : Binds K T.d__sizes_of_parts ["parts", "leaf_steps", "room", "levels"] [] := T.x__sizes_of_parts.b
theorem Txt.m__sizes_of_parts {K : PySem.W.Frag} {mg : Str → Option Value} (T : Txt K mg) : mg "_sizes_of_parts" = some (.ref T.f__sizes_of_parts) := T.x__sizes_of_parts.m
abbrev Txt.f__sizes_of_rounds {K : PySem.W.Frag} {mg : Str → Option Value} (T : Txt K mg) : Addr := T.x__sizes_of_rounds.f
abbrev Txt.d__sizes_of_rounds {K : PySem.W.Frag} {mg : Str → Option Value} (T : Txt K mg) : FuncData := T.x__sizes_of_rounds.d
theorem Txt.F__sizes_of_rounds {K : PySem.W.Frag} {mg : Str → Option Value} (T : Txt K mg) : Fun K "_sizes_of_rounds" "_sizes_of_rounds" s__sizes_of_rounds T.f__sizes_of_rounds T.d__sizes_of_rounds := T.x__sizes_of_rounds.F
theorem Txt.b__sizes_of_rounds {K : PySem.W.Frag} {mg : Str → Option Value} (T : Txt K mg) : Binds K T.d__sizes_of_rounds ["n", "inner", "leaf_steps", "room", "levels"] [] := T.x__sizes_of_rounds.b
theorem Txt.m__sizes_of_rounds {K : PySem.W.Frag} {mg : Str → Option Value} (T : Txt K mg) : mg "_sizes_of_rounds" = some (.ref T.f__sizes_of_rounds) := T.x__sizes_of_rounds.m
abbrev Txt.f__within_count {K : PySem.W.Frag} {mg : Str → Option Value} (T : Txt K mg) : Addr := T.x__within_count.f
abbrev Txt.d__within_count {K : PySem.W.Frag} {mg : Str → Option Value} (T : Txt K mg) : FuncData := T.x__within_count.d
theorem Txt.F__within_count {K : PySem.W.Frag} {mg : Str → Option Value} (T : Txt K mg) : Fun K "_within_count" "_within_count" s__within_count T.f__within_count T.d__within_count := T.x__within_count.F
theorem Txt.b__within_count {K : PySem.W.Frag} {mg : Str → Option Value} (T : Txt K mg) : Binds K T.d__within_count ["nodes", "steps"] [] := T.x__within_count.b
theorem Txt.m__within_count {K : PySem.W.Frag} {mg : Str → Option Value} (T : Txt K mg) : mg "_within_count" = some (.ref T.f__within_count) := T.x__within_count.m
abbrev Txt.f_is_address {K : PySem.W.Frag} {mg : Str → Option Value} (T : Txt K mg) : Addr := T.x_is_address.f
abbrev Txt.d_is_address {K : PySem.W.Frag} {mg : Str → Option Value} (T : Txt K mg) : FuncData := T.x_is_address.d
theorem Txt.F_is_address {K : PySem.W.Frag} {mg : Str → Option Value} (T : Txt K mg) : Fun K "is_address" "is_address" s_is_address T.f_is_address T.d_is_address := T.x_is_address.F
theorem Txt.b_is_address {K : PySem.W.Frag} {mg : Str → Option Value} (T : Txt K mg) : Binds K T.d_is_address ["job", "value"] [] := T.x_is_address.b
theorem Txt.m_is_address {K : PySem.W.Frag} {mg : Str → Option Value} (T : Txt K mg) : mg "is_address" = some (.ref T.f_is_address) := T.x_is_address.m
abbrev Txt.f_precedes {K : PySem.W.Frag} {mg : Str → Option Value} (T : Txt K mg) : Addr := T.x_precedes.f
abbrev Txt.d_precedes {K : PySem.W.Frag} {mg : Str → Option Value} (T : Txt K mg) : FuncData := T.x_precedes.d
theorem Txt.F_precedes {K : PySem.W.Frag} {mg : Str → Option Value} (T : Txt K mg) : Fun K "precedes" "precedes" s_precedes T.f_precedes T.d_precedes := T.x_precedes.F
theorem Txt.b_precedes {K : PySem.W.Frag} {mg : Str → Option Value} (T : Txt K mg) : Binds K T.d_precedes ["job", "first", "second"] [] := T.x_precedes.b
theorem Txt.m_precedes {K : PySem.W.Frag} {mg : Str → Option Value} (T : Txt K mg) : mg "precedes" = some (.ref T.f_precedes) := T.x_precedes.m
abbrev Txt.f_check_small {K : PySem.W.Frag} {mg : Str → Option Value} (T : Txt K mg) : Addr := T.x_check_small.f
abbrev Txt.d_check_small {K : PySem.W.Frag} {mg : Str → Option Value} (T : Txt K mg) : FuncData := T.x_check_small.d
theorem Txt.F_check_small {K : PySem.W.Frag} {mg : Str → Option Value} (T : Txt K mg) : Fun K "check_small" "check_small" s_check_small T.f_check_small T.d_check_small := T.x_check_small.F
theorem Txt.b_check_small {K : PySem.W.Frag} {mg : Str → Option Value} (T : Txt K mg) : Binds K T.d_check_small ["job"] [] := T.x_check_small.b
theorem Txt.m_check_small {K : PySem.W.Frag} {mg : Str → Option Value} (T : Txt K mg) : mg "check_small" = some (.ref T.f_check_small) := T.x_check_small.m
abbrev Txt.f_is_index_tuple {K : PySem.W.Frag} {mg : Str → Option Value} (T : Txt K mg) : Addr := T.x_is_index_tuple.f
abbrev Txt.d_is_index_tuple {K : PySem.W.Frag} {mg : Str → Option Value} (T : Txt K mg) : FuncData := T.x_is_index_tuple.d
theorem Txt.F_is_index_tuple {K : PySem.W.Frag} {mg : Str → Option Value} (T : Txt K mg) : Fun K "is_index_tuple" "is_index_tuple" s_is_index_tuple T.f_is_index_tuple T.d_is_index_tuple := T.x_is_index_tuple.F
theorem Txt.b_is_index_tuple {K : PySem.W.Frag} {mg : Str → Option Value} (T : Txt K mg) : Binds K T.d_is_index_tuple ["value"] [] := T.x_is_index_tuple.b
theorem Txt.m_is_index_tuple {K : PySem.W.Frag} {mg : Str → Option Value} (T : Txt K mg) : mg "is_index_tuple" = some (.ref T.f_is_index_tuple) := T.x_is_index_tuple.m
abbrev Txt.f_find_step {K : PySem.W.Frag} {mg : Str → Option Value} (T : Txt K mg) : Addr := T.x_find_step.f
abbrev Txt.d_find_step {K : PySem.W.Frag} {mg : Str → Option Value} (T : Txt K mg) : FuncData := T.x_find_step.d
theorem Txt.F_find_step {K : PySem.W.Frag} {mg : Str → Option Value} (T : Txt K mg) : Fun K "find_step" "find_step" s_find_step T.f_find_step T.d_find_step := T.x_find_step.F
theorem Txt.b_find_step {K : PySem.W.Frag} {mg : Str → Option Value} (T : Txt K mg) : Binds K T.d_find_step ["job", "value"] [] := T.x_find_step.b
theorem Txt.m_find_step {K : PySem.W.Frag} {mg : Str → Option Value} (T : Txt K mg) : mg "find_step" = some (.ref T.f_find_step) := T.x_find_step.m
abbrev Txt.f__checked_step {K : PySem.W.Frag} {mg : Str → Option Value} (T : Txt K mg) : Addr := T.x__checked_step.f
abbrev Txt.d__checked_step {K : PySem.W.Frag} {mg : Str → Option Value} (T : Txt K mg) : FuncData := T.x__checked_step.d
theorem Txt.F__checked_step {K : PySem.W.Frag} {mg : Str → Option Value} (T : Txt K mg) : Fun K "_checked_step" "_checked_step" s__checked_step T.f__checked_step T.d__checked_step := T.x__checked_step.F
theorem Txt.b__checked_step {K : PySem.W.Frag} {mg : Str → Option Value} (T : Txt K mg) : Binds K T.d__checked_step ["job", "address"] [] := T.x__checked_step.b
theorem Txt.m__checked_step {K : PySem.W.Frag} {mg : Str → Option Value} (T : Txt K mg) : mg "_checked_step" = some (.ref T.f__checked_step) := T.x__checked_step.m
abbrev Txt.f__part_at {K : PySem.W.Frag} {mg : Str → Option Value} (T : Txt K mg) : Addr := T.x__part_at.f
abbrev Txt.d__part_at {K : PySem.W.Frag} {mg : Str → Option Value} (T : Txt K mg) : FuncData := T.x__part_at.d
theorem Txt.F__part_at {K : PySem.W.Frag} {mg : Str → Option Value} (T : Txt K mg) : Fun K "_part_at" "_part_at" s__part_at T.f__part_at T.d__part_at := T.x__part_at.F
theorem Txt.b__part_at {K : PySem.W.Frag} {mg : Str → Option Value} (T : Txt K mg) : Binds K T.d__part_at ["job", "index"] [] := T.x__part_at.b
theorem Txt.m__part_at {K : PySem.W.Frag} {mg : Str → Option Value} (T : Txt K mg) : mg "_part_at" = some (.ref T.f__part_at) := T.x__part_at.m
abbrev Txt.f_step_rows {K : PySem.W.Frag} {mg : Str → Option Value} (T : Txt K mg) : Addr := T.x_step_rows.f
abbrev Txt.d_step_rows {K : PySem.W.Frag} {mg : Str → Option Value} (T : Txt K mg) : FuncData := T.x_step_rows.d
theorem Txt.F_step_rows {K : PySem.W.Frag} {mg : Str → Option Value} (T : Txt K mg) : Fun K "step_rows" "step_rows" s_step_rows T.f_step_rows T.d_step_rows := T.x_step_rows.F
theorem Txt.b_step_rows {K : PySem.W.Frag} {mg : Str → Option Value} (T : Txt K mg) : Binds K T.d_step_rows ["job"] [] := T.x_step_rows.b
theorem Txt.m_step_rows {K : PySem.W.Frag} {mg : Str → Option Value} (T : Txt K mg) : mg "step_rows" = some (.ref T.f_step_rows) := T.x_step_rows.m
abbrev Txt.f__rows_by_index {K : PySem.W.Frag} {mg : Str → Option Value} (T : Txt K mg) : Addr := T.x__rows_by_index.f
abbrev Txt.d__rows_by_index {K : PySem.W.Frag} {mg : Str → Option Value} (T : Txt K mg) : FuncData := T.x__rows_by_index.d
theorem Txt.F__rows_by_index {K : PySem.W.Frag} {mg : Str → Option Value} (T : Txt K mg) : Fun K "_rows_by_index" "_rows_by_index" s__rows_by_index T.f__rows_by_index T.d__rows_by_index := T.x__rows_by_index.F
theorem Txt.b__rows_by_index {K : PySem.W.Frag} {mg : Str → Option Value} (T : Txt K mg) : Binds K T.d__rows_by_index ["job"] [] := T.x__rows_by_index.b
theorem Txt.m__rows_by_index {K : PySem.W.Frag} {mg : Str → Option Value} (T : Txt K mg) : mg "_rows_by_index" = some (.ref T.f__rows_by_index) := T.x__rows_by_index.m
abbrev Txt.f__row_within {K : PySem.W.Frag} {mg : Str → Option Value} (T : Txt K mg) : Addr := T.x__row_within.f
abbrev Txt.d__row_within {K : PySem.W.Frag} {mg : Str → Option Value} (T : Txt K mg) : FuncData := T.x__row_within.d
theorem Txt.F__row_within {K : PySem.W.Frag} {mg : Str → Option Value} (T : Txt K mg) : Fun K "_row_within" "_row_within" s__row_within T.f__row_within T.d__row_within := T.x__row_within.F
theorem Txt.b__row_within {K : PySem.W.Frag} {mg : Str → Option Value} (T : Txt K mg) : Binds K T.d__row_within ["index", "outer_gates", "row"] [] := T.x__row_within.b
theorem Txt.m__row_within {K : PySem.W.Frag} {mg : Str → Option Value} (T : Txt K mg) : mg "_row_within" = some (.ref T.f__row_within) := T.x__row_within.m
abbrev Txt.f_choices {K : PySem.W.Frag} {mg : Str → Option Value} (T : Txt K mg) : Addr := T.x_choices.f
abbrev Txt.d_choices {K : PySem.W.Frag} {mg : Str → Option Value} (T : Txt K mg) : FuncData := T.x_choices.d
theorem Txt.F_choices {K : PySem.W.Frag} {mg : Str → Option Value} (T : Txt K mg) : Fun K "choices" "choices" s_choices T.f_choices T.d_choices := T.x_choices.F
theorem Txt.b_choices {K : PySem.W.Frag} {mg : Str → Option Value} (T : Txt K mg) : Binds K T.d_choices ["job"] [] := T.x_choices.b
theorem Txt.m_choices {K : PySem.W.Frag} {mg : Str → Option Value} (T : Txt K mg) : mg "choices" = some (.ref T.f_choices) := T.x_choices.m
abbrev Txt.f_is_choice {K : PySem.W.Frag} {mg : Str → Option Value} (T : Txt K mg) : Addr := T.x_is_choice.f
abbrev Txt.d_is_choice {K : PySem.W.Frag} {mg : Str → Option Value} (T : Txt K mg) : FuncData := T.x_is_choice.d
theorem Txt.F_is_choice {K : PySem.W.Frag} {mg : Str → Option Value} (T : Txt K mg) : Fun K "is_choice" "is_choice" s_is_choice T.f_is_choice T.d_is_choice := T.x_is_choice.F
theorem Txt.b_is_choice {K : PySem.W.Frag} {mg : Str → Option Value} (T : Txt K mg) : Binds K T.d_is_choice ["job", "value"] [] := T.x_is_choice.b
theorem Txt.m_is_choice {K : PySem.W.Frag} {mg : Str → Option Value} (T : Txt K mg) : mg "is_choice" = some (.ref T.f_is_choice) := T.x_is_choice.m
abbrev Txt.f__choices {K : PySem.W.Frag} {mg : Str → Option Value} (T : Txt K mg) : Addr := T.x__choices.f
abbrev Txt.d__choices {K : PySem.W.Frag} {mg : Str → Option Value} (T : Txt K mg) : FuncData := T.x__choices.d
theorem Txt.F__choices {K : PySem.W.Frag} {mg : Str → Option Value} (T : Txt K mg) : Fun K "_choices" "_choices" s__choices T.f__choices T.d__choices := T.x__choices.F
theorem Txt.b__choices {K : PySem.W.Frag} {mg : Str → Option Value} (T : Txt K mg) : Binds K T.d__choices ["job"] [] := T.x__choices.b
theorem Txt.m__choices {K : PySem.W.Frag} {mg : Str → Option Value} (T : Txt K mg) : mg "_choices" = some (.ref T.f__choices) := T.x__choices.m
abbrev Txt.f__is_choice {K : PySem.W.Frag} {mg : Str → Option Value} (T : Txt K mg) : Addr := T.x__is_choice.f
abbrev Txt.d__is_choice {K : PySem.W.Frag} {mg : Str → Option Value} (T : Txt K mg) : FuncData := T.x__is_choice.d
theorem Txt.F__is_choice {K : PySem.W.Frag} {mg : Str → Option Value} (T : Txt K mg) : Fun K "_is_choice" "_is_choice" s__is_choice T.f__is_choice T.d__is_choice := T.x__is_choice.F
theorem Txt.b__is_choice {K : PySem.W.Frag} {mg : Str → Option Value} (T : Txt K mg) : Binds K T.d__is_choice ["job", "value"] [] := T.x__is_choice.b
theorem Txt.m__is_choice {K : PySem.W.Frag} {mg : Str → Option Value} (T : Txt K mg) : mg "_is_choice" = some (.ref T.f__is_choice) := T.x__is_choice.m
abbrev Txt.f_checked_state {K : PySem.W.Frag} {mg : Str → Option Value} (T : Txt K mg) : Addr := T.x_checked_state.f
abbrev Txt.d_checked_state {K : PySem.W.Frag} {mg : Str → Option Value} (T : Txt K mg) : FuncData := T.x_checked_state.d
theorem Txt.F_checked_state {K : PySem.W.Frag} {mg : Str → Option Value} (T : Txt K mg) : Fun K "checked_state" "checked_state" s_checked_state T.f_checked_state T.d_checked_state := T.x_checked_state.F
theorem Txt.b_checked_state {K : PySem.W.Frag} {mg : Str → Option Value} (T : Txt K mg) : Binds K T.d_checked_state ["job", "state"] [] := T.x_checked_state.b
theorem Txt.m_checked_state {K : PySem.W.Frag} {mg : Str → Option Value} (T : Txt K mg) : mg "checked_state" = some (.ref T.f_checked_state) := T.x_checked_state.m
abbrev Txt.f__find_state {K : PySem.W.Frag} {mg : Str → Option Value} (T : Txt K mg) : Addr := T.x__find_state.f
abbrev Txt.d__find_state {K : PySem.W.Frag} {mg : Str → Option Value} (T : Txt K mg) : FuncData := T.x__find_state.d
theorem Txt.F__find_state {K : PySem.W.Frag} {mg : Str → Option Value} (T : Txt K mg) : Fun K "_find_state" "_find_state" s__find_state T.f__find_state T.d__find_state := T.x__find_state.F
theorem Txt.b__find_state {K : PySem.W.Frag} {mg : Str → Option Value} (T : Txt K mg) : Binds K T.d__find_state ["job", "value"] [] := T.x__find_state.b
theorem Txt.m__find_state {K : PySem.W.Frag} {mg : Str → Option Value} (T : Txt K mg) : mg "_find_state" = some (.ref T.f__find_state) := T.x__find_state.m
abbrev Txt.f__is_ascending {K : PySem.W.Frag} {mg : Str → Option Value} (T : Txt K mg) : Addr := T.x__is_ascending.f
abbrev Txt.d__is_ascending {K : PySem.W.Frag} {mg : Str → Option Value} (T : Txt K mg) : FuncData := T.x__is_ascending.d
theorem Txt.F__is_ascending {K : PySem.W.Frag} {mg : Str → Option Value} (T : Txt K mg) : Fun K "_is_ascending" "_is_ascending" s__is_ascending T.f__is_ascending T.d__is_ascending := T.x__is_ascending.F
theorem Txt.b__is_ascending {K : PySem.W.Frag} {mg : Str → Option Value} (T : Txt K mg) : Binds K T.d__is_ascending ["addresses"] [] := T.x__is_ascending.b
theorem Txt.m__is_ascending {K : PySem.W.Frag} {mg : Str → Option Value} (T : Txt K mg) : mg "_is_ascending" = some (.ref T.f__is_ascending) := T.x__is_ascending.m
abbrev Txt.f__law_source {K : PySem.W.Frag} {mg : Str → Option Value} (T : Txt K mg) : Addr := T.x__law_source.f
abbrev Txt.d__law_source {K : PySem.W.Frag} {mg : Str → Option Value} (T : Txt K mg) : FuncData := T.x__law_source.d
theorem Txt.F__law_source {K : PySem.W.Frag} {mg : Str → Option Value} (T : Txt K mg) : Fun K "_law_source" "_law_source" s__law_source T.f__law_source T.d__law_source := T.x__law_source.F
theorem Txt.b__law_source {K : PySem.W.Frag} {mg : Str → Option Value} (T : Txt K mg) : Binds K T.d__law_source ["_law_script", "_law_at"] [] := T.x__law_source.b
theorem Txt.m__law_source {K : PySem.W.Frag} {mg : Str → Option Value} (T : Txt K mg) : mg "_law_source" = some (.ref T.f__law_source) := T.x__law_source.m
abbrev Txt.f__law_draw {K : PySem.W.Frag} {mg : Str → Option Value} (T : Txt K mg) : Addr := T.x__law_draw.f
abbrev Txt.d__law_draw {K : PySem.W.Frag} {mg : Str → Option Value} (T : Txt K mg) : FuncData := T.x__law_draw.d
theorem Txt.F__law_draw {K : PySem.W.Frag} {mg : Str → Option Value} (T : Txt K mg) : Fun K "_law_draw" "_law_draw" s__law_draw T.f__law_draw T.d__law_draw := T.x__law_draw.F
theorem Txt.b__law_draw {K : PySem.W.Frag} {mg : Str → Option Value} (T : Txt K mg) : Binds K T.d__law_draw ["_law_source_here", "_law_many"] [] := T.x__law_draw.b
theorem Txt.m__law_draw {K : PySem.W.Frag} {mg : Str → Option Value} (T : Txt K mg) : mg "_law_draw" = some (.ref T.f__law_draw) := T.x__law_draw.m
abbrev Txt.f__law_great {K : PySem.W.Frag} {mg : Str → Option Value} (T : Txt K mg) : Addr := T.x__law_great.f
abbrev Txt.d__law_great {K : PySem.W.Frag} {mg : Str → Option Value} (T : Txt K mg) : FuncData := T.x__law_great.d
theorem Txt.F__law_great {K : PySem.W.Frag} {mg : Str → Option Value} (T : Txt K mg) : Fun K "_law_great" "_law_great" s__law_great T.f__law_great T.d__law_great := T.x__law_great.F
theorem Txt.b__law_great {K : PySem.W.Frag} {mg : Str → Option Value} (T : Txt K mg) : Binds K T.d__law_great ["_law_source_here", "_law_many"] [] := T.x__law_great.b
theorem Txt.m__law_great {K : PySem.W.Frag} {mg : Str → Option Value} (T : Txt K mg) : mg "_law_great" = some (.ref T.f__law_great) := T.x__law_great.m
abbrev Txt.f__law_step {K : PySem.W.Frag} {mg : Str → Option Value} (T : Txt K mg) : Addr := T.x__law_step.f
abbrev Txt.d__law_step {K : PySem.W.Frag} {mg : Str → Option Value} (T : Txt K mg) : FuncData := T.x__law_step.d
theorem Txt.F__law_step {K : PySem.W.Frag} {mg : Str → Option Value} (T : Txt K mg) : Fun K "_law_step" "_law_step" s__law_step T.f__law_step T.d__law_step := T.x__law_step.F
theorem Txt.b__law_step {K : PySem.W.Frag} {mg : Str → Option Value} (T : Txt K mg) : Binds K T.d__law_step ["_law_source_here"] [] := T.x__law_step.b
theorem Txt.m__law_step {K : PySem.W.Frag} {mg : Str → Option Value} (T : Txt K mg) : mg "_law_step" = some (.ref T.f__law_step) := T.x__law_step.m
abbrev Txt.f__law_empty {K : PySem.W.Frag} {mg : Str → Option Value} (T : Txt K mg) : Addr := T.x__law_empty.f
abbrev Txt.d__law_empty {K : PySem.W.Frag} {mg : Str → Option Value} (T : Txt K mg) : FuncData := T.x__law_empty.d
theorem Txt.F__law_empty {K : PySem.W.Frag} {mg : Str → Option Value} (T : Txt K mg) : Fun K "_law_empty" "_law_empty" s__law_empty T.f__law_empty T.d__law_empty := T.x__law_empty.F
theorem Txt.b__law_empty {K : PySem.W.Frag} {mg : Str → Option Value} (T : Txt K mg) : Binds K T.d__law_empty ["_law_source_here"] [] := T.x__law_empty.b
theorem Txt.m__law_empty {K : PySem.W.Frag} {mg : Str → Option Value} (T : Txt K mg) : mg "_law_empty" = some (.ref T.f__law_empty) := T.x__law_empty.m
abbrev Txt.f__law_job {K : PySem.W.Frag} {mg : Str → Option Value} (T : Txt K mg) : Addr := T.x__law_job.f
abbrev Txt.d__law_job {K : PySem.W.Frag} {mg : Str → Option Value} (T : Txt K mg) : FuncData := T.x__law_job.d
theorem Txt.F__law_job {K : PySem.W.Frag} {mg : Str → Option Value} (T : Txt K mg) : Fun K "_law_job" "_law_job" s__law_job T.f__law_job T.d__law_job := T.x__law_job.F
theorem Txt.b__law_job {K : PySem.W.Frag} {mg : Str → Option Value} (T : Txt K mg) : Binds K T.d__law_job ["_law_source_here", "_law_most", "_law_deep"] [] := T.x__law_job.b
theorem Txt.m__law_job {K : PySem.W.Frag} {mg : Str → Option Value} (T : Txt K mg) : mg "_law_job" = some (.ref T.f__law_job) := T.x__law_job.m
abbrev Txt.f__law_great_job {K : PySem.W.Frag} {mg : Str → Option Value} (T : Txt K mg) : Addr := T.x__law_great_job.f
abbrev Txt.d__law_great_job {K : PySem.W.Frag} {mg : Str → Option Value} (T : Txt K mg) : FuncData := T.x__law_great_job.d
theorem Txt.F__law_great_job {K : PySem.W.Frag} {mg : Str → Option Value} (T : Txt K mg) : Fun K "_law_great_job" "_law_great_job" s__law_great_job T.f__law_great_job T.d__law_great_job := T.x__law_great_job.F
theorem Txt.b__law_great_job {K : PySem.W.Frag} {mg : Str → Option Value} (T : Txt K mg) : Binds K T.d__law_great_job ["_law_source_here", "_law_deep", "_law_counts"] [] := T.x__law_great_job.b
theorem Txt.m__law_great_job {K : PySem.W.Frag} {mg : Str → Option Value} (T : Txt K mg) : mg "_law_great_job" = some (.ref T.f__law_great_job) := T.x__law_great_job.m
abbrev Txt.f__law_odd {K : PySem.W.Frag} {mg : Str → Option Value} (T : Txt K mg) : Addr := T.x__law_odd.f
abbrev Txt.d__law_odd {K : PySem.W.Frag} {mg : Str → Option Value} (T : Txt K mg) : FuncData := T.x__law_odd.d
theorem Txt.F__law_odd {K : PySem.W.Frag} {mg : Str → Option Value} (T : Txt K mg) : Fun K "_law_odd" "_law_odd" s__law_odd T.f__law_odd T.d__law_odd := T.x__law_odd.F
theorem Txt.b__law_odd {K : PySem.W.Frag} {mg : Str → Option Value} (T : Txt K mg) : Binds K T.d__law_odd ["_law_source_here"] [] := T.x__law_odd.b
theorem Txt.m__law_odd {K : PySem.W.Frag} {mg : Str → Option Value} (T : Txt K mg) : mg "_law_odd" = some (.ref T.f__law_odd) := T.x__law_odd.m
abbrev Txt.f__law_rows {K : PySem.W.Frag} {mg : Str → Option Value} (T : Txt K mg) : Addr := T.x__law_rows.f
abbrev Txt.d__law_rows {K : PySem.W.Frag} {mg : Str → Option Value} (T : Txt K mg) : FuncData := T.x__law_rows.d
theorem Txt.F__law_rows {K : PySem.W.Frag} {mg : Str → Option Value} (T : Txt K mg) : Fun K "_law_rows" "_law_rows" s__law_rows T.f__law_rows T.d__law_rows := T.x__law_rows.F
theorem Txt.b__law_rows {K : PySem.W.Frag} {mg : Str → Option Value} (T : Txt K mg) : Binds K T.d__law_rows ["_law_job_here", "_law_rows_here", "_law_ahead", "_law_address"] [] := T.x__law_rows.b
theorem Txt.m__law_rows {K : PySem.W.Frag} {mg : Str → Option Value} (T : Txt K mg) : mg "_law_rows" = some (.ref T.f__law_rows) := T.x__law_rows.m
abbrev Txt.f__law_firsts {K : PySem.W.Frag} {mg : Str → Option Value} (T : Txt K mg) : Addr := T.x__law_firsts.f
abbrev Txt.d__law_firsts {K : PySem.W.Frag} {mg : Str → Option Value} (T : Txt K mg) : FuncData := T.x__law_firsts.d
theorem Txt.F__law_firsts {K : PySem.W.Frag} {mg : Str → Option Value} (T : Txt K mg) : Fun K "_law_firsts" "_law_firsts" s__law_firsts T.f__law_firsts T.d__law_firsts := T.x__law_firsts.F
theorem Txt.b__law_firsts {K : PySem.W.Frag} {mg : Str → Option Value} (T : Txt K mg) : Binds K T.d__law_firsts ["_law_job_here"] [] := T.x__law_firsts.b
theorem Txt.m__law_firsts {K : PySem.W.Frag} {mg : Str → Option Value} (T : Txt K mg) : mg "_law_firsts" = some (.ref T.f__law_firsts) := T.x__law_firsts.m
abbrev Txt.f__law_small_right {K : PySem.W.Frag} {mg : Str → Option Value} (T : Txt K mg) : Addr := T.x__law_small_right.f
abbrev Txt.d__law_small_right {K : PySem.W.Frag} {mg : Str → Option Value} (T : Txt K mg) : FuncData := T.x__law_small_right.d
theorem Txt.F__law_small_right {K : PySem.W.Frag} {mg : Str → Option Value} (T : Txt K mg) : Fun K "_law_small_right" "_law_small_right" s__law_small_right T.f__law_small_right T.d__law_small_right := T.x__law_small_right.F
theorem Txt.b__law_small_right {K : PySem.W.Frag} {mg : Str → Option Value} (T : Txt K mg) : Binds K T.d__law_small_right ["_law_source_here"] [] := T.x__law_small_right.b
theorem Txt.m__law_small_right {K : PySem.W.Frag} {mg : Str → Option Value} (T : Txt K mg) : mg "_law_small_right" = some (.ref T.f__law_small_right) := T.x__law_small_right.m
abbrev Txt.f__law_great_right {K : PySem.W.Frag} {mg : Str → Option Value} (T : Txt K mg) : Addr := T.x__law_great_right.f
abbrev Txt.d__law_great_right {K : PySem.W.Frag} {mg : Str → Option Value} (T : Txt K mg) : FuncData := T.x__law_great_right.d
theorem Txt.F__law_great_right {K : PySem.W.Frag} {mg : Str → Option Value} (T : Txt K mg) : Fun K "_law_great_right" "_law_great_right" s__law_great_right T.f__law_great_right T.d__law_great_right := T.x__law_great_right.F
theorem Txt.b__law_great_right {K : PySem.W.Frag} {mg : Str → Option Value} (T : Txt K mg) : Binds K T.d__law_great_right ["_law_source_here"] [] := T.x__law_great_right.b
theorem Txt.m__law_great_right {K : PySem.W.Frag} {mg : Str → Option Value} (T : Txt K mg) : mg "_law_great_right" = some (.ref T.f__law_great_right) := T.x__law_great_right.m
/-! block SizesN (of the later code): is_integer, is_within, steps_of_leaf, sizes_of, _within_count, _sizes and its two helpers, is_job, checked_sizes -/
def spIsInt (K : PySem.W.Frag) : Sp := fun vs H Q _ => ∃ (v : V) (d : PyData), vs = [v] ∧ Dp K H v d ∧ Q (.bl (isInt d && !isBoo d)) H
/-- a pair of ints, or None -/
def RepSz (H : Hp) (r : V) : Option (Int × Int) → Prop
  | none => r = .non
  | some (a, b) => ∃ t, r = .ref t ∧ H t = some (.tup [.int a, .int b])
def spWithin : Sp := fun vs H Q _ => ∃ a b : Int, vs = [.int a, .int b] ∧ ∀ (H' : Hp) (r : V), Same H H' → RepSz H' r (within a b) → Q r H'
def inW : PyData → Int → Int → Bool
  | .int i, a, b => decide (a ≤ i) && decide (i ≤ b)
  | _, _, _ => false
theorem inW_int {i a b : Int} : inW (.int i) a b = (decide (a ≤ i) && decide (i ≤ b)) := rfl
def spWi (K : PySem.W.Frag) : Sp := fun vs H Q _ => ∃ (v : V) (d : PyData) (a b : Int), vs = [v, .int a, .int b] ∧ Dp K H v d ∧ Q (.bl (inW d a b)) H
def spLeaf (K : PySem.W.Frag) : Sp := fun vs H Q _ => ∃ (v : V) (d : PyData), vs = [v] ∧ Dp K H v d ∧ Q (if inW d (-M30) M30 = true then .int 1 else .non) H
def spSz (K : PySem.W.Frag) (L : Addr) (n : Nat) : Sp := fun vs H Q _ => ∃ (v : V) (j : J) (room lv : Int), vs = [v, .ref L, .int room, .int lv] ∧ Dp K H v j.toD ∧ 0 ≤ lv ∧ lv < (n : Int) ∧
  ∀ (H' : Hp) (r : V), Same H H' → RepSz H' r (szJ j room lv) → Q r H'
def spSzs (K : PySem.W.Frag) (L : Addr) (n : Nat) : Sp := fun vs H Q _ => ∃ (v : V) (js : List J) (room lv : Int), vs = [v, .ref L, .int room, .int lv] ∧ Dp K H v (.tuple (J.toDs js)) ∧ 1 ≤ lv ∧ lv ≤ (n : Int) ∧
  ∀ (H' : Hp) (r : V), Same H H' → RepSz H' r (if (js.length : Int) > 400 then none else szJs js 1 0 room lv) → Q r H'
def spSzr (K : PySem.W.Frag) (L : Addr) (n : Nat) : Sp := fun vs H Q _ => ∃ (v : V) (c : Int) (j : J) (room lv : Int), vs = [.int c, v, .ref L, .int room, .int lv] ∧ Dp K H v j.toD ∧ 1 ≤ lv ∧ lv ≤ (n : Int) ∧
  ∀ (H' : Hp) (r : V), Same H H' → RepSz H' r (if ¬ (0 ≤ c ∧ c ≤ M30) then none else match szJ j (room - 1) (lv - 1) with | none => none | some (a, b) => within (a + 1) (b * c)) → Q r H'
section
variable {P : Program} {w : World} {K : PySem.W.Frag} {mg : Str → Option Value} {base : Heap}
theorem ok_isint (T : Txt K mg) : FnOk P w K mg base CX0 1 T.f_is_integer T.d_is_integer ["value"] (spIsInt K) := by
  refine T.F_is_integer.ok sc_is_integer (fun vs H Q E h => ?_) (fun cdv A outer s H vs Q E hr h => ?_)
  · obtain ⟨v, d, rfl, _⟩ := h
    rfl
  obtain ⟨v, d, rfl, hd, q⟩ := h
  refine ⟨_, (pss_one (ps_ret (pe_and (pe_callB (r := rIsD K) call_isD (by rfl) T.n_isinstance (by decide +kernel) (pa_cons (pv 0) (pa_cons (pe_bltn (v := .ty "int") (by rfl) T.n_int (by decide +kernel) rfl) pa_nil))) (pe_one (pe_not (pe_callB (r := rIsD K) call_isD (by rfl) T.n_isinstance (by decide +kernel) (pa_cons (pv 0) (pa_cons (pe_bltn (v := .ty "bool") (by rfl) T.n_bool (by decide +kernel) rfl) pa_nil)))))))), ?_⟩
  refine ⟨_, rfl, v, _, d, _, rfl, hd, kit_int d, _, rfl, ?_⟩
  cases e : isInt d with
  | false =>
    refine iteF ?_
    rw [e] at q
    exact q
  | true =>
    refine iteT ⟨_, rfl, v, _, d, _, rfl, hd, kit_bool d, _, rfl, ?_⟩
    rw [e] at q
    exact q
theorem ok_wi (T : Txt K mg) : FnOk P w K mg base CX0 2 T.f_is_within T.d_is_within ["value", "least", "greatest"] (spWi K) := by
  have g_is_integer : FnOk P w K mg base CX0 1 T.f_is_integer T.d_is_integer ["value"] (spIsInt K) := ok_isint T
  refine T.F_is_within.ok sc_is_within (fun vs H Q E h => ?_) (fun cdv A outer s H vs Q E hr h => ?_)
  · obtain ⟨v, d, a, b, rfl, _⟩ := h
    rfl
  obtain ⟨v, d, a, b, rfl, hd, q⟩ := h
  refine ⟨_, (pss_one (ps_ret (pe_and (pe_call g_is_integer (hr.mono (by omega)) rfl T.m_is_integer T.F_is_integer.kp T.b_is_integer .nil pass0 (pa_cons (pv 0) pa_nil)) (pe_one (pe_chain op_le op_le (pv 1) (pv 0) (pv 2)))))), ?_⟩
  refine ⟨_, rfl, v, d, rfl, hd, _, rfl, ?_⟩
  by_cases e : ∃ i, d = .int i
  · obtain ⟨i, rfl⟩ := e
    obtain rfl := dp_int_inv hd
    refine iteT ?_
    refine ⟨_, rfl, _, rfl, _, _, rfl, rfl, _, rfl, ?_⟩
    rw [inW_int] at q
    cases e1 : decide (a ≤ i) with
    | true =>
      refine iteT ?_
      rw [e1, Bool.true_and] at q
      exact ⟨_, rfl, _, _, rfl, rfl, q⟩
    | false =>
      refine iteF ?_
      rw [e1, Bool.false_and] at q
      exact q
  · have e1 : (isInt d && !isBoo d) = false ∧ inW d a b = false := by
      cases d <;> first | exact absurd ⟨_, rfl⟩ e | exact ⟨rfl, rfl⟩
    rw [e1.1]
    rw [e1.2] at q
    refine iteF ?_
    exact q
theorem ok_leaf (T : Txt K mg) : FnOk P w K mg base CX0 3 T.f_steps_of_leaf T.d_steps_of_leaf ["value"] (spLeaf K) := by
  have g_is_within := ok_wi (P := P) (w := w) (base := base) T
  refine T.F_steps_of_leaf.ok sc_steps_of_leaf (fun vs H Q E h => ?_) (fun cdv A outer s H vs Q E hr h => ?_)
  · obtain ⟨v, d, rfl, _⟩ := h
    rfl
  obtain ⟨v, d, rfl, hd, q⟩ := h
  refine ⟨_, (pss_one (ps_ret (pe_ifExp (pt_val (pe_call g_is_within (hr.mono (by omega)) rfl T.m_is_within T.F_is_within.kp T.b_is_within .nil pass0 (pa_cons (pv 0) (pa_cons (pe_un un_neg (pe_glob (v := .int 1000000000000000000000000000000) rfl T.g_MAX_STEP ⟨_, rfl⟩)) (pa_cons (pe_glob (v := .int 1000000000000000000000000000000) rfl T.g_MAX_STEP ⟨_, rfl⟩) pa_nil))))) pe_int pe_non))), ?_⟩
  refine ⟨_, rfl, _, rfl, v, d, -M30, M30, rfl, hd, _, rfl, ?_⟩
  cases e : inW d (-M30) M30 with
  | true =>
    rw [e] at q
    refine iteT ?_
    exact q
  | false =>
    rw [e] at q
    refine iteF ?_
    exact q
theorem ok_within (T : Txt K mg) : FnOk P w K mg base CX0 1 T.f__within_count T.d__within_count ["nodes", "steps"] spWithin := by
  refine T.F__within_count.ok sc__within_count (fun vs H Q E h => ?_) (fun cdv A outer s H vs Q E hr h => ?_)
  · obtain ⟨a, b, rfl, _⟩ := h
    rfl
  obtain ⟨a, b, rfl, q⟩ := h
  refine ⟨_, (pss_one (ps_ret (pe_ifExp (pt_cmpR op_le (pv 1) (pe_glob (v := .int 1000000000000000000000000000000) rfl T.g_MAX_COUNT ⟨_, rfl⟩) (nomark _)) (pe_tup (pa_cons (pv 0) (pa_cons (pv 1) pa_nil))) pe_non))), ?_⟩
  refine ⟨_, rfl, _, _, rfl, rfl, _, rfl, ?_⟩
  unfold within at q
  refine ite2 (fun g => ?_) (fun g => ?_)
  · rw [if_pos (of_decide_eq_true g)] at q
    refine ⟨_, rfl, _, rfl, (by show 2 ≤ sizeLine; decide), fun t ht => ?_⟩
    exact q _ _ (same_new ht) ⟨t, rfl, upd_same⟩
  · rw [if_neg (fun z => g (decide_eq_true z))] at q
    exact q _ _ (Same.refl _) rfl
theorem ok_szs (T : Txt K mg) {n : Nat} (g__sizes : FnOk P w K mg base CX0 (2 * n + 2) T.f__sizes T.d__sizes ["value", "leaf_steps", "room", "levels"] (spSz K T.f_steps_of_leaf n)) :
    FnOk P w K mg base CX0 (2 * n + 3) T.f__sizes_of_parts T.d__sizes_of_parts ["parts", "leaf_steps", "room", "levels"] (spSzs K T.f_steps_of_leaf n) := by
  have g__within_count : FnOk P w K mg base CX0 1 T.f__within_count T.d__within_count ["nodes", "steps"] spWithin := ok_within T
  refine T.F__sizes_of_parts.ok sc__sizes_of_parts (fun vs H Q E h => ?_) (fun cdv A outer s H vs Q E hr h => ?_)
  · obtain ⟨v, js, room, lv, rfl, _⟩ := h
    rfl
  obtain ⟨v, js, room, lv, rfl, hd, hn1, hn, q⟩ := h
  refine ⟨_, (pss_cons (ps_if (PW.pt (pw_or (pt_not (pt_val (pe_callB (r := rIsD K) call_isD (by rfl) T.n_isinstance (by decide +kernel) (pa_cons (pv 0) (pa_cons (pe_bltn (v := .ty "tuple") (by rfl) T.n_tuple (by decide +kernel) rfl) pa_nil))))) (pw_or1 (pt_cmpR op_gt (pe_callB (r := rLenS K) call_lenS (by rfl) T.n_len (by decide +kernel) (pa_cons (pv 0) pa_nil)) (pe_glob (v := .int 400) rfl T.g_MAX_PARTS ⟨_, rfl⟩) (nomark _))))) (pss_one (ps_ret pe_non)) pss_nil)
      (pss_cons (ps_set (i := 4) sc__sizes_of_parts.nd rfl (Or.inl rfl) pe_int)
      (pss_cons (ps_set (i := 5) sc__sizes_of_parts.nd rfl (Or.inl rfl) pe_int)
      (pss_cons (ps_for PassesOwn.never rfl (pi_tup (pv 0)) (pg_name (i := 6) sc__sizes_of_parts.nd rfl (Or.inl rfl))
        (pss_cons (ps_set (i := 7) sc__sizes_of_parts.nd rfl (Or.inl rfl) (pe_call g__sizes (hr.mono (by omega)) rfl T.m__sizes T.F__sizes.kp T.b__sizes .nil pass0 (pa_cons (pv 6) (pa_cons (pv 1) (pa_cons (pe_op op_sub (pv 2) (pv 4)) (pa_cons (pe_op op_sub (pv 3) pe_int) pa_nil))))))
        (pss_cons (ps_if (pt_cmpR op_isN (pv 7) pe_non (nomark _)) (pss_one (ps_ret pe_non)) pss_nil)
        (pss_cons (ps_aug (i := 4) sc__sizes_of_parts.nd rfl (Or.inl rfl) (pe_ix (r := rIxT K) ix_tup (pv 7) pe_int (fun _ _ => rfl)) ip_add)
        (pss_one (ps_aug (i := 5) sc__sizes_of_parts.nd rfl (Or.inl rfl) (pe_ix (r := rIxT K) ix_tup (pv 7) pe_int (fun _ _ => rfl)) ip_add))))))
      (pss_one (ps_ret (pe_call g__within_count (hr.mono (by omega)) rfl T.m__within_count T.F__within_count.kp T.b__within_count .nil pass0 (pa_cons (pv 4) (pa_cons (pv 5) pa_nil))))))))), ?_⟩
  obtain ⟨a, xs, rfl, hxs, hall⟩ := dp_tup_inv hd
  have hlen : xs.length = js.length := by rw [dpAll_length hall, J.toDs_eq, List.length_map]
  refine ⟨_, rfl, _, _, _, _, rfl, hd, kit_tuple _, _, rfl, ?_⟩
  refine iteF ?_
  refine ⟨_, rfl, a, xs, rfl, .inr hxs, _, _, rfl, rfl, _, rfl, ?_⟩
  refine ite2 (fun g => ?_) (fun g => ?_)
  · have g' : (400 : Int) < (xs.length : Int) := of_decide_eq_true g
    rw [if_pos (by omega)] at q
    exact q _ _ (Same.refl _) rfl
  have g' : ¬ (400 : Int) < (xs.length : Int) := fun z => g (decide_eq_true z)
  rw [if_neg (by omega)] at q
  refine ⟨_, rfl, a, rfl, ⟨xs, hxs⟩, ?_⟩
  -- the loop: what is left of the parts gives what is left of the sizes
  refine for_tup (K := K) (a := a) (xs := xs) (fun i σ H' => ∃ (nodes steps : Int) (y5 y6 : Option V), σ = [some (.ref a), some (.ref T.f_steps_of_leaf), some (.int room), some (.int lv), some (.int nodes), some (.int steps), y5, y6] ∧ Same H H' ∧
    szJs js 1 0 room lv = szJs (js.drop i) nodes steps room lv) ⟨1, 0, none, none, rfl, Same.refl _, rfl⟩ (fun i σ H' _ ⟨_, _, _, _, _, s1, _⟩ => same_sqT s1 hxs) ?_ ?_
  · rintro i x σ H' hi ⟨nodes, steps, y5, y6, rfl, s1, es⟩
    obtain ⟨d, ed, hd'⟩ := dpAll_get hall hi
    have hij : i < js.length := by
      rw [← hlen]
      exact (List.getElem?_eq_some_iff.mp hi).1
    have ej : d = (js[i]).toD := by
      rw [J.toDs_eq, List.getElem?_map, List.getElem?_eq_getElem hij] at ed
      exact (Option.some.inj ed).symm
    subst ej
    have hdrop : js.drop i = js[i] :: js.drop (i + 1) := List.drop_eq_getElem_cons hij
    rw [hdrop] at es
    refine ⟨_, rfl, _, rfl, _, rfl, _, rfl, _, _, rfl, rfl, _, rfl, _, _, rfl, rfl, x, js[i], room - nodes, lv - 1, rfl, dp_same s1 hd', by omega, by omega, fun H2 r2 s2 h2 => ?_⟩
    simp only [szJs] at es
    cases ez : szJ js[i] (room - nodes) (lv - 1) with
    | none =>
      rw [ez] at h2 es
      obtain rfl : r2 = .non := h2
      refine ⟨_, rfl, rfl, _, rfl, ?_⟩
      refine iteT ?_
      rw [es] at q
      exact q _ _ (s1.trans s2) rfl
    | some ab =>
      obtain ⟨a1, b1⟩ := ab
      rw [ez] at h2 es
      obtain ⟨t, rfl, ht⟩ := h2
      refine ⟨_, rfl, rfl, _, rfl, ?_⟩
      refine iteF ?_
      refine ⟨_, rfl, _, rfl, _, _, _, _, rfl, rfl, SqT.of ht, rfl, _, _, rfl, rfl, ?_⟩
      refine ⟨_, rfl, _, rfl, _, _, _, _, rfl, rfl, SqT.of ht, rfl, _, _, rfl, rfl, ?_⟩
      exact ⟨_, _, _, _, rfl, s1.trans s2, es⟩
  · rintro σ H' ⟨nodes, steps, y5, y6, rfl, s1, es⟩
    rw [hlen, List.drop_length] at es
    simp only [szJs] at es
    refine ⟨_, rfl, _, rfl, nodes, steps, rfl, fun H2 r2 s2 h2 => ?_⟩
    rw [es] at q
    exact q _ _ (s1.trans s2) h2
theorem ok_szr (T : Txt K mg) {n : Nat} (g__sizes : FnOk P w K mg base CX0 (2 * n + 2) T.f__sizes T.d__sizes ["value", "leaf_steps", "room", "levels"] (spSz K T.f_steps_of_leaf n)) :
    FnOk P w K mg base CX0 (2 * n + 3) T.f__sizes_of_rounds T.d__sizes_of_rounds ["n", "inner", "leaf_steps", "room", "levels"] (spSzr K T.f_steps_of_leaf n) := by
  have g__within_count : FnOk P w K mg base CX0 1 T.f__within_count T.d__within_count ["nodes", "steps"] spWithin := ok_within T
  have g_is_within := ok_wi (P := P) (w := w) (base := base) T
  refine T.F__sizes_of_rounds.ok sc__sizes_of_rounds (fun vs H Q E h => ?_) (fun cdv A outer s H vs Q E hr h => ?_)
  · obtain ⟨v, c, j, room, lv, rfl, _⟩ := h
    rfl
  obtain ⟨v, c, j, room, lv, rfl, hd, hn1, hn, q⟩ := h
  refine ⟨_, (pss_cons (ps_if (pt_not (pt_val (pe_call g_is_within (hr.mono (by omega)) rfl T.m_is_within T.F_is_within.kp T.b_is_within .nil pass0 (pa_cons (pv 0) (pa_cons pe_int (pa_cons (pe_glob (v := .int 1000000000000000000000000000000) rfl T.g_MAX_COUNT ⟨_, rfl⟩) pa_nil)))))) (pss_one (ps_ret pe_non)) pss_nil)
      (pss_cons (ps_set (i := 5) sc__sizes_of_rounds.nd rfl (Or.inl rfl) (pe_call g__sizes (hr.mono (by omega)) rfl T.m__sizes T.F__sizes.kp T.b__sizes .nil pass0 (pa_cons (pv 1) (pa_cons (pv 2) (pa_cons (pe_op op_sub (pv 3) pe_int) (pa_cons (pe_op op_sub (pv 4) pe_int) pa_nil))))))
      (pss_cons (ps_if (pt_cmpR op_isN (pv 5) pe_non (nomark _)) (pss_one (ps_ret pe_non)) pss_nil)
      (pss_one (ps_ret (pe_call g__within_count (hr.mono (by omega)) rfl T.m__within_count T.F__within_count.kp T.b__within_count .nil pass0 (pa_cons (pe_op op_add (pe_ix (r := rIxT K) ix_tup (pv 5) pe_int (fun _ _ => rfl)) pe_int) (pa_cons (pe_op op_mulW (pe_ix (r := rIxT K) ix_tup (pv 5) pe_int (fun _ _ => rfl)) (pv 0)) pa_nil)))))))), ?_⟩
  refine ⟨_, rfl, .int c, .int c, 0, M30, rfl, .int c, _, rfl, ?_⟩
  show if (!(decide (0 ≤ c) && decide (c ≤ M30))) = true then _ else _
  refine ite2 (fun g => ?_) (fun g => ?_)
  · rw [if_pos (fun z => by rw [decide_eq_true z.1, decide_eq_true z.2] at g; cases g)] at q
    exact q _ _ (Same.refl _) rfl
  obtain ⟨g0, g1⟩ : 0 ≤ c ∧ c ≤ M30 := by
    by_cases z : 0 ≤ c ∧ c ≤ M30
    · exact z
    · exfalso
      apply g
      rw [Bool.not_eq_true', Bool.and_eq_false_iff]
      by_cases z0 : 0 ≤ c
      · exact .inr (decide_eq_false fun y => z ⟨z0, y⟩)
      · exact .inl (decide_eq_false z0)
  rw [if_neg (fun z => z ⟨g0, g1⟩)] at q
  refine ⟨_, rfl, _, rfl, _, rfl, _, _, rfl, rfl, _, rfl, _, _, rfl, rfl, v, j, room - 1, lv - 1, rfl, hd, by omega, by omega, fun H2 r2 s2 h2 => ?_⟩
  cases ez : szJ j (room - 1) (lv - 1) with
  | none =>
    rw [ez] at h2 q
    obtain rfl : r2 = .non := h2
    refine ⟨_, rfl, rfl, _, rfl, ?_⟩
    refine iteT ?_
    exact q _ _ s2 rfl
  | some ab =>
    obtain ⟨a1, b1⟩ := ab
    rw [ez] at h2 q
    obtain ⟨t, rfl, ht⟩ := h2
    refine ⟨_, rfl, rfl, _, rfl, ?_⟩
    refine iteF ?_
    obtain ⟨jo, _, _, ea, eb⟩ := szJ_inv j _ _ _ _ ez
    have hb0 := J.steps_nn j jo
    have hb1 := J.steps_le j jo
    rw [← eb] at hb0 hb1
    refine ⟨_, rfl, _, _, _, _, rfl, rfl, SqT.of ht, rfl, _, _, rfl, rfl, _, rfl, _, _, _, _, rfl, rfl, SqT.of ht, rfl, _, rfl, _, _, rfl, rfl, ?_, ?_⟩
    · have e1 : b1.natAbs < 2 ^ 128 := Nat.lt_of_le_of_lt (show b1.natAbs ≤ 1000000000000000000000000000000 by simp only [M30] at hb1; omega) (by decide)
      have e2 : c.natAbs < 2 ^ 128 := Nat.lt_of_le_of_lt (show c.natAbs ≤ 1000000000000000000000000000000 by simp only [M30] at g1; omega) (by decide)
      exact wide_mul (a := 128) (b := 128) e1 e2 (by decide) (by decide) (by decide)
    refine ⟨_, _, rfl, fun H3 r3 s3 h3 => ?_⟩
    exact q _ _ (s2.trans s3) h3
theorem in_parts (k : Bool) : inV (.str (kwP k)) [.str "seq", .str "par"] = true := by cases k <;> decide +kernel
theorem in_parts_no (k : Bool) : inV (.str (kwR k)) [.str "seq", .str "par"] = false := by cases k <;> decide +kernel
theorem in_rounds (k : Bool) : inV (.str (kwR k)) [.str "repeat", .str "copies"] = true := by cases k <;> decide +kernel
theorem ok_sz (T : Txt K mg) {n : Nat} (g__sizes_of_parts : FnOk P w K mg base CX0 (2 * n + 3) T.f__sizes_of_parts T.d__sizes_of_parts ["parts", "leaf_steps", "room", "levels"] (spSzs K T.f_steps_of_leaf n))
    (g__sizes_of_rounds : FnOk P w K mg base CX0 (2 * n + 3) T.f__sizes_of_rounds T.d__sizes_of_rounds ["n", "inner", "leaf_steps", "room", "levels"] (spSzr K T.f_steps_of_leaf n)) :
    FnOk P w K mg base CX0 (2 * (n + 1) + 2) T.f__sizes T.d__sizes ["value", "leaf_steps", "room", "levels"] (spSz K T.f_steps_of_leaf (n + 1)) := by
  have g_steps_of_leaf := ok_leaf (P := P) (w := w) (base := base) T
  refine T.F__sizes.ok sc__sizes (fun vs H Q E h => ?_) (fun cdv A outer s H vs Q E hr h => ?_)
  · obtain ⟨v, j, room, lv, rfl, _⟩ := h
    rfl
  obtain ⟨v, j, room, lv, rfl, hd, hn1, hn, q⟩ := h
  refine ⟨_, (pss_cons (ps_if (PW.pt (pw_or (pt_cmpR op_lt (pv 2) pe_int (nomark _)) (pw_or1 (pt_cmpR op_lt (pv 3) pe_int (nomark _))))) (pss_one (ps_ret pe_non)) pss_nil)
      (pss_cons (ps_set (i := 4) sc__sizes.nd rfl (Or.inl rfl) (pe_callL (i := 1) g_steps_of_leaf (hr.mono (by omega)) rfl (.inl rfl) T.F_steps_of_leaf.kp T.b_steps_of_leaf .nil pass0 (pa_cons (pv 0) pa_nil)))
      (pss_cons (ps_if (pt_cmpR op_notN (pv 4) pe_non (nomark _)) (pss_one (ps_ret (pe_tup (pa_cons pe_int (pa_cons (pv 4) pa_nil))))) pss_nil)
      (pss_cons (ps_if (pt_not (pt_val (pe_callB (r := rIsD K) call_isD (by rfl) T.n_isinstance (by decide +kernel) (pa_cons (pv 0) (pa_cons (pe_bltn (v := .ty "tuple") (by rfl) T.n_tuple (by decide +kernel) rfl) pa_nil))))) (pss_one (ps_ret pe_non)) pss_nil)
      (pss_cons (ps_if (PW.pt (pw_and (pt_cmpR op_eq (pe_callB (r := rLenS K) call_lenS (by rfl) T.n_len (by decide +kernel) (pa_cons (pv 0) pa_nil)) pe_int (nomark _)) (pw_and1 (pt_cmpR (r := rIn K false) op_in_seq (pe_ix (r := rIxT K) ix_tup (pv 0) pe_int (fun _ _ => rfl)) (pe_tup (pa_cons pe_str (pa_cons pe_str pa_nil))) (by rfl))))) (pss_one (ps_ret (pe_call g__sizes_of_parts (hr.mono (by omega)) rfl T.m__sizes_of_parts T.F__sizes_of_parts.kp T.b__sizes_of_parts .nil pass0 (pa_cons (pe_ix (r := rIxT K) ix_tup (pv 0) pe_int (fun _ _ => rfl)) (pa_cons (pv 1) (pa_cons (pv 2) (pa_cons (pv 3) pa_nil))))))) pss_nil)
      (pss_cons (ps_if (PW.pt (pw_and (pt_cmpR op_eq (pe_callB (r := rLenS K) call_lenS (by rfl) T.n_len (by decide +kernel) (pa_cons (pv 0) pa_nil)) pe_int (nomark _)) (pw_and1 (pt_cmpR (r := rIn K false) op_in_seq (pe_ix (r := rIxT K) ix_tup (pv 0) pe_int (fun _ _ => rfl)) (pe_tup (pa_cons pe_str (pa_cons pe_str pa_nil))) (by rfl))))) (pss_one (ps_ret (pe_call g__sizes_of_rounds (hr.mono (by omega)) rfl T.m__sizes_of_rounds T.F__sizes_of_rounds.kp T.b__sizes_of_rounds .nil pass0 (pa_cons (pe_ix (r := rIxT K) ix_tup (pv 0) pe_int (fun _ _ => rfl)) (pa_cons (pe_ix (r := rIxT K) ix_tup (pv 0) pe_int (fun _ _ => rfl)) (pa_cons (pv 1) (pa_cons (pv 2) (pa_cons (pv 3) pa_nil)))))))) pss_nil)
      (pss_one (ps_ret pe_non)))))))), ?_⟩
  -- room < 1 or levels < 1
  have no : ∀ R : V → Hp → Prop, R = Q → (room < 1 ∨ lv < 1) → R .non H := by
    rintro R rfl z
    have e : szJ j room lv = none := by cases j <;> simp only [szJ] <;> rw [if_pos z]
    rw [e] at q
    exact q _ _ (Same.refl _) rfl
  refine ⟨_, rfl, _, _, rfl, rfl, _, rfl, ?_⟩
  refine ite2 (fun g => ?_) (fun g => ?_)
  · refine iteT ?_
    exact no _ rfl (.inl (of_decide_eq_true g))
  refine ⟨_, rfl, _, _, rfl, rfl, _, rfl, ?_⟩
  refine ite2 (fun g2 => ?_) (fun g2 => ?_)
  · exact no _ rfl (.inr (of_decide_eq_true g2))
  have g' : ¬ (room < 1 ∨ lv < 1) := fun z => z.elim (fun y => g (decide_eq_true y)) (fun y => g2 (decide_eq_true y))
  clear no
  cases j with
  | st i =>
    obtain rfl := dp_int_inv hd
    simp only [szJ] at q
    rw [if_neg g'] at q
    refine ⟨rfl, _, rfl, .int i, .int i, rfl, .int i, ?_⟩
    by_cases z : -M30 ≤ i ∧ i ≤ M30
    · rw [if_pos z] at q
      have e : inW (.int i) (-M30) M30 = true := by
        rw [inW_int, decide_eq_true z.1, decide_eq_true z.2] <;> rfl
      rw [if_pos e]
      refine ⟨_, rfl, rfl, _, rfl, ?_⟩
      refine iteT ?_
      refine ⟨_, rfl, (by show 2 ≤ sizeLine; decide), fun t ht => ?_⟩
      exact q _ _ (same_new ht) ⟨t, rfl, upd_same⟩
    · rw [if_neg z] at q
      have e : ¬ inW (.int i) (-M30) M30 = true := by
        rw [inW_int, Bool.and_eq_true, decide_eq_true_eq, decide_eq_true_eq]
        exact z
      rw [if_neg e]
      refine ⟨_, rfl, rfl, _, rfl, ?_⟩
      refine iteF ?_
      refine ⟨_, rfl, _, _, _, _, rfl, .int i, kit_tuple _, _, rfl, ?_⟩
      refine iteT ?_
      exact q _ _ (Same.refl _) rfl
  | ps k xs =>
    simp only [szJ] at q
    rw [if_neg g'] at q
    have hd0 := hd
    rw [J.toD] at hd
    obtain ⟨a, ys, rfl, hys, hall⟩ := dp_tup_inv hd
    cases hall with
    | cons e1 hall =>
      obtain rfl := dp_str_inv e1
      cases hall with
      | cons e2 hall =>
        cases hall
        rename_i vp
        refine ⟨rfl, _, rfl, .ref a, _, rfl, hd, ?_⟩
        refine ⟨_, rfl, rfl, _, rfl, ?_⟩
        refine iteF ?_
        refine ⟨_, rfl, _, _, _, _, rfl, hd, kit_tuple _, _, rfl, ?_⟩
        refine iteF ?_
        refine ⟨_, rfl, a, _, rfl, .inr hys, rfl, _, rfl, ?_⟩
        refine iteT ?_
        refine ⟨_, rfl, _, _, _, _, rfl, rfl, hys, rfl, (by show 2 ≤ sizeLine; decide), fun t ht => ?_⟩
        refine ⟨t, _, rfl, .inr (SqT.of upd_same), rfl, rfl, _, rfl, ?_⟩
        have s1 : Same H (upd H t (.tup [.str "seq", .str "par"])) := same_new ht
        show if inV (.str (kwP k)) [.str "seq", .str "par"] = true then _ else _
        rw [in_parts]
        refine iteT ?_
        refine ⟨_, rfl, _, _, _, _, rfl, rfl, same_sqT s1 hys, rfl, _, rfl, _, rfl, _, rfl, vp, xs, room, lv, rfl, dp_same s1 e2, by omega, by omega, fun H2 r2 s2 h2 => ?_⟩
        exact q _ _ (s1.trans s2) h2
  | rn k c x =>
    simp only [szJ] at q
    rw [if_neg g'] at q
    rw [J.toD] at hd
    obtain ⟨a, ys, rfl, hys, hall⟩ := dp_tup_inv hd
    cases hall with
    | cons e1 hall =>
      obtain rfl := dp_str_inv e1
      cases hall with
      | cons e2 hall =>
        obtain rfl := dp_int_inv e2
        cases hall with
        | cons e3 hall =>
          cases hall
          rename_i vx
          refine ⟨rfl, _, rfl, .ref a, _, rfl, hd, ?_⟩
          refine ⟨_, rfl, rfl, _, rfl, ?_⟩
          refine iteF ?_
          refine ⟨_, rfl, _, _, _, _, rfl, hd, kit_tuple _, _, rfl, ?_⟩
          refine iteF ?_
          refine ⟨_, rfl, a, _, rfl, .inr hys, rfl, _, rfl, ?_⟩
          refine iteF ?_
          refine ⟨_, rfl, a, _, rfl, .inr hys, rfl, _, rfl, ?_⟩
          refine iteT ?_
          refine ⟨_, rfl, _, _, _, _, rfl, rfl, hys, rfl, (by show 2 ≤ sizeLine; decide), fun t ht => ?_⟩
          refine ⟨t, _, rfl, .inr (SqT.of upd_same), rfl, rfl, _, rfl, ?_⟩
          have s1 : Same H (upd H t (.tup [.str "repeat", .str "copies"])) := same_new ht
          show if inV (.str (kwR k)) [.str "repeat", .str "copies"] = true then _ else _
          rw [in_rounds]
          refine iteT ?_
          refine ⟨_, rfl, _, _, _, _, rfl, rfl, same_sqT s1 hys, rfl, _, rfl, _, _, _, _, rfl, rfl, same_sqT s1 hys, rfl, _, rfl, _, rfl, _, rfl, vx, c, x, room, lv, rfl, dp_same s1 e3, by omega, by omega, fun H2 r2 s2 h2 => ?_⟩
          exact q _ _ (s1.trans s2) h2
theorem ok_sizes (T : Txt K mg) : ∀ n : Nat, FnOk P w K mg base CX0 (2 * n + 2) T.f__sizes T.d__sizes ["value", "leaf_steps", "room", "levels"] (spSz K T.f_steps_of_leaf n)
  | 0 => by
    have no : ∀ vs H Q E, ¬ spSz K T.f_steps_of_leaf 0 vs H Q E := by
      rintro vs H Q E ⟨v, j, room, lv, _, _, h1, h2, _⟩
      omega
    exact ⟨fun vs H Q E h => absurd h (no vs H Q E), fun A outer s H args us vs Q E _ _ _ _ h => absurd h (no vs H Q E)⟩
  | n + 1 => ok_sz T (ok_szs T (ok_sizes T n)) (ok_szr T (ok_sizes T n))
/-- jobs of at most thirteen levels -/
def spIsJob (K : PySem.W.Frag) : Sp := fun vs H Q _ => ∃ (v : V) (j : J), vs = [v] ∧ Dp K H v j.toD ∧ j.deep ≤ 20 ∧ ∀ H', Same H H' → Q (.bl (szJ j 400 13).isSome) H'
def spChecked (K : PySem.W.Frag) : Sp := fun vs H Q _ => ∃ (v : V) (j : J) (a b : Int), vs = [v] ∧ Dp K H v j.toD ∧ j.deep ≤ 20 ∧ szJ j 400 13 = some (a, b) ∧
  ∀ (H' : Hp) (t : Addr), Same H H' → H' t = some (.tup [.int a, .int b]) → Q (.ref t) H'
def spSzOf (K : PySem.W.Frag) (L : Addr) : Sp := fun vs H Q _ => ∃ (v : V) (j : J), vs = [v, .ref L] ∧ Dp K H v j.toD ∧ ∀ (H' : Hp) (r : V), Same H H' → RepSz H' r (szJ j 400 13) → Q r H'
theorem ok_szof (T : Txt K mg) : FnOk P w K mg base CX0 31 T.f_sizes_of T.d_sizes_of ["value", "leaf_steps"] (spSzOf K T.f_steps_of_leaf) := by
  have g__sizes := ok_sizes (P := P) (w := w) (base := base) T 14
  refine T.F_sizes_of.ok sc_sizes_of (fun vs H Q E h => ?_) (fun cdv A outer s H vs Q E hr h => ?_)
  · obtain ⟨v, j, rfl, _⟩ := h
    rfl
  obtain ⟨v, j, rfl, hd, q⟩ := h
  refine ⟨_, (pss_one (ps_ret (pe_call g__sizes (hr.mono (by omega)) rfl T.m__sizes T.F__sizes.kp T.b__sizes .nil pass0 (pa_cons (pv 0) (pa_cons (pv 1) (pa_cons (pe_glob (v := .int 400) rfl T.g_MAX_NODES ⟨_, rfl⟩) (pa_cons (pe_glob (v := .int 13) rfl T.g_MAX_DEPTH ⟨_, rfl⟩) pa_nil))))))), ?_⟩
  exact ⟨_, rfl, _, rfl, v, j, 400, 13, rfl, hd, by decide, by decide, q⟩
theorem ok_checked (T : Txt K mg) : FnOk P w K mg base CX0 43 T.f_checked_sizes T.d_checked_sizes ["job"] (spChecked K) := by
  have g_sizes_of := ok_szof (P := P) (w := w) (base := base) T
  refine T.F_checked_sizes.ok sc_checked_sizes (fun vs H Q E h => ?_) (fun cdv A outer s H vs Q E hr h => ?_)
  · obtain ⟨v, j, a, b, rfl, _⟩ := h
    rfl
  obtain ⟨v, j, a, b, rfl, hd, hn, ez, q⟩ := h
  refine ⟨_, (pss_cons (ps_set (i := 1) sc_checked_sizes.nd rfl (Or.inl rfl) (pe_call g_sizes_of (hr.mono (by omega)) rfl T.m_sizes_of T.F_sizes_of.kp T.b_sizes_of .nil pass0 (pa_cons (pv 0) (pa_cons (pe_glob (v := .ref T.f_steps_of_leaf) rfl T.m_steps_of_leaf rfl) pa_nil))))
      (pss_cons (ps_if (pt_cmpR op_isN (pv 1) pe_non (nomark _)) (pss_one ps_never) pss_nil)
      (pss_one (ps_ret (pv 1))))), ?_⟩
  refine ⟨_, rfl, v, j, rfl, hd, fun H2 r2 s2 h2 => ?_⟩
  rw [ez] at h2
  obtain ⟨t, rfl, ht⟩ := h2
  refine ⟨_, rfl, rfl, _, rfl, ?_⟩
  refine iteF ?_
  exact ⟨_, rfl, q _ t s2 ht⟩
end
/-! block Src: _law_source, _law_draw (the second kind of a drawn source) -/
/-- a source at p: what is left of the cell, the mixed number, how many were drawn (at most n) -/
def Pot (H : Hp) (p : Addr) (n : Nat) : Prop := ∃ a b c : Int, H p = some (.lst [.int a, .int b, .int c]) ∧ (0 ≤ a ∧ a.natAbs < 2 ^ 3000) ∧ (0 ≤ b ∧ b < 72057594037927931) ∧ (0 ≤ c ∧ c ≤ (n : Int))
theorem Pot.lst {H : Hp} {p : Addr} {n : Nat} (h : Pot H p n) : ∃ l, H p = some (.lst l) := by
  obtain ⟨a, b, c, h, _⟩ := h
  exact ⟨_, h⟩
theorem Pot.mono {H : Hp} {p : Addr} {n m : Nat} (h : Pot H p n) (e : n ≤ m) : Pot H p m := by
  obtain ⟨a, b, c, h1, h2, h3, h4⟩ := h
  exact ⟨a, b, c, h1, h2, h3, h4.1, by omega⟩
theorem Pot.same {H H' : Hp} {p : Addr} {n : Nat} (h : Pot H p n) (s : Same H H') : Pot H' p n := by
  obtain ⟨a, b, c, h1, h2⟩ := h
  exact ⟨a, b, c, s _ _ h1, h2⟩
def spSource (K : PySem.W.Frag) : Sp := fun vs H Q _ => ∃ (a : Addr) (ns : List Int) (k : Int), vs = [.ref a, .int k] ∧ SqL K H a (ns.map V.int) ∧ ns.length ≤ 1000 ∧ 0 ≤ k ∧ k ≤ 1000 ∧
  ∀ (H' : Hp) (p : Addr), Same H H' → H p = none → Pot H' p 0 → Q (.ref p) H'
def spTake : Sp := fun vs H Q _ => ∃ (p : Addr) (n : Nat) (m : Int), vs = [.ref p, .int m] ∧ Pot H p n ∧ n ≤ 1099511627776 ∧ 0 < m ∧ m.natAbs < 2 ^ 200 ∧
  ∀ (H' : Hp) (r : Int), Sx p H H' → Pot H' p (n + 1) → 0 ≤ r → r < m → Q (.int r) H'
theorem natAbs_lt {i : Int} {B : Nat} (h0 : 0 ≤ i) (h : i < (B : Int)) : i.natAbs < B := by omega
theorem big12 : ((((10 : Int) ^ (60 : Int).toNat) ^ (12 : Int).toNat)).natAbs < 2 ^ 3000 := by decide +kernel
theorem pos12 : 0 < ((10 : Int) ^ (60 : Int).toNat) ^ (12 : Int).toNat := by decide +kernel
theorem mod_big {z m : Int} {B : Nat} (hm : 0 < m) (hB : m.natAbs < B) : 0 ≤ z % m ∧ (z % m).natAbs < B := by
  have h1 := Int.emod_nonneg z (Int.ne_of_gt hm)
  have h2 := Int.emod_lt_of_pos z hm
  exact ⟨h1, by omega⟩
section
variable {P : Program} {w : World} {K : PySem.W.Frag} {mg : Str → Option Value} {base : Heap}
theorem ok_source (T : Txt K mg) : FnOk P w K mg base CX0 1 T.f__law_source T.d__law_source ["_law_script", "_law_at"] (spSource K) := by
  refine T.F__law_source.ok sc__law_source (fun vs H Q E h => ?_) (fun cdv A outer s H vs Q E hr h => ?_)
  · obtain ⟨a, ns, k, rfl, _⟩ := h
    rfl
  obtain ⟨a, ns, k, rfl, hS, hlen, hk0, hk1, q⟩ := h
  refine ⟨_, (pss_cons (ps_set (i := 2) sc__law_source.nd rfl (Or.inl rfl) (pe_ifExp (pt_cmpR op_lt (pv 1) (pe_callB (r := rLenS K) call_lenS (by rfl) T.n_len (by decide +kernel) (pa_cons (pv 0) pa_nil)) (nomark _)) (pe_ix (r := rIxL K) ix_list (pv 0) (pv 1) (fun _ _ => rfl)) (pe_op op_add (pe_op op_mulW pe_int (pv 1)) pe_int)))
      (pss_cons (ps_set (i := 3) sc__law_source.nd rfl (Or.inl rfl) (pe_op op_mod (pe_callB call_abs (by rfl) T.n_abs (by decide +kernel) (pa_cons (pv 2) pa_nil)) (pe_op op_powW (pe_op op_powW pe_int pe_int) pe_int)))
      (pss_cons (ps_set (i := 4) sc__law_source.nd rfl (Or.inl rfl) (pe_op op_add (pe_op op_add (pe_op op_mulW (pv 3) pe_int) (pe_op op_mulW pe_int (pv 1))) (pe_callTy call_int1 (by rfl) T.n_int (by decide +kernel) (pa_cons (pe_cmpR op_lt (pv 2) pe_int (nomark _)) pa_nil))))
      (pss_one (ps_ret (pe_lst (pa_cons (pe_callB (call_max2 rfl) (by rfl) T.n_max (by decide +kernel) (pa_cons pe_int (pa_cons (pe_op op_sub (pv 3) (pe_op op_powW pe_int pe_int)) pa_nil))) (pa_cons (pe_op op_mod (pv 4) pe_int) (pa_cons pe_int pa_nil))))))))), ?_⟩
  refine ⟨_, rfl, _, rfl, a, _, rfl, .inl hS, _, _, rfl, rfl, _, rfl, ?_⟩
  refine ite2 (fun c => ?_) (fun c => ?_)
  · have c' := of_decide_eq_true c
    rw [List.length_map] at c'
    obtain ⟨z, _, hz⟩ := atI_int (ns := ns) hk0 c'
    refine ⟨_, rfl, _, rfl, _, _, _, _, rfl, rfl, hS, hz, ?_⟩
    show tSeq _ _ _ [some (.ref a), some (.int k), some (.int z), none, none] H
    generalize z = cell
    clear c c' hz
    refine ⟨_, rfl, _, rfl, _, _, rfl, rfl, powW_of 4 (by decide) (by decide) (by decide), _, _, rfl, rfl, powW_of 200 (by decide) (by decide +kernel) (by decide), _, _, rfl, rfl, pos12, ?_⟩
    have hb := mod_big (z := if cell < 0 then -cell else cell) pos12 big12
    dsimp only
    generalize (if cell < 0 then -cell else cell) % ((10 : Int) ^ (60 : Int).toNat) ^ (12 : Int).toNat = size at hb ⊢
    refine ⟨_, rfl, _, _, rfl, rfl, wide_mul (a := 3000) (b := 64) hb.2 (by decide) (by decide) (by decide) (by decide), ?_⟩
    refine ⟨_, rfl, _, _, rfl, rfl, wide_mul (a := 64) (b := 64) (by decide) (by omega) (by decide) (by decide) (by decide), _, _, rfl, rfl, ?_⟩
    refine ⟨_, rfl, _, _, rfl, rfl, .inr ⟨_, rfl, _, _, rfl, rfl, ?_⟩⟩
    dsimp only
    generalize size * 2862933555777941757 + 3037000493 * k + (if decide (cell < 0) = true then 1 else 0) = mixed
    refine ⟨_, rfl, _, _, rfl, rfl, powW_of 4 (by decide) (by decide) (by decide), _, _, rfl, rfl, _, _, rfl, ?_⟩
    refine ⟨_, rfl, _, _, rfl, rfl, (by show (0 : Int) < 72057594037927931; decide), (by show 3 ≤ sizeLine; decide), fun p hp => ?_⟩
    have hm0 : 0 ≤ mixed % 72057594037927931 := by omega
    have hm1 : mixed % 72057594037927931 < 72057594037927931 := by omega
    refine q _ p (same_new hp) hp ⟨_, _, _, upd_same, ?_, ⟨hm0, hm1⟩, by decide, by decide⟩
    have e18 : (10 : Int) ^ (18 : Int).toNat = 1000000000000000000 := by decide
    rw [e18]
    obtain ⟨h0, h1⟩ := hb
    split
    · exact ⟨by omega, by omega⟩
    · exact ⟨by omega, by decide⟩
  · refine ⟨_, rfl, _, _, rfl, rfl, (by show CMulW 3 k; exact wide_mul (a := 64) (b := 64) (by decide) (by omega) (by decide) (by decide) (by decide)), _, _, rfl, rfl, ?_⟩
    show tSeq _ _ _ [some (.ref a), some (.int k), some (.int (3 * k + 2)), none, none] H
    generalize 3 * k + 2 = cell
    refine ⟨_, rfl, _, rfl, _, _, rfl, rfl, powW_of 4 (by decide) (by decide) (by decide), _, _, rfl, rfl, powW_of 200 (by decide) (by decide +kernel) (by decide), _, _, rfl, rfl, pos12, ?_⟩
    have hb := mod_big (z := if cell < 0 then -cell else cell) pos12 big12
    dsimp only
    generalize (if cell < 0 then -cell else cell) % ((10 : Int) ^ (60 : Int).toNat) ^ (12 : Int).toNat = size at hb ⊢
    refine ⟨_, rfl, _, _, rfl, rfl, wide_mul (a := 3000) (b := 64) hb.2 (by decide) (by decide) (by decide) (by decide), ?_⟩
    refine ⟨_, rfl, _, _, rfl, rfl, wide_mul (a := 64) (b := 64) (by decide) (by omega) (by decide) (by decide) (by decide), _, _, rfl, rfl, ?_⟩
    refine ⟨_, rfl, _, _, rfl, rfl, .inr ⟨_, rfl, _, _, rfl, rfl, ?_⟩⟩
    dsimp only
    generalize size * 2862933555777941757 + 3037000493 * k + (if decide (cell < 0) = true then 1 else 0) = mixed
    refine ⟨_, rfl, _, _, rfl, rfl, powW_of 4 (by decide) (by decide) (by decide), _, _, rfl, rfl, _, _, rfl, ?_⟩
    refine ⟨_, rfl, _, _, rfl, rfl, (by show (0 : Int) < 72057594037927931; decide), (by show 3 ≤ sizeLine; decide), fun p hp => ?_⟩
    have hm0 : 0 ≤ mixed % 72057594037927931 := by omega
    have hm1 : mixed % 72057594037927931 < 72057594037927931 := by omega
    refine q _ p (same_new hp) hp ⟨_, _, _, upd_same, ?_, ⟨hm0, hm1⟩, by decide, by decide⟩
    have e18 : (10 : Int) ^ (18 : Int).toNat = 1000000000000000000 := by decide
    rw [e18]
    obtain ⟨h0, h1⟩ := hb
    split
    · exact ⟨by omega, by omega⟩
    · exact ⟨by omega, by decide⟩
theorem ok_take (T : Txt K mg) : FnOk P w K mg base CX0 1 T.f__law_draw T.d__law_draw ["_law_source_here", "_law_many"] spTake := by
  refine T.F__law_draw.ok sc__law_draw (fun vs H Q E h => ?_) (fun cdv A outer s H vs Q E hr h => ?_)
  · obtain ⟨p, n, m, rfl, _⟩ := h
    rfl
  obtain ⟨p, n, m, rfl, ⟨a, b, c, hp, ⟨a0, a1⟩, ⟨b0, b1⟩, c0, c1⟩, hn, hm, hm2, q⟩ := h
  refine ⟨_, (pss_cons (ps_if (pt_cmpR op_gt (pe_ix (r := rIxL K) ix_list (pv 0) pe_int (fun _ _ => rfl)) pe_int (nomark _)) (pss_cons (ps_set (i := 2) sc__law_draw.nd rfl (Or.inl rfl) (pe_op op_mod (pe_ix (r := rIxL K) ix_list (pv 0) pe_int (fun _ _ => rfl)) (pv 1)))
        (pss_cons (ps_asg (pe_op op_fdivW (pe_ix (r := rIxL K) ix_list (pv 0) pe_int (fun _ _ => rfl)) (pv 1)) (pg_sub (pv 0) pe_int set_list))
        (pss_one (ps_ret (pv 2))))) pss_nil)
      (pss_cons (ps_asg (pe_op op_add (pe_ix (r := rIxL K) ix_list (pv 0) pe_int (fun _ _ => rfl)) pe_int) (pg_sub (pv 0) pe_int set_list))
      (pss_cons (ps_set (i := 3) sc__law_draw.nd rfl (Or.inl rfl) (pe_op op_mod (pe_op op_add (pe_ix (r := rIxL K) ix_list (pv 0) pe_int (fun _ _ => rfl)) (pe_op op_mulW pe_int (pe_ix (r := rIxL K) ix_list (pv 0) pe_int (fun _ _ => rfl)))) pe_int))
      (pss_cons (ps_set (i := 4) sc__law_draw.nd rfl (Or.inl rfl) (pe_op op_mulW (pe_op op_mod (pe_op op_mulW (pv 3) (pv 3)) pe_int) (pv 3)))
      (pss_cons (ps_set (i := 4) sc__law_draw.nd rfl (Or.inl rfl) (pe_op op_mod (pe_op op_add (pe_op op_add (pv 4) (pe_op op_mulW pe_int (pe_ix (r := rIxL K) ix_list (pv 0) pe_int (fun _ _ => rfl)))) (pe_op op_mod (pe_ix (r := rIxL K) ix_list (pv 0) pe_int (fun _ _ => rfl)) pe_int)) pe_int))
      (pss_one (ps_ret (pe_op op_mod (pe_op op_fdivW (pe_op op_mod (pe_op op_mulW (pv 4) (pv 4)) pe_int) pe_int) (pv 1))))))))), ?_⟩
  refine ⟨_, rfl, _, _, _, _, rfl, rfl, SqL.of hp, rfl, _, _, rfl, rfl, _, rfl, ?_⟩
  refine ite2 (fun g => ?_) (fun g => ?_)
  · refine ⟨_, rfl, _, _, _, _, rfl, rfl, SqL.of hp, rfl, _, rfl, _, _, rfl, rfl, hm, ?_⟩
    refine ⟨_, rfl, _, _, _, _, rfl, rfl, SqL.of hp, rfl, _, rfl, _, _, rfl, rfl, wide_div hm hm2 (by decide) (by decide), ?_⟩
    refine ⟨_, rfl, _, _, _, _, rfl, rfl, hp, rfl, ?_⟩
    refine ⟨_, rfl, ?_⟩
    have d0 : 0 ≤ a / m := Int.ediv_nonneg a0 (by omega)
    have d1 : a / m ≤ a := Int.ediv_le_self m a0
    exact q _ _ sx_upd ⟨_, _, _, upd_same, ⟨d0, Nat.lt_of_le_of_lt (by omega) a1⟩, ⟨b0, b1⟩, c0, by omega⟩ (Int.emod_nonneg _ (by omega)) (Int.emod_lt_of_pos _ hm)
  · refine ⟨_, rfl, _, _, _, _, rfl, rfl, SqL.of hp, rfl, _, _, rfl, rfl, ?_⟩
    refine ⟨_, rfl, _, _, _, _, rfl, rfl, hp, rfl, ?_⟩
    dsimp only
    have hq : (upd H p (.lst [.int a, .int b, .int (c + 1)])) p = some (.lst [.int a, .int b, .int (c + 1)]) := upd_same
    refine ⟨_, rfl, _, _, _, _, rfl, rfl, SqL.of hq, rfl, _, rfl, _, _, _, _, rfl, rfl, SqL.of hq, rfl, _, _, rfl, rfl, wide_mul (a := 64) (b := 64) (by decide) (by omega) (by decide) (by decide) (by decide), _, _, rfl, rfl, _, _, rfl, rfl, (by show (0 : Int) < 18014398509481951; decide), ?_⟩
    dsimp only
    generalize b + 11400714819323198 * (c + 1) = pw
    have o0 : 0 ≤ pw % 18014398509481951 := by omega
    have o1 : pw % 18014398509481951 < 18014398509481951 := by omega
    generalize pw % 18014398509481951 = one at o0 o1 ⊢
    refine ⟨_, rfl, _, rfl, _, _, rfl, rfl, wide_mul (a := 64) (b := 64) (by omega) (by omega) (by decide) (by decide) (by decide), _, _, rfl, rfl, (by show (0 : Int) < 36028797018963913; decide), ?_⟩
    dsimp only
    generalize one * one = sq
    have k0 : 0 ≤ sq % 36028797018963913 := by omega
    have k1 : sq % 36028797018963913 < 36028797018963913 := by omega
    generalize sq % 36028797018963913 = low at k0 k1 ⊢
    refine ⟨_, rfl, _, _, rfl, rfl, wide_mul (a := 64) (b := 64) (by omega) (by omega) (by decide) (by decide) (by decide), ?_⟩
    dsimp only
    generalize low * one = two
    refine ⟨_, rfl, _, rfl, _, _, _, _, rfl, rfl, SqL.of hq, rfl, _, _, rfl, rfl, wide_mul (a := 64) (b := 64) (by decide) (by omega) (by decide) (by decide) (by decide), _, _, rfl, rfl, ?_⟩
    refine ⟨_, rfl, _, _, _, _, rfl, rfl, SqL.of hq, rfl, _, _, rfl, rfl, (by show (0 : Int) < 65521; decide), _, _, rfl, rfl, _, _, rfl, rfl, (by show (0 : Int) < 1125899906842597; decide), ?_⟩
    dsimp only
    generalize two + 2654435761 * (c + 1) + b % 65521 = pw2
    have t0 : 0 ≤ pw2 % 1125899906842597 := by omega
    have t1 : pw2 % 1125899906842597 < 1125899906842597 := by omega
    generalize pw2 % 1125899906842597 = three at t0 t1 ⊢
    refine ⟨_, rfl, _, rfl, _, _, rfl, rfl, wide_mul (a := 64) (b := 64) (by omega) (by omega) (by decide) (by decide) (by decide), _, _, rfl, rfl, (by show (0 : Int) < 562949953421231; decide), _, _, rfl, rfl, wide_div (b := 12) (by decide) (by decide) (by decide) (by decide), ?_⟩
    refine ⟨_, rfl, _, _, rfl, rfl, hm, ?_⟩
    exact q _ _ sx_upd ⟨_, _, _, upd_same, ⟨a0, a1⟩, ⟨b0, b1⟩, by omega, by omega⟩ (Int.emod_nonneg _ (by omega)) (Int.emod_lt_of_pos _ hm)
end
/-! block Find: is_index_tuple, find_step, _part_at over data of any kind (behind bSizes, Rq) -/
def isI : PyData → Bool
  | .int _ => true
  | _ => false
theorem isI_eq (d : PyData) : (isInt d && !isBoo d) = isI d := by cases d <;> rfl
def spIsIntQ (K : PySem.W.Frag) : Sp := fun vs H Q _ => ∃ (v : V) (p : Addr) (d : PyData), vs = [v] ∧ Dq K p H v d ∧ Q (.bl (isI d)) H
def isIdx : PyData → Bool
  | .tuple ds => ds.all isI
  | _ => false
def spIdx (K : PySem.W.Frag) : Sp := fun vs H Q _ => ∃ (v : V) (p : Addr) (d : PyData), vs = [v] ∧ Dq K p H v d ∧ d.bulk ≤ 80000 ∧ ∀ H', Same H H' → Q (.bl (isIdx d)) H'
def J.part : J → Int → Option J
  | .st _, _ => none
  | .ps _ xs, k => if k < 0 then none else xs[k.toNat]?
  | .rn _ n x, k => if k < 0 then none else if k < n then some x else none
def J.find : J → List PyData → Option Int
  | .st i, [] => some i
  | .ps _ _, [] => none
  | .rn _ _ _, [] => none
  | j, .int k :: r => match j.part k with
    | none => none
    | some y => y.find r
  | _, _ :: _ => none
def fdD (j : J) : PyData → Option Int
  | .tuple ds => j.find ds
  | _ => none
def opV : Option Int → V
  | none => .non
  | some i => .int i
def PartR (K : PySem.W.Frag) (H : Hp) (r : V) : Option J → Prop
  | none => r = .non
  | some y => Dp K H r y.toD
def spPart (K : PySem.W.Frag) : Sp := fun vs H Q _ => ∃ (v : V) (j : J) (k : Int), vs = [v, .int k] ∧ Dp K H v j.toD ∧ ∀ (H' : Hp) (r : V), Same H H' → PartR K H' r (j.part k) → Q r H'
def spFind (K : PySem.W.Frag) : Sp := fun vs H Q _ => ∃ (v u : V) (j : J) (p : Addr) (d : PyData), vs = [v, u] ∧ Dp K H v j.toD ∧ Dq K p H u d ∧ d.bulk ≤ 80000 ∧ ∀ H', Same H H' → Q (opV (fdD j d)) H'
theorem idx_ints : ∀ {ds : List PyData}, ds.all isI = true → ∃ a : List Int, ds = a.map .int
  | [], _ => ⟨[], rfl⟩
  | d :: ds, h => by
    rw [List.all_cons, Bool.and_eq_true] at h
    obtain ⟨a, rfl⟩ := idx_ints h.2
    cases d with
    | int i => exact ⟨i :: a, rfl⟩
    | _ => cases h.1
theorem find_not : ∀ {ds : List PyData} (j : J), ds.all isI = false → j.find ds = none
  | [], _, h => by cases h
  | d :: ds, j, h => by
    cases d with
    | int k =>
      have h' : ds.all isI = false := by simpa [isI] using h
      have e : j.find (.int k :: ds) = match j.part k with
        | none => none
        | some y => y.find ds := by cases j <;> rfl
      rw [e]
      cases j.part k with
      | none => rfl
      | some y => exact find_not y h'
    | _ => cases j <;> rfl
theorem find_int (j : J) (k : Int) (ds : List PyData) : j.find (.int k :: ds) = match j.part k with
    | none => none
    | some y => y.find ds := by cases j <;> rfl
theorem atI_exF {vs : List V} {r : Int} (h0 : 0 ≤ r) (h1 : r < (vs.length : Int)) : ∃ v, vs[r.toNat]? = some v ∧ atI vs r = some v := by
  have hk : r.toNat < vs.length := by omega
  exact ⟨vs[r.toNat], List.getElem?_eq_getElem hk, atI_at (j := r.toNat) (by omega) (List.getElem?_eq_getElem hk)⟩
theorem dq_len_bulk : ∀ ds : List PyData, ds.length ≤ PyData.bulkAll ds
  | [] => by simp [PyData.bulkAll]
  | d :: ds => by
    have := dq_len_bulk ds
    simp only [PyData.bulkAll, List.length_cons]
    omega
section
variable {P : Program} {w : World} {K : PySem.W.Frag} {mg : Str → Option Value} {base : Heap}
theorem ok_isintQ (T : Txt K mg) : FnOk P w K mg base CX0 1 T.f_is_integer T.d_is_integer ["value"] (spIsIntQ K) := by
  refine T.F_is_integer.ok sc_is_integer (fun vs H Q E h => ?_) (fun cdv A outer s H vs Q E hr h => ?_)
  · obtain ⟨v, p, d, rfl, _⟩ := h
    rfl
  obtain ⟨v, p, d, rfl, hd, q⟩ := h
  refine ⟨_, (pss_one (ps_ret (pe_and (pe_callB (r := rIsQ K) call_isQ (by rfl) T.n_isinstance (by decide +kernel) (pa_cons (pv 0) (pa_cons (pe_bltn (v := .ty "int") (by rfl) T.n_int (by decide +kernel) rfl) pa_nil))) (pe_one (pe_not (pe_callB (r := rIsQ K) call_isQ (by rfl) T.n_isinstance (by decide +kernel) (pa_cons (pv 0) (pa_cons (pe_bltn (v := .ty "bool") (by rfl) T.n_bool (by decide +kernel) rfl) pa_nil)))))))), ?_⟩
  rw [← isI_eq] at q
  refine ⟨_, rfl, v, _, p, d, _, rfl, hd, kit_int d, _, rfl, ?_⟩
  cases e : isInt d with
  | false =>
    refine iteF ?_
    rw [e] at q
    exact q
  | true =>
    refine iteT ⟨_, rfl, v, _, p, d, _, rfl, hd, kit_bool d, _, rfl, ?_⟩
    rw [e] at q
    exact q
theorem ok_idx (T : Txt K mg) : FnOk P w K mg base CX0 2 T.f_is_index_tuple T.d_is_index_tuple ["value"] (spIdx K) := by
  have g_is_integer := ok_isintQ (P := P) (w := w) (base := base) T
  refine T.F_is_index_tuple.ok sc_is_index_tuple (fun vs H Q E h => ?_) (fun cdv A outer s H vs Q E hr h => ?_)
  · obtain ⟨v, p, d, rfl, _⟩ := h
    rfl
  obtain ⟨v, p, d, rfl, hd, hb, q⟩ := h
  refine ⟨_, (pss_one (ps_ret (pe_and (pe_callB (r := rIsQ K) call_isQ (by rfl) T.n_isinstance (by decide +kernel) (pa_cons (pv 0) (pa_cons (pe_bltn (v := .ty "tuple") (by rfl) T.n_tuple (by decide +kernel) rfl) pa_nil))) (pe_one (pe_callB (r := rAll K) (cr_all rfl) (by rfl) T.n_all (by decide +kernel) (pa_cons (pe_lc (own := [("index", 1)]) (g := (gName 1)) (by rfl) sc_is_index_tuple.nd (pi_tup (pv 0)) (blkOk_by (N := N_is_index_tuple) (sc := (defScope s_is_index_tuple)) (by decide +kernel)) (fun _ _ _ _ _ => (pg_name (i := 1) sc_is_index_tuple.nd rfl (Or.inl rfl))) (fun _ _ _ _ _ => pts_nil) (fun _ _ _ _ _ => (pe_call g_is_integer (hr.mono (by omega)) rfl T.m_is_integer T.F_is_integer.kp T.b_is_integer .nil pass0 (pa_cons (pv 1) pa_nil)))) pa_nil)))))), ?_⟩
  refine ⟨_, rfl, v, _, p, d, _, rfl, hd, kit_tuple d, _, rfl, ?_⟩
  cases et : isTup d with
  | false =>
    refine iteF ?_
    have e : isIdx d = false := by cases d <;> first | rfl | cases et
    rw [e] at q
    exact q _ (Same.refl _)
  | true =>
  obtain ⟨ds, rfl⟩ : ∃ ds, d = .tuple ds := by
    cases d <;> first | exact ⟨_, rfl⟩ | cases et
  obtain ⟨a, xs, rfl, hxs, hall⟩ := dq_tup_inv hd
  have hlen : xs.length = ds.length := dqAll_length hall
  have hbl : ds.length ≤ 80000 := by
    have := dq_len_bulk ds
    simp only [PyData.bulk] at hb
    omega
  refine iteT ?_
  refine ⟨_, rfl, a, rfl, ⟨xs, hxs⟩, fun D hD => ?_⟩
  refine lc_tup (K := K) (a := a) (xs := xs) (fun i H' => Same H H' ∧ H' D = some (.lst (((ds.take i).map isI).map V.bl))) ?_ ?_ ?_ ?_
  · exact ⟨same_new hD, by simpa using upd_same⟩
  · rintro i H' _ ⟨s1, _⟩
    exact same_sqT s1 hxs
  · rintro i x H' hi ⟨s1, eD⟩
    obtain ⟨d, ed, hd'⟩ := dqAll_get hall hi
    refine ⟨rfl, ?_⟩
    unfold tYes
    refine iteT ?_
    refine ⟨_, rfl, x, p, d, rfl, hd'.keep (Same.kp s1), _, eD, ?_, ?_, ?_⟩
    · rw [List.length_map, List.length_map, List.length_take, sizeLine_eq]
      omega
    · intro c o hc
      rw [upd_ne (ne_of_none hc hD)]
      exact s1 _ _ hc
    · rw [upd_same, take_step isI ed, List.map_append]
      rfl
  · rintro H' ⟨s1, eD⟩
    rw [hlen, List.take_length] at eD
    refine ⟨D, _, rfl, SqL.of eD, ?_⟩
    have e : ((ds.map isI).all id) = isIdx (.tuple ds) := by simp [isIdx, List.all_map, Function.comp_def]
    rw [e]
    exact q _ s1
theorem ok_part (T : Txt K mg) : FnOk P w K mg base CX0 2 T.f__part_at T.d__part_at ["job", "index"] (spPart K) := by
  have g_is_integer := ok_isint (P := P) (w := w) (base := base) T
  refine T.F__part_at.ok sc__part_at (fun vs H Q E h => ?_) (fun cdv A outer s H vs Q E hr h => ?_)
  · obtain ⟨v, j, k, rfl, _⟩ := h
    rfl
  obtain ⟨v, j, k, rfl, hd, q⟩ := h
  refine ⟨_, (pss_cons (ps_if (PW.pt (pw_or (pt_val (pe_call g_is_integer (hr.mono (by omega)) rfl T.m_is_integer T.F_is_integer.kp T.b_is_integer .nil pass0 (pa_cons (pv 0) pa_nil))) (pw_or1 (pt_cmpR op_lt (pv 1) pe_int (nomark _))))) (pss_one (ps_ret pe_non)) pss_nil)
      (pss_cons (ps_if (pt_cmpR (r := rIn K false) op_in_seq (pe_ix (r := rIxT K) ix_tup (pv 0) pe_int (fun _ _ => rfl)) (pe_tup (pa_cons pe_str (pa_cons pe_str pa_nil))) (by rfl)) (pss_one (ps_ret (pe_ifExp (pt_cmpR op_lt (pv 1) (pe_callB (r := rLenS K) call_lenS (by rfl) T.n_len (by decide +kernel) (pa_cons (pe_ix (r := rIxT K) ix_tup (pv 0) pe_int (fun _ _ => rfl)) pa_nil)) (nomark _)) (pe_ix (r := rIxT K) ix_tup (pe_ix (r := rIxT K) ix_tup (pv 0) pe_int (fun _ _ => rfl)) (pv 1) (fun _ _ => rfl)) pe_non))) pss_nil)
      (pss_one (ps_ret (pe_ifExp (pt_cmpR op_lt (pv 1) (pe_ix (r := rIxT K) ix_tup (pv 0) pe_int (fun _ _ => rfl)) (nomark _)) (pe_ix (r := rIxT K) ix_tup (pv 0) pe_int (fun _ _ => rfl)) pe_non))))), ?_⟩
  refine ⟨_, rfl, v, _, rfl, hd, _, rfl, ?_⟩
  cases j with
  | st i =>
    refine iteT ?_
    exact q _ _ (Same.refl _) rfl
  | ps b xs =>
    refine iteF ?_
    refine ⟨_, rfl, _, _, rfl, rfl, _, rfl, ?_⟩
    refine ite2 (fun z => ?_) (fun z => ?_)
    · refine q _ _ (Same.refl _) ?_
      simp only [J.part]
      rw [if_pos (of_decide_eq_true z)]
      rfl
    have z' : ¬ k < 0 := fun y => z (decide_eq_true y)
    have hk0 : 0 ≤ k := by omega
    obtain ⟨c, d, vs, rfl, hys, hvs, hall⟩ := ps_inv hd
    have len : vs.length = xs.length := parts_len hall
    refine ⟨_, rfl, _, _, _, _, rfl, rfl, hys, rfl, (by show 2 ≤ sizeLine; decide), fun t ht => ?_⟩
    refine ⟨t, _, rfl, .inr (SqT.of upd_same), rfl, rfl, _, rfl, ?_⟩
    have s2 : Same H (upd H t (.tup [.str "seq", .str "par"])) := same_new ht
    show if inV (.str (kwP b)) [.str "seq", .str "par"] = true then _ else _
    rw [w_in_parts]
    refine iteT ?_
    generalize (upd H t (.tup [.str "seq", .str "par"])) = H2 at s2 ⊢
    refine ⟨_, rfl, _, rfl, _, _, _, _, rfl, rfl, same_sqT s2 hys, rfl, d, vs, rfl, .inr (same_sqT s2 hvs), _, _, rfl, rfl, _, rfl, ?_⟩
    refine ite2 (fun y => ?_) (fun y => ?_)
    · have y' : k < (vs.length : Int) := of_decide_eq_true y
      obtain ⟨z, ez, eat⟩ := atI_exF (vs := vs) hk0 y'
      obtain ⟨j', ej', _, dj'⟩ := parts_at hall ez
      refine ⟨_, rfl, _, _, _, _, rfl, rfl, same_sqT s2 hys, rfl, _, rfl, _, _, _, _, rfl, rfl, same_sqT s2 hvs, eat, ?_⟩
      refine q _ _ s2 ?_
      simp only [J.part]
      rw [if_neg z', ej']
      exact dp_same s2 dj'
    · have y' : ¬ k < (vs.length : Int) := fun z => y (decide_eq_true z)
      refine q _ _ s2 ?_
      simp only [J.part]
      rw [if_neg z', List.getElem?_eq_none (by omega)]
      rfl
  | rn b n x =>
    refine iteF ?_
    refine ⟨_, rfl, _, _, rfl, rfl, _, rfl, ?_⟩
    refine ite2 (fun z => ?_) (fun z => ?_)
    · refine q _ _ (Same.refl _) ?_
      simp only [J.part]
      rw [if_pos (of_decide_eq_true z)]
      rfl
    have z' : ¬ k < 0 := fun y => z (decide_eq_true y)
    obtain ⟨c, y, rfl, hys, hx⟩ := rn_inv hd
    refine ⟨_, rfl, _, _, _, _, rfl, rfl, hys, rfl, (by show 2 ≤ sizeLine; decide), fun t ht => ?_⟩
    refine ⟨t, _, rfl, .inr (SqT.of upd_same), rfl, rfl, _, rfl, ?_⟩
    have s2 : Same H (upd H t (.tup [.str "seq", .str "par"])) := same_new ht
    show if inV (.str (kwR b)) [.str "seq", .str "par"] = true then _ else _
    rw [w_in_parts_no]
    refine iteF ?_
    generalize (upd H t (.tup [.str "seq", .str "par"])) = H2 at s2 ⊢
    refine ⟨_, rfl, _, rfl, _, _, _, _, rfl, rfl, same_sqT s2 hys, rfl, _, _, rfl, rfl, _, rfl, ?_⟩
    refine ite2 (fun y => ?_) (fun y => ?_)
    · refine ⟨_, rfl, _, _, _, _, rfl, rfl, same_sqT s2 hys, rfl, ?_⟩
      refine q _ _ s2 ?_
      simp only [J.part]
      rw [if_neg z', if_pos (of_decide_eq_true y)]
      exact dp_same s2 hx
    · refine q _ _ s2 ?_
      simp only [J.part]
      rw [if_neg z', if_neg (fun z => y (decide_eq_true z))]
      rfl
theorem ok_find (T : Txt K mg) : FnOk P w K mg base CX0 3 T.f_find_step T.d_find_step ["job", "value"] (spFind K) := by
  have g_is_integer := ok_isint (P := P) (w := w) (base := base) T
  have g_is_index_tuple := ok_idx (P := P) (w := w) (base := base) T
  have g__part_at := ok_part (P := P) (w := w) (base := base) T
  refine T.F_find_step.ok sc_find_step (fun vs H Q E h => ?_) (fun cdv A outer s H vs Q E hr h => ?_)
  · obtain ⟨v, u, j, p, d, rfl, _⟩ := h
    rfl
  obtain ⟨v, u, j, p, d, rfl, hd, hu, hb, q⟩ := h
  refine ⟨_, (pss_cons (ps_if (pt_not (pt_val (pe_call g_is_index_tuple (hr.mono (by omega)) rfl T.m_is_index_tuple T.F_is_index_tuple.kp T.b_is_index_tuple .nil pass0 (pa_cons (pv 1) pa_nil)))) (pss_one (ps_ret pe_non)) pss_nil)
      (pss_cons (ps_set (i := 2) sc_find_step.nd rfl (Or.inl rfl) (pv 0))
      (pss_cons (ps_for PassesOwn.never rfl (pi_tup (pv 1)) (pg_name (i := 3) sc_find_step.nd rfl (Or.inl rfl))
        (pss_cons (ps_set (i := 2) sc_find_step.nd rfl (Or.inl rfl) (pe_call g__part_at (hr.mono (by omega)) rfl T.m__part_at T.F__part_at.kp T.b__part_at .nil pass0 (pa_cons (pv 2) (pa_cons (pv 3) pa_nil))))
        (pss_one (ps_if (pt_cmpR op_isN (pv 2) pe_non (nomark _)) (pss_one (ps_ret pe_non)) pss_nil))))
      (pss_one (ps_ret (pe_ifExp (pt_val (pe_call g_is_integer (hr.mono (by omega)) rfl T.m_is_integer T.F_is_integer.kp T.b_is_integer .nil pass0 (pa_cons (pv 2) pa_nil))) (pv 2) pe_non)))))), ?_⟩
  refine ⟨_, rfl, u, p, d, rfl, hu, hb, fun H1 s1 => ?_⟩
  refine ⟨_, rfl, ?_⟩
  cases ei : isIdx d with
  | false =>
    refine iteT ?_
    have e : fdD j d = none := by
      cases d with
      | tuple ds => exact find_not j ei
      | _ => rfl
    rw [e] at q
    exact q _ s1
  | true =>
  refine iteF ?_
  obtain ⟨ds, rfl⟩ : ∃ ds, d = .tuple ds := by
    cases d <;> first | exact ⟨_, rfl⟩ | cases ei
  obtain ⟨a, rfl⟩ := idx_ints ei
  obtain ⟨t, xs, rfl, hxs, hall⟩ := dq_tup_inv hu
  have hlen : xs.length = a.length := by rw [dqAll_length hall, List.length_map]
  simp only [fdD] at q
  refine ⟨_, rfl, _, rfl, t, rfl, ⟨xs, same_sqT s1 hxs⟩, ?_⟩
  refine for_tup (K := K) (a := t) (xs := xs) (fun i σ H' => ∃ (z : V) (y : J) (y3 : Option V), σ = [some v, some (.ref t), some z, y3] ∧ Same H H' ∧ Dp K H' z y.toD ∧ j.find (a.map .int) = y.find ((a.drop i).map .int))
    ⟨v, j, none, rfl, s1, dp_same s1 hd, rfl⟩ (fun i σ H' _ ⟨_, _, _, _, s2, _⟩ => same_sqT s2 hxs) ?_ ?_
  · rintro i x σ H' hi ⟨z, y, y3, rfl, s2, hz, ef⟩
    obtain ⟨d, ed, hd'⟩ := dqAll_get hall hi
    rw [List.getElem?_map] at ed
    obtain ⟨k, ek, rfl⟩ := Option.map_eq_some_iff.mp ed
    obtain rfl := dq_int_inv hd'
    obtain ⟨hlt, ek'⟩ := List.getElem?_eq_some_iff.mp ek
    have da : a.drop i = k :: a.drop (i + 1) := by rw [← ek']; exact List.drop_eq_getElem_cons hlt
    rw [da, List.map_cons, find_int] at ef
    refine ⟨_, rfl, _, rfl, z, y, k, rfl, hz, fun H3 r s3 hr3 => ?_⟩
    cases ep : y.part k with
    | none =>
      rw [ep] at hr3 ef
      obtain rfl : r = .non := hr3
      refine ⟨_, rfl, rfl, _, rfl, ?_⟩
      refine iteT ?_
      rw [ef] at q
      exact q _ (s2.trans s3)
    | some y' =>
      rw [ep] at hr3 ef
      have hr' : Dp K H3 r y'.toD := hr3
      have go : ∀ (z2 : V) (σ2 : L2.St), σ2 = [some v, some (.ref t), some r, some (.int k)] → ∃ (z : V) (y : J) (y3 : Option V), σ2 = [some v, some (.ref t), some z, y3] ∧ Same H H3 ∧ Dp K H3 z y.toD ∧ j.find (a.map .int) = y.find ((a.drop (i + 1)).map .int) := fun _ _ e => ⟨r, y', _, e, s2.trans s3, hr', ef⟩
      cases y' with
      | st i =>
        obtain rfl := dp_int_inv hr'
        refine ⟨_, rfl, rfl, _, rfl, ?_⟩
        refine iteF ?_
        exact go .non _ rfl
      | ps b xs =>
        obtain ⟨_, _, _, rfl, _⟩ := ps_inv hr'
        refine ⟨_, rfl, rfl, _, rfl, ?_⟩
        refine iteF ?_
        exact go .non _ rfl
      | rn b n x =>
        obtain ⟨_, _, rfl, _⟩ := rn_inv hr'
        refine ⟨_, rfl, rfl, _, rfl, ?_⟩
        refine iteF ?_
        exact go .non _ rfl
  · rintro σ H' ⟨z, y, y3, rfl, s2, hz, ef⟩
    rw [hlen, List.drop_length, List.map_nil] at ef
    refine ⟨_, rfl, z, _, rfl, hz, _, rfl, ?_⟩
    rw [ef] at q
    cases y with
    | st i =>
      obtain rfl := dp_int_inv hz
      refine iteT ?_
      exact ⟨_, rfl, q _ s2⟩
    | ps b xs =>
      refine iteF ?_
      exact q _ s2
    | rn b n x =>
      refine iteF ?_
      exact q _ s2
end
/-! block Job: _law_job, the drawn jobs -/
def TB : Nat → Nat
  | 0 => 20
  | n + 1 => 20 + 3 * TB n
def NB : Nat → Int
  | 0 => 1
  | 1 => 1
  | 2 => 5
  | n + 3 => 1 + 3 * NB (n + 2)
mutual
/-- all numbers in bounds, few parts -/
def J.small : J → Prop
  | .st i => -M30 ≤ i ∧ i ≤ M30
  | .ps _ xs => xs.length ≤ 4 ∧ J.smallL xs
  | .rn _ n x => (0 ≤ n ∧ n ≤ M30) ∧ x.small
def J.smallL : List J → Prop
  | [] => True
  | x :: xs => x.small ∧ J.smallL xs
end
mutual
/-- all numbers of rounds and copies are among these -/
def J.cin (cs : List Int) : J → Prop
  | .st _ => True
  | .ps _ xs => J.cinL cs xs
  | .rn _ n x => n ∈ cs ∧ J.cin cs x
def J.cinL (cs : List Int) : List J → Prop
  | [] => True
  | x :: xs => J.cin cs x ∧ J.cinL cs xs
end
theorem J.cinL_app (cs : List Int) : ∀ xs ys : List J, J.cinL cs (xs ++ ys) ↔ J.cinL cs xs ∧ J.cinL cs ys
  | [], ys => by simp [J.cinL]
  | x :: xs, ys => by simp only [List.cons_append, J.cinL, J.cinL_app cs xs ys, and_assoc]
structure GenOk (cs : List Int) (n : Nat) (j : J) : Prop where
  cin : j.cin cs
  deep : j.deep ≤ max n 1
  nodes : j.nodes ≤ NB n
  small : j.small
structure GensOk (cs : List Int) (n : Nat) (js : List J) : Prop where
  cin : J.cinL cs js
  deep : J.deepL js ≤ max n 1
  nodes : J.nodesL js ≤ js.length * NB n
  small : J.smallL js
theorem NB_pos : ∀ n, 1 ≤ NB n
  | 0 => by decide
  | 1 => by decide
  | 2 => by decide
  | n + 3 => by
    have := NB_pos (n + 2)
    simp only [NB]
    omega
theorem J.deepL_app : ∀ xs ys : List J, J.deepL (xs ++ ys) = max (J.deepL xs) (J.deepL ys)
  | [], ys => by simp [J.deepL]
  | x :: xs, ys => by simp only [List.cons_append, J.deepL, J.deepL_app xs ys]; omega
theorem J.nodesL_app : ∀ xs ys : List J, J.nodesL (xs ++ ys) = J.nodesL xs + J.nodesL ys
  | [], ys => by simp [J.nodesL]
  | x :: xs, ys => by simp only [List.cons_append, J.nodesL, J.nodesL_app xs ys]; omega
theorem J.smallL_app : ∀ xs ys : List J, J.smallL (xs ++ ys) ↔ J.smallL xs ∧ J.smallL ys
  | [], ys => by simp [J.smallL]
  | x :: xs, ys => by simp only [List.cons_append, J.smallL, J.smallL_app xs ys, and_assoc]
theorem J.toDs_app : ∀ xs ys : List J, J.toDs (xs ++ ys) = J.toDs xs ++ J.toDs ys
  | [], ys => by simp [J.toDs]
  | x :: xs, ys => by simp only [List.cons_append, J.toDs, J.toDs_app xs ys]
theorem GensOk.nil {cs : List Int} {n : Nat} : GensOk cs n [] := ⟨trivial, by simp [J.deepL], by simp [J.nodesL], trivial⟩
theorem GensOk.snoc {cs : List Int} {n : Nat} {js : List J} {j : J} (h : GensOk cs n js) (g : GenOk cs n j) : GensOk cs n (js ++ [j]) := by
  refine ⟨(J.cinL_app _ _ _).mpr ⟨h.cin, g.cin, trivial⟩, ?_, ?_, ?_⟩
  · rw [J.deepL_app]
    have := h.deep
    have := g.deep
    simp only [J.deepL]
    omega
  · rw [J.nodesL_app, List.length_append, List.length_singleton]
    have h1 := h.nodes
    have h2 := g.nodes
    simp only [J.nodesL]
    have e : (((js.length + 1 : Nat) : Int)) * NB n = js.length * NB n + NB n := by
      rw [Int.natCast_add, Int.add_mul]
      simp
    rw [e]
    omega
  · rw [J.smallL_app]
    exact ⟨h.small, g.small, trivial⟩
theorem GenOk.step {cs : List Int} {n : Nat} {i : Int} (h1 : -M30 ≤ i) (h2 : i ≤ M30) : GenOk cs n (.st i) := by
  refine ⟨trivial, ?_, ?_, ?_⟩
  · simp only [J.deep]
    omega
  · simp only [J.nodes]
    exact NB_pos n
  · simp only [J.small]
    exact ⟨h1, h2⟩
/-- up to four steps in a row -/
theorem GenOk.row {cs : List Int} {n : Nat} {js : List J} (h : GensOk cs 1 js) (hl : js.length ≤ 4) : GenOk cs (n + 2) (.ps false js) := by
  have h1 := h.deep
  have h2 := h.nodes
  refine ⟨h.cin, ?_, ?_, ?_⟩
  · simp only [J.deep]
    omega
  · simp only [J.nodes]
    have e : NB 1 = 1 := rfl
    rw [e] at h2
    have : 5 ≤ NB (n + 2) := by
      cases n with
      | zero => decide
      | succ n =>
        have : ∀ n, 5 ≤ NB (n + 2) := by
          intro n
          induction n with
          | zero => decide
          | succ n ih => simp only [NB] at *; omega
        exact this _
    omega
  · simp only [J.small]
    exact ⟨hl, h.small⟩
theorem GenOk.parts {cs : List Int} {n : Nat} {k : Bool} {js : List J} (h : GensOk cs (n + 1) js) (hl : js.length ≤ 3) : GenOk cs (n + 2) (.ps k js) := by
  have h1 := h.deep
  have h2 := h.nodes
  refine ⟨h.cin, ?_, ?_, ?_⟩
  · simp only [J.deep]
    omega
  · simp only [J.nodes]
    have p := NB_pos (n + 1)
    have b : (js.length : Int) * NB (n + 1) ≤ 3 * NB (n + 1) := Int.mul_le_mul_of_nonneg_right (by omega) (by omega)
    cases n with
    | zero => simp only [NB] at *; omega
    | succ n =>
      have e : NB (n + 1 + 1) = NB (n + 2) := rfl
      rw [e] at *
      simp only [NB]
      omega
  · simp only [J.small]
    exact ⟨by omega, h.small⟩
theorem GenOk.rounds {cs : List Int} {n : Nat} {k : Bool} {c : Int} {x : J} (h : GenOk cs (n + 1) x) (h0 : 0 ≤ c) (h1 : c ≤ M30) (hc : c ∈ cs) : GenOk cs (n + 2) (.rn k c x) := by
  have h2 := h.deep
  have h3 := h.nodes
  refine ⟨⟨hc, h.cin⟩, ?_, ?_, ?_⟩
  · simp only [J.deep]
    omega
  · simp only [J.nodes]
    have p := NB_pos (n + 1)
    cases n with
    | zero => simp only [NB] at *; omega
    | succ n =>
      have e : NB (n + 1 + 1) = NB (n + 2) := rfl
      rw [e] at *
      simp only [NB]
      omega
  · simp only [J.small]
    exact ⟨⟨h0, h1⟩, h.small⟩
theorem pick2 {r : Int} (f : Bool → Str) (h0 : 0 ≤ r) (h1 : r < 2) : ∃ b : Bool, atI [V.str (f false), V.str (f true)] r = some (.str (f b)) := by
  have : r = 0 ∨ r = 1 := by omega
  rcases this with rfl | rfl
  · exact ⟨false, rfl⟩
  · exact ⟨true, rfl⟩
theorem dp_ps {K : PySem.W.Frag} {H : Hp} {t : Addr} {k : Bool} {v : V} {js : List J} (h : H t = some (.tup [.str (kwP k), v])) (d : Dp K H v (.tuple (J.toDs js))) : Dp K H (.ref t) (J.ps k js).toD := by
  rw [J.toD]
  exact .tup (.inl (.inl h)) (.cons (.str _) (.cons d .nil))
theorem dp_rn {K : PySem.W.Frag} {H : Hp} {t : Addr} {k : Bool} {n : Int} {v : V} {j : J} (h : H t = some (.tup [.str (kwR k), .int n, v])) (d : Dp K H v j.toD) : Dp K H (.ref t) (J.rn k n j).toD := by
  rw [J.toD]
  exact .tup (.inl (.inl h)) (.cons (.str _) (.cons (.int _) (.cons d .nil)))
def spJob (K : PySem.W.Frag) (n : Nat) : Sp := fun vs H Q _ => ∃ (p a : Addr) (m : Nat) (cs : List Int), vs = [.ref p, .int (n : Int), .ref a] ∧ Pot H p m ∧ m + TB n ≤ 1099511627776 ∧ H a = some (.lst (cs.map V.int)) ∧ a ≠ p ∧
  0 < cs.length ∧ cs.length ≤ 100 ∧ (∀ c ∈ cs, 0 ≤ c ∧ c ≤ M30) ∧
  ∀ (H' : Hp) (r : V) (j : J), Sx p H H' → Pot H' p (m + TB n) → Dp K H' r j.toD → GenOk cs n j → Q r H'
section
variable {P : Program} {w : World} {K : PySem.W.Frag} {mg : Str → Option Value} {base : Heap}
/-- the list that a comprehension fills beside a pot: what its turns keep -/
structure Row (K : PySem.W.Frag) (cs : List Int) (H0 : Hp) (p D : Addr) (n m : Nat) (js : List J) (H : Hp) : Prop where
  sx : Sx p H0 H
  pot : Pot H p m
  gen : GensOk cs n js
  lst : ∃ vs, H D = some (.lst vs) ∧ DpAll K H vs (J.toDs js)
theorem Row.snoc {cs : List Int} {H0 H H' : Hp} {p D : Addr} {n m m' : Nat} {js : List J} {r : V} {j : J} (R : Row K cs H0 p D n m js H) (d0 : H0 D = none) (nDp : D ≠ p) (s : Sx p H H') (hp : Pot H' p m') (hd : Dp K H' r j.toD) (g : GenOk cs n j) :
    ∃ acc, H' D = some (.lst acc) ∧ acc.length = js.length ∧ Row K cs H0 p D n m' (js ++ [j]) (upd H' D (.lst (acc ++ [r]))) := by
  obtain ⟨vs, h1, h2⟩ := R.lst
  obtain ⟨l, hl⟩ := R.pot.lst
  have h3 : H' D = some (.lst vs) := s D _ nDp h1
  refine ⟨vs, h3, ?_, ?_, ?_, R.gen.snoc g, _, upd_same, ?_⟩
  · rw [dpAll_length h2, J.toDs_eq, List.length_map]
  · intro b o nb hb
    have nbD : b ≠ D := fun e => by rw [e, d0] at hb; cases hb
    rw [upd_ne nbD]
    exact s b o nb (R.sx b o nb hb)
  · obtain ⟨a, b, c, z1, z2⟩ := hp
    exact ⟨a, b, c, by rw [upd_ne nDp.symm]; exact z1, z2⟩
  · have k1 : ∀ a xs, SqT K H a xs → SqT K H' a xs := fun a xs z => s.sqT hl z
    have k2 : ∀ a xs, SqT K H' a xs → SqT K (upd H' D (.lst (vs ++ [r]))) a xs := fun a xs z => (sx_upd (p := D)).sqT h3 z
    rw [J.toDs_app]
    exact dpAll_append (dpAll_keep k2 (J.noLs _) (dpAll_keep k1 (J.noLs _) h2)) (dpAll_one (dp_keep k2 j.noL hd))
/-- the jobs drawn with a smaller depth than n -/
def spJobs (K : PySem.W.Frag) (n : Nat) : Sp := fun vs H Q E => ∃ d, d < n ∧ spJob K d vs H Q E
end
/-! block Acc: chains of new objects, data of bounded size (behind Rq) -/
theorem _root_.Rp.DqAll.at {K : PySem.W.Frag} {p : Addr} {H : Hp} {vs : List V} {ds : List PyData} (h : DqAll K p H vs ds) (i : Nat) {v : V} {d : PyData} (hv : vs[i]? = some v) (hd : ds[i]? = some d) : Dq K p H v d := by
  obtain ⟨e, h1, h2⟩ := dqAll_get h hv
  rw [hd] at h1
  cases h1
  exact h2
structure Acc (K : PySem.W.Frag) (p : Addr) (H0 H : Hp) (vs : List V) (ds : List PyData) : Prop where
  s : Same H0 H
  f : DqAll K p H vs ds
theorem Acc.tup {K : PySem.W.Frag} {p t : Addr} {H0 H : Hp} {vs xs : List V} {ds es : List PyData} (A : Acc K p H0 H vs ds) (ht : H t = none) (h : DqAll K p H xs es) : Acc K p H0 (upd H t (.tup xs)) (.ref t :: vs) (.tuple es :: ds) :=
  ⟨A.s.trans (same_new ht), .cons (.tup (SqT.of upd_same) (h.keep (Same.kp (same_new ht)))) (A.f.keep (Same.kp (same_new ht)))⟩
theorem Acc.lst {K : PySem.W.Frag} {p t : Addr} {H0 H : Hp} {l : List V} {vs xs : List V} {ds es : List PyData} (A : Acc K p H0 H vs ds) (hp : H0 p = some (.lst l)) (ht : H t = none) (h : DqAll K p H xs es) : Acc K p H0 (upd H t (.lst xs)) (.ref t :: vs) (.list es :: ds) :=
  ⟨A.s.trans (same_new ht), .cons (.lst (fun z => by rw [z, A.s _ _ hp] at ht; cases ht) upd_same (h.keep (Same.kp (same_new ht)))) (A.f.keep (Same.kp (same_new ht)))⟩
theorem Acc.dct {K : PySem.W.Frag} {p t : Addr} {H0 H : Hp} {l : List V} {vs : List V} {ds : List PyData} (A : Acc K p H0 H vs ds) (hp : H0 p = some (.lst l)) (ht : H t = none) : Acc K p H0 (upd H t (.dK [])) (.ref t :: vs) (.dict [] :: ds) :=
  ⟨A.s.trans (same_new ht), .cons (.dct (fun z => by rw [z, A.s _ _ hp] at ht; cases ht) upd_same (fun _ => rfl)) (A.f.keep (Same.kp (same_new ht)))⟩
theorem dqAll_some {K : PySem.W.Frag} {p : Addr} {H : Hp} : ∀ {vs : List V} {ds : List PyData} {i : Nat} {v : V}, DqAll K p H vs ds → vs[i]? = some v → ∃ d, d ∈ ds ∧ ds[i]? = some d ∧ Dq K p H v d := by
  intro vs ds i v h e
  obtain ⟨d, h1, h2⟩ := dqAll_get h e
  exact ⟨d, List.mem_of_getElem? h1, h1, h2⟩
theorem pick {vs : List V} {r : Int} (h0 : 0 ≤ r) (h1 : r < (vs.length : Int)) : ∃ v, vs[r.toNat]? = some v ∧ atI vs r = some v := by
  have hk : r.toNat < vs.length := by omega
  exact ⟨vs[r.toNat], List.getElem?_eq_getElem hk, atI_at (j := r.toNat) (by omega) (List.getElem?_eq_getElem hk)⟩
structure Sd (b e : Nat) (d : PyData) : Prop where
  fine : fineQ d
  bulk : d.bulk ≤ b
  depth : d.depth ≤ e
structure Sds (b e : Nat) (ds : List PyData) : Prop where
  fine : finesQ ds
  bulk : PyData.bulkAll ds ≤ b
  depth : PyData.depthAll ds ≤ e
theorem Sds.nil : Sds 0 0 [] := ⟨by simp [finesQ], by simp [PyData.bulkAll], by simp [PyData.depthAll]⟩
theorem Sds.cons {b e b' e' : Nat} {d : PyData} {ds : List PyData} (h : Sd b e d) (t : Sds b' e' ds) : Sds (1 + b + b') (max e e') (d :: ds) := by
  have h1 := h.bulk
  have h2 := t.bulk
  have h3 := h.depth
  have h4 := t.depth
  refine ⟨?_, ?_, ?_⟩
  · simp only [finesQ]
    exact ⟨h.fine, t.fine⟩
  · simp only [PyData.bulkAll]
    omega
  · simp only [PyData.depthAll]
    omega
theorem Sd.tup {b e : Nat} {ds : List PyData} (h : Sds b e ds) : Sd b (e + 1) (.tuple ds) := by
  have h1 := h.bulk
  have h2 := h.depth
  exact ⟨by simp only [fineQ]; exact h.fine, by simp only [PyData.bulk]; omega, by simp only [PyData.depth]; omega⟩
theorem Sd.lst {b e : Nat} {ds : List PyData} (h : Sds b e ds) : Sd b (e + 1) (.list ds) := by
  have h1 := h.bulk
  have h2 := h.depth
  exact ⟨by simp only [fineQ]; exact h.fine, by simp only [PyData.bulk]; omega, by simp only [PyData.depth]; omega⟩
theorem Sd.mono {b e b' e' : Nat} {d : PyData} (h : Sd b e d) (h1 : b ≤ b') (h2 : e ≤ e') : Sd b' e' d := ⟨h.fine, Nat.le_trans h.bulk h1, Nat.le_trans h.depth h2⟩
theorem finesQ_app : ∀ xs ys : List PyData, finesQ xs → finesQ ys → finesQ (xs ++ ys)
  | [], ys, _, h => h
  | x :: xs, ys, h1, h2 => by
    simp only [finesQ, List.cons_append] at *
    exact ⟨h1.1, finesQ_app xs ys h1.2 h2⟩
theorem bulkAll_app : ∀ xs ys : List PyData, PyData.bulkAll (xs ++ ys) = PyData.bulkAll xs + PyData.bulkAll ys
  | [], ys => by simp [PyData.bulkAll]
  | x :: xs, ys => by simp only [List.cons_append, PyData.bulkAll, bulkAll_app xs ys]; omega
theorem depthAll_app : ∀ xs ys : List PyData, PyData.depthAll (xs ++ ys) = max (PyData.depthAll xs) (PyData.depthAll ys)
  | [], ys => by simp [PyData.depthAll]
  | x :: xs, ys => by simp only [List.cons_append, PyData.depthAll, depthAll_app xs ys]; omega
theorem Sds.app {b e b' e' : Nat} {xs ys : List PyData} (h : Sds b e xs) (t : Sds b' e' ys) : Sds (b + b') (max e e') (xs ++ ys) := by
  have h1 := h.bulk
  have h2 := t.bulk
  have h3 := h.depth
  have h4 := t.depth
  refine ⟨finesQ_app _ _ h.fine t.fine, ?_, ?_⟩
  · rw [bulkAll_app]
    omega
  · rw [depthAll_app]
    omega
theorem finesQ_left : ∀ xs ys : List PyData, finesQ (xs ++ ys) → finesQ xs
  | [], ys, _ => by simp [finesQ]
  | x :: xs, ys, h => by
    simp only [finesQ, List.cons_append] at *
    exact ⟨h.1, finesQ_left xs ys h.2⟩
theorem finesQ_right : ∀ xs ys : List PyData, finesQ (xs ++ ys) → finesQ ys
  | [], ys, h => h
  | x :: xs, ys, h => by
    simp only [finesQ, List.cons_append] at h
    exact finesQ_right xs ys h.2
theorem Acc.more {K : PySem.W.Frag} {p : Addr} {H0 H H' : Hp} {vs : List V} {ds : List PyData} {v : V} {d : PyData} (A : Acc K p H0 H vs ds) (s : Same H H') (h : Dq K p H' v d) : Acc K p H0 H' (v :: vs) (d :: ds) :=
  ⟨A.s.trans s, .cons h (A.f.keep (Same.kp s))⟩
theorem rCatA_q {K : PySem.W.Frag} {H : Hp} {Q : VK} {a b : Addr} {xs ys : List V} (h1 : SqT K H a xs) (h2 : SqT K H b ys) (hl : xs.length + ys.length ≤ sizeLine)
    (h : ∀ (H' : Hp) (t : Addr), Same H H' → SqT K H' t (xs ++ ys) → Q (.ref t) H') : rCatA K (.ref a) (.ref b) H Q := by
  refine ⟨a, b, xs, ys, rfl, rfl, h1, h2, hl, fun z => ?_, fun _ z => ?_, fun _ _ p hp => ?_⟩
  · subst z
    exact h H b (Same.refl _) h2
  · subst z
    exact h H a (Same.refl _) (by simpa using h1)
  · exact h _ p (same_new hp) (SqT.of upd_same)
theorem rSlA_q {K : PySem.W.Frag} {H : Hp} {Q : VK} {a : Addr} {xs : List V} {lo hi : Option Int} (h1 : SqT K H a xs)
    (h : ∀ (H' : Hp) (t : Addr), Same H H' → SqT K H' t (cutV xs lo hi) → Q (.ref t) H') : rSlA K (.ref a) lo hi H Q := by
  refine ⟨a, xs, rfl, h1, fun z => ?_, fun _ p hp => ?_⟩
  · refine h H a (Same.refl _) ?_
    have e : cutV xs lo hi = xs := by
      unfold cutV
      rw [z.1, z.2]
      simp
    rw [e]
    exact h1
  · exact h _ p (same_new hp) (SqT.of upd_same)
theorem iteKeep {c : Bool} {A B : Prop} (hA : A) (hB : ¬ c = true → A → B) : if c = true then A else B := by
  cases c with
  | true => exact hA
  | false => exact hB (by decide) hA
theorem cut_take {us : List V} {i : Int} (h0 : 0 ≤ i) (h1 : i < (us.length : Int)) : cutV us none (some i) = us.take i.toNat := by
  unfold cutV HT.sIx
  dsimp only
  rw [if_neg (by omega)]
  simp only [Nat.sub_zero, List.drop_zero]
  rw [Nat.min_eq_left (by omega)]
theorem cut_drop {us : List V} {i : Int} (h0 : 0 ≤ i) (h1 : i < (us.length : Int)) : cutV us (some (i + 1)) none = us.drop (i.toNat + 1) := by
  unfold cutV HT.sIx
  dsimp only
  rw [if_neg (by omega), Nat.min_eq_left (by omega)]
  have e : (i + 1).toNat = i.toNat + 1 := by omega
  rw [e, List.take_of_length_le (by rw [List.length_drop]; omega)]
/-! block Wide: _law_wide, a job with indices beyond nine (behind bJob) -/
abbrev jW1 (n : Int) (js : List J) : J := .ps true [.rn true n (.ps false [.st 2, .st (-3)]), .ps false js]
abbrev jW2 : J := .ps false [.rn false 12 (.ps true [.st 1, .st (-1)]), .rn true 11 (.st (-1))]
abbrev jW3 : J := .rn true 12 (.ps true [.ps false [.st 1, .st (-2)], .st 3])
/-- the three forms -/
def WideJ (j : J) : Prop := (∃ (n : Int) (js : List J), 10 ≤ n ∧ n ≤ 15 ∧ 11 ≤ js.length ∧ js.length ≤ 13 ∧ (∀ y ∈ js, ∃ i, y = .st i ∧ -M30 ≤ i ∧ i ≤ M30) ∧ j = jW1 n js) ∨ j = jW2 ∨ j = jW3
def spWide (K : PySem.W.Frag) : Sp := fun vs H Q _ => ∃ (p : Addr) (m : Nat), vs = [.ref p] ∧ Pot H p m ∧ m + 100 ≤ 1099511627776 ∧ ∀ (H' : Hp) (r : V) (j : J), Sx p H H' → Pot H' p (m + 100) → Dp K H' r j.toD → WideJ j → Q r H'
theorem st_dp {K : PySem.W.Frag} {H : Hp} : ∀ ns : List Int, DpAll K H (ns.map V.int) (J.toDs (ns.map J.st))
  | [] => .nil
  | k :: ns => .cons (.int k) (st_dp ns)
section
variable {P : Program} {w : World} {K : PySem.W.Frag} {mg : Str → Option Value} {base : Heap}
end
/-! block Steps2: _law_steps of jobs that are perhaps none -/
theorem J.stepsL_sum : ∀ xs : List J, (xs.map J.steps).sum = J.stepsL xs
  | [] => by simp [J.stepsL]
  | x :: xs => by simp only [List.map_cons, List.sum_cons, J.stepsL, J.stepsL_sum xs]
theorem J.deepL_mem : ∀ {l : List J} {y : J}, y ∈ l → y.deep ≤ J.deepL l
  | z :: r, y, h => by
    simp only [J.deepL]
    rcases List.mem_cons.mp h with rfl | h
    · omega
    · have := J.deepL_mem h
      omega
mutual
/-- no number of steps beyond 10 ** 30 within it -/
def J.stb : J → Prop
  | .st _ => True
  | .ps _ xs => xs.length ≤ 400 ∧ J.stbL xs
  | .rn _ n x => (0 ≤ n ∧ n ≤ M30) ∧ x.stb ∧ (0 ≤ x.steps ∧ x.steps ≤ M30)
def J.stbL : List J → Prop
  | [] => True
  | x :: xs => x.stb ∧ J.stbL xs
end
theorem J.stbL_mem : ∀ {l : List J} {y : J}, J.stbL l → y ∈ l → y.stb
  | z :: r, y, o, h => by
    simp only [J.stbL] at o
    rcases List.mem_cons.mp h with rfl | h
    · exact o.1
    · exact J.stbL_mem o.2 h
mutual
theorem J.stb_ok : ∀ j : J, j.ok → j.stb
  | .st _, _ => trivial
  | .ps _ xs, h => by
    simp only [J.ok] at h
    exact ⟨by omega, J.stbL_ok xs h.2.1⟩
  | .rn _ n x, h => by
    simp only [J.ok] at h
    exact ⟨h.1, J.stb_ok x h.2.1, J.steps_nn x h.2.1, J.steps_le x h.2.1⟩
theorem J.stbL_ok : ∀ xs : List J, J.okL xs → J.stbL xs
  | [], _ => trivial
  | x :: xs, h => by
    simp only [J.okL] at h
    exact ⟨J.stb_ok x h.1, J.stbL_ok xs h.2⟩
end
/-- the i-th part's data -/
theorem part_at {K : PySem.W.Frag} {H : Hp} {xs : List J} {vs : List V} {i : Nat} {x : V} (hall : DpAll K H vs (J.toDs xs)) (hi : vs[i]? = some x) : ∃ j, xs[i]? = some j ∧ j ∈ xs ∧ Dp K H x j.toD := by
  obtain ⟨d, ed, hd⟩ := dpAll_get hall hi
  rw [J.toDs_eq, List.getElem?_map] at ed
  cases e : xs[i]? with
  | none =>
    rw [e] at ed
    cases ed
  | some j =>
    rw [e] at ed
    obtain rfl := (Option.some.inj ed).symm
    exact ⟨j, rfl, List.mem_of_getElem? e, hd⟩
theorem take_map {α β : Type} {xs : List α} {i : Nat} {j : α} (f : α → β) (e : xs[i]? = some j) : (xs.take (i + 1)).map f = (xs.take i).map f ++ [f j] := by
  rw [List.take_add_one, e, List.map_append]
  rfl
theorem kwP_in (k : Bool) : inV (.str (kwP k)) [.str "seq", .str "par"] = true := by cases k <;> decide +kernel
theorem kwR_in (k : Bool) : inV (.str (kwR k)) [.str "seq", .str "par"] = false := by cases k <;> decide +kernel
theorem pow4_mono {a b : Nat} (h : a ≤ b) : (4 : Int) ^ a ≤ 4 ^ b := by
  induction h with
  | refl => exact Int.le_refl _
  | @step m _ ih =>
    refine Int.le_trans ih ?_
    rw [Int.pow_succ]
    have : (0 : Int) ≤ 4 ^ m := Int.le_of_lt (Int.pow_pos (by decide))
    omega
mutual
/-- a drawn job with few rounds has few steps -/
theorem J.few : ∀ (j : J) (cs : List Int), j.small → j.cin cs → (∀ c ∈ cs, 0 ≤ c ∧ c ≤ 4) → j.deep ≤ 40 → j.stb ∧ 0 ≤ j.steps ∧ j.steps ≤ 4 ^ j.deep
  | .st _, _, _, _, _, _ => by
    simp only [J.stb, J.steps, J.deep]
    exact ⟨trivial, by decide, by decide⟩
  | .ps k xs, cs, h, hc, hb, hd => by
    simp only [J.small] at h
    simp only [J.cin] at hc
    simp only [J.deep] at hd
    obtain ⟨h1, h2, h3⟩ := J.fewL xs cs h.2 hc hb (by omega)
    simp only [J.stb, J.steps, J.deep]
    refine ⟨⟨by omega, h1⟩, h2, Int.le_trans h3 ?_⟩
    rw [Int.pow_succ]
    have p : (0 : Int) ≤ 4 ^ J.deepL xs := Int.le_of_lt (Int.pow_pos (by decide))
    exact Int.mul_le_mul_of_nonneg_left (by omega) p
  | .rn k n x, cs, h, hc, hb, hd => by
    simp only [J.small] at h
    simp only [J.cin] at hc
    simp only [J.deep] at hd
    obtain ⟨h1, h2, h3⟩ := J.few x cs h.2 hc.2 hb (by omega)
    have hn := hb n hc.1
    have p40 : (4 : Int) ^ x.deep ≤ 4 ^ 40 := pow4_mono (by omega)
    have e40 : (4 : Int) ^ 40 ≤ M30 := by decide
    simp only [J.stb, J.steps, J.deep]
    refine ⟨⟨by simp only [M30]; omega, h1, h2, by omega⟩, Int.mul_nonneg h2 hn.1, ?_⟩
    rw [Int.pow_succ]
    exact Int.mul_le_mul h3 hn.2 hn.1 (Int.le_of_lt (Int.pow_pos (by decide)))
theorem J.fewL : ∀ (xs : List J) (cs : List Int), J.smallL xs → J.cinL cs xs → (∀ c ∈ cs, 0 ≤ c ∧ c ≤ 4) → J.deepL xs ≤ 40 → J.stbL xs ∧ 0 ≤ J.stepsL xs ∧ J.stepsL xs ≤ 4 ^ J.deepL xs * xs.length
  | [], _, _, _, _, _ => by simp [J.stbL, J.stepsL]
  | x :: xs, cs, h, hc, hb, hd => by
    simp only [J.smallL] at h
    simp only [J.cinL] at hc
    simp only [J.deepL] at hd ⊢
    obtain ⟨h1, h2, h3⟩ := J.few x cs h.1 hc.1 hb (by omega)
    obtain ⟨g1, g2, g3⟩ := J.fewL xs cs h.2 hc.2 hb (by omega)
    have p1 : (4 : Int) ^ x.deep ≤ 4 ^ (max x.deep (J.deepL xs)) := pow4_mono (by omega)
    have p2 : (4 : Int) ^ J.deepL xs ≤ 4 ^ (max x.deep (J.deepL xs)) := pow4_mono (by omega)
    have p3 := Int.mul_le_mul_of_nonneg_right p2 (show (0 : Int) ≤ xs.length by omega)
    simp only [J.stbL, J.stepsL, List.length_cons]
    refine ⟨⟨h1, g1⟩, by omega, ?_⟩
    rw [Int.natCast_add, Int.mul_add]
    simp only [Int.natCast_one, Int.mul_one]
    omega
end
theorem ls_ok {j : J} (h : j.ok) : j.stb := J.stb_ok j h
def spLS (K : PySem.W.Frag) (n : Nat) : Sp := fun vs H Q _ => ∃ (v : V) (j : J), vs = [v] ∧ Dp K H v j.toD ∧ j.deep ≤ n ∧ j.stb ∧ ∀ H', Same H H' → Q (.int j.steps) H'
section
variable {P : Program} {w : World} {K : PySem.W.Frag} {mg : Str → Option Value} {base : Heap}
end
/-! block Small: _law_small, a drawn job of two to so many steps -/
abbrev csS : List Int := [1, 2, 3, 0, 2]
abbrev jS : J := .ps true [.ps false [.st 5, .st (-3)], .rn true 2 (.st (-1))]
structure SmallOk (size : Int) (j : J) : Prop where
  two : 1 < j.steps
  most : j.steps ≤ size
  deep : j.deep ≤ 6
  small : j.small
  cin : j.cin csS
  stb : j.stb
  nodes : j.nodes ≤ 400
theorem NB_5 {m : Nat} (h : m ≤ 5) : NB m ≤ 400 := by
  have : ∀ m, m < 6 → NB m ≤ 400 := by decide
  exact this m (by omega)
theorem TB_mono (n : Nat) : TB n ≤ TB (n + 1) := by
  simp only [TB]
  omega
def spSmall (K : PySem.W.Frag) : Sp := fun vs H Q _ => ∃ (p : Addr) (m n : Nat) (size : Int), vs = [.ref p, .int (n : Int), .int size] ∧ Pot H p m ∧ 2 ≤ n ∧ n ≤ 5 ∧ 4 ≤ size ∧ m + 4 * TB n ≤ 1099511627776 ∧
  ∀ (H' : Hp) (r : V) (j : J), Sx p H H' → Pot H' p (m + 4 * TB n) → Dp K H' r j.toD → SmallOk size j → Q r H'
section
variable {P : Program} {w : World} {K : PySem.W.Frag} {mg : Str → Option Value} {base : Heap}
end
/-! block Addr: _law_addresses, the addresses of a small job -/
theorem for_enum {K : PySem.W.Frag} {a : Addr} {xs : List V} {g : TG} {tb : TS} {D : Ends} {σ : L2.St} {H : Hp} (Pv : Nat → L2.St → Hp → Prop) (h0 : Pv 0 σ H)
    (hs : ∀ (i : Nat) (σ : L2.St) (H : Hp), i ≤ xs.length → Pv i σ H → SqL K H a xs)
    (step : ∀ (i : Nat) (x : V) (σ : L2.St) (H : Hp) (T : Addr), xs[i]? = some x → Pv i σ H → H T = none →
      g (.ref T) σ (upd H T (.tup [.int i, x])) fun σ2 H2 => tb { nx := Pv (i + 1), rt := D.rt, bk := D.nx, ct := Pv (i + 1) } σ2 H2)
    (fin : ∀ (σ : L2.St) (H : Hp), Pv xs.length σ H → D.nx σ H) :
    ∃ W : Nat → Nat → L2.St → Hp → Prop, (∃ m, W 0 m σ H) ∧ ∀ (i m : Nat) (σ : L2.St) (H : Hp), W i m σ H →
      (Ite K a).stop i H ∧ D.nx σ H ∨ (Ite K a).go i H ∧ ∃ N : L2.St → Hp → Prop, (∀ (σ' : L2.St) (H' : Hp), N σ' H' → ∃ m', m' < m ∧ W (i + 1) m' σ' H') ∧
        ∀ (x : V) (H' : Hp), (Ite K a).yld i H x H' → g x σ H' fun σ2 H2 => tb { nx := N, rt := D.rt, bk := D.nx, ct := N } σ2 H2 := by
  refine ⟨fun i m σ H => i ≤ xs.length ∧ m = xs.length - i ∧ Pv i σ H, ⟨_, Nat.zero_le _, rfl, h0⟩, ?_⟩
  rintro i m σ H ⟨hi, rfl, hp⟩
  have hq := hs i σ H hi hp
  by_cases e : i = xs.length
  · subst e
    exact .inl ⟨⟨xs, hq, Nat.le_refl _⟩, fin σ H hp⟩
  · have hlt : i < xs.length := by omega
    refine .inr ⟨⟨xs, xs[i], hq, List.getElem?_eq_getElem hlt⟩, Pv (i + 1), fun σ' H' z => ⟨_, ?_, by omega, rfl, z⟩, ?_⟩
    · omega
    · rintro x H' ⟨T, x', rfl, hT, rfl, hx⟩
      exact step i x' σ H T (hx xs hq) hp hT
theorem rCatA_d {K : PySem.W.Frag} {H : Hp} {Q : VK} {a b : Addr} {xs ys : List V} (h1 : SqT K H a xs) (h2 : SqT K H b ys) (hl : xs.length + ys.length ≤ sizeLine)
    (h : ∀ (H' : Hp) (t : Addr), Same H H' → SqT K H' t (xs ++ ys) → Q (.ref t) H') : rCatA K (.ref a) (.ref b) H Q := by
  refine ⟨a, b, xs, ys, rfl, rfl, h1, h2, hl, fun z => ?_, fun _ z => ?_, fun _ _ p hp => ?_⟩
  · subst z
    exact h H b (Same.refl _) h2
  · subst z
    exact h H a (Same.refl _) (by simpa using h1)
  · exact h _ p (same_new hp) (SqT.of upd_same)
/-- rows of addresses, each behind its index -/
def idx : List (List (List Int)) → Int → List (List Int)
  | [], _ => []
  | as :: r, i => as.map (i :: ·) ++ idx r (i + 1)
mutual
def J.adr : J → List (List Int)
  | .st _ => [[]]
  | .ps _ xs => idx (J.adrs xs) 0
  | .rn _ n x => idx (List.replicate (if 0 < x.steps then n.toNat else 0) x.adr) 0
def J.adrs : List J → List (List (List Int))
  | [] => []
  | x :: xs => x.adr :: J.adrs xs
end
theorem J.adrs_eq : ∀ xs : List J, J.adrs xs = xs.map J.adr
  | [] => rfl
  | x :: xs => by rw [J.adrs, J.adrs_eq xs]; rfl
theorem idx_app : ∀ (as bs : List (List (List Int))) (i : Int), idx (as ++ bs) i = idx as i ++ idx bs (i + as.length)
  | [], bs, i => by simp [idx]
  | a :: as, bs, i => by
    simp only [List.cons_append, idx, idx_app as bs, List.append_assoc, List.length_cons]
    congr 3
    omega
theorem idx_len : ∀ (as : List (List (List Int))) (i : Int), (idx as i).length = (as.map List.length).sum
  | [], _ => rfl
  | a :: as, i => by simp only [idx, List.length_append, List.length_map, idx_len as, List.map_cons, List.sum_cons]
theorem sum_rep (m : Nat) : ∀ k : Nat, (List.replicate k m).sum = k * m
  | 0 => by simp
  | k + 1 => by
    rw [List.replicate_succ, List.sum_cons, sum_rep m k, Nat.succ_mul]
    omega
mutual
theorem J.adr_len : ∀ j : J, j.stb → (j.adr.length : Int) = j.steps
  | .st _, _ => by simp [J.adr, J.steps]
  | .ps _ xs, h => by
    simp only [J.stb] at h
    simp only [J.adr, J.steps, idx_len]
    exact J.adrs_len xs h.2
  | .rn _ n x, h => by
    simp only [J.stb] at h
    have ih := J.adr_len x h.2.1
    simp only [J.adr, J.steps, idx_len, List.map_replicate, sum_rep]
    by_cases e : 0 < x.steps
    · rw [if_pos e]
      have hn : ((n.toNat : Nat) : Int) = n := by omega
      rw [Int.natCast_mul, hn, ih, Int.mul_comm]
    · rw [if_neg e]
      have : x.steps = 0 := by omega
      rw [this]
      simp
theorem J.adrs_len : ∀ xs : List J, J.stbL xs → ((((J.adrs xs).map List.length).sum : Nat) : Int) = J.stepsL xs
  | [], _ => by simp [J.adrs, J.stepsL]
  | x :: xs, h => by
    simp only [J.stbL] at h
    have h1 := J.adr_len x h.1
    have h2 := J.adrs_len xs h.2
    simp only [J.adrs, J.stepsL, List.map_cons, List.sum_cons, Int.natCast_add]
    omega
end
theorem idx_mem : ∀ {as : List (List (List Int))} {i : Int} {a : List Int}, a ∈ idx as i → ∃ r ∈ as, ∃ b ∈ r, a.length = b.length + 1
  | r :: as, i, a, h => by
    simp only [idx, List.mem_append, List.mem_map] at h
    rcases h with ⟨b, hb, rfl⟩ | h
    · exact ⟨r, List.mem_cons_self, b, hb, rfl⟩
    · obtain ⟨r', h1, b, h2, h3⟩ := idx_mem h
      exact ⟨r', List.mem_cons_of_mem _ h1, b, h2, h3⟩
mutual
theorem J.adr_deep : ∀ (j : J) (a : List Int), a ∈ j.adr → a.length ≤ j.deep
  | .st _, a, h => by
    simp only [J.adr, List.mem_singleton] at h
    subst h
    simp
  | .ps _ xs, a, h => by
    simp only [J.adr] at h
    obtain ⟨r, h1, b, h2, h3⟩ := idx_mem h
    have := J.adrs_deep xs r h1 b h2
    simp only [J.deep]
    omega
  | .rn _ n x, a, h => by
    simp only [J.adr] at h
    obtain ⟨r, h1, b, h2, h3⟩ := idx_mem h
    obtain ⟨_, rfl⟩ := List.mem_replicate.mp h1
    have := J.adr_deep x b h2
    simp only [J.deep]
    omega
theorem J.adrs_deep : ∀ (xs : List J) (r : List (List Int)), r ∈ J.adrs xs → ∀ b ∈ r, b.length ≤ J.deepL xs
  | [], r, h, _, _ => by simp [J.adrs] at h
  | x :: xs, r, h, b, hb => by
    simp only [J.adrs] at h
    simp only [J.deepL]
    rcases List.mem_cons.mp h with rfl | h
    · have := J.adr_deep x b hb
      omega
    · have := J.adrs_deep xs r h b hb
      omega
end
mutual
/-- few rounds and copies, also of what has no step -/
def J.rounded : J → Prop
  | .st _ => True
  | .ps _ xs => J.roundedL xs
  | .rn _ n x => n ≤ 1000 ∧ x.rounded
def J.roundedL : List J → Prop
  | [] => True
  | x :: xs => x.rounded ∧ J.roundedL xs
end
/-- an address as data -/
def adD (a : List Int) : PyData := .tuple (a.map .int)
def adDs (as : List (List Int)) : List PyData := as.map adD
theorem noLs_ad : ∀ as : List (List Int), noLs (adDs as) = true
  | [] => rfl
  | a :: as => by
    have ih := noLs_ad as
    have h : ∀ l : List Int, noLs (l.map PyData.int) = true := by
      intro l
      induction l with
      | nil => rfl
      | cons x r ih => simpa [noLs, noL] using ih
    simp only [adDs, List.map_cons, noLs, adD, noL, h, Bool.true_and] at ih ⊢
    exact ih
theorem noL_ad (a : List Int) : noL (adD a) = true := by
  have := noLs_ad [a]
  simpa [adDs, noLs] using this
def spAdr (K : PySem.W.Frag) (n : Nat) : Sp := fun vs H Q _ => ∃ (v : V) (j : J), vs = [v] ∧ Dp K H v j.toD ∧ j.deep ≤ n ∧ j.stb ∧ j.steps ≤ 1000 ∧ j.rounded ∧
  ∀ (H' : Hp) (l : Addr) (as : List V), Same H H' → H l = none → H' l = some (.lst as) → DpAll K H' as (adDs j.adr) → Q (.ref l) H'
theorem Same.free' {H H' : Hp} {l : Addr} (s : Same H H') (h : H' l = none) : H l = none := by
  cases e : H l with
  | none => rfl
  | some o =>
    rw [s _ _ e] at h
    cases h
theorem dpAll_rep' {K : PySem.W.Frag} {H : Hp} {v : V} {x : J} (h : Dp K H v x.toD) : ∀ k : Nat, DpAll K H (List.replicate k [v]).flatten (J.toDs (List.replicate k x))
  | 0 => .nil
  | k + 1 => by
    simp only [List.replicate_succ, List.flatten_cons, J.toDs]
    exact .cons h (dpAll_rep' h k)
theorem J.roundedL_mem : ∀ {l : List J} {y : J}, J.roundedL l → y ∈ l → y.rounded
  | z :: r, y, o, h => by
    simp only [J.roundedL] at o
    rcases List.mem_cons.mp h with rfl | h
    · exact o.1
    · exact J.roundedL_mem o.2 h
theorem J.steps_nn' (j : J) (h : j.stb) : 0 ≤ j.steps := by
  have := J.adr_len j h
  omega
theorem J.steps_mem : ∀ {l : List J} {y : J}, J.stbL l → J.stepsL l ≤ 1000 → y ∈ l → y.steps ≤ 1000
  | z :: r, y, o, hl, h => by
    simp only [J.stbL] at o
    simp only [J.stepsL] at hl
    have h1 := J.steps_nn' z o.1
    have h2 := J.adrs_len r o.2
    rcases List.mem_cons.mp h with rfl | h
    · omega
    · exact J.steps_mem o.2 (by omega) h
section
variable {P : Program} {w : World} {K : PySem.W.Frag} {mg : Str → Option Value} {base : Heap}
end
/-! block Rows: step_rows, the rows of the steps of a small job (behind bAddr, with En) -/
abbrev SRow := List Int × Int × List (Int × Int)
def wRow (i : Int) (g : List (Int × Int)) (r : SRow) : SRow := (i :: r.1, r.2.1, g ++ r.2.2.map fun p => (p.1 + 1, p.2))
/-- the gate of what comes in sequence -/
def gateOf (sq : Bool) (n : Nat) : List (Int × Int) := if sq = true then [(0, (n : Int))] else []
def packs (sq : Bool) : List (List SRow) → Int → List SRow → List SRow
  | [], _, acc => acc
  | rs :: r, i, acc => packs sq r (i + 1) (acc ++ rs.map (wRow i (gateOf sq acc.length)))
mutual
def J.srows : J → List SRow
  | .st i => [([], i, [])]
  | .ps b xs => packs (!b) (J.srowss xs) 0 []
  | .rn b n x => packs (!b) (List.replicate (if x.srows.isEmpty = true then 0 else n.toNat) x.srows) 0 []
def J.srowss : List J → List (List SRow)
  | [] => []
  | x :: xs => x.srows :: J.srowss xs
end
theorem J.srowss_eq : ∀ xs : List J, J.srowss xs = xs.map J.srows
  | [] => rfl
  | x :: xs => by rw [J.srowss, J.srowss_eq xs]; rfl
theorem packs_adr (sq : Bool) : ∀ (rss : List (List SRow)) (i : Int) (acc : List SRow), (packs sq rss i acc).map (·.1) = acc.map (·.1) ++ idx (rss.map fun rs => rs.map (·.1)) i
  | [], i, acc => by simp [packs, idx]
  | rs :: r, i, acc => by
    rw [packs, packs_adr sq r (i + 1), List.map_append, List.map_cons, idx, List.append_assoc]
    congr 2
    simp [wRow, Function.comp_def]
theorem packs_len (sq : Bool) : ∀ (rss : List (List SRow)) (i : Int) (acc : List SRow), (packs sq rss i acc).length = acc.length + (rss.map List.length).sum
  | [], i, acc => by simp [packs]
  | rs :: r, i, acc => by
    rw [packs, packs_len sq r (i + 1), List.length_append, List.length_map, List.map_cons, List.sum_cons]
    omega
mutual
theorem J.srows_adr : ∀ j : J, j.stb → j.srows.map (·.1) = j.adr
  | .st i, _ => by simp [J.srows, J.adr]
  | .ps b xs, h => by
    simp only [J.stb] at h
    rw [J.srows, packs_adr, J.adr, J.srowss_adr xs h.2]
    rfl
  | .rn b n x, h => by
    simp only [J.stb] at h
    have ih := J.srows_adr x h.2.1
    have hl := J.adr_len x h.2.1
    rw [J.srows, packs_adr, J.adr, List.map_replicate, ih]
    have e : x.srows.isEmpty = true ↔ ¬ 0 < x.steps := by
      rw [List.isEmpty_iff_length_eq_zero, ← List.length_map (f := (·.1)), ih]
      omega
    by_cases z : 0 < x.steps
    · rw [if_neg (fun y => e.mp y z), if_pos z]
      rfl
    · rw [if_pos (e.mpr z), if_neg z]
      rfl
theorem J.srowss_adr : ∀ xs : List J, J.stbL xs → (J.srowss xs).map (fun rs => rs.map (·.1)) = J.adrs xs
  | [], _ => rfl
  | x :: xs, h => by
    rw [J.srowss, List.map_cons, J.adrs, J.srows_adr x h.1, J.srowss_adr xs h.2]
end
theorem J.srows_len (j : J) (h : j.stb) : (j.srows.length : Int) = j.steps := by
  rw [← J.adr_len j h, ← J.srows_adr j h, List.length_map]
theorem packs_mem {sq : Bool} {P : SRow → Prop} : ∀ {rss : List (List SRow)} {i : Int} {acc : List SRow}, (∀ r ∈ acc, P r) → (∀ rs ∈ rss, ∀ r ∈ rs, ∀ (i : Int) (m : Nat), P (wRow i (gateOf sq m) r)) → ∀ r ∈ packs sq rss i acc, P r
  | [], i, acc, h, _ => by rw [packs]; exact h
  | rs :: rr, i, acc, h, k => by
    rw [packs]
    refine packs_mem (fun r hr => ?_) (fun rs' h' => k rs' (List.mem_cons_of_mem _ h'))
    rcases List.mem_append.mp hr with hr | hr
    · exact h r hr
    · obtain ⟨r0, h0, rfl⟩ := List.mem_map.mp hr
      exact k rs (List.mem_cons_self ..) r0 h0 _ _
theorem wRow_bd {i : Int} {sq : Bool} {m n : Nat} {r : SRow} (h : r.1.length ≤ n ∧ r.2.2.length ≤ n) : (wRow i (gateOf sq m) r).1.length ≤ n + 1 ∧ (wRow i (gateOf sq m) r).2.2.length ≤ n + 1 := by
  refine ⟨?_, ?_⟩
  · simp only [wRow, List.length_cons]
    omega
  · simp only [wRow, List.length_append, List.length_map]
    have : (gateOf sq m).length ≤ 1 := by
      unfold gateOf
      split <;> simp
    omega
mutual
theorem J.srows_bd : ∀ (j : J) (r : SRow), r ∈ j.srows → r.1.length ≤ j.deep ∧ r.2.2.length ≤ j.deep
  | .st i, r, h => by
    simp only [J.srows, List.mem_singleton] at h
    subst h
    simp
  | .ps b xs, r, h => by
    rw [J.srows] at h
    simp only [J.deep]
    have key := packs_mem (P := fun r => r.1.length ≤ J.deepL xs + 1 ∧ r.2.2.length ≤ J.deepL xs + 1) (sq := !b) (rss := J.srowss xs) (i := 0) (acc := []) (fun r hr => by cases hr) (fun rs h1 r h2 i m => wRow_bd (J.srowss_bd xs rs h1 r h2)) r h
    omega
  | .rn b n x, r, h => by
    rw [J.srows] at h
    simp only [J.deep]
    have key := packs_mem (P := fun r => r.1.length ≤ x.deep + 1 ∧ r.2.2.length ≤ x.deep + 1) (sq := !b) (rss := List.replicate (if x.srows.isEmpty = true then 0 else n.toNat) x.srows) (i := 0) (acc := []) (fun r hr => by cases hr) (fun rs h1 r h2 i m => by
      obtain ⟨_, rfl⟩ := List.mem_replicate.mp h1
      exact wRow_bd (J.srows_bd x r h2)) r h
    omega
theorem J.srowss_bd : ∀ (xs : List J) (rs : List SRow), rs ∈ J.srowss xs → ∀ r ∈ rs, r.1.length ≤ J.deepL xs ∧ r.2.2.length ≤ J.deepL xs
  | [], rs, h, _, _ => by simp [J.srowss] at h
  | x :: xs, rs, h, r, hr => by
    rw [J.srowss, List.mem_cons] at h
    simp only [J.deepL]
    rcases h with rfl | h
    · have := J.srows_bd x r hr
      omega
    · have := J.srowss_bd xs rs h r hr
      omega
end
def gatesD (g : List (Int × Int)) : PyData := .tuple (g.map fun p => .tuple [.int p.1, .int p.2])
def rowD (r : SRow) : PyData := .tuple [adD r.1, .int r.2.1, gatesD r.2.2]
def rowsD (rs : List SRow) : List PyData := rs.map rowD
theorem noLs_gates : ∀ g : List (Int × Int), noLs (g.map fun p => PyData.tuple [.int p.1, .int p.2]) = true
  | [] => rfl
  | p :: g => by
    rw [List.map_cons]
    simp only [noLs, noL, noLs_gates g, Bool.and_self]
theorem noL_row (r : SRow) : noL (rowD r) = true := by
  simp only [rowD, noL, noLs, noL_ad, gatesD, noLs_gates, Bool.and_self]
theorem noLs_rows : ∀ rs : List SRow, noLs (rowsD rs) = true
  | [] => rfl
  | r :: rs => by
    simp only [rowsD, List.map_cons, noLs, noL_row, Bool.true_and]
    exact noLs_rows rs
theorem ints_valsR {K : PySem.W.Frag} {H : Hp} : ∀ {xs : List V} {a : List Int}, DpAll K H xs (a.map PyData.int) → xs = a.map V.int
  | [], [], _ => rfl
  | [], _ :: _, h => by cases h
  | _ :: _, [], h => by cases h
  | _ :: _, k :: a, h => by
    cases h with
    | cons h1 h2 =>
      rw [dp_int_inv h1, ints_valsR h2]
      rfl
theorem ints_dpR {K : PySem.W.Frag} {H : Hp} : ∀ a : List Int, DpAll K H (a.map V.int) (a.map .int)
  | [] => .nil
  | k :: a => .cons (.int k) (ints_dpR a)
/-- pairs of an index and a list of rows; the lists lie where ne holds -/
inductive PrX (K : PySem.W.Frag) (ne : Addr → Prop) (H : Hp) : List V → List (List SRow) → Int → Prop
  | nil {i : Int} : PrX K ne H [] [] i
  | cons {t la : Addr} {rws vs : List V} {rs : List SRow} {rss : List (List SRow)} {i : Int} : SqT K H t [.int i, .ref la] → ne la → H la = some (.lst rws) → DpAll K H rws (rowsD rs) → PrX K ne H vs rss (i + 1) → PrX K ne H (.ref t :: vs) (rs :: rss) i
theorem PrX.length {K : PySem.W.Frag} {ne : Addr → Prop} {H : Hp} : ∀ {vs : List V} {rss : List (List SRow)} {i : Int}, PrX K ne H vs rss i → vs.length = rss.length
  | _, _, _, .nil => rfl
  | _, _, _, .cons _ _ _ _ h => congrArg (· + 1) h.length
theorem PrX.keep {K : PySem.W.Frag} {ne ne' : Addr → Prop} {H H' : Hp} (t : ∀ a xs, SqT K H a xs → SqT K H' a xs) (l : ∀ a o, ne a → H a = some o → H' a = some o) (m : ∀ a, ne a → ne' a) : ∀ {vs : List V} {rss : List (List SRow)} {i : Int}, PrX K ne H vs rss i → PrX K ne' H' vs rss i
  | _, _, _, .nil => .nil
  | _, _, _, .cons a b c d h => .cons (t _ _ a) (m _ b) (l _ _ b c) (dpAll_keep t (noLs_rows _) d) (h.keep t l m)
theorem PrX.snoc {K : PySem.W.Frag} {ne : Addr → Prop} {H : Hp} {t la : Addr} {rws : List V} {rs : List SRow} : ∀ {vs : List V} {rss : List (List SRow)} {i : Int}, PrX K ne H vs rss i → SqT K H t [.int (i + (rss.length : Int)), .ref la] → ne la → H la = some (.lst rws) → DpAll K H rws (rowsD rs) → PrX K ne H (vs ++ [.ref t]) (rss ++ [rs]) i
  | _, _, i, .nil, a, b, c, d => .cons (by simpa using a) b c d .nil
  | _, _, i, .cons (rss := r0) a' b' c' d' h, a, b, c, d => .cons a' b' c' d' (h.snoc (by
      have e : i + 1 + (r0.length : Int) = i + ((r0.length + 1 : Nat) : Int) := by omega
      rw [e]
      exact a) b c d)
theorem PrX.get {K : PySem.W.Frag} {ne : Addr → Prop} {H : Hp} : ∀ {vs : List V} {rss : List (List SRow)} {i : Int} {k : Nat} {v : V}, PrX K ne H vs rss i → vs[k]? = some v →
    ∃ (t la : Addr) (rws : List V) (rs : List SRow), rss[k]? = some rs ∧ v = .ref t ∧ SqT K H t [.int (i + (k : Int)), .ref la] ∧ ne la ∧ H la = some (.lst rws) ∧ DpAll K H rws (rowsD rs)
  | _, _, _, _, _, .nil, e => by simp at e
  | _, _, i, 0, _, .cons a b c d _, e => by
    simp at e
    subst e
    exact ⟨_, _, _, _, rfl, rfl, by simpa using a, b, c, d⟩
  | _, _, i, k + 1, _, .cons _ _ _ _ h, e => by
    obtain ⟨t, la, rws, rs, e1, e2, e3, e4⟩ := h.get (k := k) (by simpa using e)
    exact ⟨t, la, rws, rs, by simpa using e1, e2, by rw [show i + ((k + 1 : Nat) : Int) = i + 1 + (k : Int) by omega]; exact e3, e4⟩
/-- the rows by index of what is no step -/
def J.rss : J → List (List SRow)
  | .st _ => []
  | .ps _ xs => J.srowss xs
  | .rn _ n x => List.replicate (if x.srows.isEmpty = true then 0 else n.toNat) x.srows
theorem J.steps_part : ∀ {l : List J} {y : J} {m : Int}, J.stbL l → J.stepsL l ≤ m → y ∈ l → y.steps ≤ m
  | [], _, _, _, _, h => by cases h
  | x :: l, y, m, hs, hm, h => by
    simp only [J.stbL] at hs
    simp only [J.stepsL] at hm
    have h1 := J.steps_nn' x hs.1
    have h2 := J.adrs_len l hs.2
    rcases List.mem_cons.mp h with rfl | h
    · omega
    · exact J.steps_part hs.2 (by omega) h
def spRowIn (K : PySem.W.Frag) : Sp := fun vs H Q _ => ∃ (i : Int) (vg vr : V) (g : List (Int × Int)) (r : SRow), vs = [.int i, vg, vr] ∧ Dp K H vg (gatesD g) ∧ Dp K H vr (rowD r) ∧ g.length ≤ 1 ∧ r.1.length ≤ 40 ∧ r.2.2.length ≤ 40 ∧
  ∀ (H' : Hp) (v : V), Same H H' → Dp K H' v (rowD (wRow i g r)) → Q v H'
section
variable {P : Program} {w : World} {K : PySem.W.Frag} {mg : Str → Option Value} {base : Heap}
theorem ok_rowin (T : Txt K mg) : FnOk P w K mg base CX0 1 T.f__row_within T.d__row_within ["index", "outer_gates", "row"] (spRowIn K) := by
  refine T.F__row_within.ok sc__row_within (fun vs H Q E h => ?_) (fun cdv A outer s H vs Q E hr h => ?_)
  · obtain ⟨i, vg, vr, g, r, rfl, _⟩ := h
    rfl
  obtain ⟨i, vg, vr, g, r, rfl, hg, hrow, gl, al, il, q⟩ := h
  obtain ⟨ad, st, ga⟩ := r
  have al' : ad.length ≤ 40 := al
  have il' : ga.length ≤ 40 := il
  refine ⟨_, (pss_cons (ps_asg (pv 2) (pg_tup (by rfl) (pgs_cons (pg_name (i := 3) sc__row_within.nd rfl (Or.inl rfl)) (pgs_cons (pg_name (i := 4) sc__row_within.nd rfl (Or.inl rfl)) (pgs_cons (pg_name (i := 5) sc__row_within.nd rfl (Or.inl rfl)) pgs_nil)))))
      (pss_cons (ps_setLc (i := 6) (own := [("level", 7), ("least", 8)]) (g := (gTup K 2 (gCons (gName 7) (gCons (gName 8) gNil)))) (by rfl) sc__row_within.nd rfl rfl (sw_true rfl rfl rfl (by decide +kernel)) (pi_tup (pv 5)) (blkOk_by (N := N__row_within) (sc := (defScope s__row_within)) (by decide +kernel)) (fun _ _ _ _ _ => (pg_tup (by rfl) (pgs_cons (pg_name (i := 7) sc__row_within.nd rfl (Or.inl rfl)) (pgs_cons (pg_name (i := 8) sc__row_within.nd rfl (Or.inl rfl)) pgs_nil)))) (fun _ _ _ _ _ => pts_nil) (fun _ _ _ _ _ => (pe_tup (pa_cons (pe_op op_add (pv 7) pe_int) (pa_cons (pv 8) pa_nil)))))
      (pss_one (ps_ret (pe_tup (pa_cons (pe_op (r := rCatA K) op_catA (pe_tup (pa_cons (pv 0) pa_nil)) (pv 3)) (pa_cons (pv 4) (pa_cons (pe_op (r := rCatA K) op_catA (pv 1) (pe_callTy (r := rTupS K) call_tupS (by rfl) T.n_tuple (by decide +kernel) (pa_cons (pv 6) pa_nil))) pa_nil)))))))), ?_⟩
  obtain ⟨tr, xs, rfl, qr, hall⟩ := dp_tup_inv hrow
  cases hall with
  | cons d1 hall =>
  cases hall with
  | cons d2 hall =>
  cases hall with
  | cons d3 hall =>
  cases hall
  obtain rfl := dp_int_inv d2
  obtain ⟨ta, xa, rfl, qa, da⟩ := dp_tup_inv d1
  obtain ⟨tg, xg, rfl, qg, dg⟩ := dp_tup_inv d3
  refine ⟨_, rfl, tr, _, rfl, qr, rfl, _, _, rfl, _, _, rfl, _, _, rfl, rfl, ?_⟩
  refine ⟨_, rfl, tg, rfl, ⟨_, qg⟩, fun D hD => ?_⟩
  have xgl : xg.length = ga.length := by rw [dpAll_length dg, List.length_map]
  refine lc_tup (K := K) (a := tg) (xs := xg) (fun k H1 => Same H H1 ∧ ∃ ws, H1 D = some (.lst ws) ∧ DpAll K H1 ws (((ga.map fun p => (p.1 + 1, p.2)).take k).map fun p => .tuple [.int p.1, .int p.2])) ?_ ?_ ?_ ?_
  · exact ⟨same_new hD, [], upd_same, by simpa using .nil⟩
  · rintro k H1 _ ⟨s1, _⟩
    exact same_sqT s1 qg
  · rintro k x H1 hk ⟨s1, ws, eD, dw⟩
    obtain ⟨d, ed, hd⟩ := dpAll_get dg hk
    rw [List.getElem?_map] at ed
    obtain ⟨pp, ep, rfl⟩ := Option.map_eq_some_iff.mp ed
    obtain ⟨tp, xp, rfl, qp, dp⟩ := dp_tup_inv hd
    cases dp with
    | cons p1 dp =>
    cases dp with
    | cons p2 dp =>
    cases dp
    obtain rfl := dp_int_inv p1
    obtain rfl := dp_int_inv p2
    have hlt : k < ga.length := (List.getElem?_eq_some_iff.mp ep).1
    refine ⟨tp, _, rfl, same_sqT s1 qp, rfl, _, _, rfl, _, _, rfl, rfl, rfl, ?_⟩
    unfold tYes
    refine iteT ?_
    refine ⟨_, rfl, _, _, rfl, rfl, _, rfl, (by show 2 ≤ sizeLine; decide), fun t ht => ?_⟩
    obtain ⟨s2, d2⟩ := tup_fresh (K := K) (ds := [.int (pp.1 + 1), .int pp.2]) ht (.cons (.int _) (.cons (.int _) .nil))
    generalize (upd H1 t (.tup [.int (pp.1 + 1), .int pp.2])) = H2 at s2 d2 ⊢
    have eD2 := s2 _ _ eD
    have wl : ws.length = k := by
      rw [dpAll_length dw, List.length_map, List.length_take, List.length_map]
      omega
    refine ⟨ws, eD2, small1000 (by omega), ?_, ws ++ [.ref t], upd_same, ?_⟩
    · intro c o hc
      rw [upd_ne (ne_of_none hc hD)]
      exact s2 _ _ (s1 _ _ hc)
    · have e2 : (ga.map fun p => (p.1 + 1, p.2))[k]? = some (pp.1 + 1, pp.2) := by rw [List.getElem?_map, ep]; rfl
      rw [take_map (fun p : Int × Int => PyData.tuple [.int p.1, .int p.2]) e2]
      have kk : ∀ b xs, SqT K H2 b xs → SqT K (upd H2 D (.lst (ws ++ [.ref t]))) b xs := fun b xs h => (sx_upd (p := D)).sqT eD2 h
      exact dpAll_append (dpAll_keep kk (noLs_gates _) (dpAll_same s2 dw)) (.cons (dp_keep kk (by rfl) d2) .nil)
  · rintro H1 ⟨s1, ws, eD, dw⟩
    rw [xgl, ← List.length_map (f := fun p : Int × Int => (p.1 + 1, p.2)), List.take_length] at dw
    obtain rfl := ints_valsR da
    obtain ⟨tgo, xgo, rfl, qgo, dgo⟩ := dp_tup_inv hg
    have wl : ws.length = ga.length := by rw [dpAll_length dw, List.length_map, List.length_map]
    have gol : xgo.length = g.length := by rw [dpAll_length dgo, List.length_map]
    refine ⟨_, rfl, (by show 1 ≤ sizeLine; decide), fun t1 h1 => ?_⟩
    have s2 : Same H1 (upd H1 t1 (.tup [.int i])) := same_new h1
    have q1 : SqT K (upd H1 t1 (.tup [.int i])) t1 [.int i] := SqT.of upd_same
    generalize (upd H1 t1 (.tup [.int i])) = H2 at s2 q1 ⊢
    refine ⟨_, rfl, ?_⟩
    refine rCatA_d q1 (same_sqT (s1.trans s2) qa) (by rw [List.length_map]; exact small (by simp only [List.length_singleton]; omega)) (fun H3 t3 s3 q3 => ?_)
    have s13 := s1.trans (s2.trans s3)
    refine ⟨_, rfl, _, rfl, _, rfl, D, _, rfl, .inl ⟨SqL.of (s3 _ _ (s2 _ _ eD)), fun t4 h4 => ?_⟩⟩
    have s4 : Same H3 (upd H3 t4 (.tup ws)) := same_new h4
    have q4 : SqT K (upd H3 t4 (.tup ws)) t4 ws := SqT.of upd_same
    generalize (upd H3 t4 (.tup ws)) = H4 at s4 q4 ⊢
    refine rCatA_d (same_sqT (s13.trans s4) qgo) q4 (by exact small (by omega)) (fun H5 t5 s5 q5 => ?_)
    refine ⟨(by show 3 ≤ sizeLine; decide), fun t6 h6 => ?_⟩
    have s6 : Same H5 (upd H5 t6 (.tup [.ref t3, .int st, .ref t5])) := same_new h6
    have sall := s13.trans (s4.trans (s5.trans s6))
    refine q _ _ sall ?_
    refine .tup (SqT.of upd_same) (.cons (.tup (same_sqT (s4.trans (s5.trans s6)) q3) (ints_dpR (i :: ad))) (.cons (.int _) (.cons (.tup (same_sqT s6 q5) ?_) .nil)))
    rw [wRow, List.map_append]
    exact dpAll_append (dpAll_same sall dgo) (dpAll_same (s2.trans (s3.trans (s4.trans (s5.trans s6)))) dw)
/-- the rows of a job with few levels -/
def spRows (K : PySem.W.Frag) (n : Nat) : Sp := fun vs H Q _ => ∃ (v : V) (j : J), vs = [v] ∧ Dp K H v j.toD ∧ j.deep ≤ n ∧ j.deep ≤ 20 ∧ j.stb ∧ j.steps ≤ 400 ∧
  ∀ (H' : Hp) (l : Addr) (ws : List V), Same H H' → H l = none → H' l = some (.lst ws) → DpAll K H' ws (rowsD j.srows) → Q (.ref l) H'
def spIdxRows (K : PySem.W.Frag) (n : Nat) : Sp := fun vs H Q _ => ∃ (v : V) (j : J), vs = [v] ∧ Dp K H v j.toD ∧ isTup j.toD = true ∧ j.deep ≤ n + 1 ∧ j.deep ≤ 20 ∧ j.stb ∧ j.steps ≤ 400 ∧
  ∀ (H' : Hp) (l : Addr) (ws : List V), Same H H' → H l = none → H' l = some (.lst ws) → PrX K (fun b => H b = none) H' ws j.rss 0 → Q (.ref l) H'
theorem ok_idxrows (T : Txt K mg) {n : Nat} (g_step_rows : FnOk P w K mg base CX0 (2 * n + 1) T.f_step_rows T.d_step_rows ["job"] (spRows K n)) :
    FnOk P w K mg base CX0 (2 * n + 2) T.f__rows_by_index T.d__rows_by_index ["job"] (spIdxRows K n) := by
  refine T.F__rows_by_index.ok sc__rows_by_index (fun vs H Q E h => ?_) (fun cdv A outer s H vs Q E hr h => ?_)
  · obtain ⟨v, j, rfl, _⟩ := h
    rfl
  obtain ⟨v, j, rfl, hd, hj, hn, h20, hstb, h400, q⟩ := h
  refine ⟨_, (pss_cons (ps_if (pt_cmpR (r := rIn K false) op_in_seq (pe_ix (r := rIxT K) ix_tup (pv 0) pe_int (fun _ _ => rfl)) (pe_tup (pa_cons pe_str (pa_cons pe_str pa_nil))) (by rfl)) (pss_one (ps_ret (pe_lc (own := [("index", 2), ("part", 3)]) (g := (gTup K 2 (gCons (gName 2) (gCons (gName 3) gNil)))) (by rfl) sc__rows_by_index.nd (pi_enumT (by rfl) T.n_enumerate (pa_cons (pe_ix (r := rIxT K) ix_tup (pv 0) pe_int (fun _ _ => rfl)) pa_nil)) (blkOk_by (N := N__rows_by_index) (sc := (defScope s__rows_by_index)) (by decide +kernel)) (fun _ _ _ _ _ => (pg_tup (by rfl) (pgs_cons (pg_name (i := 2) sc__rows_by_index.nd rfl (Or.inl rfl)) (pgs_cons (pg_name (i := 3) sc__rows_by_index.nd rfl (Or.inl rfl)) pgs_nil)))) (fun _ _ _ _ _ => pts_nil) (fun _ _ _ _ _ => (pe_tup (pa_cons (pv 2) (pa_cons (pe_call g_step_rows (hr.mono (by omega)) rfl T.m_step_rows T.F_step_rows.kp T.b_step_rows .nil pass0 (pa_cons (pv 3) pa_nil)) pa_nil))))))) pss_nil)
      (pss_cons (ps_set (i := 1) sc__rows_by_index.nd rfl (Or.inr rfl) (pe_ifExp (pt_cmpR op_gt (pe_ix (r := rIxT K) ix_tup (pv 0) pe_int (fun _ _ => rfl)) pe_int (nomark _)) (pe_call g_step_rows (hr.mono (by omega)) rfl T.m_step_rows T.F_step_rows.kp T.b_step_rows .nil pass0 (pa_cons (pe_ix (r := rIxT K) ix_tup (pv 0) pe_int (fun _ _ => rfl)) pa_nil)) (pe_lst pa_nil)))
      (pss_one (ps_ret (pe_lc (own := [("index", 2)]) (g := (gName 2)) (by rfl) sc__rows_by_index.nd (pi_range1 rfl T.n_range (pa_cons (pe_ifExp (pt_truth (pv 1) (by intro _; rfl)) (pe_ix (r := rIxT K) ix_tup (pv 0) pe_int (fun _ _ => rfl)) pe_int) pa_nil)) (blkOk_by (N := N__rows_by_index) (sc := (defScope s__rows_by_index)) (by decide +kernel)) (fun _ _ _ _ _ => (pg_name (i := 2) sc__rows_by_index.nd rfl (Or.inl rfl))) (fun _ _ _ _ _ => pts_nil) (fun _ _ _ _ _ => (pe_tup (pa_cons (pv 2) (pa_cons (pv 1) pa_nil))))))))), ?_⟩
  cases j with
  | st i => cases hj
  | ps b xs =>
    simp only [J.deep] at hn h20
    simp only [J.stb] at hstb
    simp only [J.steps] at h400
    obtain ⟨c, e, vs, rfl, hys, hvs, hall⟩ := ps_inv hd
    have len : vs.length = xs.length := parts_len hall
    refine ⟨_, rfl, _, _, _, _, rfl, rfl, hys, rfl, (by show 2 ≤ sizeLine; decide), fun t ht => ?_⟩
    refine ⟨t, _, rfl, .inr (SqT.of upd_same), rfl, rfl, _, rfl, ?_⟩
    have s1 : Same H (upd H t (.tup [.str "seq", .str "par"])) := same_new ht
    show if inV (.str (kwP b)) [.str "seq", .str "par"] = true then _ else _
    rw [w_in_parts]
    refine iteT ?_
    generalize (upd H t (.tup [.str "seq", .str "par"])) = H1 at s1 ⊢
    refine ⟨_, rfl, _, _, _, _, rfl, rfl, same_sqT s1 hys, rfl, e, vs, rfl, same_sqT s1 hvs, fun D hD => ?_⟩
    refine lc_it (walk_enumT (xs := vs)) (fun k H2 => Same H1 H2 ∧ ∃ ws, H2 D = some (.lst ws) ∧ PrX K (fun b => H b = none ∧ b ≠ D) H2 ws ((J.srowss xs).take k) 0) ?_ ?_ ?_ ?_
    · exact ⟨same_new hD, [], upd_same, by simpa using .nil⟩
    · rintro k H2 _ ⟨s2, _⟩
      exact same_sqT s2 (same_sqT s1 hvs)
    · rintro k x H2 H3 hk ⟨s2, ws, eD, dw⟩ ⟨T1, x1, x2, rfl, hT, rfl, e1, e2⟩
      cases e1
      obtain ⟨y, ey, my, dy⟩ := parts_at hall e2
      have s3 : Same H2 (upd H2 T1 (.tup [.int (k : Nat), x2])) := same_new hT
      have q3 : SqT K (upd H2 T1 (.tup [.int (k : Nat), x2])) T1 [.int (k : Nat), x2] := SqT.of upd_same
      generalize (upd H2 T1 (.tup [.int (k : Nat), x2])) = H3 at s3 q3 ⊢
      refine ⟨T1, _, rfl, q3, rfl, _, _, rfl, _, _, rfl, rfl, rfl, ?_⟩
      unfold tYes
      refine iteT ?_
      have hyd := deep_mem my
      have hys400 : y.steps ≤ 400 := J.steps_part hstb.2 h400 my
      refine ⟨_, rfl, _, rfl, x2, y, rfl, dp_same (s1.trans (s2.trans s3)) dy, by omega, by omega, J.stbL_mem hstb.2 my, hys400, fun H4 l ws4 s4 n4 e4 d4 => ?_⟩
      refine ⟨(by show 2 ≤ sizeLine; decide), fun t ht => ?_⟩
      have eD3 := s3 _ _ eD
      have nlD : l ≠ D := fun z => by rw [z, eD3] at n4; cases n4
      have eD4 := s4 _ _ eD3
      have hlH : H l = none := (s1.trans (s2.trans s3)).free n4
      have s5 : Same H4 (upd H4 t (.tup [.int (k : Nat), .ref l])) := same_new ht
      have q5 : SqT K (upd H4 t (.tup [.int (k : Nat), .ref l])) t [.int (k : Nat), .ref l] := SqT.of upd_same
      generalize (upd H4 t (.tup [.int (k : Nat), .ref l])) = H5 at s5 q5 ⊢
      have s25 := s3.trans (s4.trans s5)
      have eD5 := s25 _ _ eD
      have wl : ws.length = k := by
        rw [dw.length, List.length_take, J.srowss_eq, List.length_map]
        omega
      refine ⟨ws, eD5, small1000 (by omega), ?_, ws ++ [.ref t], upd_same, ?_⟩
      · intro c2 o hc
        rw [upd_ne (ne_of_none hc hD)]
        exact s25 _ _ (s2 _ _ hc)
      · have e6 : (J.srowss xs).take (k + 1) = (J.srowss xs).take k ++ [y.srows] := by
          rw [J.srowss_eq, ← List.map_take, ← List.map_take, List.take_add_one, ey]
          simp
        have e7 : ((J.srowss xs).take k).length = k := by
          rw [List.length_take, J.srowss_eq, List.length_map]
          omega
        have kk : ∀ b xs, SqT K H5 b xs → SqT K (upd H5 D (.lst (ws ++ [.ref t]))) b xs := fun b xs h => (sx_upd (p := D)).sqT eD5 h
        have old := dw.keep (H' := upd H5 D (.lst (ws ++ [.ref t]))) (ne' := fun b => H b = none ∧ b ≠ D) (fun a xs h => kk _ _ (same_sqT s25 h)) (fun a o n h => by rw [upd_ne n.2]; exact s25 _ _ h) (fun _ h => h)
        rw [e6]
        refine old.snoc ?_ ⟨hlH, nlD⟩ (by rw [upd_ne nlD]; exact s5 _ _ e4) (dpAll_keep kk (noLs_rows _) (dpAll_same s5 d4))
        rw [e7, Int.zero_add]
        exact kk _ _ q5
    · rintro H2 ⟨s2, ws, eD, dw⟩
      rw [len, ← List.length_map (f := J.srows), ← J.srowss_eq, List.take_length] at dw
      exact q _ D ws (s1.trans s2) (Same.free' s1 hD) eD (dw.keep (fun _ _ h => h) (fun _ _ _ h => h) (fun _ h => h.1))
  | rn b c x =>
    simp only [J.deep] at hn h20
    have hstb' := hstb
    simp only [J.stb] at hstb
    simp only [J.steps] at h400
    obtain ⟨t0, z, rfl, hys, hx⟩ := rn_inv hd
    refine ⟨_, rfl, _, _, _, _, rfl, rfl, hys, rfl, (by show 2 ≤ sizeLine; decide), fun t ht => ?_⟩
    refine ⟨t, _, rfl, .inr (SqT.of upd_same), rfl, rfl, _, rfl, ?_⟩
    have s1 : Same H (upd H t (.tup [.str "seq", .str "par"])) := same_new ht
    show if inV (.str (kwR b)) [.str "seq", .str "par"] = true then _ else _
    rw [w_in_parts_no]
    refine iteF ?_
    generalize (upd H t (.tup [.str "seq", .str "par"])) = H1 at s1 ⊢
    have x0 := J.steps_nn' x hstb.2.1
    -- the rows of one round
    refine ⟨_, rfl, _, _, _, _, rfl, rfl, same_sqT s1 hys, rfl, _, _, rfl, rfl, _, rfl, ?_⟩
    refine ite2 (fun g => ?_) (fun g => ?_)
    · have g' : 0 < c := of_decide_eq_true g
      have xs400 : x.steps ≤ 400 := by
        have h1 : x.steps * 1 ≤ x.steps * c := Int.mul_le_mul_of_nonneg_left (by omega) x0
        omega
      refine ⟨_, rfl, _, _, _, _, rfl, rfl, same_sqT s1 hys, rfl, z, x, rfl, dp_same s1 hx, by omega, by omega, hstb.2.1, xs400, fun H2 l ws s2 n2 e2 d2 => ?_⟩
      have wl : ws.length = x.srows.length := by rw [dpAll_length d2, rowsD, List.length_map]
      have s12 := s1.trans s2
      have hlH : H l = none := s1.free n2
      refine ⟨_, rfl, !ws.isEmpty, .inl ⟨ws, SqL.of e2, rfl⟩, ?_⟩
      cases hw : ws.isEmpty with
      | true =>
        have hx0 : x.srows.isEmpty = true := by
          rw [List.isEmpty_iff_length_eq_zero, ← wl]
          exact List.isEmpty_iff_length_eq_zero.mp hw
        refine iteF ?_
        refine ⟨0, rfl, by decide, by decide, fun D hD => ?_⟩
        have nlD : l ≠ D := fun z => by rw [← z, e2] at hD; cases hD
        refine lc_range (lo := 0) (n := 0) (fun i H3 => Same H2 H3 ∧ ∃ us, H3 D = some (.lst us) ∧ PrX K (fun b => H b = none ∧ b ≠ D) H3 us (List.replicate i x.srows) 0) ?_ ?_ ?_
        · exact ⟨same_new hD, [], upd_same, by simpa using .nil⟩
        · rintro i H3 hi ⟨s3, us, eD, du⟩
          refine ⟨rfl, ?_⟩
          unfold tYes
          refine iteT ?_
          refine ⟨_, rfl, _, rfl, (by show 2 ≤ sizeLine; decide), fun t ht => ?_⟩
          have s5 : Same H3 (upd H3 t (.tup [.int (0 + (i : Int)), .ref l])) := same_new ht
          have q5 : SqT K (upd H3 t (.tup [.int (0 + (i : Int)), .ref l])) t [.int (0 + (i : Int)), .ref l] := SqT.of upd_same
          generalize (upd H3 t (.tup [.int (0 + (i : Int)), .ref l])) = H5 at s5 q5 ⊢
          have eD5 := s5 _ _ eD
          have ul : us.length = i := by
            rw [du.length, List.length_replicate]
          refine ⟨us, eD5, small1000 (by omega), ?_, us ++ [.ref t], upd_same, ?_⟩
          · intro c2 o hc
            rw [upd_ne (ne_of_none hc hD)]
            exact s5 _ _ (s3 _ _ hc)
          · have kk : ∀ b xs, SqT K H5 b xs → SqT K (upd H5 D (.lst (us ++ [.ref t]))) b xs := fun b xs h => (sx_upd (p := D)).sqT eD5 h
            have old := du.keep (H' := upd H5 D (.lst (us ++ [.ref t]))) (ne' := fun b => H b = none ∧ b ≠ D) (fun a xs h => kk _ _ (same_sqT s5 h)) (fun a o n h => by rw [upd_ne n.2]; exact s5 _ _ h) (fun _ h => h)
            rw [List.replicate_succ']
            refine old.snoc ?_ ⟨hlH, nlD⟩ (by rw [upd_ne nlD]; exact s5 _ _ (s3 _ _ e2)) (dpAll_keep kk (noLs_rows _) (dpAll_same (s3.trans s5) d2))
            rw [List.length_replicate]
            exact kk _ _ q5
        · rintro H3 ⟨s3, us, eD, du⟩
          refine q _ D us (s12.trans s3) (Same.free' s12 hD) eD ?_
          rw [J.rss, if_pos hx0]
          exact du.keep (fun _ _ h => h) (fun _ _ _ h => h) (fun _ h => h.1)
      | false =>
        have hx0 : ¬ x.srows.isEmpty = true := fun y => by
          rw [List.isEmpty_iff_length_eq_zero, ← wl, ← List.isEmpty_iff_length_eq_zero, hw] at y
          cases y
        have xpos : 0 < x.steps := by
          have h1 := J.srows_len x hstb.2.1
          have h2 : x.srows.length ≠ 0 := fun y => hx0 (List.isEmpty_iff_length_eq_zero.mpr y)
          omega
        have c400 : c ≤ 400 := by
          have h1 : 1 * c ≤ x.steps * c := Int.mul_le_mul_of_nonneg_right (by omega) (by omega)
          omega
        refine iteT ?_
        refine ⟨_, rfl, _, _, _, _, rfl, rfl, same_sqT s12 hys, rfl, c, rfl, by omega, by omega, fun D hD => ?_⟩
        have nlD : l ≠ D := fun z => by rw [← z, e2] at hD; cases hD
        refine lc_range (lo := 0) (n := c.toNat) (fun i H3 => Same H2 H3 ∧ ∃ us, H3 D = some (.lst us) ∧ PrX K (fun b => H b = none ∧ b ≠ D) H3 us (List.replicate i x.srows) 0) ?_ ?_ ?_
        · exact ⟨same_new hD, [], upd_same, by simpa using .nil⟩
        · rintro i H3 hi ⟨s3, us, eD, du⟩
          refine ⟨rfl, ?_⟩
          unfold tYes
          refine iteT ?_
          refine ⟨_, rfl, _, rfl, (by show 2 ≤ sizeLine; decide), fun t ht => ?_⟩
          have s5 : Same H3 (upd H3 t (.tup [.int (0 + (i : Int)), .ref l])) := same_new ht
          have q5 : SqT K (upd H3 t (.tup [.int (0 + (i : Int)), .ref l])) t [.int (0 + (i : Int)), .ref l] := SqT.of upd_same
          generalize (upd H3 t (.tup [.int (0 + (i : Int)), .ref l])) = H5 at s5 q5 ⊢
          have eD5 := s5 _ _ eD
          have ul : us.length = i := by
            rw [du.length, List.length_replicate]
          refine ⟨us, eD5, small1000 (by omega), ?_, us ++ [.ref t], upd_same, ?_⟩
          · intro c2 o hc
            rw [upd_ne (ne_of_none hc hD)]
            exact s5 _ _ (s3 _ _ hc)
          · have kk : ∀ b xs, SqT K H5 b xs → SqT K (upd H5 D (.lst (us ++ [.ref t]))) b xs := fun b xs h => (sx_upd (p := D)).sqT eD5 h
            have old := du.keep (H' := upd H5 D (.lst (us ++ [.ref t]))) (ne' := fun b => H b = none ∧ b ≠ D) (fun a xs h => kk _ _ (same_sqT s5 h)) (fun a o n h => by rw [upd_ne n.2]; exact s5 _ _ h) (fun _ h => h)
            rw [List.replicate_succ']
            refine old.snoc ?_ ⟨hlH, nlD⟩ (by rw [upd_ne nlD]; exact s5 _ _ (s3 _ _ e2)) (dpAll_keep kk (noLs_rows _) (dpAll_same (s3.trans s5) d2))
            rw [List.length_replicate]
            exact kk _ _ q5
        · rintro H3 ⟨s3, us, eD, du⟩
          refine q _ D us (s12.trans s3) (Same.free' s12 hD) eD ?_
          rw [J.rss, if_neg hx0]
          exact du.keep (fun _ _ h => h) (fun _ _ _ h => h) (fun _ h => h.1)
    · have g' : c = 0 := by
        have : ¬ 0 < c := fun y => g (decide_eq_true y)
        omega
      subst g'
      refine ⟨(by show 0 ≤ sizeLine; decide), fun l hl => ?_⟩
      have s2 : Same H1 (upd H1 l (.lst [])) := same_new hl
      have hlH : H l = none := s1.free hl
      have e2 : upd H1 l (.lst []) l = some (.lst []) := upd_same
      generalize (upd H1 l (.lst [])) = H2 at s2 e2 ⊢
      have s12 := s1.trans s2
      have d2 : DpAll K H2 [] (rowsD []) := .nil
      refine ⟨_, rfl, false, .inl ⟨[], SqL.of e2, rfl⟩, ?_⟩
      refine iteF ?_
      refine ⟨0, rfl, by decide, by decide, fun D hD => ?_⟩
      have nlD : l ≠ D := fun z => by rw [← z, e2] at hD; cases hD
      refine lc_range (lo := 0) (n := 0) (fun i H3 => Same H2 H3 ∧ ∃ us, H3 D = some (.lst us) ∧ PrX K (fun b => H b = none ∧ b ≠ D) H3 us (List.replicate i ([] : List SRow)) 0) ?_ ?_ ?_
      · exact ⟨same_new hD, [], upd_same, by simpa using .nil⟩
      · rintro i H3 hi ⟨s3, us, eD, du⟩
        refine ⟨rfl, ?_⟩
        unfold tYes
        refine iteT ?_
        refine ⟨_, rfl, _, rfl, (by show 2 ≤ sizeLine; decide), fun t ht => ?_⟩
        have s5 : Same H3 (upd H3 t (.tup [.int (0 + (i : Int)), .ref l])) := same_new ht
        have q5 : SqT K (upd H3 t (.tup [.int (0 + (i : Int)), .ref l])) t [.int (0 + (i : Int)), .ref l] := SqT.of upd_same
        generalize (upd H3 t (.tup [.int (0 + (i : Int)), .ref l])) = H5 at s5 q5 ⊢
        have eD5 := s5 _ _ eD
        have ul : us.length = i := by
          rw [du.length, List.length_replicate]
        refine ⟨us, eD5, small1000 (by omega), ?_, us ++ [.ref t], upd_same, ?_⟩
        · intro c2 o hc
          rw [upd_ne (ne_of_none hc hD)]
          exact s5 _ _ (s3 _ _ hc)
        · have kk : ∀ b xs, SqT K H5 b xs → SqT K (upd H5 D (.lst (us ++ [.ref t]))) b xs := fun b xs h => (sx_upd (p := D)).sqT eD5 h
          have old := du.keep (H' := upd H5 D (.lst (us ++ [.ref t]))) (ne' := fun b => H b = none ∧ b ≠ D) (fun a xs h => kk _ _ (same_sqT s5 h)) (fun a o n h => by rw [upd_ne n.2]; exact s5 _ _ h) (fun _ h => h)
          rw [List.replicate_succ']
          refine old.snoc ?_ ⟨hlH, nlD⟩ (by rw [upd_ne nlD]; exact s5 _ _ (s3 _ _ e2)) (dpAll_keep kk (noLs_rows _) (dpAll_same (s3.trans s5) d2))
          rw [List.length_replicate]
          exact kk _ _ q5
      · rintro H3 ⟨s3, us, eD, du⟩
        refine q _ D us (s12.trans s3) (Same.free' s12 hD) eD ?_
        have e0 : (J.rn b 0 x).rss = [] := by
          rw [J.rss]
          split <;> rfl
        rw [e0]
        exact du.keep (fun _ _ h => h) (fun _ _ _ h => h) (fun _ h => h.1)
theorem w_in_srR (k : Bool) : inV (.str (kwP k)) [.str "seq", .str "repeat"] = !k := by cases k <;> decide +kernel
theorem w_in_srR2 (k : Bool) : inV (.str (kwR k)) [.str "seq", .str "repeat"] = !k := by cases k <;> decide +kernel
/-- which job it is: in sequence or side by side -/
def J.sq : J → Bool
  | .st _ => false
  | .ps b _ => !b
  | .rn b _ _ => !b
theorem J.srows_rss {j : J} (h : isTup j.toD = true) : j.srows = packs j.sq j.rss 0 [] := by
  cases j with
  | st i => cases h
  | ps b xs => rfl
  | rn b n x => rfl
theorem j_word {K : PySem.W.Frag} {H : Hp} {v : V} {j : J} (h : isTup j.toD = true) (hd : Dp K H v j.toD) : ∃ (t : Addr) (ys : List V) (x : Str), v = .ref t ∧ SqT K H t (.str x :: ys) ∧ inV (.str x) [.str "seq", .str "repeat"] = j.sq := by
  cases j with
  | st i => cases h
  | ps b xs =>
    obtain ⟨c, e, vs, rfl, hys, _⟩ := ps_inv hd
    exact ⟨c, _, _, rfl, hys, w_in_srR b⟩
  | rn b n x =>
    obtain ⟨c, y, rfl, hys, _⟩ := rn_inv hd
    exact ⟨c, _, _, rfl, hys, w_in_srR2 b⟩
theorem packs_take {sq : Bool} {rss : List (List SRow)} {k : Nat} {rs : List SRow} (e : rss[k]? = some rs) : ∀ (i : Int) (acc : List SRow), packs sq (rss.take (k + 1)) i acc = packs sq (rss.take k) i acc ++ rs.map (wRow (i + (k : Int)) (gateOf sq (packs sq (rss.take k) i acc).length)) := by
  induction rss generalizing k with
  | nil => simp at e
  | cons r rr ih =>
    intro i acc
    cases k with
    | zero =>
      simp only [List.getElem?_cons_zero, Option.some.injEq] at e
      subst e
      simp [packs]
    | succ k =>
      simp only [List.getElem?_cons_succ] at e
      simp only [List.take_succ_cons, packs]
      rw [ih e, show i + 1 + (k : Int) = i + ((k + 1 : Nat) : Int) by omega]
theorem packs_le (sq : Bool) (rss : List (List SRow)) (k : Nat) : (packs sq (rss.take k) 0 []).length ≤ (packs sq rss 0 []).length := by
  rw [packs_len, packs_len]
  have e : rss = rss.take k ++ rss.drop k := (List.take_append_drop _ _).symm
  conv =>
    rhs
    rw [e, List.map_append, List.sum_append]
  omega
theorem J.rss_bd {j : J} {rs : List SRow} (h : rs ∈ j.rss) : ∀ r ∈ rs, r.1.length ≤ j.deep ∧ r.2.2.length ≤ j.deep := by
  cases j with
  | st i => simp [J.rss] at h
  | ps b xs =>
    intro r hr
    have := J.srowss_bd xs rs h r hr
    simp only [J.deep]
    omega
  | rn b n x =>
    intro r hr
    obtain ⟨_, rfl⟩ := List.mem_replicate.mp h
    have := J.srows_bd x r hr
    simp only [J.deep]
    omega
theorem ok_rows_next (T : Txt K mg) {n : Nat} (g__rows_by_index : FnOk P w K mg base CX0 (2 * n + 2) T.f__rows_by_index T.d__rows_by_index ["job"] (spIdxRows K n)) :
    FnOk P w K mg base CX0 (2 * n + 3) T.f_step_rows T.d_step_rows ["job"] (spRows K (n + 1)) := by
  have g_is_integer := ok_isint (P := P) (w := w) (base := base) T
  have g__row_within := ok_rowin (P := P) (w := w) (base := base) T
  refine T.F_step_rows.ok sc_step_rows (fun vs H Q E h => ?_) (fun cdv A outer s H vs Q E hr h => ?_)
  · obtain ⟨v, j, rfl, _⟩ := h
    rfl
  obtain ⟨v, j, rfl, hd, hn, h20, hstb, h400, q⟩ := h
  refine ⟨_, (pss_cons (ps_if (pt_val (pe_call g_is_integer (hr.mono (by omega)) rfl T.m_is_integer T.F_is_integer.kp T.b_is_integer .nil pass0 (pa_cons (pv 0) pa_nil))) (pss_one (ps_ret (pe_lst (pa_cons (pe_tup (pa_cons (pe_tup pa_nil) (pa_cons (pv 0) (pa_cons (pe_tup pa_nil) pa_nil)))) pa_nil)))) pss_nil)
      (pss_cons (ps_set (i := 1) sc_step_rows.nd rfl (Or.inl rfl) (pe_lst pa_nil))
      (pss_cons (ps_for PassesOwn.never rfl (pi_list (pe_call g__rows_by_index (hr.mono (by omega)) rfl T.m__rows_by_index T.F__rows_by_index.kp T.b__rows_by_index .nil pass0 (pa_cons (pv 0) pa_nil))) (pg_tup (by rfl) (pgs_cons (pg_name (i := 2) sc_step_rows.nd rfl (Or.inr rfl)) (pgs_cons (pg_name (i := 3) sc_step_rows.nd rfl (Or.inl rfl)) pgs_nil)))
        (pss_cons (ps_set (i := 4) sc_step_rows.nd rfl (Or.inr rfl) (pe_ifExp (pt_cmpR (r := rIn K false) op_in_seq (pe_ix (r := rIxT K) ix_tup (pv 0) pe_int (fun _ _ => rfl)) (pe_tup (pa_cons pe_str (pa_cons pe_str pa_nil))) (by rfl)) (pe_tup (pa_cons (pe_tup (pa_cons pe_int (pa_cons (pe_callB (r := rLenS K) call_lenS (by rfl) T.n_len (by decide +kernel) (pa_cons (pv 1) pa_nil)) pa_nil))) pa_nil)) (pe_tup pa_nil)))
        (pss_one (ps_expr (pe_bm PySem.F.plainAttrs_list PySem.F.slot_list_extend PySem.F.type_list_extend mt_extend (pv 1) (pa_cons (pe_lc (own := [("row", 5)]) (g := (gName 5)) (by rfl) sc_step_rows.nd (pi_list (pv 3)) (blkOk_by (N := N_step_rows) (sc := (defScope s_step_rows)) (by decide +kernel)) (fun _ _ _ _ _ => (pg_name (i := 5) sc_step_rows.nd rfl (Or.inl rfl))) (fun _ _ _ _ _ => pts_nil) (fun _ _ _ _ _ => (pe_call g__row_within (hr.mono (by omega)) rfl T.m__row_within T.F__row_within.kp T.b__row_within .nil pass0 (pa_cons (pv 2) (pa_cons (pv 4) (pa_cons (pv 5) pa_nil)))))) pa_nil))))))
      (pss_one (ps_ret (pv 1)))))), ?_⟩
  refine ⟨_, rfl, v, _, rfl, hd, _, rfl, ?_⟩
  cases ej : isTup j.toD with
  | false =>
    cases j with
    | ps b xs => cases ej
    | rn b c x => cases ej
    | st i =>
    refine iteT ?_
    obtain rfl := dp_int_inv hd
    refine ⟨(by show 0 ≤ sizeLine; decide), fun t1 h1 => ?_⟩
    obtain ⟨s1, d1⟩ := tup_fresh (K := K) (ds := []) h1 .nil
    generalize (upd H t1 (.tup [])) = H1 at s1 d1 ⊢
    refine ⟨_, rfl, (by show 0 ≤ sizeLine; decide), fun t2 h2 => ?_⟩
    obtain ⟨s2, d2⟩ := tup_fresh (K := K) (ds := []) h2 .nil
    generalize (upd H1 t2 (.tup [])) = H2 at s2 d2 ⊢
    refine ⟨(by show 3 ≤ sizeLine; decide), fun t3 h3 => ?_⟩
    obtain ⟨s3, d3⟩ := tup_fresh (K := K) (ds := [.tuple [], .int i, .tuple []]) h3 (.cons (dp_same s2 d1) (.cons (.int _) (.cons d2 .nil)))
    generalize (upd H2 t3 (.tup [.ref t1, .int i, .ref t2])) = H3 at s3 d3 ⊢
    refine ⟨(by show 1 ≤ sizeLine; decide), fun l hl => ?_⟩
    have s13 := s1.trans (s2.trans s3)
    have s4 : Same H3 (upd H3 l (.lst [.ref t3])) := same_new hl
    exact q _ l [.ref t3] (s13.trans s4) (s13.free hl) upd_same (.cons (dp_same s4 d3) .nil)
  | true =>
  have ei : (isInt j.toD && !isBoo j.toD) = false := by
    cases j with
    | st i => cases ej
    | ps b xs => rfl
    | rn b c x => rfl
  rw [ei]
  refine iteF ?_
  refine ⟨(by show 0 ≤ sizeLine; decide), fun L hL => ?_⟩
  have s1 : Same H (upd H L (.lst [])) := same_new hL
  have eL : upd H L (.lst []) L = some (.lst []) := upd_same
  generalize (upd H L (.lst [])) = H1 at s1 eL ⊢
  refine ⟨_, rfl, v, j, rfl, dp_same s1 hd, ej, hn, h20, hstb, h400, fun H2 l ws s2 n2 e2 d2 => ?_⟩
  have nLl : l ≠ L := fun z => by rw [z, eL] at n2; cases n2
  have d2' : PrX K (fun b => b ≠ L) H2 ws j.rss 0 := d2.keep (fun _ _ h => h) (fun _ _ _ h => h) (fun a h z => by rw [z, eL] at h; cases h)
  obtain ⟨tj, ysj, xj, rfl, hwj, hsq⟩ := j_word ej (dp_same (s1.trans s2) hd)
  have tot := J.srows_len j hstb
  refine ⟨l, rfl, ⟨ws, SqL.of e2⟩, ?_⟩
  refine for_list (K := K) (a := l) (xs := ws) (fun i σ G => ∃ (y2 y3 y4 : Option V) (fs : List V), σ = [some (.ref tj), some (.ref L), y2, y3, y4, none] ∧ Sx L H2 G ∧ G L = some (.lst fs) ∧ DpAll K G fs (rowsD (packs j.sq (j.rss.take i) 0 [])))
    ⟨none, none, none, [], rfl, Sx.refl, s2 _ _ eL, .nil⟩ (fun i σ G _ ⟨_, _, _, _, _, s3, _⟩ => SqL.of (s3 _ _ nLl e2)) ?_ ?_
  · rintro i x σ G hi ⟨y2, y3, y4, fs, rfl, s3, eG, dG⟩
    have eL2 := s2 _ _ eL
    have kk : ∀ a xs, SqT K H2 a xs → SqT K G a xs := fun a xs h => s3.sqT eL2 h
    obtain ⟨t, la, rws, rs, ers, rfl, qt, nla, ela, drs⟩ := d2'.get hi
    rw [Int.zero_add] at qt
    have ela' := s3 _ _ nla ela
    refine ⟨t, _, rfl, kk _ _ qt, rfl, _, _, rfl, _, _, rfl, rfl, ?_⟩
    refine ⟨_, rfl, _, _, _, _, rfl, rfl, kk _ _ hwj, atI_at (j := 0) rfl rfl, (by show 2 ≤ sizeLine; decide), fun t1 h1 => ?_⟩
    refine ⟨t1, _, rfl, .inr (SqT.of upd_same), rfl, rfl, _, rfl, ?_⟩
    have u1 : Same G (upd G t1 (.tup [.str "seq", .str "repeat"])) := same_new h1
    show if inV (.str xj) [.str "seq", .str "repeat"] = true then _ else _
    rw [hsq]
    generalize (upd G t1 (.tup [.str "seq", .str "repeat"])) = G1 at u1 ⊢
    cases hq : j.sq with
    | true =>
      refine iteT ?_
      refine ⟨_, rfl, L, _, rfl, .inl (SqL.of (u1 _ _ eG)), (by show 2 ≤ sizeLine; decide), fun ta ha => ?_⟩
      obtain ⟨u2, da⟩ := tup_fresh (K := K) (ds := [.int 0, .int (fs.length : Nat)]) ha (.cons (.int _) (.cons (.int _) .nil))
      generalize (upd G1 ta (.tup [.int 0, .int (fs.length : Nat)])) = Ga at u2 da ⊢
      refine ⟨(by show 1 ≤ sizeLine; decide), fun tb hb => ?_⟩
      obtain ⟨u3, dg⟩ := tup_fresh (K := K) (ds := [.tuple [.int 0, .int (fs.length : Nat)]]) hb (.cons da .nil)
      have dg : Dp K _ (.ref tb) (gatesD [((0 : Int), (fs.length : Int))]) := dg
      generalize (upd Ga tb (.tup [.ref ta])) = G2 at u3 dg ⊢
      have sG := u1.trans (u2.trans u3)
      have d20 := J.rss_bd (List.mem_of_getElem? ers)
      have eG3 := sG _ _ eG
      have ela3 := sG _ _ ela'
      have rl : rws.length = rs.length := by rw [dpAll_length drs, rowsD, List.length_map]
      have tot2 : fs.length + rs.length ≤ 400 := by
        have h1 := packs_le j.sq j.rss (i + 1)
        rw [packs_take ers 0 [], List.length_append, List.length_map, ← J.srows_rss ej] at h1
        have h2 : fs.length = (packs j.sq (j.rss.take i) 0 []).length := by rw [dpAll_length dG, rowsD, List.length_map]
        omega
      refine ⟨_, rfl, .inl ⟨rfl, fs, SqL.of eG3⟩, ?_⟩
      refine ⟨_, rfl, la, rfl, ⟨rws, SqL.of ela3⟩, fun D hD => ?_⟩
      refine lc_list (K := K) (a := la) (xs := rws) (fun k F => Same G2 F ∧ ∃ us, F D = some (.lst us) ∧ DpAll K F us (rowsD ((rs.take k).map (wRow (i : Nat) [((0 : Int), (fs.length : Int))])))) ?_ ?_ ?_ ?_
      · exact ⟨same_new hD, [], upd_same, by simpa [rowsD] using .nil⟩
      · rintro k F _ ⟨sF, _⟩
        exact SqL.of (sF _ _ ela3)
      · rintro k x F hk ⟨sF, us, eD, du⟩
        obtain ⟨d, ed, hdx⟩ := dpAll_get drs hk
        rw [rowsD, List.getElem?_map] at ed
        obtain ⟨rr, er, rfl⟩ := Option.map_eq_some_iff.mp ed
        have bd := d20 rr (List.mem_of_getElem? er)
        have kr : k < rs.length := (List.getElem?_eq_some_iff.mp er).1
        have dx : Dp K F x (rowD rr) := dp_same (sG.trans sF) (dp_keep kk (noL_row rr) hdx)
        refine ⟨rfl, ?_⟩
        unfold tYes
        refine iteT ?_
        refine ⟨_, rfl, _, rfl, _, rfl, (i : Nat), .ref tb, x, [((0 : Int), (fs.length : Int))], rr, rfl, dp_same sF dg, dx, by simp, by omega, by omega, fun F2 v s4 d4 => ?_⟩
        have ul : us.length = k := by
          rw [dpAll_length du, rowsD, List.length_map, List.length_map, List.length_take]
          omega
        have eD2 := s4 _ _ eD
        refine ⟨us, eD2, small1000 (by omega), ?_, us ++ [v], upd_same, ?_⟩
        · intro c2 o hc
          rw [upd_ne (ne_of_none hc hD)]
          exact s4 _ _ (sF _ _ hc)
        · have k2 : ∀ b xs, SqT K F2 b xs → SqT K (upd F2 D (.lst (us ++ [v]))) b xs := fun b xs h => (sx_upd (p := D)).sqT eD2 h
          rw [take_map (wRow (i : Nat) [((0 : Int), (fs.length : Int))]) er, rowsD, List.map_append]
          exact dpAll_append (dpAll_keep k2 (noLs_rows _) (dpAll_same s4 du)) (.cons (dp_keep k2 (noL_row _) d4) .nil)
      · rintro F ⟨sF, us, eD, du⟩
        rw [rl, List.take_length] at du
        have ul : us.length = rs.length := by rw [dpAll_length du, rowsD, List.length_map, List.length_map]
        have eF := sF _ _ eG3
        refine ⟨L, D, fs, us, rfl, rfl, eF, eD, small (by omega), ?_⟩
        have k3 : ∀ b xs, SqT K F b xs → SqT K (upd F L (.lst (fs ++ us))) b xs := fun b xs h => (sx_upd (p := L)).sqT eF h
        refine ⟨_, _, _, fs ++ us, rfl, ?_, upd_same, ?_⟩
        · exact s3.trans ((Same.sx (sG.trans sF)).trans sx_upd)
        · have hl : (packs j.sq (j.rss.take i) 0 []).length = fs.length := by rw [dpAll_length dG, rowsD, List.length_map]
          rw [hq] at hl dG
          rw [packs_take ers 0 [], Int.zero_add, rowsD, List.map_append, hl]
          exact dpAll_append (dpAll_keep k3 (noLs_rows _) (dpAll_same (sG.trans sF) dG)) (dpAll_keep k3 (noLs_rows _) du)
    | false =>
      refine iteF ?_
      refine ⟨(by show 0 ≤ sizeLine; decide), fun tb hb => ?_⟩
      obtain ⟨u3, dg⟩ := tup_fresh (K := K) (ds := []) hb .nil
      have dg : Dp K _ (.ref tb) (gatesD []) := dg
      generalize (upd G1 tb (.tup [])) = G2 at u3 dg ⊢
      have sG := u1.trans u3
      have d20 := J.rss_bd (List.mem_of_getElem? ers)
      have eG3 := sG _ _ eG
      have ela3 := sG _ _ ela'
      have rl : rws.length = rs.length := by rw [dpAll_length drs, rowsD, List.length_map]
      have tot2 : fs.length + rs.length ≤ 400 := by
        have h1 := packs_le j.sq j.rss (i + 1)
        rw [packs_take ers 0 [], List.length_append, List.length_map, ← J.srows_rss ej] at h1
        have h2 : fs.length = (packs j.sq (j.rss.take i) 0 []).length := by rw [dpAll_length dG, rowsD, List.length_map]
        omega
      refine ⟨_, rfl, .inl ⟨rfl, fs, SqL.of eG3⟩, ?_⟩
      refine ⟨_, rfl, la, rfl, ⟨rws, SqL.of ela3⟩, fun D hD => ?_⟩
      refine lc_list (K := K) (a := la) (xs := rws) (fun k F => Same G2 F ∧ ∃ us, F D = some (.lst us) ∧ DpAll K F us (rowsD ((rs.take k).map (wRow (i : Nat) ([] : List (Int × Int)))))) ?_ ?_ ?_ ?_
      · exact ⟨same_new hD, [], upd_same, by simpa [rowsD] using .nil⟩
      · rintro k F _ ⟨sF, _⟩
        exact SqL.of (sF _ _ ela3)
      · rintro k x F hk ⟨sF, us, eD, du⟩
        obtain ⟨d, ed, hdx⟩ := dpAll_get drs hk
        rw [rowsD, List.getElem?_map] at ed
        obtain ⟨rr, er, rfl⟩ := Option.map_eq_some_iff.mp ed
        have bd := d20 rr (List.mem_of_getElem? er)
        have kr : k < rs.length := (List.getElem?_eq_some_iff.mp er).1
        have dx : Dp K F x (rowD rr) := dp_same (sG.trans sF) (dp_keep kk (noL_row rr) hdx)
        refine ⟨rfl, ?_⟩
        unfold tYes
        refine iteT ?_
        refine ⟨_, rfl, _, rfl, _, rfl, (i : Nat), .ref tb, x, ([] : List (Int × Int)), rr, rfl, dp_same sF dg, dx, by simp, by omega, by omega, fun F2 v s4 d4 => ?_⟩
        have ul : us.length = k := by
          rw [dpAll_length du, rowsD, List.length_map, List.length_map, List.length_take]
          omega
        have eD2 := s4 _ _ eD
        refine ⟨us, eD2, small1000 (by omega), ?_, us ++ [v], upd_same, ?_⟩
        · intro c2 o hc
          rw [upd_ne (ne_of_none hc hD)]
          exact s4 _ _ (sF _ _ hc)
        · have k2 : ∀ b xs, SqT K F2 b xs → SqT K (upd F2 D (.lst (us ++ [v]))) b xs := fun b xs h => (sx_upd (p := D)).sqT eD2 h
          rw [take_map (wRow (i : Nat) ([] : List (Int × Int))) er, rowsD, List.map_append]
          exact dpAll_append (dpAll_keep k2 (noLs_rows _) (dpAll_same s4 du)) (.cons (dp_keep k2 (noL_row _) d4) .nil)
      · rintro F ⟨sF, us, eD, du⟩
        rw [rl, List.take_length] at du
        have ul : us.length = rs.length := by rw [dpAll_length du, rowsD, List.length_map, List.length_map]
        have eF := sF _ _ eG3
        refine ⟨L, D, fs, us, rfl, rfl, eF, eD, small (by omega), ?_⟩
        have k3 : ∀ b xs, SqT K F b xs → SqT K (upd F L (.lst (fs ++ us))) b xs := fun b xs h => (sx_upd (p := L)).sqT eF h
        refine ⟨_, _, _, fs ++ us, rfl, ?_, upd_same, ?_⟩
        · exact s3.trans ((Same.sx (sG.trans sF)).trans sx_upd)
        · have hl : (packs j.sq (j.rss.take i) 0 []).length = fs.length := by rw [dpAll_length dG, rowsD, List.length_map]
          rw [hq] at hl dG
          rw [packs_take ers 0 [], Int.zero_add, rowsD, List.map_append, hl]
          exact dpAll_append (dpAll_keep k3 (noLs_rows _) (dpAll_same (sG.trans sF) dG)) (dpAll_keep k3 (noLs_rows _) du)
  · rintro σ G ⟨y2, y3, y4, fs, rfl, s3, eG, dG⟩
    rw [d2.length, List.take_length, ← J.srows_rss ej] at dG
    refine ⟨_, rfl, ?_⟩
    refine q G L fs ?_ hL eG dG
    intro b o hb
    have nb : b ≠ L := ne_of_none hb hL
    exact s3 _ _ nb (s2 _ _ (s1 _ _ hb))
theorem ok_rows (T : Txt K mg) : ∀ n : Nat, FnOk P w K mg base CX0 (2 * n + 1) T.f_step_rows T.d_step_rows ["job"] (spRows K n)
  | 0 => by
    have no : ∀ vs H Q E, ¬ spRows K 0 vs H Q E := by
      rintro vs H Q E ⟨v, j, _, _, h, _⟩
      have := J.deep_pos j
      omega
    exact ⟨fun vs H Q E h => absurd h (no vs H Q E), fun A outer s H args us vs Q E _ _ _ _ h => absurd h (no vs H Q E)⟩
  | n + 1 => ok_rows_next T (ok_idxrows T (ok_rows T n))
/-- jobs that are small -/
def spCkSmall (K : PySem.W.Frag) : Sp := fun vs H Q _ => ∃ (v : V) (j : J), vs = [v] ∧ Dp K H v j.toD ∧ j.deep ≤ 20 ∧ (szJ j 400 13).isSome = true ∧ j.steps ≤ 400 ∧ ∀ H', Same H H' → Q .non H'
theorem ok_cksmall (T : Txt K mg) : FnOk P w K mg base CX0 44 T.f_check_small T.d_check_small ["job"] (spCkSmall K) := by
  have g_checked_sizes := ok_checked (P := P) (w := w) (base := base) T
  refine T.F_check_small.ok sc_check_small (fun vs H Q E h => ?_) (fun cdv A outer s H vs Q E hr h => ?_)
  · obtain ⟨v, j, rfl, _⟩ := h
    rfl
  obtain ⟨v, j, rfl, hd, h20, hs, h400, q⟩ := h
  obtain ⟨⟨a, b⟩, ez⟩ := Option.isSome_iff_exists.mp hs
  have eb := (szJ_inv j 400 13 a b ez).2.2.2.2
  refine ⟨_, (pss_one (ps_if (pt_cmpR op_gt (pe_ix (r := rIxT K) ix_tup (pe_call g_checked_sizes (hr.mono (by omega)) rfl T.m_checked_sizes T.F_checked_sizes.kp T.b_checked_sizes .nil pass0 (pa_cons (pv 0) pa_nil)) pe_int (fun _ _ => rfl)) (pe_glob (v := .int 400) rfl T.g_MAX_SMALL ⟨_, rfl⟩) (nomark _)) (pss_one ps_never) pss_nil)), ?_⟩
  refine ⟨_, rfl, v, j, a, b, rfl, hd, h20, ez, fun H1 t s1 e1 => ?_⟩
  refine ⟨_, _, _, _, rfl, rfl, SqT.of e1, rfl, _, _, rfl, rfl, _, rfl, ?_⟩
  refine ite2 (fun g => ?_) (fun g => ?_)
  · have : (400 : Int) < b := of_decide_eq_true g
    omega
  · exact q _ s1
def spAllAdr (K : PySem.W.Frag) : Sp := fun vs H Q _ => ∃ (v : V) (j : J), vs = [v] ∧ Dp K H v j.toD ∧ (szJ j 400 13).isSome = true ∧ j.steps ≤ 400 ∧ ∀ (H' : Hp) (v : V), Same H H' → Dp K H' v (.tuple (adDs j.adr)) → Q v H'
end
/-! block Sys: a job as a system of steps; its low is the least sum (with Jst; behind bAddr) -/
mutual
def J.sys : J → Sys
  | .st i => ⟨[([], i)], fun _ _ => false⟩
  | .ps k xs => comp (!k) (J.syss xs) 0
  | .rn k n x => comp (!k) (List.replicate (if 0 < x.steps then n.toNat else 0) x.sys) 0
def J.syss : List J → List Sys
  | [] => []
  | x :: xs => x.sys :: J.syss xs
end
theorem Sys.Low.net {S : Sys} {l : Int} (h : S.Low l) : l ≤ S.net := by
  have h1 := h.le (fun _ => true) (fun _ _ _ _ _ _ => rfl)
  rw [sumD_all fun _ _ => rfl] at h1
  exact h1
theorem cRows_idx : ∀ (Ss : List Sys) (i : Int), (cRows Ss i).map (·.1) = idx (Ss.map fun S => S.rows.map (·.1)) i
  | [], _ => rfl
  | S :: r, i => by
    simp only [cRows, List.map_append, List.map_cons, idx, cRows_idx r, pre, List.map_map]
    rfl
mutual
theorem J.sys_adr : ∀ j : J, j.sys.rows.map (·.1) = j.adr
  | .st _ => rfl
  | .ps k xs => by
    simp only [J.sys, comp, cRows_idx, J.adr]
    rw [J.syss_adr xs]
  | .rn k n x => by
    have ih := J.sys_adr x
    simp only [J.sys, comp, cRows_idx, J.adr, List.map_replicate, ih]
theorem J.syss_adr : ∀ xs : List J, (J.syss xs).map (fun S => S.rows.map (·.1)) = J.adrs xs
  | [] => rfl
  | x :: xs => by
    have h1 := J.sys_adr x
    have h2 := J.syss_adr xs
    simp only [J.syss, J.adrs, List.map_cons, h1, h2]
end
theorem lowPar_rep (p : Part) : ∀ m : Nat, lowPar (List.replicate m p) = m * p.2
  | 0 => by simp [lowPar]
  | m + 1 => by
    simp only [List.replicate_succ, lowPar, lowPar_rep p m]
    rw [Int.natCast_add, Int.add_mul]
    simp only [Int.natCast_one, Int.one_mul]
    omega
theorem lowSeq_rep (p : Part) (h : p.2 ≤ p.1.net) : ∀ m : Nat, lowSeq (List.replicate (m + 1) p) = p.2 + m * min 0 p.1.net
  | 0 => by
    simp only [List.replicate_succ, List.replicate_zero, lowSeq]
    simp
    omega
  | m + 1 => by
    rw [List.replicate_succ, lowSeq, lowSeq_rep p h m]
    have e : ((m + 1 : Nat) : Int) * min 0 p.1.net = m * min 0 p.1.net + min 0 p.1.net := by
      rw [Int.natCast_add, Int.add_mul]
      simp
    rw [e]
    by_cases c : 0 ≤ p.1.net
    · have z : min 0 p.1.net = 0 := by omega
      rw [z]
      simp only [Int.mul_zero]
      omega
    · have z : min 0 p.1.net = p.1.net := by omega
      rw [z]
      have : (m : Int) * p.1.net ≤ 0 := Int.mul_nonpos_of_nonneg_of_nonpos (by omega) (by omega)
      omega
theorem sysOf_rep (m : Nat) (p : Part) : sysOf (List.replicate m p) = List.replicate m p.1 := by
  simp [sysOf]
theorem sum_repI (m : Int) : ∀ k : Nat, (List.replicate k m).sum = k * m
  | 0 => by simp
  | k + 1 => by
    rw [List.replicate_succ, List.sum_cons, sum_repI m k, Int.natCast_add, Int.add_mul]
    simp only [Int.natCast_one, Int.one_mul]
    omega
theorem J.rows_none {x : J} (h : x.stb) (e : ¬ 0 < x.steps) : x.sys.rows = [] := by
  have h1 := J.adr_len x h
  have h2 := congrArg List.length (J.sys_adr x)
  rw [List.length_map] at h2
  exact List.eq_nil_of_length_eq_zero (by omega)
mutual
theorem J.low_sys : ∀ j : J, j.stb → j.sys.Low j.low ∧ j.sys.net = j.net
  | .st i, _ => by
    refine ⟨⟨fun D _ => ?_, ⟨fun _ => decide (i < 0), (fun _ _ _ _ z => (by cases z)), ?_⟩⟩, ?_⟩
    · simp only [J.sys, J.low, sumD, List.map_cons, List.map_nil, List.sum_cons, List.sum_nil]
      split <;> omega
    · simp only [J.sys, J.low, sumD, List.map_cons, List.map_nil, List.sum_cons, List.sum_nil, decide_eq_true_eq]
      split <;> omega
    · simp [J.sys, J.net, Sys.net]
  | .ps k xs, h => by
    simp only [J.stb] at h
    obtain ⟨Ps, e1, e2, e3, e4, e5⟩ := J.lows_sys xs h.2
    refine ⟨?_, ?_⟩
    · cases k with
      | false =>
        simp only [J.sys, J.low, Bool.not_false]
        rw [← e1, ← e3]
        exact low_seq Ps 0 e2
      | true =>
        simp only [J.sys, J.low, Bool.not_true]
        rw [← e1, ← e4]
        exact low_par Ps 0 e2
    · simp only [J.sys, J.net, net_comp]
      exact e5
  | .rn k n x, h => by
    simp only [J.stb] at h
    obtain ⟨hx, hn⟩ := J.low_sys x h.2.1
    by_cases e : 0 < x.steps
    · have ec : ((n.toNat : Nat) : Int) = n := by omega
      refine ⟨?_, ?_⟩
      · have all : ∀ p ∈ List.replicate n.toNat ((x.sys, x.low) : Part), p.1.Low p.2 := by
          intro p hp
          obtain ⟨_, rfl⟩ := List.mem_replicate.mp hp
          exact hx
        cases k with
        | false =>
          have l := low_seq _ 0 all
          rw [sysOf_rep] at l
          simp only [J.sys, J.low, Bool.not_false, if_pos e]
          by_cases z : n = 0
          · rw [if_pos z]
            subst z
            exact l
          · rw [if_neg z]
            obtain ⟨m, em⟩ : ∃ m, n.toNat = m + 1 := ⟨n.toNat - 1, by omega⟩
            have em' : n - 1 = (m : Int) := by omega
            rw [em, lowSeq_rep _ hx.net, hn] at l
            rw [em, em']
            exact l
        | true =>
          have l := low_par _ 0 all
          rw [sysOf_rep, lowPar_rep, ec] at l
          simp only [J.sys, J.low, Bool.not_true, if_pos e]
          exact l
      · simp only [J.sys, J.net, net_comp, if_pos e, List.map_replicate, sum_repI, hn, ec]
    · have rn := J.rows_none h.2.1 e
      have l0 : x.low = 0 := by
        obtain ⟨D, _, hD⟩ := hx.at_
        rw [rn] at hD
        exact hD.symm
      have n0 : x.net = 0 := by
        rw [← hn]
        unfold Sys.net
        rw [rn]
        rfl
      have z : (J.rn k n x).sys = comp (!k) [] 0 := by simp only [J.sys, if_neg e, List.replicate_zero]
      rw [z]
      refine ⟨?_, ?_⟩
      · have lw : (J.rn k n x).low = 0 := by
          cases k with
          | false =>
            simp only [J.low, l0, n0]
            split <;> simp
          | true => simp only [J.low, l0, Int.mul_zero]
        rw [lw]
        exact ⟨fun D _ => Int.le_refl _, fun _ => false, fun a ha => by simp [comp, cRows] at ha, rfl⟩
      · simp only [J.net, n0, Int.mul_zero]
        rfl
theorem J.lows_sys : ∀ xs : List J, J.stbL xs → ∃ Ps : List Part, sysOf Ps = J.syss xs ∧ (∀ p ∈ Ps, p.1.Low p.2) ∧ lowSeq Ps = J.lowS xs ∧ lowPar Ps = J.lowL xs ∧ ((J.syss xs).map Sys.net).sum = J.netL xs
  | [], _ => ⟨[], rfl, (fun p hp => (by cases hp)), rfl, rfl, rfl⟩
  | x :: xs, h => by
    simp only [J.stbL] at h
    obtain ⟨h1, h2⟩ := J.low_sys x h.1
    obtain ⟨Ps, e1, e2, e3, e4, e5⟩ := J.lows_sys xs h.2
    refine ⟨(x.sys, x.low) :: Ps, ?_, ?_, ?_, ?_, ?_⟩
    · simp only [sysOf, List.map_cons, J.syss] at e1 ⊢
      rw [e1]
    · intro p hp
      rcases List.mem_cons.mp hp with rfl | hp
      · exact h1
      · exact e2 p hp
    · simp only [lowSeq, J.lowS, e3, h2]
    · simp only [lowPar, J.lowL, e4]
    · simp only [J.syss, List.map_cons, List.sum_cons, e5, J.netL, h2]
end
/-! block AtM: the rows of parts and rounds (behind bSys) -/
theorem cRows_at : ∀ {Ss : List Sys} {i k : Int} {r : List Int} {v : Int}, (k :: r, v) ∈ cRows Ss i → i ≤ k ∧ ∃ S, Ss[(k - i).toNat]? = some S ∧ (r, v) ∈ S.rows
  | S :: Ss, i, k, r, v, h => by
    simp only [cRows, List.mem_append, pre, List.mem_map, Prod.mk.injEq, List.cons.injEq] at h
    rcases h with ⟨b, hb, ⟨e1, e2⟩, e3⟩ | h
    · subst e1
      refine ⟨Int.le_refl _, S, ?_, ?_⟩
      · rw [Int.sub_self]
        rfl
      · obtain ⟨b1, b2⟩ := b
        cases e2
        cases e3
        exact hb
    · obtain ⟨h1, S', h2, h3⟩ := cRows_at h
      refine ⟨by omega, S', ?_, h3⟩
      have e : (k - i).toNat = (k - (i + 1)).toNat + 1 := by omega
      rw [e]
      exact h2
theorem J.syss_eq : ∀ xs : List J, J.syss xs = xs.map J.sys
  | [] => rfl
  | x :: xs => by rw [J.syss, J.syss_eq xs]; rfl
theorem rows_ps {b : Bool} {xs : List J} {k : Int} {r : List Int} {v : Int} (h : (k :: r, v) ∈ (J.ps b xs).sys.rows) : 0 ≤ k ∧ ∃ y, xs[k.toNat]? = some y ∧ (r, v) ∈ y.sys.rows := by
  simp only [J.sys, comp] at h
  obtain ⟨h1, S, h2, h3⟩ := cRows_at h
  rw [J.syss_eq, Int.sub_zero, List.getElem?_map] at h2
  cases e : xs[k.toNat]? with
  | none =>
    rw [e] at h2
    cases h2
  | some y =>
    rw [e] at h2
    obtain rfl := (Option.some.inj h2).symm
    exact ⟨h1, y, rfl, h3⟩
theorem rows_rn {b : Bool} {n : Int} {x : J} {k : Int} {r : List Int} {v : Int} (h : (k :: r, v) ∈ (J.rn b n x).sys.rows) : (r, v) ∈ x.sys.rows := by
  simp only [J.sys, comp] at h
  obtain ⟨h1, S, h2, h3⟩ := cRows_at h
  obtain ⟨_, rfl⟩ := List.mem_replicate.mp (List.mem_of_getElem? h2)
  exact h3
theorem rows_nil {j : J} {v : Int} (h : ([], v) ∈ j.sys.rows) : j = .st v := by
  cases j with
  | st i =>
    simp only [J.sys, List.mem_singleton, Prod.mk.injEq, true_and] at h
    rw [h]
  | ps b xs =>
    simp only [J.sys, comp] at h
    obtain ⟨k, r, e, _⟩ := cRows_head h
    cases e
  | rn b n x =>
    simp only [J.sys, comp] at h
    obtain ⟨k, r, e, _⟩ := cRows_head h
    cases e
theorem atI_ex {vs : List V} {r : Int} (h0 : 0 ≤ r) (h1 : r < (vs.length : Int)) : ∃ v, vs[r.toNat]? = some v ∧ atI vs r = some v := by
  have hk : r.toNat < vs.length := by omega
  exact ⟨vs[r.toNat], List.getElem?_eq_getElem hk, atI_at (j := r.toNat) (by omega) (List.getElem?_eq_getElem hk)⟩
/-! block States: _law_states, all sets of steps that hold what comes ahead (behind bAt; _law_ahead's promise is taken as given here) -/
theorem keepT {K : PySem.W.Frag} {D : Addr} {H H' : Hp} {l : List V} (h : H D = some (.lst l)) (s : Sx D H H') : Kp K D H H' := s.kp h
def rNotLD (K : PySem.W.Frag) : R2 := fun x y H Q => ∃ (ds : List PyData) (d : PyData), Dp K H y (.list ds) ∧ Dp K H x d ∧ PyData.canLayAll0 ds = true ∧ d.canLay0 = true ∧ d.depth ≤ 60 ∧ Q (.bl (!(ds.any fun e => e.eqv d))) H
theorem op_notInLD {X : Cx} (hu : X.A.units + 66 < cLine) : OpR X (compareOp .NotIn) (rNotLD X.K) := by
  rintro pins s σ H x y v u Q I rv ru ⟨ds, d, hy, hx, c1, c2, c3, q⟩
  obtain ⟨as, r1⟩ := Dp.reads I _ _ _ hy ru
  obtain ⟨bs, r2⟩ := Dp.reads I _ _ _ hx rv
  refine SeqAt.notIn_list_reads r1 r2 c1 c2 ?_ ⟨.bl _, H, I, rfl, q⟩
  have : min (PyData.depthAll ds) d.depth ≤ 60 := Nat.le_trans (Nat.min_le_right _ _) c3
  omega
/-- the sets that are found, one step more each time -/
def stNext (ah : List Int → List Int → Bool) (every : List (List Int)) (one : List Int) (fs : List (List (List Int))) : List (List (List Int)) :=
  fs ++ (fs.filter fun S => every.all fun o => !(ah o one) || S.contains o).map (· ++ [one])
def stAll (ah : List Int → List Int → Bool) (every : List (List Int)) : List (List Int) → List (List (List Int)) → List (List (List Int))
  | [], fs => fs
  | one :: r, fs => stAll ah every r (stNext ah every one fs)
def stD (S : List (List Int)) : PyData := .list (adDs S)
def spAhead (K : PySem.W.Frag) : Sp := fun vs H Q _ => ∃ (v : V) (j : J) (t1 t2 : Addr) (a b : List Int), vs = [v, .ref t1, .ref t2] ∧ Dp K H v j.toD ∧ SqT K H t1 (a.map V.int) ∧ SqT K H t2 (b.map V.int) ∧ a ∈ j.adr ∧ b ∈ j.adr ∧
  j.deep ≤ 8 ∧ ∀ H', Same H H' → Q (.bl (j.sys.ahead a b)) H'
theorem ad_lay (a : List Int) : (adD a).canLay0 = true := by
  have h : ∀ l : List Int, PyData.canLayAll0 (l.map PyData.int) = true := by
    intro l
    induction l with
    | nil => simp [PyData.canLayAll0]
    | cons x r ih => simp [PyData.canLayAll0, PyData.canLay0, ih]
  simp [adD, PyData.canLay0, h]
theorem ads_lay : ∀ as : List (List Int), PyData.canLayAll0 (adDs as) = true
  | [] => by simp [adDs, PyData.canLayAll0]
  | a :: as => by
    have ih := ads_lay as
    simp only [adDs, List.map_cons, PyData.canLayAll0, ad_lay, Bool.true_and] at ih ⊢
    exact ih
theorem ad_depth (a : List Int) : (adD a).depth ≤ 2 := by
  have h : ∀ l : List Int, PyData.depthAll (l.map PyData.int) ≤ 0 := by
    intro l
    induction l with
    | nil => simp [PyData.depthAll]
    | cons x r ih => simp only [List.map_cons, PyData.depthAll, PyData.depth]; omega
  have := h a
  simp only [adD, PyData.depth]
  omega
theorem ints_eqv : ∀ a b : List Int, PyData.eqvAll (a.map .int) (b.map .int) = decide (a = b)
  | [], [] => by simp [PyData.eqvAll]
  | [], b :: bs => by simp [PyData.eqvAll]
  | a :: as, [] => by simp [PyData.eqvAll]
  | a :: as, b :: bs => by
    have ih := ints_eqv as bs
    by_cases h : a = b <;> simp [PyData.eqvAll, PyData.eqv, ih, h]
theorem ad_eqv (a b : List Int) : (adD a).eqv (adD b) = decide (a = b) := by
  simp only [adD, PyData.eqv]
  exact ints_eqv a b
theorem any_ad (S : List (List Int)) (b : List Int) : ((adDs S).any fun e => e.eqv (adD b)) = S.contains b := by
  induction S with
  | nil => rfl
  | cons a S ih =>
    have e : (adDs (a :: S)).any (fun e => e.eqv (adD b)) = ((adD a).eqv (adD b) || (adDs S).any fun e => e.eqv (adD b)) := rfl
    rw [e, ih, ad_eqv]
    simp only [List.contains_cons]
    congr 1
    by_cases h : a = b
    · subst h
      simp
    · have h' : ¬ b = a := fun z => h z.symm
      simp [h, h']
/-- what comes ahead stands before -/
def Before (ah : List Int → List Int → Bool) (A : List (List Int)) : Prop := ∀ pre b rest, A = pre ++ b :: rest → ∀ a ∈ A, ah a b = true → a ∈ pre
def ClosedA (ah : List Int → List Int → Bool) (A : List (List Int)) (D : List Int → Bool) : Prop := ∀ a ∈ A, ∀ b ∈ A, ah a b = true → D b = true → D a = true
theorem st_cond {ah : List Int → List Int → Bool} {A S : List (List Int)} {one : List Int} : (A.all fun o => !(ah o one) || S.contains o) = true ↔ ∀ o ∈ A, ah o one = true → o ∈ S := by
  rw [List.all_eq_true]
  constructor
  · intro h o ho ha
    have := h o ho
    rw [ha] at this
    simpa using this
  · intro h o ho
    cases e : ah o one with
    | false => rfl
    | true =>
      have := h o ho e
      simpa using this
theorem st_mem {ah : List Int → List Int → Bool} {A : List (List Int)} {one : List Int} {fs : List (List (List Int))} {S : List (List Int)} :
    S ∈ stNext ah A one fs ↔ S ∈ fs ∨ ∃ R ∈ fs, (∀ o ∈ A, ah o one = true → o ∈ R) ∧ S = R ++ [one] := by
  unfold stNext
  rw [List.mem_append, List.mem_map]
  constructor
  · rintro (h | ⟨R, h1, rfl⟩)
    · exact .inl h
    · obtain ⟨h2, h3⟩ := List.mem_filter.mp h1
      exact .inr ⟨R, h2, st_cond.mp h3, rfl⟩
  · rintro (h | ⟨R, h1, h2, rfl⟩)
    · exact .inl h
    · exact .inr ⟨R, List.mem_filter.mpr ⟨h1, st_cond.mpr h2⟩, rfl⟩
theorem st_sound {ah : List Int → List Int → Bool} {A : List (List Int)} (hb : Before ah A) (nd : A.Nodup) : ∀ (rest pre : List (List Int)) (fs : List (List (List Int))), A = pre ++ rest →
    (∀ S ∈ fs, ∃ D, ClosedA ah A D ∧ S = pre.filter D) → ∀ S ∈ stAll ah A rest fs, ∃ D, ClosedA ah A D ∧ S = A.filter D
  | [], pre, fs, e, h, S, hS => by
    obtain ⟨D, h1, h2⟩ := h S hS
    rw [List.append_nil] at e
    exact ⟨D, h1, e ▸ h2⟩
  | one :: rest, pre, fs, e, h, S, hS => by
    refine st_sound hb nd rest (pre ++ [one]) _ (by rw [e, List.append_assoc]; rfl) ?_ S hS
    intro S hS
    have npre : one ∉ pre := by
      rw [e] at nd
      have := (List.nodup_append.mp nd).2.2
      intro z
      exact this one z one List.mem_cons_self rfl
    have inA : ∀ x ∈ pre, x ∈ A := fun x hx => by rw [e]; exact List.mem_append_left _ hx
    have before : ∀ a ∈ A, ∀ b ∈ pre, ah a b = true → a ∈ pre := by
      intro a ha b hbp hab
      obtain ⟨p1, p2, ep⟩ := List.append_of_mem hbp
      have := hb p1 b (p2 ++ one :: rest) (by rw [e, ep]; simp) a ha hab
      rw [ep]
      exact List.mem_append_left _ this
    rcases st_mem.mp hS with h1 | ⟨R, h1, h2, rfl⟩
    · obtain ⟨D, c, eS⟩ := h S h1
      refine ⟨fun x => D x && pre.contains x, ?_, ?_⟩
      · intro a ha b hbA hab hD
        simp only [Bool.and_eq_true, List.contains_iff_mem] at hD ⊢
        exact ⟨c a ha b hbA hab hD.1, before a ha b hD.2 hab⟩
      · rw [List.filter_append, eS]
        have e1 : pre.filter (fun x => D x && pre.contains x) = pre.filter D := List.filter_congr fun x hx => by simp [hx]
        have e2 : [one].filter (fun x => D x && pre.contains x) = [] := by simp [npre]
        rw [e1, e2, List.append_nil]
    · obtain ⟨D, c, eS⟩ := h R h1
      refine ⟨fun x => (D x && pre.contains x) || x == one, ?_, ?_⟩
      · intro a ha b hbA hab hD
        simp only [Bool.or_eq_true, Bool.and_eq_true, List.contains_iff_mem, beq_iff_eq] at hD ⊢
        rcases hD with hD | rfl
        · exact .inl ⟨c a ha b hbA hab hD.1, before a ha b hD.2 hab⟩
        · have := h2 a ha hab
          rw [eS] at this
          obtain ⟨m1, m2⟩ := List.mem_filter.mp this
          exact .inl ⟨m2, m1⟩
      · rw [List.filter_append, eS]
        have e1 : pre.filter (fun x => (D x && pre.contains x) || x == one) = pre.filter D := List.filter_congr fun x hx => by
          have : (x == one) = false := by
            simp only [beq_eq_false_iff_ne, ne_eq]
            rintro rfl
            exact npre hx
          simp [hx, this]
        rw [e1]
        simp
theorem st_full {ah : List Int → List Int → Bool} {A : List (List Int)} (hb : Before ah A) {D : List Int → Bool} (c : ClosedA ah A D) : ∀ (rest pre : List (List Int)) (fs : List (List (List Int))), A = pre ++ rest →
    pre.filter D ∈ fs → A.filter D ∈ stAll ah A rest fs
  | [], pre, fs, e, h => by
    rw [List.append_nil] at e
    subst e
    exact h
  | one :: rest, pre, fs, e, h => by
    refine st_full hb c rest (pre ++ [one]) _ (by rw [e, List.append_assoc]; rfl) ?_
    rw [List.filter_append]
    cases hD : D one with
    | false =>
      simp only [List.filter_cons, hD, List.filter_nil, List.append_nil, Bool.false_eq_true, if_false]
      exact st_mem.mpr (.inl h)
    | true =>
      simp only [List.filter_cons, hD, List.filter_nil, if_true]
      refine st_mem.mpr (.inr ⟨_, h, fun o ho hoa => ?_, rfl⟩)
      have o1 : one ∈ A := by
        rw [e]
        simp
      exact List.mem_filter.mpr ⟨hb pre one rest e o ho hoa, c o ho one o1 hoa hD⟩
/-- what is found are just the closed sets -/
theorem st_all {ah : List Int → List Int → Bool} {A : List (List Int)} (hb : Before ah A) (nd : A.Nodup) (S : List (List Int)) : S ∈ stAll ah A A [[]] ↔ ∃ D, ClosedA ah A D ∧ S = A.filter D := by
  constructor
  · refine st_sound hb nd A [] [[]] rfl (fun S hS => ⟨fun _ => false, (fun _ _ _ _ _ z => (by cases z)), ?_⟩) S
    simpa using hS
  · rintro ⟨D, c, rfl⟩
    exact st_full hb c A [] [[]] rfl (by simp)
theorem ahead_rest {sq : Bool} {S : Sys} {r : List Sys} {i k m : Int} {c d : List Int} (hk : i + 1 ≤ k) (h : cAhead sq (S :: r) i (k :: c) (m :: d) = true) : cAhead sq r (i + 1) (k :: c) (m :: d) = true := by
  simp only [cAhead] at h ⊢
  by_cases z : k = m
  · subst z
    simp only [ne_eq, not_true_eq_false, if_false, aheadAt] at h ⊢
    rw [if_neg (by omega)] at h
    exact h
  · simp only [ne_eq, z, not_false_eq_true, if_true] at h ⊢
    exact h
theorem cRows_before {sq : Bool} : ∀ {Ss : List Sys} {i : Int}, (∀ S ∈ Ss, Before S.ahead (S.rows.map (·.1))) → Before (cAhead sq Ss i) ((cRows Ss i).map (·.1))
  | [], i, h, q, b, rest, e, a, ha, hab => by simp [cRows] at ha
  | S :: r, i, h, q, b, rest, e, a, ha, hab => by
    have heads : ∀ x ∈ (cRows r (i + 1)).map (·.1), ∃ k c, x = k :: c ∧ i + 1 ≤ k := by
      intro x hx
      obtain ⟨y, hy, rfl⟩ := List.mem_map.mp hx
      exact cRows_head hy
    have ih := cRows_before (sq := sq) (Ss := r) (i := i + 1) (fun S hS => h S (List.mem_cons_of_mem _ hS))
    have e1 : (cRows (S :: r) i).map (·.1) = (S.rows.map (·.1)).map (i :: ·) ++ (cRows r (i + 1)).map (·.1) := by
      simp only [cRows, List.map_append]
      congr 1
      unfold pre
      rw [List.map_map, List.map_map]
      rfl
    rw [e1] at e ha
    have later : ∀ mid, q = (S.rows.map (·.1)).map (i :: ·) ++ mid → (cRows r (i + 1)).map (·.1) = mid ++ b :: rest → a ∈ q := by
      intro mid h1 h2
      rw [h1]
      rcases List.mem_append.mp ha with ha | ha
      · exact List.mem_append_left _ ha
      · refine List.mem_append_right _ (ih mid b rest h2 a ha ?_)
        obtain ⟨k, c, ea, hk⟩ := heads a ha
        obtain ⟨m, d, eb, hm⟩ := heads b (by rw [h2]; simp)
        rw [ea, eb] at hab ⊢
        exact ahead_rest hk hab
    rcases List.append_eq_append_iff.mp e with ⟨mid, h1, h2⟩ | ⟨mid, h1, h2⟩
    · exact later mid h1 h2
    · cases mid with
      | nil =>
        rw [List.append_nil] at h1
        exact later [] (by rw [List.append_nil]; exact h1.symm) h2.symm
      | cons m0 mid =>
        obtain ⟨rfl, h3⟩ := List.cons.inj h2
        -- b stands in the first
        obtain ⟨p1, p2, e3, e4, e5⟩ := List.map_eq_append_iff.mp h1
        obtain ⟨b', p3, rfl, e6, e7⟩ := List.map_eq_cons_iff.mp e5
        rcases List.mem_append.mp ha with ha | ha
        · obtain ⟨a', ha', rfl⟩ := List.mem_map.mp ha
          simp only [cAhead, aheadAt, ne_eq, ← e6, not_true_eq_false, if_false, if_true] at hab
          have := h S List.mem_cons_self p1 b' p3 e3 a' ha' hab
          rw [← e4]
          exact List.mem_map.mpr ⟨a', this, rfl⟩
        · exfalso
          obtain ⟨k, c, ea, hk⟩ := heads a ha
          rw [ea, ← e6] at hab
          simp only [cAhead, ne_eq] at hab
          rw [if_pos (by omega)] at hab
          simp only [Bool.and_eq_true, decide_eq_true_eq] at hab
          omega
mutual
theorem J.sys_before : ∀ j : J, Before j.sys.ahead (j.sys.rows.map (·.1))
  | .st i => by
    intro q b rest e a ha hab
    cases hab
  | .ps k xs => by
    simp only [J.sys, comp]
    exact cRows_before (J.syss_before xs)
  | .rn k n x => by
    simp only [J.sys, comp]
    refine cRows_before fun S hS => ?_
    obtain ⟨_, rfl⟩ := List.mem_replicate.mp hS
    exact J.sys_before x
theorem J.syss_before : ∀ xs : List J, ∀ S ∈ J.syss xs, Before S.ahead (S.rows.map (·.1))
  | [], S, h => by cases h
  | x :: xs, S, h => by
    simp only [J.syss] at h
    rcases List.mem_cons.mp h with rfl | h
    · exact J.sys_before x
    · exact J.syss_before xs S h
end
theorem cRows_nodup : ∀ {Ss : List Sys} {i : Int}, (∀ S ∈ Ss, (S.rows.map (·.1)).Nodup) → ((cRows Ss i).map (·.1)).Nodup
  | [], i, h => by simp [cRows]
  | S :: r, i, h => by
    have ih := cRows_nodup (Ss := r) (i := i + 1) (fun S hS => h S (List.mem_cons_of_mem _ hS))
    have e1 : (cRows (S :: r) i).map (·.1) = (S.rows.map (·.1)).map (i :: ·) ++ (cRows r (i + 1)).map (·.1) := by
      simp only [cRows, List.map_append]
      congr 1
      unfold pre
      rw [List.map_map, List.map_map]
      rfl
    rw [e1, List.nodup_append]
    refine ⟨?_, ih, ?_⟩
    · refine List.Pairwise.map _ (fun a b hab z => hab (List.cons.inj z).2) (h S List.mem_cons_self)
    · intro a ha b hb
      obtain ⟨a', _, rfl⟩ := List.mem_map.mp ha
      obtain ⟨y, hy, rfl⟩ := List.mem_map.mp hb
      obtain ⟨k, c, e, hk⟩ := cRows_head hy
      rw [e]
      intro z
      have := (List.cons.inj z).1
      omega
mutual
theorem J.sys_nodup : ∀ j : J, (j.sys.rows.map (·.1)).Nodup
  | .st i => by simp [J.sys]
  | .ps k xs => by
    simp only [J.sys, comp]
    exact cRows_nodup (J.syss_nodup xs)
  | .rn k n x => by
    simp only [J.sys, comp]
    refine cRows_nodup fun S hS => ?_
    obtain ⟨_, rfl⟩ := List.mem_replicate.mp hS
    exact J.sys_nodup x
theorem J.syss_nodup : ∀ xs : List J, ∀ S ∈ J.syss xs, (S.rows.map (·.1)).Nodup
  | [], S, h => by cases h
  | x :: xs, S, h => by
    simp only [J.syss] at h
    rcases List.mem_cons.mp h with rfl | h
    · exact J.sys_nodup x
    · exact J.syss_nodup xs S h
end
/-- the step at an address -/
def valOf (rows : List Row1) (a : List Int) : Int := ((rows.find? fun r => r.1 == a).map (·.2)).getD 0
theorem valOf_mem : ∀ {rows : List Row1} {r : Row1}, (rows.map (·.1)).Nodup → r ∈ rows → valOf rows r.1 = r.2
  | x :: rows, r, nd, h => by
    rw [List.map_cons, List.nodup_cons] at nd
    rcases List.mem_cons.mp h with rfl | h
    · simp [valOf]
    · have ne : ¬ x.1 = r.1 := fun z => nd.1 (z ▸ List.mem_map.mpr ⟨r, h, rfl⟩)
      have ih := valOf_mem nd.2 h
      unfold valOf at ih ⊢
      have e : (x.1 == r.1) = false := by simpa using ne
      rw [List.find?_cons, e]
      exact ih
def useOf (rows : List Row1) (S : List (List Int)) : Int := (S.map (valOf rows)).sum
theorem use_sumD {rows : List Row1} (nd : (rows.map (·.1)).Nodup) (D : List Int → Bool) : useOf rows ((rows.map (·.1)).filter D) = sumD rows D := by
  have key : ∀ rs : List Row1, (∀ r ∈ rs, valOf rows r.1 = r.2) → (((rs.map (·.1)).filter D).map (valOf rows)).sum = sumD rs D := by
    intro rs
    induction rs with
    | nil => intro _; rfl
    | cons x rs ih =>
      intro h
      have h1 := h x List.mem_cons_self
      have h2 := ih fun r hr => h r (List.mem_cons_of_mem _ hr)
      unfold sumD at h2 ⊢
      simp only [List.map_cons, List.sum_cons, List.filter_cons]
      cases e : D x.1 with
      | true =>
        simp only [if_true, List.map_cons, List.sum_cons, h1, h2]
      | false =>
        simp only [Bool.false_eq_true, if_false, h2]
        omega
  exact key rows fun r hr => valOf_mem nd hr
theorem st_last {ah : List Int → List Int → Bool} {A : List (List Int)} (hb : Before ah A) : ∀ (rest pre : List (List Int)) (fs : List (List (List Int))), A = pre ++ rest → fs.getLast? = some pre → (stAll ah A rest fs).getLast? = some A
  | [], pre, fs, e, h => by
    rw [List.append_nil] at e
    subst e
    exact h
  | one :: rest, pre, fs, e, h => by
    refine st_last hb rest (pre ++ [one]) _ (by rw [e, List.append_assoc]; rfl) ?_
    obtain ⟨front, rfl⟩ : ∃ front, fs = front ++ [pre] := by
      obtain ⟨l, hl⟩ := List.getLast?_eq_some_iff.mp h
      exact ⟨l, hl⟩
    have hc : (A.all fun o => !(ah o one) || pre.contains o) = true := st_cond.mpr fun o ho hoa => hb pre one rest e o ho hoa
    unfold stNext
    rw [List.filter_append]
    simp only [List.filter_cons, hc, if_true, List.filter_nil, List.map_append, List.map_cons, List.map_nil]
    rw [← List.append_assoc, List.getLast?_concat]
/-- the sets that are found for a job: their sums, the least of them, the last of them -/
def J.states (j : J) : List (List (List Int)) := stAll j.sys.ahead j.adr j.adr [[]]
theorem J.states_low (j : J) (h : j.stb) : (∀ S ∈ j.states, j.low ≤ useOf j.sys.rows S) ∧ (∃ S ∈ j.states, useOf j.sys.rows S = j.low) := by
  have hA := J.sys_adr j
  have nd := J.sys_nodup j
  have hb := J.sys_before j
  obtain ⟨hl, _⟩ := J.low_sys j h
  have cl : ∀ D, ClosedA j.sys.ahead (j.sys.rows.map (·.1)) D → j.sys.Closed D := fun D c a ha b hbb hab hD => c a.1 (List.mem_map.mpr ⟨a, ha, rfl⟩) b.1 (List.mem_map.mpr ⟨b, hbb, rfl⟩) hab hD
  have cl' : ∀ D, j.sys.Closed D → ClosedA j.sys.ahead (j.sys.rows.map (·.1)) D := by
    intro D c a ha b hbb hab hD
    obtain ⟨a', ha', rfl⟩ := List.mem_map.mp ha
    obtain ⟨b', hb', rfl⟩ := List.mem_map.mp hbb
    exact c a' ha' b' hb' hab hD
  unfold J.states
  rw [← hA]
  constructor
  · intro S hS
    obtain ⟨D, c, rfl⟩ := (st_all hb nd S).mp hS
    rw [use_sumD nd]
    exact hl.le D (cl D c)
  · obtain ⟨D, c, e⟩ := hl.at_
    exact ⟨_, (st_all hb nd _).mpr ⟨D, cl' D c, rfl⟩, by rw [use_sumD nd, e]⟩
theorem J.states_last (j : J) (h : j.stb) : j.states.getLast? = some j.adr ∧ useOf j.sys.rows j.adr = j.net := by
  have hA := J.sys_adr j
  have nd := J.sys_nodup j
  have hb := J.sys_before j
  obtain ⟨_, hn⟩ := J.low_sys j h
  refine ⟨?_, ?_⟩
  · unfold J.states
    rw [← hA]
    exact st_last hb _ [] [[]] rfl rfl
  · have e := use_sumD nd fun _ => true
    rw [sumD_all fun _ _ => rfl, List.filter_eq_self.mpr (fun _ _ => rfl), hA] at e
    rw [e]
    exact hn
/-! block GenI: branches (out of bGen16, bWAddr, bMx) -/
theorem iteFb {c : Bool} {A B : Prop} (h : c = false) (b : B) : if c = true then A else B := by
  rw [h]
  exact b
theorem iteTb {c : Bool} {A B : Prop} (h : c = true) (a : A) : if c = true then A else B := by
  rw [h]
  exact a

theorem ite_mid {c : Bool} {te1 te2 : TE} {σ : L2.St} {H : Hp} {Q : VK} (R : V → Hp → Prop) (h1 : c = true → ∀ Q : VK, (∀ x H', R x H' → Q x H') → te1 σ H Q) (h2 : c = false → ∀ Q : VK, (∀ x H', R x H' → Q x H') → te2 σ H Q)
    (h : ∀ x H', R x H' → Q x H') : if c = true then te1 σ H Q else te2 σ H Q := by
  cases c with
  | true => exact h1 rfl Q h
  | false => exact h2 rfl Q h
theorem sxW_new {p D : Addr} {H G : Hp} {o : HO} (hD : H D = none) (s : Sx p H G) : Sx p H (upd G D o) := by
  intro b u nb hb
  rw [upd_ne (fun z => by rw [z, hD] at hb; cases hb)]
  exact s _ _ nb hb
theorem Pot.updW {H : Hp} {p D : Addr} {n : Nat} {o : HO} (h : Pot H p n) (ne : D ≠ p) : Pot (upd H D o) p n := by
  obtain ⟨a, b, c, h1, h2⟩ := h
  exact ⟨a, b, c, by rw [upd_ne ne.symm]; exact h1, h2⟩
theorem ints_dp' {K : PySem.W.Frag} {H : Hp} : ∀ a : List Int, DpAll K H (a.map V.int) (a.map PyData.int)
  | [] => .nil
  | k :: a => .cons (.int k) (ints_dp' a)

/-! block Chs: _choices, choices (behind bStates): what a job can begin with -/
/-- one more part: in a row it counts only if none before can begin -/
def chsGo (k : Bool) (acc : List (List Int)) (i : Int) (c : List (List Int)) : List (List Int) := if (!k && !acc.isEmpty) = true then acc else acc ++ c.map (i :: ·)
def chsF (k : Bool) : List (List (List Int)) → Int → List (List Int) → List (List Int)
  | [], _, acc => acc
  | c :: cs, i, acc => chsF k cs (i + 1) (chsGo k acc i c)
mutual
def J.chs : J → List (List Int)
  | .st _ => [[]]
  | .ps k xs => chsF k (J.chss xs) 0 []
  | .rn _ n x => if 0 < n then x.chs.map ((0 : Int) :: ·) else []
def J.chss : List J → List (List (List Int))
  | [] => []
  | x :: xs => x.chs :: J.chss xs
end
theorem J.chss_eq : ∀ xs : List J, J.chss xs = xs.map J.chs
  | [] => rfl
  | x :: xs => by rw [J.chss, J.chss_eq xs, List.map_cons]
theorem chsF_stop {acc : List (List Int)} (h : acc ≠ []) : ∀ (cs : List (List (List Int))) (i : Int), chsF false cs i acc = acc
  | [], _ => rfl
  | c :: cs, i => by
    have e : chsGo false acc i c = acc := by
      unfold chsGo
      rw [if_pos (by cases acc with | nil => exact absurd rfl h | cons a l => rfl)]
    rw [chsF, e, chsF_stop h cs]
theorem chsGo_len {k : Bool} {acc : List (List Int)} {i : Int} {c : List (List Int)} : acc.length ≤ (chsGo k acc i c).length ∧ (chsGo k acc i c).length ≤ acc.length + c.length := by
  unfold chsGo
  split
  · omega
  · rw [List.length_append, List.length_map]
    omega
theorem chsF_len {k : Bool} : ∀ (cs : List (List (List Int))) (i : Int) (acc : List (List Int)), acc.length ≤ (chsF k cs i acc).length
  | [], _, _ => Nat.le_refl _
  | c :: cs, i, acc => Nat.le_trans chsGo_len.1 (chsF_len cs (i + 1) _)
theorem chsF_le {k : Bool} : ∀ (cs : List (List (List Int))) (i : Int) (acc : List (List Int)), (chsF k cs i acc).length ≤ acc.length + (cs.map List.length).sum
  | [], _, _ => by simp [chsF]
  | c :: cs, i, acc => by
    have h1 := chsF_le (k := k) cs (i + 1) (chsGo k acc i c)
    have h2 := (chsGo_len (k := k) (acc := acc) (i := i) (c := c)).2
    simp only [chsF, List.map_cons, List.sum_cons]
    omega
mutual
theorem J.chs_len : ∀ j : J, (j.chs.length : Int) ≤ j.nodes
  | .st i => by simp [J.chs, J.nodes]
  | .ps k xs => by
    have h1 := chsF_le (k := k) (J.chss xs) 0 []
    have h2 := J.chss_len xs
    simp only [J.chs, J.nodes]
    rw [List.length_nil] at h1
    omega
  | .rn k n x => by
    have h := J.chs_len x
    simp only [J.chs, J.nodes]
    split
    · rw [List.length_map]
      omega
    · have := J.nodes_pos x
      simp only [List.length_nil]
      omega
theorem J.chss_len : ∀ xs : List J, (((J.chss xs).map List.length).sum : Int) ≤ J.nodesL xs
  | [] => by simp [J.chss, J.nodesL]
  | x :: xs => by
    have h1 := J.chs_len x
    have h2 := J.chss_len xs
    simp only [J.chss, J.nodesL, List.map_cons, List.sum_cons]
    omega
end
theorem chsF_mem {k : Bool} {P : List Int → Prop} : ∀ (cs : List (List (List Int))) (i : Int) (acc : List (List Int)), (∀ a ∈ acc, P a) → (∀ c ∈ cs, ∀ a ∈ c, ∀ m : Int, P (m :: a)) → ∀ a ∈ chsF k cs i acc, P a
  | [], _, _, h, _ => h
  | c :: cs, i, acc, h, hc => by
    refine chsF_mem cs (i + 1) _ (fun a ha => ?_) fun d hd => hc d (List.mem_cons_of_mem _ hd)
    unfold chsGo at ha
    split at ha
    · exact h a ha
    · rcases List.mem_append.mp ha with ha | ha
      · exact h a ha
      · obtain ⟨b, hb, rfl⟩ := List.mem_map.mp ha
        exact hc c (List.mem_cons_self ..) b hb i
mutual
theorem J.chs_deep : ∀ (j : J), ∀ a ∈ j.chs, a.length ≤ j.deep
  | .st i, a, h => by
    simp only [J.chs, List.mem_singleton] at h
    rw [h]
    exact Nat.zero_le _
  | .ps k xs, a, h => by
    simp only [J.chs] at h
    have := chsF_mem (k := k) (P := fun a => a.length ≤ J.deepL xs + 1) (J.chss xs) 0 [] (fun a h => nomatch h) (fun c hc a ha m => by
      have := J.chss_deep xs c hc a ha
      rw [List.length_cons]
      omega) a h
    simp only [J.deep]
    omega
  | .rn k n x, a, h => by
    simp only [J.chs] at h
    split at h
    · obtain ⟨b, hb, rfl⟩ := List.mem_map.mp h
      have := J.chs_deep x b hb
      simp only [J.deep, List.length_cons]
      omega
    · exact absurd h List.not_mem_nil
theorem J.chss_deep : ∀ (xs : List J), ∀ c ∈ J.chss xs, ∀ a ∈ c, a.length ≤ J.deepL xs
  | [], c, h, _, _ => absurd h List.not_mem_nil
  | x :: xs, c, h, a, ha => by
    simp only [J.chss] at h
    simp only [J.deepL]
    rcases List.mem_cons.mp h with rfl | h
    · have := J.chs_deep x a ha
      omega
    · have := J.chss_deep xs c h a ha
      omega
end
theorem J.nodesL_lenC : ∀ xs : List J, (xs.length : Int) ≤ J.nodesL xs
  | [] => by simp [J.nodesL]
  | x :: xs => by
    have h1 := J.nodesL_lenC xs
    have h2 := J.nodes_pos x
    simp only [List.length_cons, J.nodesL]
    omega
theorem J.nodes_mem24 : ∀ {xs : List J} {x : J}, x ∈ xs → x.nodes ≤ J.nodesL xs
  | y :: ys, x, h => by
    have h0 := J.nodesL_lenC ys
    have h1 := J.nodes_pos y
    simp only [J.nodesL]
    rcases List.mem_cons.mp h with rfl | h
    · omega
    · have := J.nodes_mem24 h
      omega
theorem kwR_rc (k : Bool) : inV (.str (kwR k)) [.str "repeat", .str "copies"] = true := by cases k <;> decide +kernel
theorem kwP_rc (k : Bool) : inV (.str (kwP k)) [.str "repeat", .str "copies"] = false := by cases k <;> decide +kernel
theorem kwP_seq (k : Bool) : decide (V.str (kwP k) = V.str "seq") = !k := by cases k <;> decide +kernel
def spChs (K : PySem.W.Frag) (n : Nat) : Sp := fun vs H Q _ => ∃ (v : V) (j : J), vs = [v] ∧ Dp K H v j.toD ∧ j.deep ≤ n ∧ n ≤ 40 ∧ j.nodes ≤ 900 ∧
  ∀ (H' : Hp) (l : Addr) (fs : List V), Same H H' → H l = none → H' l = some (.lst fs) → DpAll K H' fs (adDs j.chs) → Q (.ref l) H'
theorem ite_midC {te : TE} {σ : L2.St} {H : Hp} {Q : VK} (R : V → Hp → Prop) (h : ∀ Q : VK, (∀ x H', R x H' → Q x H') → te σ H Q) (g : ∀ x H', R x H' → Q x H') : te σ H Q := h Q g
section
variable {P : Program} {w : World} {K : PySem.W.Frag} {mg : Str → Option Value} {base : Heap}
theorem ok_chs_next (T : Txt K mg) {n : Nat} (g__choices : FnOk P w K mg base CX0 (n + 1) T.f__choices T.d__choices ["job"] (spChs K n)) :
    FnOk P w K mg base CX0 (n + 2) T.f__choices T.d__choices ["job"] (spChs K (n + 1)) := by
  have g_is_integer : FnOk P w K mg base CX0 1 T.f_is_integer T.d_is_integer ["value"] (spIsInt K) := ok_isint T
  refine T.F__choices.ok sc__choices (fun vs H Q E h => ?_) (fun cdv A outer s H vs Q E hr h => ?_)
  · obtain ⟨v, j, rfl, _⟩ := h
    rfl
  obtain ⟨v, j, rfl, hd, hn, h40, hnd, q⟩ := h
  refine ⟨_, (pss_cons (ps_if (pt_val (pe_call g_is_integer (hr.mono (by omega)) rfl T.m_is_integer T.F_is_integer.kp T.b_is_integer .nil pass0 (pa_cons (pv 0) pa_nil))) (pss_one (ps_ret (pe_lst (pa_cons (pe_tup pa_nil) pa_nil)))) pss_nil)
      (pss_cons (ps_if (pt_cmpR (r := rIn K false) op_in_seq (pe_ix (r := rIxT K) ix_tup (pv 0) pe_int (fun _ _ => rfl)) (pe_tup (pa_cons pe_str (pa_cons pe_str pa_nil))) (by rfl)) (pss_cons (ps_set (i := 1) sc__choices.nd rfl (Or.inl rfl) (pe_ifExp (pt_cmpR op_gt (pe_ix (r := rIxT K) ix_tup (pv 0) pe_int (fun _ _ => rfl)) pe_int (nomark _)) (pe_call g__choices (hr.mono (by omega)) rfl T.m__choices T.F__choices.kp T.b__choices .nil pass0 (pa_cons (pe_ix (r := rIxT K) ix_tup (pv 0) pe_int (fun _ _ => rfl)) pa_nil)) (pe_lst pa_nil)))
        (pss_one (ps_ret (pe_lc (own := [("choice", 5)]) (g := (gName 5)) (by rfl) sc__choices.nd (pi_list (pv 1)) (blkOk_by (N := N__choices) (sc := (defScope s__choices)) (by decide +kernel)) (fun _ _ _ _ _ => (pg_name (i := 5) sc__choices.nd rfl (Or.inl rfl))) (fun _ _ _ _ _ => pts_nil) (fun _ _ _ _ _ => (pe_op (r := rCatA K) op_catA (pe_tup (pa_cons pe_int pa_nil)) (pv 5))))))) pss_nil)
      (pss_cons (ps_set (i := 2) sc__choices.nd rfl (Or.inl rfl) (pe_lst pa_nil))
      (pss_cons (ps_for PassesOwn.never rfl (pi_enumT (by rfl) T.n_enumerate (pa_cons (pe_ix (r := rIxT K) ix_tup (pv 0) pe_int (fun _ _ => rfl)) pa_nil)) (pg_tup (by rfl) (pgs_cons (pg_name (i := 3) sc__choices.nd rfl (Or.inr rfl)) (pgs_cons (pg_name (i := 4) sc__choices.nd rfl (Or.inl rfl)) pgs_nil)))
        (pss_cons (ps_if (PW.pt (pw_and (pt_truth (pv 2) (by intro _; rfl)) (pw_and1 (pt_cmpR op_eq (pe_ix (r := rIxT K) ix_tup (pv 0) pe_int (fun _ _ => rfl)) pe_str (nomark _))))) (pss_one ps_break) pss_nil)
        (pss_one (ps_expr (pe_bm PySem.F.plainAttrs_list PySem.F.slot_list_extend PySem.F.type_list_extend mt_extend (pv 2) (pa_cons (pe_lc (own := [("choice", 5)]) (g := (gName 5)) (by rfl) sc__choices.nd (pi_list (pe_call g__choices (hr.mono (by omega)) rfl T.m__choices T.F__choices.kp T.b__choices .nil pass0 (pa_cons (pv 4) pa_nil))) (blkOk_by (N := N__choices) (sc := (defScope s__choices)) (by decide +kernel)) (fun _ _ _ _ _ => (pg_name (i := 5) sc__choices.nd rfl (Or.inl rfl))) (fun _ _ _ _ _ => pts_nil) (fun _ _ _ _ _ => (pe_op (r := rCatA K) op_catA (pe_tup (pa_cons (pv 3) pa_nil)) (pv 5)))) pa_nil))))))
      (pss_one (ps_ret (pv 2))))))), ?_⟩
  cases j with
  | st i =>
    obtain rfl := dp_int_inv hd
    refine ⟨_, rfl, _, .int i, rfl, .int i, _, rfl, ?_⟩
    refine iteT ?_
    refine ⟨(by show 0 ≤ sizeLine; decide), fun t ht => ?_⟩
    obtain ⟨s1, d1⟩ := tup_fresh (K := K) (ds := []) ht .nil
    generalize (upd H t _) = H1 at s1 d1 ⊢
    refine ⟨(by show 1 ≤ sizeLine; decide), fun l hl => ?_⟩
    have s2 : Same H1 (upd H1 l (.lst [.ref t])) := same_new hl
    exact q _ l [.ref t] (s1.trans s2) (Same.free' s1 hl) upd_same (.cons (dp_same s2 d1) .nil)
  | rn k c x =>
    obtain ⟨a, vx, rfl, hzs, hvx⟩ := rn_inv hd
    refine ⟨_, rfl, _, _, rfl, hd, _, rfl, ?_⟩
    refine iteF ?_
    have hz0 : atI [V.str (kwR k), .int c, vx] 0 = some (.str (kwR k)) := rfl
    refine ⟨_, rfl, _, _, _, _, rfl, rfl, hzs, hz0, (by show 2 ≤ sizeLine; decide), fun t ht => ?_⟩
    refine ⟨t, _, rfl, .inr (SqT.of upd_same), rfl, rfl, _, rfl, ?_⟩
    have s1 : Same H (upd H t (.tup [.str "repeat", .str "copies"])) := same_new ht
    generalize (upd H t (.tup [.str "repeat", .str "copies"])) = H1 at s1 ⊢
    have erc : inV (.str (kwR k)) [.str "repeat", .str "copies"] = true := kwR_rc k
    refine iteTb erc ?_
    simp only [J.deep] at hn
    simp only [J.nodes] at hnd
    have hxl := J.chs_len x
    have hxd := J.chs_deep x
    refine ⟨_, rfl, _, _, _, _, rfl, rfl, same_sqT s1 hzs, atI_at (j := 1) rfl rfl, _, _, rfl, rfl, _, rfl, ?_⟩
    refine ite_mid (fun y H' => ∃ (li : Addr) (ys : List V), y = .ref li ∧ Same H H' ∧ H' li = some (.lst ys) ∧ DpAll K H' ys (adDs (if 0 < c then x.chs else []))) (fun hc Q' go => ?_) (fun hc Q' go => ?_) ?_
    · have hc := of_decide_eq_true hc
      refine ⟨_, rfl, _, _, _, _, rfl, rfl, same_sqT s1 hzs, atI_at (j := 2) rfl rfl, vx, x, rfl, dp_same s1 hvx, by omega, by omega, by omega, fun H2 l fs s2 _ e2 d2 => ?_⟩
      exact go _ _ ⟨l, fs, rfl, s1.trans s2, e2, by rw [if_pos hc]; exact d2⟩
    · have hc : ¬ (0 < c) := fun z => by rw [decide_eq_true z] at hc; cases hc
      refine ⟨(by show 0 ≤ sizeLine; decide), fun l hl => ?_⟩
      exact go _ _ ⟨l, [], rfl, s1.trans (same_new hl), upd_same, by rw [if_neg hc]; exact .nil⟩
    rintro y H2 ⟨li, ys, rfl, s2, eli, dys⟩
    have hcl : (if 0 < c then x.chs else []).length ≤ 900 ∧ (∀ a ∈ (if 0 < c then x.chs else []), a.length ≤ 40) := by
      split
      · exact ⟨by omega, fun a ha => by have := hxd a ha; omega⟩
      · exact ⟨by simp, fun a ha => nomatch ha⟩
    have echs : (J.rn k c x).chs = (if 0 < c then x.chs else []).map ((0 : Int) :: ·) := by
      simp only [J.chs]
      split <;> rfl
    rw [echs] at q
    generalize (if 0 < c then x.chs else []) = cs at dys hcl q
    have ylen : ys.length = cs.length := by rw [dpAll_length dys, adDs, List.length_map]
    refine ⟨_, rfl, li, rfl, ⟨ys, SqL.of eli⟩, fun D hD => ?_⟩
    refine lc_list (K := K) (a := li) (xs := ys) (fun k G3 => Same H2 G3 ∧ ∃ ws, G3 D = some (.lst ws) ∧ DpAll K G3 ws (adDs ((cs.take k).map ((0 : Int) :: ·)))) ?_ ?_ ?_ ?_
    · exact ⟨same_new hD, [], upd_same, .nil⟩
    · rintro k G3 _ ⟨s7, _⟩
      exact SqL.of (s7 _ _ eli)
    · rintro k r G3 hk ⟨s7, ws, eD, hws⟩
      obtain ⟨d, ed, hdr⟩ := dpAll_get dys hk
      rw [adDs, List.getElem?_map] at ed
      obtain ⟨ad, er, rfl⟩ := Option.map_eq_some_iff.mp ed
      obtain ⟨ra, rs, rfl, hrs, hra⟩ := dp_tup_inv hdr
      have kl : k < cs.length := (List.getElem?_eq_some_iff.mp er).1
      have wl' : ws.length = k := by
        rw [dpAll_length hws, adDs, List.length_map, List.length_map, List.length_take]
        omega
      have hal := hcl.2 ad (List.mem_of_getElem? er)
      have hcl9 := hcl.1
      refine ⟨rfl, ?_⟩
      unfold tYes
      refine iteT ?_
      refine ⟨(by show 1 ≤ sizeLine; decide), fun t1 h1 => ?_⟩
      have s8 : Same G3 (upd G3 t1 (.tup [.int 0])) := same_new h1
      have q8 : SqT K (upd G3 t1 (.tup [.int 0])) t1 [.int 0] := SqT.of upd_same
      generalize (upd G3 t1 (.tup [.int 0])) = G4 at s8 q8 ⊢
      refine ⟨_, rfl, ?_⟩
      refine rCatA_d (xs := [.int 0]) (ys := rs) q8 (same_sqT (s7.trans s8) hrs) ?_ (fun G5 t2 s9 q9 => ?_)
      · have h1 := dpAll_length hra
        rw [List.length_map] at h1
        exact small (by simp only [List.length_singleton]; omega)
      refine ⟨ws, (s8.trans s9) _ _ eD, small1000 (by omega), ?_, ws ++ [.ref t2], upd_same, ?_⟩
      · intro c o hc
        rw [upd_ne (ne_of_none hc hD)]
        exact (s7.trans (s8.trans s9)) _ _ hc
      · rw [adDs, take_map (fun a => (0 : Int) :: a) er, List.map_append]
        have hold : DpAll K G5 ws (adDs ((cs.take k).map ((0 : Int) :: ·))) := dpAll_same (s8.trans s9) hws
        have hnew : Dp K G5 (.ref t2) (adD ((0 : Int) :: ad)) := .tup q9 (.cons (.int _) (dpAll_same (s7.trans (s8.trans s9)) hra))
        have kk : ∀ a xs, SqT K G5 a xs → SqT K (upd G5 D (.lst (ws ++ [.ref t2]))) a xs := fun a xs z => (sx_upd (p := D)).sqT ((s8.trans s9) _ _ eD) z
        exact dpAll_append (dpAll_keep kk (noLs_ad _) hold) (.cons (dp_keep kk (noL_ad _) hnew) .nil)
    · rintro G3 ⟨s7, ws, eD, hws⟩
      rw [ylen, List.take_length] at hws
      exact q G3 D ws (s2.trans s7) (Same.free' s2 hD) eD hws
  | ps k xs =>
    obtain ⟨a, b, us, rfl, hzs, hus, hall⟩ := ps_inv hd
    have ylen : us.length = xs.length := by rw [dpAll_length hall, J.toDs_eq, List.length_map]
    have hz0 : atI [V.str (kwP k), .ref b] 0 = some (.str (kwP k)) := rfl
    refine ⟨_, rfl, _, _, rfl, hd, _, rfl, ?_⟩
    refine iteF ?_
    refine ⟨_, rfl, _, _, _, _, rfl, rfl, hzs, hz0, (by show 2 ≤ sizeLine; decide), fun t ht => ?_⟩
    refine ⟨t, _, rfl, .inr (SqT.of upd_same), rfl, rfl, _, rfl, ?_⟩
    have s1 : Same H (upd H t (.tup [.str "repeat", .str "copies"])) := same_new ht
    generalize (upd H t (.tup [.str "repeat", .str "copies"])) = H1 at s1 ⊢
    have erc : inV (.str (kwP k)) [.str "repeat", .str "copies"] = false := kwP_rc k
    refine iteFb erc ?_
    simp only [J.deep] at hn
    simp only [J.nodes] at hnd
    have nl := J.nodesL_lenC xs
    have total := J.chs_len (.ps k xs)
    simp only [J.nodes] at total
    have echs : (J.ps k xs).chs = chsF k (J.chss xs) 0 [] := by simp only [J.chs]
    refine ⟨(by show 0 ≤ sizeLine; decide), fun f hf => ?_⟩
    have s3 : Same H1 (upd H1 f (.lst [])) := same_new hf
    have ef : upd H1 f (.lst []) f = some (.lst []) := upd_same
    have s13 := s1.trans s3
    have nfH := Same.free' s1 hf
    refine ⟨_, rfl, _, _, _, _, rfl, rfl, same_sqT s13 hzs, atI_at (j := 1) rfl rfl, b, us, rfl, same_sqT s13 hus, ?_⟩
    refine for_it (walk_enumT (xs := us)) (fun i σ G => ∃ (y1 y3 y4 y5 : Option V) (fs : List V) (acc : List (List Int)), σ = [some (.ref a), y1, some (.ref f), y3, y4, y5] ∧ Same H1 G ∧ G f = some (.lst fs) ∧ DpAll K G fs (adDs acc) ∧ chsF k ((J.chss xs).drop i) (i : Int) acc = (J.ps k xs).chs)
      ⟨_, _, _, _, [], [], rfl, s3, ef, .nil, by rw [echs]; rfl⟩ ?_ ?_ ?_
    · rintro i σ G _ ⟨_, _, _, _, _, _, _, s4, _⟩
      exact same_sqT (s1.trans s4) hus
    · rintro i z σ G G' hi ⟨y1, y3, y4, y5, fs, acc, rfl, s4, efs, hfs, inv⟩ ⟨t3, x1, x, rfl, ht3, rfl, hx1, hx⟩
      obtain rfl : V.int (i : Int) = x1 := Option.some.inj hx1
      dsimp only at hx
      have s5 : Same G (upd G t3 (.tup [.int i, x])) := same_new ht3
      have q5 : SqT K (upd G t3 (.tup [.int i, x])) t3 [.int i, x] := SqT.of upd_same
      generalize (upd G t3 (.tup [.int i, x])) = G1 at s5 q5 ⊢
      refine ⟨t3, _, rfl, q5, rfl, _, _, rfl, _, _, rfl, rfl, ?_⟩
      obtain ⟨y, ey, my, dy⟩ := part_at hall hx
      have efs1 := s5 _ _ efs
      have flen : fs.length = acc.length := by rw [dpAll_length hfs, adDs, List.length_map]
      have hi' : i < xs.length := (List.getElem?_eq_some_iff.mp ey).1
      have edrop : (J.chss xs).drop i = y.chs :: (J.chss xs).drop (i + 1) := by
        have e : (J.chss xs)[i]? = some y.chs := by rw [J.chss_eq, List.getElem?_map, ey]; rfl
        exact (List.getElem_cons_drop (i := i) (by rw [J.chss_eq, List.length_map]; exact hi')).symm.trans (by rw [(List.getElem?_eq_some_iff.mp e).2])
      rw [edrop, chsF] at inv
      refine ⟨_, rfl, !fs.isEmpty, .inl ⟨fs, SqL.of efs1, rfl⟩, ?_⟩
      have efa : fs.isEmpty = acc.isEmpty := by
        cases fs <;> cases acc <;> simp_all
      have hgo : (!k && !acc.isEmpty) = true → acc = (J.ps k xs).chs := fun h => by
        cases k with
        | true => cases h
        | false =>
          have ne : acc ≠ [] := fun z => by rw [z] at h; cases h
          have e : chsGo false acc (i : Int) y.chs = acc := by unfold chsGo; rw [if_pos h]
          rw [e, chsF_stop ne] at inv
          exact inv
      cases hfe : fs.isEmpty
      case' false =>
        refine iteT ?_
        refine ⟨_, rfl, _, _, _, _, rfl, rfl, same_sqT (s1.trans (s4.trans s5)) hzs, atI_at (j := 0) rfl rfl, rfl, _, rfl, ?_⟩
        rw [kwP_seq]
        cases hk : k
        case' false =>
          subst hk
          refine iteT ?_
          have e := hgo (by rw [← efa, hfe]; rfl)
          rw [e] at hfs
          exact ⟨_, rfl, q _ f fs (s1.trans (s4.trans s5)) nfH efs1 (dpAll_same s5 hfs)⟩
        case' true => refine iteF ?_
      case' true =>
        refine iteF ?_
        refine iteF ?_
      all_goals
        have inv2 : chsF k ((J.chss xs).drop (i + 1)) ((i : Int) + 1) (acc ++ y.chs.map ((i : Int) :: ·)) = (J.ps k xs).chs := by
          have e : chsGo k acc (i : Int) y.chs = acc ++ y.chs.map ((i : Int) :: ·) := by
            unfold chsGo
            rw [if_neg]
            simp_all
          rw [← e]
          exact inv
        have hyn := J.nodes_mem24 my
        have hyd0 := J.deepL_mem my
        have hyl := J.chs_len y
        have hyd := J.chs_deep y
        refine ⟨_, rfl, .inl ⟨rfl, fs, SqL.of efs1⟩, ?_⟩
        refine ⟨_, rfl, x, y, rfl, dp_same (s1.trans (s4.trans s5)) dy, by omega, by omega, by omega, fun G2 l4 as4 s6 n6 e6 d6 => ?_⟩
        have as4len : as4.length = y.chs.length := by rw [dpAll_length d6, adDs, List.length_map]
        refine ⟨l4, rfl, ⟨as4, SqL.of e6⟩, fun D hD => ?_⟩
        refine lc_list (K := K) (a := l4) (xs := as4) (fun k G3 => Same G2 G3 ∧ ∃ ws, G3 D = some (.lst ws) ∧ DpAll K G3 ws (adDs ((y.chs.take k).map ((i : Int) :: ·)))) ?_ ?_ ?_ ?_
        · exact ⟨same_new hD, [], upd_same, .nil⟩
        · rintro k G3 _ ⟨s7, _⟩
          exact SqL.of (s7 _ _ e6)
        · rintro k r G3 hk ⟨s7, ws, eD, hws⟩
          obtain ⟨d, ed, hdr⟩ := dpAll_get d6 hk
          rw [adDs, List.getElem?_map] at ed
          obtain ⟨ad, er, rfl⟩ := Option.map_eq_some_iff.mp ed
          obtain ⟨ra, rs, rfl, hrs, hra⟩ := dp_tup_inv hdr
          have kl : k < y.chs.length := (List.getElem?_eq_some_iff.mp er).1
          have wl' : ws.length = k := by
            rw [dpAll_length hws, adDs, List.length_map, List.length_map, List.length_take]
            omega
          have hal := hyd ad (List.mem_of_getElem? er)
          have hcl9 := hyl
          refine ⟨rfl, ?_⟩
          unfold tYes
          refine iteT ?_
          refine ⟨_, rfl, (by show 1 ≤ sizeLine; decide), fun t1 h1 => ?_⟩
          have s8 : Same G3 (upd G3 t1 (.tup [.int i])) := same_new h1
          have q8 : SqT K (upd G3 t1 (.tup [.int i])) t1 [.int i] := SqT.of upd_same
          generalize (upd G3 t1 (.tup [.int i])) = G4 at s8 q8 ⊢
          refine ⟨_, rfl, ?_⟩
          refine rCatA_d (xs := [.int i]) (ys := rs) q8 (same_sqT (s7.trans s8) hrs) ?_ (fun G5 t2 s9 q9 => ?_)
          · have h1 := dpAll_length hra
            rw [List.length_map] at h1
            exact small (by simp only [List.length_singleton]; omega)
          refine ⟨ws, (s8.trans s9) _ _ eD, small1000 (by omega), ?_, ws ++ [.ref t2], upd_same, ?_⟩
          · intro c o hc
            rw [upd_ne (ne_of_none hc hD)]
            exact (s7.trans (s8.trans s9)) _ _ hc
          · rw [adDs, take_map (fun a => (i : Int) :: a) er, List.map_append]
            have hold : DpAll K G5 ws (adDs ((y.chs.take k).map ((i : Int) :: ·))) := dpAll_same (s8.trans s9) hws
            have hnew : Dp K G5 (.ref t2) (adD ((i : Int) :: ad)) := .tup q9 (.cons (.int _) (dpAll_same (s7.trans (s8.trans s9)) hra))
            have kk : ∀ a xs, SqT K G5 a xs → SqT K (upd G5 D (.lst (ws ++ [.ref t2]))) a xs := fun a xs z => (sx_upd (p := D)).sqT ((s8.trans s9) _ _ eD) z
            exact dpAll_append (dpAll_keep kk (noLs_ad _) hold) (.cons (dp_keep kk (noL_ad _) hnew) .nil)
        · rintro G3 ⟨s7, ws, eD, hws⟩
          rw [as4len, List.take_length] at hws
          have efs3 := (s6.trans s7) _ _ efs1
          have tot : fs.length + ws.length ≤ 1000 := by
            have h1 := dpAll_length hws
            rw [adDs, List.length_map, List.length_map] at h1
            have h2 := chsF_len (k := k) ((J.chss xs).drop (i + 1)) ((i : Int) + 1) (acc ++ y.chs.map ((i : Int) :: ·))
            rw [inv2, List.length_append, List.length_map] at h2
            omega
          refine ⟨f, D, fs, ws, rfl, rfl, efs3, eD, small tot, ?_⟩
          have inv3 : chsF k ((J.chss xs).drop (i + 1)) (((i + 1 : Nat)) : Int) (acc ++ y.chs.map ((i : Int) :: ·)) = (J.ps k xs).chs := by
            have e9 : (((i + 1 : Nat)) : Int) = (i : Int) + 1 := by omega
            rw [e9]
            exact inv2
          try rw [hk] at inv3
          have kk : ∀ a xs, SqT K G3 a xs → SqT K (upd G3 f (.lst (fs ++ ws))) a xs := fun a xs z => (sx_upd (p := f)).sqT efs3 z
          refine ⟨_, _, _, _, fs ++ ws, acc ++ y.chs.map ((i : Int) :: ·), rfl, ?_, upd_same, ?_, inv3⟩
          · intro c o hc
            rw [upd_ne (ne_of_none hc hf)]
            exact (s4.trans (s5.trans (s6.trans s7))) _ _ hc
          · rw [adDs, List.map_append]
            exact dpAll_append (dpAll_keep kk (noLs_ad _) (dpAll_same (s5.trans (s6.trans s7)) hfs)) (dpAll_keep kk (noLs_ad _) hws)
    · rintro σ G ⟨y1, y3, y4, y5, fs, acc, rfl, s4, efs, hfs, inv⟩
      rw [List.drop_eq_nil_of_le (by rw [J.chss_eq, List.length_map]; omega), chsF] at inv
      rw [inv] at hfs
      refine ⟨_, rfl, ?_⟩
      exact q G f fs (s1.trans s4) nfH efs hfs
end
section
variable {P : Program} {w : World} {K : PySem.W.Frag} {mg : Str → Option Value} {base : Heap}
theorem ok_chs (T : Txt K mg) : ∀ n : Nat, FnOk P w K mg base CX0 (n + 1) T.f__choices T.d__choices ["job"] (spChs K n)
  | 0 => by
    have no : ∀ vs H Q E, ¬ spChs K 0 vs H Q E := by
      rintro vs H Q E ⟨v, j, _, _, h, _⟩
      have := J.deep_pos j
      omega
    exact ⟨fun vs H Q E h => absurd h (no vs H Q E), fun A outer s H args us vs Q E _ _ _ _ h => absurd h (no vs H Q E)⟩
  | n + 1 => ok_chs_next T (ok_chs T n)
end
def spChoices (K : PySem.W.Frag) : Sp := fun vs H Q _ => ∃ (v : V) (j : J), vs = [v] ∧ Dp K H v j.toD ∧ j.deep ≤ 13 ∧ j.ok ∧ j.nodes ≤ 400 ∧ ∀ (H' : Hp) (r : V), Same H H' → Dp K H' r (.tuple (adDs j.chs)) → Q r H'
section
variable {P : Program} {w : World} {K : PySem.W.Frag} {mg : Str → Option Value} {base : Heap}
theorem ok_choices (T : Txt K mg) : FnOk P w K mg base CX0 44 T.f_choices T.d_choices ["job"] (spChoices K) := by
  have g_checked_sizes := ok_checked (P := P) (w := w) (base := base) T
  have g__choices := ok_chs (P := P) (w := w) (base := base) T 13
  refine T.F_choices.ok sc_choices (fun vs H Q E h => ?_) (fun cdv A outer s H vs Q E hr h => ?_)
  · obtain ⟨v, j, rfl, _⟩ := h
    rfl
  obtain ⟨v, j, rfl, hd, hdeep, hok, hnd, q⟩ := h
  refine ⟨_, (pss_cons (ps_expr (pe_call g_checked_sizes (hr.mono (by omega)) rfl T.m_checked_sizes T.F_checked_sizes.kp T.b_checked_sizes .nil pass0 (pa_cons (pv 0) pa_nil)))
      (pss_one (ps_ret (pe_callTy (r := rTupS K) call_tupS (by rfl) T.n_tuple (by decide +kernel) (pa_cons (pe_call g__choices (hr.mono (by omega)) rfl T.m__choices T.F__choices.kp T.b__choices .nil pass0 (pa_cons (pv 0) pa_nil)) pa_nil))))), ?_⟩
  have sz := szJ_some j 400 13 hok hnd (by omega)
  refine ⟨_, rfl, v, j, _, _, rfl, hd, by omega, sz, fun H1 t s1 _ => ?_⟩
  refine ⟨_, rfl, v, j, rfl, dp_same s1 hd, by omega, by omega, by omega, fun H2 l fs s2 _ e2 d2 => ?_⟩
  refine ⟨l, fs, rfl, .inl ⟨SqL.of e2, fun t2 ht2 => ?_⟩⟩
  have ut : Same H2 (upd H2 t2 (.tup fs)) := same_new ht2
  exact q _ _ (s1.trans (s2.trans ut)) (.tup (SqT.of upd_same) (dpAll_same ut d2))
end

/-! block IsCh: _is_choice, is_choice for a value of any kind (behind bChs, bFind) -/
theorem noDs_intsC : ∀ l : List Int, noDs (l.map PyData.int) = true
  | [] => rfl
  | k :: l => by
    rw [List.map_cons]
    simp only [noDs, noD, noDs_intsC l, Bool.and_self]
theorem isIdx_eq {d : PyData} (h : isIdx d = true) : ∃ a : List Int, d = adD a := by
  cases d with
  | tuple ds =>
    have go : ∀ ds : List PyData, ds.all isI = true → ∃ a : List Int, ds = a.map PyData.int := by
      intro ds
      induction ds with
      | nil => exact fun _ => ⟨[], rfl⟩
      | cons x xs ih =>
        intro h
        rw [List.all_cons, Bool.and_eq_true] at h
        obtain ⟨a, rfl⟩ := ih h.2
        cases x with
        | int i => exact ⟨i :: a, rfl⟩
        | _ => cases h.1
    obtain ⟨a, rfl⟩ := go ds h
    exact ⟨a, rfl⟩
  | _ => cases h
def isCh (j : J) (d : PyData) : Bool := isIdx d && (adDs j.chs).any fun e => e.eqv d
theorem isCh_ad (j : J) (a : List Int) : isCh j (adD a) = j.chs.contains a := by
  unfold isCh
  have e : isIdx (adD a) = true := by
    show ((a.map PyData.int).all isI) = true
    rw [List.all_map, List.all_eq_true]
    intro x _
    rfl
  rw [e, any_ad, Bool.true_and]
def spIsCh (K : PySem.W.Frag) : Sp := fun vs H Q _ => ∃ (v u : V) (j : J) (p : Addr) (d : PyData), vs = [v, u] ∧ Dp K H v j.toD ∧ Dq K p H u d ∧ d.bulk ≤ 80000 ∧ j.deep ≤ 13 ∧ j.nodes ≤ 400 ∧ ∀ H', Same H H' → Q (.bl (isCh j d)) H'
def spIsChoice (K : PySem.W.Frag) : Sp := fun vs H Q _ => ∃ (v u : V) (j : J) (p : Addr) (d : PyData), vs = [v, u] ∧ Dp K H v j.toD ∧ Dq K p H u d ∧ d.bulk ≤ 80000 ∧ j.deep ≤ 13 ∧ j.ok ∧ j.nodes ≤ 400 ∧ ∀ H', Same H H' → Q (.bl (isCh j d)) H'
section
variable {P : Program} {w : World} {K : PySem.W.Frag} {mg : Str → Option Value} {base : Heap}
theorem ok_isch0 (T : Txt K mg) : FnOk P w K mg base CX0 43 T.f__is_choice T.d__is_choice ["job", "value"] (spIsCh K) := by
  have g_is_index_tuple := ok_idx (P := P) (w := w) (base := base) T
  have g__choices := ok_chs (P := P) (w := w) (base := base) T 13
  refine T.F__is_choice.ok sc__is_choice (fun vs H Q E h => ?_) (fun cdv A outer s H vs Q E hr h => ?_)
  · obtain ⟨v, u, j, p, d, rfl, _⟩ := h
    rfl
  obtain ⟨v, u, j, p, d, rfl, hd, hu, hb, hdeep, hnd, q⟩ := h
  refine ⟨_, (pss_one (ps_ret (pe_and (pe_call g_is_index_tuple (hr.mono (by omega)) rfl T.m_is_index_tuple T.F_is_index_tuple.kp T.b_is_index_tuple .nil pass0 (pa_cons (pv 1) pa_nil)) (pe_one (pe_cmpR (r := rInLD K) (op_inLD (room66 hr)) (pv 1) (pe_call g__choices (hr.mono (by omega)) rfl T.m__choices T.F__choices.kp T.b__choices .nil pass0 (pa_cons (pv 0) pa_nil)) (by rfl)))))), ?_⟩
  refine ⟨_, rfl, u, p, d, rfl, hu, hb, fun H1 s1 => ?_⟩
  refine ⟨_, rfl, ?_⟩
  cases ei : isIdx d with
  | false =>
    refine iteF ?_
    unfold isCh at q
    rw [ei] at q
    exact q _ s1
  | true =>
    refine iteT ?_
    obtain ⟨a, rfl⟩ := isIdx_eq ei
    have hu1 : Dp K H u (adD a) := Dq.dp (noDs_intsC a) hu
    refine ⟨_, rfl, _, rfl, v, j, rfl, dp_same s1 hd, by omega, by omega, by omega, fun H2 l fs s2 _ e2 d2 => ?_⟩
    refine ⟨adDs j.chs, adD a, .lst (SqL.of e2) d2, dp_same (s1.trans s2) hu1, ads_lay j.chs, ad_lay a, Nat.le_trans (ad_depth a) (by decide), ?_⟩
    unfold isCh at q
    rw [ei, Bool.true_and] at q
    exact q _ (s1.trans s2)
theorem ok_isch (T : Txt K mg) : FnOk P w K mg base CX0 44 T.f_is_choice T.d_is_choice ["job", "value"] (spIsChoice K) := by
  have g_checked_sizes := ok_checked (P := P) (w := w) (base := base) T
  have g__is_choice := ok_isch0 (P := P) (w := w) (base := base) T
  refine T.F_is_choice.ok sc_is_choice (fun vs H Q E h => ?_) (fun cdv A outer s H vs Q E hr h => ?_)
  · obtain ⟨v, u, j, p, d, rfl, _⟩ := h
    rfl
  obtain ⟨v, u, j, p, d, rfl, hd, hu, hb, hdeep, hok, hnd, q⟩ := h
  refine ⟨_, (pss_cons (ps_expr (pe_call g_checked_sizes (hr.mono (by omega)) rfl T.m_checked_sizes T.F_checked_sizes.kp T.b_checked_sizes .nil pass0 (pa_cons (pv 0) pa_nil)))
      (pss_one (ps_ret (pe_call g__is_choice (hr.mono (by omega)) rfl T.m__is_choice T.F__is_choice.kp T.b__is_choice .nil pass0 (pa_cons (pv 0) (pa_cons (pv 1) pa_nil)))))), ?_⟩
  have sz := szJ_some j 400 13 hok hnd (by omega)
  refine ⟨_, rfl, v, j, _, _, rfl, hd, by omega, sz, fun H1 t s1 _ => ?_⟩
  refine ⟨_, rfl, _, rfl, v, u, j, p, d, rfl, dp_same s1 hd, Dq.keep (Same.kp s1) hu, hb, hdeep, hnd, fun H2 s2 => q _ (s1.trans s2)⟩
end

/-! block ChsM: what a job can begin with are the addresses that none comes ahead of, of copies those of the first (behind bChs) -/
mutual
def J.cf : J → List Int → Bool
  | .st _, _ => true
  | .ps _ xs, [] => true
  | .ps _ xs, k :: a => J.cfs xs 0 k a
  | .rn _ _ _, [] => true
  | .rn c _ x, k :: a => (!c || k == 0) && x.cf a
def J.cfs : List J → Int → Int → List Int → Bool
  | [], _, _, _ => true
  | x :: xs, i, k, a => if k = i then x.cf a else J.cfs xs (i + 1) k a
end
def mins (A : List (List Int)) (ah : List Int → List Int → Bool) (a : List Int) : Bool := A.all fun b => !(ah b a)
/-- a part: its system, and which of its addresses are those of first copies -/
abbrev CPart := Sys × (List Int → Bool)
def cpA (p : CPart) : List (List Int) := p.1.rows.map (·.1)
def cpC (p : CPart) : List (List Int) := (cpA p).filter fun a => mins (cpA p) p.1.ahead a && p.2 a
def cpF : List CPart → Int → Int → List Int → Bool
  | [], _, _, _ => true
  | p :: r, i, k, a => if k = i then p.2 a else cpF r (i + 1) k a
def cpFF (ps : List CPart) (i : Int) : List Int → Bool
  | [] => true
  | k :: a => cpF ps i k a
theorem idx_head : ∀ {as : List (List (List Int))} {i : Int} {a : List Int}, a ∈ idx as i → ∃ k b, a = k :: b ∧ i ≤ k
  | x :: r, i, a, h => by
    simp only [idx, List.mem_append, List.mem_map] at h
    rcases h with ⟨b, _, rfl⟩ | h
    · exact ⟨i, b, rfl, Int.le_refl _⟩
    · obtain ⟨k, b, h1, h2⟩ := idx_head h
      exact ⟨k, b, h1, by omega⟩
theorem chsF_acc : ∀ (cs : List (List (List Int))) (i : Int) (acc : List (List Int)), chsF true cs i acc = acc ++ chsF true cs i []
  | [], _, acc => by simp [chsF]
  | c :: cs, i, acc => by
    have e1 : chsGo true acc i c = acc ++ c.map (i :: ·) := by simp [chsGo]
    have e2 : chsGo true [] i c = c.map (i :: ·) := by simp [chsGo]
    simp only [chsF]
    rw [e1, e2, chsF_acc cs (i + 1) (acc ++ _), chsF_acc cs (i + 1) (c.map _), List.append_assoc]
theorem chsF_ne {k : Bool} : ∀ (cs : List (List (List Int))) (i : Int) (acc : List (List Int)), (∃ c ∈ cs, c ≠ []) → chsF k cs i acc ≠ []
  | [], _, _, h => by
    obtain ⟨c, hc, _⟩ := h
    cases hc
  | c :: cs, i, acc, h => by
    simp only [chsF]
    by_cases hc : c = []
    · subst hc
      refine chsF_ne cs (i + 1) _ ?_
      obtain ⟨d, hd, hn⟩ := h
      rcases List.mem_cons.mp hd with rfl | hd
      · exact absurd rfl hn
      · exact ⟨d, hd, hn⟩
    · have hl : 0 < (chsGo k acc i c).length := by
        unfold chsGo
        split
        · rename_i z
          cases acc with
          | nil => simp at z
          | cons a l => simp
        · rw [List.length_append, List.length_map]
          have : 0 < c.length := List.length_pos_iff.mpr hc
          omega
      have := chsF_len (k := k) cs (i + 1) (chsGo k acc i c)
      intro z
      have hz := congrArg List.length z
      rw [List.length_nil] at hz
      omega
theorem chsF_filter {k : Bool} : ∀ (ps : List CPart) (i : Int), (∀ p ∈ ps, cpA p ≠ [] → cpC p ≠ []) →
    chsF k (ps.map cpC) i [] = (idx (ps.map cpA) i).filter fun a => mins (idx (ps.map cpA) i) (cAhead (!k) (ps.map (·.1)) i) a && cpFF ps i a
  | [], i, _ => by simp [chsF, idx]
  | p :: r, i, hne => by
    have ih := chsF_filter (k := k) r (i + 1) fun q hq => hne q (List.mem_cons_of_mem _ hq)
    simp only [List.map_cons, chsF, idx]
    rw [List.filter_append]
    -- the first part
    have e1 : ((cpA p).map (i :: ·)).filter (fun a => mins ((cpA p).map (i :: ·) ++ idx (r.map cpA) (i + 1)) (cAhead (!k) (p.1 :: r.map (·.1)) i) a && cpFF (p :: r) i a) = (cpC p).map (i :: ·) := by
      rw [List.filter_map, cpC]
      congr 1
      refine List.filter_congr fun a _ => ?_
      simp only [Function.comp_apply, cpFF, cpF, if_true]
      congr 1
      unfold mins
      rw [List.all_append, List.all_map]
      have z : (idx (r.map cpA) (i + 1)).all (fun b => !(cAhead (!k) (p.1 :: r.map (·.1)) i b (i :: a))) = true := by
        rw [List.all_eq_true]
        intro b hb
        obtain ⟨m, b', rfl, hm⟩ := idx_head hb
        simp only [cAhead, ne_eq]
        rw [if_pos (by omega)]
        have : decide (m < i) = false := decide_eq_false (by omega)
        rw [this, Bool.and_false]
        rfl
      rw [z, Bool.and_true]
      refine congrArg (fun f => (cpA p).all f) (funext fun b => ?_)
      simp [Function.comp_apply, cAhead, aheadAt]
    rw [e1]
    -- the others
    have e2 : (idx (r.map cpA) (i + 1)).filter (fun a => mins ((cpA p).map (i :: ·) ++ idx (r.map cpA) (i + 1)) (cAhead (!k) (p.1 :: r.map (·.1)) i) a && cpFF (p :: r) i a) = if (!k && !(cpA p).isEmpty) = true then [] else chsF k (r.map cpC) (i + 1) [] := by
      rw [ih]
      have key : ∀ a ∈ idx (r.map cpA) (i + 1), (mins ((cpA p).map (i :: ·) ++ idx (r.map cpA) (i + 1)) (cAhead (!k) (p.1 :: r.map (·.1)) i) a && cpFF (p :: r) i a) = ((cpA p).all (fun _ => !(!k)) && (mins (idx (r.map cpA) (i + 1)) (cAhead (!k) (r.map (·.1)) (i + 1)) a && cpFF r (i + 1) a)) := by
        intro a ha
        obtain ⟨m, a', rfl, hm⟩ := idx_head ha
        have f1 : cpFF (p :: r) i (m :: a') = cpFF r (i + 1) (m :: a') := by
          simp only [cpFF, cpF]
          rw [if_neg (by omega)]
        rw [f1, ← Bool.and_assoc]
        congr 1
        unfold mins
        rw [List.all_append, List.all_map]
        congr 1
        · refine congrArg (fun f => (cpA p).all f) (funext fun b => ?_)
          simp only [Function.comp_apply, cAhead, ne_eq]
          rw [if_pos (by omega), decide_eq_true (show i < m by omega), Bool.and_true]
        · rw [Bool.eq_iff_iff, List.all_eq_true, List.all_eq_true]
          have eq : ∀ b ∈ idx (r.map cpA) (i + 1), cAhead (!k) (p.1 :: r.map (·.1)) i b (m :: a') = cAhead (!k) (r.map (·.1)) (i + 1) b (m :: a') := by
            intro b hb
            obtain ⟨n, b', rfl, hn⟩ := idx_head hb
            simp only [cAhead, aheadAt]
            rw [if_neg (show ¬ n = i by omega)]
          constructor
          · intro h b hb
            rw [← eq b hb]
            exact h b hb
          · intro h b hb
            rw [eq b hb]
            exact h b hb
      rw [List.filter_congr key]
      cases k with
      | true =>
        rw [if_neg (by simp)]
        refine List.filter_congr fun a _ => ?_
        have : (cpA p).all (fun _ => !(!true)) = true := by simp
        rw [this, Bool.true_and]
      | false =>
        cases e : cpA p with
        | nil =>
          rw [if_neg (by simp)]
          refine List.filter_congr fun a _ => ?_
          simp
        | cons x l =>
          rw [if_pos (by simp)]
          rw [List.filter_eq_nil_iff]
          intro a _
          simp
    rw [e2]
    have e3 : chsGo k [] i (cpC p) = (cpC p).map (i :: ·) := by simp [chsGo]
    rw [e3]
    cases k with
    | true =>
      rw [if_neg (by simp), chsF_acc]
    | false =>
      cases e : cpA p with
      | nil =>
        have c0 : cpC p = [] := by unfold cpC; rw [e]; rfl
        rw [if_neg (by simp), c0]
        rfl
      | cons x l =>
        have hc := hne p (List.mem_cons_self ..) (by rw [e]; simp)
        rw [if_pos (by simp), List.append_nil]
        exact chsF_stop (by simpa using hc) _ _
def J.cp (x : J) : CPart := (x.sys, x.cf)
theorem J.cp_A (x : J) : cpA x.cp = x.adr := J.sys_adr x
theorem cfs_cp : ∀ (xs : List J) (i k : Int) (a : List Int), J.cfs xs i k a = cpF (xs.map J.cp) i k a
  | [], _, _, _ => rfl
  | x :: xs, i, k, a => by
    rw [J.cfs, List.map_cons, cpF, cfs_cp xs]
    rfl
theorem J.syss_mapC : ∀ xs : List J, J.syss xs = (xs.map J.cp).map (·.1)
  | [] => rfl
  | x :: xs => by rw [J.syss, J.syss_mapC xs]; rfl
theorem J.adrs_mapC (xs : List J) : J.adrs xs = (xs.map J.cp).map cpA := by
  rw [J.adrs_eq, List.map_map]
  refine List.map_congr_left fun x _ => ?_
  exact (J.cp_A x).symm
theorem idx_ne {as : List (List (List Int))} : ∀ {i : Int}, idx as i ≠ [] → ∃ A ∈ as, A ≠ [] := by
  induction as with
  | nil => intro i h; exact absurd rfl h
  | cons A r ih =>
    intro i h
    by_cases e : A = []
    · subst e
      obtain ⟨B, hB, nB⟩ := ih (i := i + 1) (by simpa [idx] using h)
      exact ⟨B, List.mem_cons_of_mem _ hB, nB⟩
    · exact ⟨A, List.mem_cons_self .., e⟩
theorem J.mem_stbC : ∀ {xs : List J}, J.stbL xs → ∀ x ∈ xs, x.stb
  | x :: xs, h, y, hy => by
    simp only [J.stbL] at h
    rcases List.mem_cons.mp hy with rfl | hy
    · exact h.1
    · exact J.mem_stbC h.2 y hy
mutual
theorem J.chs_eq : ∀ j : J, j.stb → j.chs = (j.adr.filter fun a => mins j.adr j.sys.ahead a && j.cf a) ∧ (j.adr ≠ [] → j.chs ≠ [])
  | .st i, _ => by
    constructor
    · simp [J.chs, J.adr, J.sys, mins, J.cf]
    · intro _
      simp [J.chs]
  | .ps k xs, h => by
    simp only [J.stb] at h
    have ih := J.chss_eq2 xs h.2
    have ec : J.chss xs = (xs.map J.cp).map cpC := by
      rw [J.chss_eq, List.map_map]
      refine List.map_congr_left fun x hx => ?_
      have := (ih x hx).1
      rw [this]
      simp only [Function.comp_apply, cpC]
      rw [J.cp_A]
      rfl
    have hne : ∀ p ∈ xs.map J.cp, cpA p ≠ [] → cpC p ≠ [] := by
      intro p hp hA
      obtain ⟨x, hx, rfl⟩ := List.mem_map.mp hp
      obtain ⟨i1, i2⟩ := ih x hx
      have i3 := i2 (by rw [← J.cp_A]; exact hA)
      rw [i1] at i3
      unfold cpC
      rw [J.cp_A]
      exact i3
    constructor
    · simp only [J.chs, J.adr, J.sys, comp]
      rw [ec, chsF_filter _ _ hne, ← J.adrs_mapC, ← J.syss_mapC]
      refine List.filter_congr fun a ha => ?_
      congr 1
      obtain ⟨m, a', rfl, _⟩ := idx_head ha
      rw [J.cf, cfs_cp]
      rfl
    · intro hA
      simp only [J.adr] at hA
      obtain ⟨A, hAm, hAn⟩ := idx_ne hA
      rw [J.adrs_mapC] at hAm
      obtain ⟨p, hp, rfl⟩ := List.mem_map.mp hAm
      simp only [J.chs]
      rw [ec]
      exact chsF_ne _ _ _ ⟨cpC p, List.mem_map.mpr ⟨p, hp, rfl⟩, hne p hp hAn⟩
  | .rn k n x, h => by
    simp only [J.stb] at h
    obtain ⟨i1, i2⟩ := J.chs_eq x h.2.1
    have al := J.adr_len x h.2.1
    by_cases hs : 0 < x.steps
    · have xne : x.adr ≠ [] := by
        intro z
        rw [z] at al
        simp at al
        omega
      have cne := i2 xne
      have cC : cpC x.cp = x.chs := by
        unfold cpC
        rw [J.cp_A, i1]
        rfl
      by_cases hn : 0 < n
      · obtain ⟨m, em⟩ : ∃ m, n.toNat = m + 1 := ⟨n.toNat - 1, by omega⟩
        have hne : ∀ p ∈ List.replicate n.toNat x.cp, cpA p ≠ [] → cpC p ≠ [] := by
          intro p hp _
          obtain ⟨_, rfl⟩ := List.mem_replicate.mp hp
          rw [cC]
          exact cne
        have F := chsF_filter (k := k) (List.replicate n.toNat x.cp) 0 hne
        simp only [List.map_replicate, J.cp_A, cC] at F
        have first : ∀ a ∈ idx (List.replicate n.toNat x.adr) 0, ∃ q a', a = q :: a' ∧ 0 ≤ q := fun a ha => idx_head ha
        have ff : ∀ (c : Nat) (i q : Int) (a' : List Int), i ≤ q → q < i + c → cpF (List.replicate c x.cp) i q a' = x.cf a' := by
          intro c
          induction c with
          | zero => intro i q a' h1 h2; omega
          | succ c ihc =>
            intro i q a' h1 h2
            rw [List.replicate_succ, cpF]
            by_cases e : q = i
            · rw [if_pos e]
              rfl
            · rw [if_neg e]
              exact ihc (i + 1) q a' (by omega) (by omega)
        have bound : ∀ (c : Nat) (i : Int), ∀ a ∈ idx (List.replicate c x.adr) i, ∃ q a', a = q :: a' ∧ i ≤ q ∧ q < i + c := by
          intro c
          induction c with
          | zero => intro i a ha; simp [idx] at ha
          | succ c ihc =>
            intro i a ha
            simp only [List.replicate_succ, idx, List.mem_append, List.mem_map] at ha
            rcases ha with ⟨b, _, rfl⟩ | ha
            · exact ⟨i, b, rfl, Int.le_refl _, by omega⟩
            · obtain ⟨q, a', e, h1, h2⟩ := ihc (i + 1) a ha
              exact ⟨q, a', e, by omega, by omega⟩
        constructor
        · simp only [J.chs, J.adr, J.sys, comp]
          rw [if_pos hn, if_pos hs]
          cases k with
          | false =>
            have e0 : chsF false (List.replicate n.toNat x.chs) 0 [] = x.chs.map ((0 : Int) :: ·) := by
              rw [em, List.replicate_succ, chsF]
              have e3 : chsGo false [] 0 x.chs = x.chs.map ((0 : Int) :: ·) := by simp [chsGo]
              rw [e3]
              exact chsF_stop (by simpa using cne) _ _
            rw [← e0, F]
            refine List.filter_congr fun a ha => ?_
            congr 1
            obtain ⟨q, a', rfl, h1, h2⟩ := bound _ _ a ha
            rw [J.cf, cpFF, ff _ _ _ _ h1 h2]
            simp [J.cp]
          | true =>
            have e0 : (chsF true (List.replicate n.toNat x.chs) 0 []).filter (fun a => a.head? == some 0) = x.chs.map ((0 : Int) :: ·) := by
              rw [em, List.replicate_succ, chsF]
              have e3 : chsGo true [] 0 x.chs = x.chs.map ((0 : Int) :: ·) := by simp [chsGo]
              rw [e3, chsF_acc, List.filter_append]
              have hne2 : ∀ p ∈ List.replicate m x.cp, cpA p ≠ [] → cpC p ≠ [] := by
                intro p hp _
                obtain ⟨_, rfl⟩ := List.mem_replicate.mp hp
                rw [cC]
                exact cne
              have F2 := chsF_filter (k := true) (List.replicate m x.cp) (0 + 1) hne2
              simp only [List.map_replicate, J.cp_A, cC] at F2
              have z2 : (chsF true (List.replicate m x.chs) (0 + 1) []).filter (fun a => a.head? == some 0) = [] := by
                rw [List.filter_eq_nil_iff]
                intro a ha
                rw [F2] at ha
                obtain ⟨q, a', rfl, h1⟩ := idx_head (List.mem_filter.mp ha).1
                simp
                omega
              rw [z2, List.append_nil, List.filter_eq_self]
              intro a ha
              obtain ⟨b, _, rfl⟩ := List.mem_map.mp ha
              simp
            rw [← e0, F, List.filter_filter]
            refine List.filter_congr fun a ha => ?_
            obtain ⟨q, a', rfl, h1, h2⟩ := bound _ _ a ha
            rw [J.cf, cpFF, ff _ _ _ _ h1 h2]
            simp only [List.head?_cons, Bool.not_true, Bool.false_or]
            have : ((some q : Option Int) == some 0) = (q == 0) := rfl
            rw [this]
            cases (q == 0) <;> simp [J.cp]
        · intro _
          simp only [J.chs]
          rw [if_pos hn]
          simpa using cne
      · constructor
        · simp only [J.chs, J.adr]
          have : n.toNat = 0 := by omega
          rw [if_neg hn, if_pos hs, this]
          rfl
        · intro hA
          simp only [J.adr] at hA
          have : n.toNat = 0 := by omega
          rw [if_pos hs, this] at hA
          exact absurd rfl hA
    · have xe : x.adr = [] := List.eq_nil_of_length_eq_zero (by have := J.steps_nn' x h.2.1; omega)
      have ce : x.chs = [] := by rw [i1, xe]; rfl
      constructor
      · simp only [J.chs, J.adr]
        rw [if_neg hs, ce]
        simp [idx]
      · intro hA
        simp only [J.adr] at hA
        rw [if_neg hs] at hA
        exact absurd rfl hA
theorem J.chss_eq2 : ∀ xs : List J, J.stbL xs → ∀ x ∈ xs, x.chs = (x.adr.filter fun a => mins x.adr x.sys.ahead a && x.cf a) ∧ (x.adr ≠ [] → x.chs ≠ [])
  | x :: xs, h, y, hy => by
    simp only [J.stbL] at h
    rcases List.mem_cons.mp hy with e | hy
    · rw [e]
      exact J.chs_eq x h.1
    · exact J.chss_eq2 xs h.2 y hy
end
theorem J.chs_adr {j : J} (h : j.stb) : ∀ a ∈ j.chs, a ∈ j.adr := fun a ha => by
  rw [(J.chs_eq j h).1] at ha
  exact (List.mem_filter.mp ha).1
theorem J.chs_min {j : J} (h : j.stb) {a b : List Int} (ha : a ∈ j.chs) (hb : b ∈ j.adr) : j.sys.ahead b a = false := by
  rw [(J.chs_eq j h).1] at ha
  have h1 := (List.mem_filter.mp ha).2
  rw [Bool.and_eq_true] at h1
  have h2 := List.all_eq_true.mp h1.1 b hb
  simpa using h2
/-! block Step25: _law_great, _law_step, _law_long_step (behind bSrc) -/
abbrev E61 : Int := 9999999999999999999999999999999999999999999999999999999999999
def spGreat : Sp := fun vs H Q _ => ∃ (p : Addr) (n : Nat) (m : Int), vs = [.ref p, .int m] ∧ Pot H p n ∧ n + 4 ≤ 1099511627776 ∧ 0 < m ∧
  ∀ (H' : Hp) (r : Int), Sx p H H' → Pot H' p (n + 4) → 0 ≤ r → r < m → Q (.int r) H'
def spStep : Sp := fun vs H Q _ => ∃ (p : Addr) (n : Nat), vs = [.ref p] ∧ Pot H p n ∧ n + 10 ≤ 1099511627776 ∧
  ∀ (H' : Hp) (r : Int), Sx p H H' → Pot H' p (n + 10) → -M30 ≤ r → r ≤ M30 → Q (.int r) H'
def spLong : Sp := fun vs H Q _ => ∃ (p : Addr) (n : Nat), vs = [.ref p] ∧ Pot H p n ∧ n + 5 ≤ 1099511627776 ∧
  ∀ (H' : Hp) (r : Int), Sx p H H' → Pot H' p (n + 5) → -E61 ≤ r → r ≤ E61 → Q (.int r) H'
/-- how great it can be after so many turns -/
def gB : Nat → Int
  | 0 => 1
  | 1 => 1000000000
  | 2 => 1000000000000000000
  | 3 => 1000000000000000000000000000
  | _ => 1000000000000000000000000000000000000
section
variable {P : Program} {w : World} {K : PySem.W.Frag} {mg : Str → Option Value} {base : Heap}
theorem ok_great (T : Txt K mg) : FnOk P w K mg base CX0 2 T.f__law_great T.d__law_great ["_law_source_here", "_law_many"] spGreat := by
  have g__law_draw : FnOk P w K mg base CX0 1 T.f__law_draw T.d__law_draw ["_law_source_here", "_law_many"] spTake := ok_take T
  refine T.F__law_great.ok sc__law_great (fun vs H Q E h => ?_) (fun cdv A outer s H vs Q E hr h => ?_)
  · obtain ⟨p, n, m, rfl, _⟩ := h
    rfl
  obtain ⟨p, n, m, rfl, hp, hn, hm, q⟩ := h
  have e9 : (10 : Int) ^ (9 : Int).toNat = 1000000000 := by decide
  refine ⟨_, (pss_cons (ps_set (i := 2) sc__law_great.nd rfl (Or.inl rfl) pe_int)
      (pss_cons (ps_for PassesOwn.never rfl (pi_range1 rfl T.n_range (pa_cons pe_int pa_nil)) (pg_name (i := 3) sc__law_great.nd rfl (Or.inl rfl))
        (pss_one (ps_set (i := 2) sc__law_great.nd rfl (Or.inl rfl) (pe_op op_add (pe_op op_mulW (pv 2) (pe_op op_powW pe_int pe_int)) (pe_call g__law_draw (hr.mono (by omega)) rfl T.m__law_draw T.F__law_draw.kp T.b__law_draw .nil pass0 (pa_cons (pv 0) (pa_cons (pe_op op_powW pe_int pe_int) pa_nil)))))))
      (pss_one (ps_ret (pe_op op_mod (pv 2) (pv 1)))))), ?_⟩
  refine ⟨_, rfl, by decide, by decide, ?_⟩
  refine for_range (lo := 0) (n := (4 : Int).toNat) (fun i σ G => ∃ (f : Int) (y3 : Option V), σ = [some (.ref p), some (.int m), some (.int f), y3] ∧ Sx p H G ∧ Pot G p (n + i) ∧ 0 ≤ f ∧ f < gB i) ⟨0, none, rfl, Sx.refl, hp, by decide, by decide⟩ ?_ ?_
  · rintro i σ G hi ⟨f, y3, rfl, s0, hp0, f0, f1⟩
    have hi4 : i < 4 := hi
    have fb : f < 1000000000000000000000000000 := by
      rcases (by omega : i = 0 ∨ i = 1 ∨ i = 2 ∨ i = 3) with rfl | rfl | rfl | rfl <;> simp only [gB] at f1 <;> omega
    refine ⟨_, rfl, _, _, rfl, rfl, powW_of 4 (by decide) (by decide) (by decide), _, _, rfl, rfl, ?_⟩
    dsimp only
    rw [e9]
    refine ⟨wide_mul (a := 128) (b := 64) (by omega) (by decide) (by decide) (by decide) (by decide), ?_⟩
    refine ⟨_, rfl, _, _, rfl, rfl, powW_of 4 (by decide) (by decide) (by decide), ?_⟩
    dsimp only
    rw [e9]
    refine ⟨p, _, _, rfl, hp0, by omega, by decide, by decide, fun G1 r s1 hp1 r0 r1 => ?_⟩
    refine ⟨_, _, rfl, rfl, ?_⟩
    refine ⟨_, _, rfl, s0.trans s1, hp1, by omega, ?_⟩
    rcases (by omega : i = 0 ∨ i = 1 ∨ i = 2 ∨ i = 3) with rfl | rfl | rfl | rfl <;> simp only [gB] at f1 ⊢ <;> omega
  · rintro σ G ⟨f, y3, rfl, s0, hp0, f0, f1⟩
    refine ⟨_, rfl, _, rfl, _, _, rfl, rfl, hm, ?_⟩
    exact q _ _ s0 hp0 (Int.emod_nonneg _ (by omega)) (Int.emod_lt_of_pos _ hm)
theorem ok_step (T : Txt K mg) : FnOk P w K mg base CX0 3 T.f__law_step T.d__law_step ["_law_source_here"] spStep := by
  have g__law_draw : FnOk P w K mg base CX0 1 T.f__law_draw T.d__law_draw ["_law_source_here", "_law_many"] spTake := ok_take T
  have g__law_great := ok_great (P := P) (w := w) (base := base) T
  refine T.F__law_step.ok sc__law_step (fun vs H Q E h => ?_) (fun cdv A outer s H vs Q E hr h => ?_)
  · obtain ⟨p, n, rfl, _⟩ := h
    rfl
  obtain ⟨p, n, rfl, hp, hn, q⟩ := h
  have e30 : (10 : Int) ^ (30 : Int).toNat = M30 := by decide
  have e18 : (10 : Int) ^ (18 : Int).toNat = 1000000000000000000 := by decide
  refine ⟨_, (pss_cons (ps_set (i := 1) sc__law_step.nd rfl (Or.inl rfl) (pe_call g__law_draw (hr.mono (by omega)) rfl T.m__law_draw T.F__law_draw.kp T.b__law_draw .nil pass0 (pa_cons (pv 0) (pa_cons pe_int pa_nil))))
      (pss_cons (ps_if (pt_cmpR op_lt (pv 1) pe_int (nomark _)) (pss_one (ps_ret (pe_op op_sub (pe_call g__law_draw (hr.mono (by omega)) rfl T.m__law_draw T.F__law_draw.kp T.b__law_draw .nil pass0 (pa_cons (pv 0) (pa_cons pe_int pa_nil))) pe_int))) pss_nil)
      (pss_cons (ps_if (pt_cmpR op_lt (pv 1) pe_int (nomark _)) (pss_one (ps_ret (pe_ix (r := rIxL K) ix_list (pe_lst (pa_cons pe_int (pa_cons pe_int (pa_cons (pe_un un_neg pe_int) (pa_cons pe_int (pa_cons (pe_un un_neg pe_int) (pa_cons pe_int pa_nil))))))) (pe_call g__law_draw (hr.mono (by omega)) rfl T.m__law_draw T.F__law_draw.kp T.b__law_draw .nil pass0 (pa_cons (pv 0) (pa_cons pe_int pa_nil))) (fun _ _ => rfl)))) pss_nil)
      (pss_cons (ps_if (pt_cmpR op_lt (pv 1) pe_int (nomark _)) (pss_one (ps_ret (pe_op op_sub (pe_call g__law_draw (hr.mono (by omega)) rfl T.m__law_draw T.F__law_draw.kp T.b__law_draw .nil pass0 (pa_cons (pv 0) (pa_cons pe_int pa_nil))) pe_int))) pss_nil)
      (pss_cons (ps_set (i := 2) sc__law_step.nd rfl (Or.inl rfl) (pe_lst (pa_cons (pe_op op_powW pe_int pe_int) (pa_cons (pe_op op_sub pe_int (pe_op op_powW pe_int pe_int)) (pa_cons (pe_op op_powW pe_int pe_int) (pa_cons (pe_call g__law_great (hr.mono (by omega)) rfl T.m__law_great T.F__law_great.kp T.b__law_great .nil pass0 (pa_cons (pv 0) (pa_cons (pe_op op_powW pe_int pe_int) pa_nil))) (pa_cons (pe_op op_sub pe_int (pe_call g__law_great (hr.mono (by omega)) rfl T.m__law_great T.F__law_great.kp T.b__law_great .nil pass0 (pa_cons (pv 0) (pa_cons (pe_op op_powW pe_int pe_int) pa_nil)))) pa_nil)))))))
      (pss_one (ps_ret (pe_ix (r := rIxL K) ix_list (pv 2) (pe_call g__law_draw (hr.mono (by omega)) rfl T.m__law_draw T.F__law_draw.kp T.b__law_draw .nil pass0 (pa_cons (pv 0) (pa_cons pe_int pa_nil))) (fun _ _ => rfl))))))))), ?_⟩
  refine ⟨_, rfl, p, n, 12, rfl, hp, by omega, by decide, by decide, fun H1 r1 s1 hp1 h0 h1 => ?_⟩
  refine ⟨_, rfl, _, _, rfl, rfl, _, rfl, ?_⟩
  refine ite2 (fun g => ?_) (fun g => ?_)
  · refine ⟨_, rfl, p, _, 13, rfl, hp1, by omega, by decide, by decide, fun H2 r2 s2 hp2 k0 k1 => ?_⟩
    refine ⟨_, _, rfl, rfl, ?_⟩
    refine q _ _ (s1.trans s2) (hp2.mono (by omega)) ?_ ?_ <;> simp only [M30] <;> omega
  refine ⟨_, rfl, _, _, rfl, rfl, _, rfl, ?_⟩
  refine ite2 (fun g => ?_) (fun g => ?_)
  · refine ⟨_, rfl, _, rfl, (by show 6 ≤ sizeLine; decide), fun l hl => ?_⟩
    have el : upd H1 l (.lst [.int 0, .int 1, .int (-1), .int 2, .int (-2), .int 9]) l = some (.lst ([0, 1, -1, 2, -2, 9].map V.int)) := upd_same
    have hp2 := hp1.same (same_new (o := .lst [.int 0, .int 1, .int (-1), .int 2, .int (-2), .int 9]) hl)
    refine ⟨_, rfl, p, _, 6, rfl, hp2, by omega, by decide, by decide, fun H2 r2 s2 hp3 k0 k1 => ?_⟩
    obtain ⟨z, hz, ez⟩ := atI_int (ns := [0, 1, -1, 2, -2, 9]) k0 k1
    obtain ⟨lp, hlp⟩ := hp1.lst
    have nlp : l ≠ p := fun e => by rw [e, hlp] at hl; cases hl
    refine ⟨_, _, _, _, rfl, rfl, SqL.of (s2 l _ nlp el), ez, ?_⟩
    refine q _ _ (s1.trans ((sx_new hl).trans s2)) (hp3.mono (by omega)) ?_ ?_ <;> simp only [List.mem_cons, List.not_mem_nil, or_false] at hz <;> simp only [M30] <;> omega
  refine ⟨_, rfl, _, _, rfl, rfl, _, rfl, ?_⟩
  refine ite2 (fun g => ?_) (fun g => ?_)
  · refine ⟨_, rfl, p, _, 201, rfl, hp1, by omega, by decide, by decide, fun H2 r2 s2 hp2 k0 k1 => ?_⟩
    refine ⟨_, _, rfl, rfl, ?_⟩
    refine q _ _ (s1.trans s2) (hp2.mono (by omega)) ?_ ?_ <;> simp only [M30] <;> omega
  refine ⟨_, _, rfl, rfl, powW_of 4 (by decide) (by decide) (by decide), ?_⟩
  refine ⟨_, _, rfl, rfl, powW_of 4 (by decide) (by decide) (by decide), _, _, rfl, rfl, ?_⟩
  refine ⟨_, _, rfl, rfl, powW_of 4 (by decide) (by decide) (by decide), ?_⟩
  refine ⟨_, rfl, _, _, rfl, rfl, powW_of 4 (by decide) (by decide) (by decide), p, _, _, rfl, hp1, by omega, by decide, fun H2 r2 s2 hp2 k0 k1 => ?_⟩
  refine ⟨_, rfl, _, _, rfl, rfl, powW_of 4 (by decide) (by decide) (by decide), p, _, _, rfl, hp2, by omega, by decide, fun H3 r3 s3 hp3 j0 j1 => ?_⟩
  refine ⟨_, _, rfl, rfl, ?_⟩
  dsimp only
  rw [e30, e18]
  rw [e30] at k1 j1
  refine ⟨(by show 5 ≤ sizeLine; decide), fun l hl => ?_⟩
  have el : upd H3 l (.lst [.int M30, .int (0 - M30), .int 1000000000000000000, .int r2, .int (0 - r3)]) l = some (.lst ([M30, 0 - M30, 1000000000000000000, r2, 0 - r3].map V.int)) := upd_same
  have hp4 := hp3.same (same_new (o := .lst [.int M30, .int (0 - M30), .int 1000000000000000000, .int r2, .int (0 - r3)]) hl)
  refine ⟨_, rfl, _, rfl, p, _, 5, rfl, hp4, by omega, by decide, by decide, fun H4 r4 s4 hp5 i0 i1 => ?_⟩
  obtain ⟨z, hz, ez⟩ := atI_int (ns := [M30, 0 - M30, 1000000000000000000, r2, 0 - r3]) i0 i1
  obtain ⟨lp, hlp⟩ := hp3.lst
  have nlp : l ≠ p := fun e => by rw [e, hlp] at hl; cases hl
  refine ⟨_, _, _, _, rfl, rfl, SqL.of (s4 l _ nlp el), ez, ?_⟩
  refine q _ _ (s1.trans (s2.trans (s3.trans ((sx_new hl).trans s4)))) (hp5.mono (by omega)) ?_ ?_ <;> simp only [List.mem_cons, List.not_mem_nil, or_false] at hz <;> simp only [M30] at * <;> omega
end

/-! block JobW: _law_empty, _law_job of twelve ways, up to four levels (behind bStates; after bJob30) -/
def TW12 : Nat → Nat
  | 0 => 40
  | n + 1 => 40 + 4 * TW12 n
/-- nodes of a job of n levels -/
def NW12 : Nat → Int
  | 0 => 4
  | 1 => 4
  | n + 2 => 1 + 4 * NW12 (n + 1)
theorem NW12_pos : ∀ n, 4 ≤ NW12 n
  | 0 => by decide
  | 1 => by decide
  | n + 2 => by have := NW12_pos (n + 1); simp only [NW12]; omega
theorem roundedL_all : ∀ {xs : List J}, (∀ x ∈ xs, x.rounded) → J.roundedL xs
  | [], _ => trivial
  | x :: xs, h => ⟨h x (List.mem_cons_self ..), roundedL_all fun y hy => h y (List.mem_cons_of_mem _ hy)⟩
structure JW12 (n : Nat) (most : Int) (j : J) : Prop where
  ok : j.ok
  rounded : j.rounded
  deep : j.deep ≤ max n 1 + 2
  nodes : j.nodes ≤ NW12 n
  nn : 0 ≤ j.steps
  le : j.steps ≤ most
structure JsW12 (n : Nat) (most : Int) (js : List J) : Prop where
  ok : ∀ x ∈ js, x.ok ∧ x.rounded
  deep : J.deepL js ≤ max n 1 + 2
  nodes : J.nodesL js ≤ NW12 n * js.length
  nn : 0 ≤ J.stepsL js
  le : J.stepsL js ≤ most
theorem JsW12.nil {n : Nat} {most : Int} (h : 0 ≤ most) : JsW12 n most [] := ⟨(fun x hx => nomatch hx), by simp [J.deepL], by simp [J.nodesL], by simp [J.stepsL], by simpa [J.stepsL] using h⟩
theorem JsW12.snoc {n : Nat} {a b : Int} {js : List J} {j : J} (h : JsW12 n a js) (g : JW12 n b j) : JsW12 n (a + b) (js ++ [j]) := by
  refine ⟨fun x hx => ?_, ?_, ?_, ?_, ?_⟩
  · rcases List.mem_append.mp hx with hx | hx
    · exact h.ok x hx
    · rw [List.mem_singleton.mp hx]
      exact ⟨g.ok, g.rounded⟩
  · rw [J.deepL_app]
    have := h.deep
    have := g.deep
    simp only [J.deepL]
    omega
  · have h1 := h.nodes
    have h2 := g.nodes
    rw [J.nodesL_app, List.length_append, List.length_singleton, Int.natCast_add, Int.mul_add]
    simp only [J.nodesL, Int.natCast_one, Int.mul_one]
    omega
  · rw [J.stepsL_app]
    have := h.nn
    have := g.nn
    simp only [J.stepsL]
    omega
  · rw [J.stepsL_app]
    have := h.le
    have := g.le
    simp only [J.stepsL]
    omega
theorem JW12.step {n : Nat} {most i : Int} (h0 : 1 ≤ most) (h1 : -M30 ≤ i) (h2 : i ≤ M30) : JW12 n most (.st i) := by
  have := NW12_pos n
  exact ⟨by simp only [J.ok]; exact ⟨h1, h2⟩, trivial, by simp only [J.deep]; omega, by simp only [J.nodes]; omega, by simp only [J.steps]; omega, by simp only [J.steps]; exact h0⟩
theorem JW12.parts {n : Nat} {k : Bool} {most : Int} {js : List J} (h : JsW12 (n + 1) most js) (hl : js.length ≤ 4) (h10 : most ≤ 20) : JW12 (n + 2) most (.ps k js) := by
  have h1 := h.deep
  have h2 := h.nodes
  have h3 := h.le
  have h4 := h.nn
  have hp := NW12_pos (n + 1)
  refine ⟨?_, roundedL_all fun x hx => (h.ok x hx).2, ?_, ?_, h4, h3⟩
  · simp only [J.ok]
    exact ⟨by omega, (J.okL_iff js).mpr fun x hx => (h.ok x hx).1, by simp only [M30]; omega⟩
  · simp only [J.deep]
    omega
  · have : NW12 (n + 1) * (js.length : Int) ≤ NW12 (n + 1) * 4 := Int.mul_le_mul_of_nonneg_left (by omega) (by omega)
    simp only [J.nodes, NW12]
    omega
theorem JW12.rounds {n : Nat} {k : Bool} {most c : Int} {x : J} (h : JW12 (n + 1) (most / (if c > 1 then c else 1)) x) (h0 : 0 ≤ c) (h3 : c ≤ 3) (hm : 1 ≤ most) (h10 : most ≤ 20) : JW12 (n + 2) most (.rn k c x) := by
  have h1 := h.deep
  have h2 := h.nodes
  have h4 := h.le
  have h5 := h.nn
  have hp := NW12_pos (n + 1)
  have st : 0 ≤ x.steps * c ∧ x.steps * c ≤ most := by
    have hc : c = 0 ∨ c = 1 ∨ c = 2 ∨ c = 3 := by omega
    rcases hc with rfl | rfl | rfl | rfl
    · simp; omega
    · simp at h4 ⊢
      omega
    · rw [if_pos (by decide)] at h4
      omega
    · rw [if_pos (by decide)] at h4
      omega
  refine ⟨?_, ?_, ?_, ?_, st.1, st.2⟩
  · simp only [J.ok, M30]
    exact ⟨by omega, h.ok, by omega⟩
  · exact ⟨by omega, h.rounded⟩
  · simp only [J.deep]
    omega
  · simp only [J.nodes, NW12]
    omega
theorem JsW12.up {n : Nat} {a b : Int} {js : List J} (h : JsW12 n a js) (e : a ≤ b) : JsW12 n b js := ⟨h.ok, h.deep, h.nodes, h.nn, Int.le_trans h.le e⟩
def empties : List J := [.ps false [], .ps true [], .rn false 0 (.st 5), .rn true 0 (.ps false [.st 1, .st (-2)])]
theorem empty_ok {n : Nat} {most : Int} (hz : 0 ≤ most) {j : J} (hj : j ∈ empties) : JW12 n most j := by
  have := NW12_pos n
  simp only [empties, List.mem_cons, List.not_mem_nil, or_false] at hj
  rcases hj with rfl | rfl | rfl | rfl <;> refine ⟨?_, ?_, ?_, ?_, ?_, ?_⟩ <;> simp only [J.ok, J.okL, J.rounded, J.roundedL, J.deep, J.deepL, J.nodes, J.nodesL, J.steps, J.stepsL, M30, List.length_cons, List.length_nil] <;> first | omega | exact ⟨by omega, trivial⟩ | (refine ⟨by omega, ⟨by omega, ⟨by omega, by omega, trivial⟩, by omega⟩, by omega⟩) | (refine ⟨by omega, by omega, by omega⟩) | exact ⟨by omega, trivial, trivial, trivial⟩ | (exact ⟨by omega, trivial, by omega⟩)
def spEmpty16 (K : PySem.W.Frag) : Sp := fun vs H Q _ => ∃ (p : Addr) (m : Nat), vs = [.ref p] ∧ Pot H p m ∧ m + 1 ≤ 1099511627776 ∧
  ∀ (H' : Hp) (r : V) (j : J), Sx p H H' → Pot H' p (m + 1) → Dp K H' r j.toD → j ∈ empties → Q r H'
def spJob12 (K : PySem.W.Frag) (n : Nat) : Sp := fun vs H Q _ => ∃ (p : Addr) (m : Nat) (most : Int), vs = [.ref p, .int most, .int (n : Int)] ∧ Pot H p m ∧ m + TW12 n ≤ 1099511627776 ∧ 0 ≤ most ∧ most ≤ 12 ∧
  ∀ (H' : Hp) (r : V) (j : J), Sx p H H' → Pot H' p (m + TW12 n) → Dp K H' r j.toD → JW12 n most j → Q r H'
def spJobs12 (K : PySem.W.Frag) (n : Nat) : Sp := fun vs H Q E => ∃ d, d < n ∧ spJob12 K d vs H Q E
section
variable {P : Program} {w : World} {K : PySem.W.Frag} {mg : Str → Option Value} {base : Heap}
theorem ok_empty16 (T : Txt K mg) : FnOk P w K mg base CX0 2 T.f__law_empty T.d__law_empty ["_law_source_here"] (spEmpty16 K) := by
  have g__law_draw : FnOk P w K mg base CX0 1 T.f__law_draw T.d__law_draw ["_law_source_here", "_law_many"] spTake := ok_take T
  refine T.F__law_empty.ok sc__law_empty (fun vs H Q E h => ?_) (fun cdv A outer s H vs Q E hr h => ?_)
  · obtain ⟨p, m, rfl, _⟩ := h
    rfl
  obtain ⟨p, m, rfl, hp, hm, q⟩ := h
  refine ⟨_, (pss_one (ps_ret (pe_ix (r := rIxL K) ix_list (pe_lst (pa_cons (pe_tup (pa_cons pe_str (pa_cons (pe_tup pa_nil) pa_nil))) (pa_cons (pe_tup (pa_cons pe_str (pa_cons (pe_tup pa_nil) pa_nil))) (pa_cons (pe_tup (pa_cons pe_str (pa_cons pe_int (pa_cons pe_int pa_nil)))) (pa_cons (pe_tup (pa_cons pe_str (pa_cons pe_int (pa_cons (pe_tup (pa_cons pe_str (pa_cons (pe_tup (pa_cons pe_int (pa_cons (pe_un un_neg pe_int) pa_nil))) pa_nil))) pa_nil)))) pa_nil))))) (pe_call g__law_draw (hr.mono (by omega)) rfl T.m__law_draw T.F__law_draw.kp T.b__law_draw .nil pass0 (pa_cons (pv 0) (pa_cons pe_int pa_nil))) (fun _ _ => rfl)))), ?_⟩
  refine ⟨(by show 0 ≤ sizeLine; decide), fun b1 hb1 => ?_⟩
  obtain ⟨w1, k1⟩ := tup_fresh (K := K) (ds := []) hb1 .nil
  generalize (upd H b1 (.tup [])) = F1 at w1 k1 ⊢
  refine ⟨(by show 2 ≤ sizeLine; decide), fun b2 hb2 => ?_⟩
  obtain ⟨w2, k2⟩ := tup_fresh (K := K) (ds := [.str "seq", .tuple []]) hb2 (.cons (.str _) (.cons k1 .nil))
  generalize (upd F1 b2 (.tup [.str "seq", .ref b1])) = F2 at w2 k2 ⊢
  refine ⟨(by show 0 ≤ sizeLine; decide), fun b3 hb3 => ?_⟩
  obtain ⟨w3, k3⟩ := tup_fresh (K := K) (ds := []) hb3 .nil
  generalize (upd F2 b3 (.tup [])) = F3 at w3 k3 ⊢
  refine ⟨(by show 2 ≤ sizeLine; decide), fun b4 hb4 => ?_⟩
  obtain ⟨w4, k4⟩ := tup_fresh (K := K) (ds := [.str "par", .tuple []]) hb4 (.cons (.str _) (.cons k3 .nil))
  generalize (upd F3 b4 (.tup [.str "par", .ref b3])) = F4 at w4 k4 ⊢
  refine ⟨(by show 3 ≤ sizeLine; decide), fun b5 hb5 => ?_⟩
  obtain ⟨w5, k5⟩ := tup_fresh (K := K) (ds := [.str "repeat", .int 0, .int 5]) hb5 (.cons (.str _) (.cons (.int _) (.cons (.int _) .nil)))
  generalize (upd F4 b5 (.tup [.str "repeat", .int 0, .int 5])) = F5 at w5 k5 ⊢
  refine ⟨_, rfl, (by show 2 ≤ sizeLine; decide), fun b6 hb6 => ?_⟩
  obtain ⟨w6, k6⟩ := tup_fresh (K := K) (ds := [.int 1, .int (-2)]) hb6 (.cons (.int _) (.cons (.int _) .nil))
  generalize (upd F5 b6 (.tup [.int 1, .int (-2)])) = F6 at w6 k6 ⊢
  refine ⟨(by show 2 ≤ sizeLine; decide), fun b7 hb7 => ?_⟩
  obtain ⟨w7, k7⟩ := tup_fresh (K := K) (ds := [.str "seq", .tuple [.int 1, .int (-2)]]) hb7 (.cons (.str _) (.cons k6 .nil))
  generalize (upd F6 b7 (.tup [.str "seq", .ref b6])) = F7 at w7 k7 ⊢
  refine ⟨(by show 3 ≤ sizeLine; decide), fun b8 hb8 => ?_⟩
  obtain ⟨w8, k8⟩ := tup_fresh (K := K) (ds := [.str "copies", .int 0, .tuple [.str "seq", .tuple [.int 1, .int (-2)]]]) hb8 (.cons (.str _) (.cons (.int _) (.cons k7 .nil)))
  generalize (upd F7 b8 (.tup [.str "copies", .int 0, .ref b7])) = F8 at w8 k8 ⊢
  refine ⟨(by show 4 ≤ sizeLine; decide), fun b9 hb9 => ?_⟩
  have w9 : Same F8 (upd F8 b9 (.lst [.ref b2, .ref b4, .ref b5, .ref b8])) := same_new hb9
  have e9 : upd F8 b9 (.lst [.ref b2, .ref b4, .ref b5, .ref b8]) b9 = some (.lst [.ref b2, .ref b4, .ref b5, .ref b8]) := upd_same
  have w19 := w1.trans (w2.trans (w3.trans (w4.trans (w5.trans (w6.trans (w7.trans (w8.trans w9)))))))
  have hp9 := hp.same w19
  obtain ⟨lp, hlp⟩ := hp.lst
  have n9 : b9 ≠ p := fun z => by
    have := (w1.trans (w2.trans (w3.trans (w4.trans (w5.trans (w6.trans (w7.trans w8))))))) _ _ hlp
    rw [z, this] at hb9
    cases hb9
  have k2' := dp_same (w3.trans (w4.trans (w5.trans (w6.trans (w7.trans (w8.trans w9)))))) k2
  have k4' := dp_same (w5.trans (w6.trans (w7.trans (w8.trans w9)))) k4
  have k5' := dp_same (w6.trans (w7.trans (w8.trans w9))) k5
  have k8' := dp_same w9 k8
  generalize (upd F8 b9 (.lst [.ref b2, .ref b4, .ref b5, .ref b8])) = F9 at w19 e9 hp9 k2' k4' k5' k8' ⊢
  refine ⟨_, rfl, p, m, 4, rfl, hp9, by omega, by decide, by decide, fun H2 r2 s2 hp2 a0 a1 => ?_⟩
  obtain ⟨lp9, hlp9⟩ := hp9.lst
  obtain ⟨z, j, ez, dz, hj⟩ : ∃ z j, atI [V.ref b2, V.ref b4, V.ref b5, V.ref b8] r2 = some z ∧ Dp K F9 z j.toD ∧ j ∈ empties := by
    have h4 : r2 = 0 ∨ r2 = 1 ∨ r2 = 2 ∨ r2 = 3 := by omega
    rcases h4 with rfl | rfl | rfl | rfl
    · exact ⟨_, .ps false [], atI_at (j := 0) rfl rfl, k2', by simp [empties]⟩
    · exact ⟨_, .ps true [], atI_at (j := 1) rfl rfl, k4', by simp [empties]⟩
    · exact ⟨_, .rn false 0 (.st 5), atI_at (j := 2) rfl rfl, k5', by simp [empties]⟩
    · exact ⟨_, .rn true 0 (.ps false [.st 1, .st (-2)]), atI_at (j := 3) rfl rfl, k8', by simp [empties]⟩
  refine ⟨_, _, _, _, rfl, rfl, SqL.of (s2 b9 _ n9 e9), ez, ?_⟩
  exact q H2 z j ((Same.sx w19).trans s2) hp2 (dp_keep (fun b xs h => s2.sqT hlp9 h) j.noL dz) hj
theorem pick6 {a b c d e f r : Int} (h0 : 0 ≤ r) (h1 : r < 6) : ∃ x, atI [V.int a, V.int b, V.int c, V.int d, V.int e, V.int f] r = some (.int x) ∧ (x = a ∨ x = b ∨ x = c ∨ x = d ∨ x = e ∨ x = f) := by
  have h : r = 0 ∨ r = 1 ∨ r = 2 ∨ r = 3 ∨ r = 4 ∨ r = 5 := by omega
  rcases h with rfl | rfl | rfl | rfl | rfl | rfl
  · exact ⟨a, atI_at (j := 0) rfl rfl, .inl rfl⟩
  · exact ⟨b, atI_at (j := 1) rfl rfl, .inr (.inl rfl)⟩
  · exact ⟨c, atI_at (j := 2) rfl rfl, .inr (.inr (.inl rfl))⟩
  · exact ⟨d, atI_at (j := 3) rfl rfl, .inr (.inr (.inr (.inl rfl)))⟩
  · exact ⟨e, atI_at (j := 4) rfl rfl, .inr (.inr (.inr (.inr (.inl rfl))))⟩
  · exact ⟨f, atI_at (j := 5) rfl rfl, .inr (.inr (.inr (.inr (.inr rfl))))⟩
theorem ok_job12_next (T : Txt K mg) {n : Nat} (g__law_job : FnOk P w K mg base CX0 (n + 4) T.f__law_job T.d__law_job ["_law_source_here", "_law_most", "_law_deep"] (spJobs12 K n)) :
    FnOk P w K mg base CX0 (n + 5) T.f__law_job T.d__law_job ["_law_source_here", "_law_most", "_law_deep"] (spJobs12 K (n + 1)) := by
  have g__law_draw : FnOk P w K mg base CX0 1 T.f__law_draw T.d__law_draw ["_law_source_here", "_law_many"] spTake := ok_take T
  have g__law_step := ok_step (P := P) (w := w) (base := base) T
  have g__law_empty := ok_empty16 (P := P) (w := w) (base := base) T
  refine T.F__law_job.ok sc__law_job (fun vs H Q E h => ?_) (fun cdv A outer s H vs Q E hr h => ?_)
  · obtain ⟨d, _, p, m, most, rfl, _⟩ := h
    rfl
  obtain ⟨d, hd, p, m, most, rfl, hp, hm, m0, m12, q⟩ := h
  refine ⟨_, (pss_cons (ps_set (i := 3) sc__law_job.nd rfl (Or.inl rfl) (pe_call g__law_draw (hr.mono (by omega)) rfl T.m__law_draw T.F__law_draw.kp T.b__law_draw .nil pass0 (pa_cons (pv 0) (pa_cons pe_int pa_nil))))
      (pss_cons (ps_if (pt_cmpR op_lt (pv 1) pe_int (nomark _)) (pss_one (ps_ret (pe_call g__law_empty (hr.mono (by omega)) rfl T.m__law_empty T.F__law_empty.kp T.b__law_empty .nil pass0 (pa_cons (pv 0) pa_nil)))) pss_nil)
      (pss_cons (ps_if (PW.pt (pw_or (pt_cmpR op_lt (pv 2) pe_int (nomark _)) (pw_or (pt_cmpR op_lt (pv 1) pe_int (nomark _)) (pw_or1 (pt_cmpR op_lt (pv 3) pe_int (nomark _)))))) (pss_one (ps_ret (pe_call g__law_step (hr.mono (by omega)) rfl T.m__law_step T.F__law_step.kp T.b__law_step .nil pass0 (pa_cons (pv 0) pa_nil)))) pss_nil)
      (pss_cons (ps_if (pt_cmpR op_lt (pv 3) pe_int (nomark _)) (pss_cons (ps_par (i := 4) (j := 5) (by rfl) sc__law_job.nd rfl rfl (by decide) rfl rfl (pa_cons (pe_lst pa_nil) (pa_cons (pv 1) pa_nil)) (by rfl))
        (pss_cons (ps_for PassesOwn.never rfl (pi_range1 rfl T.n_range (pa_cons (pe_op op_add pe_int (pe_call g__law_draw (hr.mono (by omega)) rfl T.m__law_draw T.F__law_draw.kp T.b__law_draw .nil pass0 (pa_cons (pv 0) (pa_cons pe_int pa_nil)))) pa_nil)) (pg_name (i := 6) sc__law_job.nd rfl (Or.inl rfl))
          (pss_cons (ps_set (i := 7) sc__law_job.nd rfl (Or.inl rfl) (pe_op op_mulW (pe_callB (call_min2 rfl) (by rfl) T.n_min (by decide +kernel) (pa_cons (pv 5) (pa_cons (pe_op op_add pe_int (pe_call g__law_draw (hr.mono (by omega)) rfl T.m__law_draw T.F__law_draw.kp T.b__law_draw .nil pass0 (pa_cons (pv 0) (pa_cons (pe_op op_add (pe_op op_fdivW (pv 5) pe_int) pe_int) pa_nil)))) pa_nil))) (pe_callTy call_int1 (by rfl) T.n_int (by decide +kernel) (pa_cons (pe_cmpR op_gt (pe_call g__law_draw (hr.mono (by omega)) rfl T.m__law_draw T.F__law_draw.kp T.b__law_draw .nil pass0 (pa_cons (pv 0) (pa_cons pe_int pa_nil))) pe_int (nomark _)) pa_nil))))
          (pss_cons (ps_expr (pe_bm PySem.F.plainAttrs_list PySem.F.slot_list_append PySem.F.type_list_append mt_append (pv 4) (pa_cons (pe_call g__law_job (hr.mono (by omega)) rfl T.m__law_job T.F__law_job.kp T.b__law_job .nil pass0 (pa_cons (pv 0) (pa_cons (pv 7) (pa_cons (pe_op op_sub (pv 2) pe_int) pa_nil)))) pa_nil)))
          (pss_one (ps_set (i := 5) sc__law_job.nd rfl (Or.inl rfl) (pe_op op_sub (pv 5) (pv 7)))))))
        (pss_one (ps_ret (pe_tup (pa_cons (pe_ix (r := rIxL K) ix_list (pe_lst (pa_cons pe_str (pa_cons pe_str pa_nil))) (pe_op op_mod (pv 3) pe_int) (fun _ _ => rfl)) (pa_cons (pe_callTy (r := rTupS K) call_tupS (by rfl) T.n_tuple (by decide +kernel) (pa_cons (pv 4) pa_nil)) pa_nil))))))) pss_nil)
      (pss_cons (ps_set (i := 8) sc__law_job.nd rfl (Or.inl rfl) (pe_ix (r := rIxL K) ix_list (pe_lst (pa_cons pe_int (pa_cons pe_int (pa_cons pe_int (pa_cons pe_int (pa_cons pe_int (pa_cons pe_int pa_nil))))))) (pe_call g__law_draw (hr.mono (by omega)) rfl T.m__law_draw T.F__law_draw.kp T.b__law_draw .nil pass0 (pa_cons (pv 0) (pa_cons pe_int pa_nil))) (fun _ _ => rfl)))
      (pss_one (ps_ret (pe_tup (pa_cons (pe_ix (r := rIxL K) ix_list (pe_lst (pa_cons pe_str (pa_cons pe_str pa_nil))) (pe_op op_mod (pv 3) pe_int) (fun _ _ => rfl)) (pa_cons (pv 8) (pa_cons (pe_call g__law_job (hr.mono (by omega)) rfl T.m__law_job T.F__law_job.kp T.b__law_job .nil pass0 (pa_cons (pv 0) (pa_cons (pe_op op_fdivW (pv 1) (pe_callB (call_max2 rfl) (by rfl) T.n_max (by decide +kernel) (pa_cons pe_int (pa_cons (pv 8) pa_nil)))) (pa_cons (pe_op op_sub (pv 2) pe_int) pa_nil)))) pa_nil))))))))))), ?_⟩
  have tb : 40 ≤ TW12 d := by cases d <;> simp only [TW12] <;> omega
  refine ⟨_, rfl, p, m, 12, rfl, hp, by omega, by decide, by decide, fun H1 r1 s1 hp1 h0 h1 => ?_⟩
  refine ⟨_, rfl, _, _, rfl, rfl, _, rfl, ?_⟩
  -- nothing left
  refine ite2 (fun g => ?_) (fun g => ?_)
  · refine ⟨_, rfl, p, _, rfl, hp1, by omega, fun H2 r2 j2 s2 hp2 d2 e2 => ?_⟩
    exact q _ _ j2 (s1.trans s2) (hp2.mono (by omega)) d2 (empty_ok m0 e2)
  have mpos : 1 ≤ most := by
    have : ¬ most < 1 := fun z => g (decide_eq_true z)
    omega
  refine ⟨_, rfl, _, _, rfl, rfl, _, rfl, ?_⟩
  have one : ∀ (R : V → Hp → Prop), R = Q → spStep [.ref p] H1 R E0 := by
    rintro R rfl
    exact ⟨p, m + 1, rfl, hp1, by omega, fun H2 r2 s2 hp2 k0 k1 => q _ _ (.st r2) (s1.trans s2) (hp2.mono (by omega)) (.int _) (.step mpos k0 k1)⟩
  refine ite2 (fun g2 => ?_) (fun g2 => ?_)
  · refine iteT ⟨_, rfl, ?_⟩
    exact one _ rfl
  have d2 : 2 ≤ d := by
    have g' : ¬ ((d : Int) < 2) := fun z => g2 (decide_eq_true z)
    omega
  obtain ⟨e, rfl⟩ : ∃ e, d = e + 2 := ⟨d - 2, by omega⟩
  refine ⟨_, rfl, _, _, rfl, rfl, _, rfl, ?_⟩
  refine ite2 (fun g3 => ?_) (fun g3 => ?_)
  · refine iteT ⟨_, rfl, ?_⟩
    exact one _ rfl
  refine ⟨_, rfl, _, _, rfl, rfl, _, rfl, ?_⟩
  refine ite2 (fun g5 => ?_) (fun g5 => ?_)
  · refine ⟨_, rfl, ?_⟩
    exact one _ rfl
  refine ⟨_, rfl, _, _, rfl, rfl, _, rfl, ?_⟩
  have etb : TW12 (e + 2) = 40 + 4 * TW12 (e + 1) := rfl
  have tb1 : 40 ≤ TW12 (e + 1) := by simp only [TW12]; omega
  obtain ⟨lp, hlp⟩ := hp1.lst
  refine ite2 (fun g4 => ?_) (fun g4 => ?_)
  · -- parts
    refine ⟨(by show 0 ≤ sizeLine; decide), fun D hD => ?_⟩
    refine ⟨_, rfl, _, _, rfl, ?_⟩
    have nDp : D ≠ p := fun y => by
      rw [y, hlp] at hD
      cases hD
    have uD : Same H1 (upd H1 D (.lst [])) := same_new hD
    have eD : upd H1 D (.lst []) D = some (.lst []) := upd_same
    have hp1D := hp1.same uD
    generalize (upd H1 D (.lst [])) = G0 at uD eD hp1D ⊢
    refine ⟨_, rfl, p, m + 1, 3, rfl, hp1D, by omega, by decide, by decide, fun H2 r2 s2 hp2 k0 k1 => ?_⟩
    refine ⟨_, _, rfl, rfl, ?_⟩
    refine ⟨_, rfl, by omega, by omega, ?_⟩
    have sx2 : Sx p H1 H2 := (Same.sx uD).trans s2
    have eD2 := s2 D _ nDp eD
    refine for_range (lo := 0) (n := (2 + r2).toNat) (fun i σ G => ∃ (left : Int) (js : List J) (y6 y7 y8 : Option V) (vs : List V), σ = [some (.ref p), some (.int most), some (.int ((e + 2 : Nat) : Int)), some (.int r1), some (.ref D), some (.int left), y6, y7, y8] ∧ js.length ≤ i ∧ Sx p H1 G ∧ Pot G p (m + 2 + (TW12 (e + 1) + 2) * i) ∧ 0 ≤ left ∧
        JsW12 (e + 1) (most - left) js ∧ G D = some (.lst vs) ∧ DpAll K G vs (J.toDs js))
      ⟨most, [], none, none, none, [], rfl, Nat.le_refl _, sx2, hp2, m0, .nil (by omega), eD2, .nil⟩ ?_ ?_
    · rintro i σ G hi ⟨left, js, y6, y7, y8, vs, rfl, jl, sG, hpG, l0, J0, eG, dG⟩
      have hi4 : i < 4 := by omega
      have b1 : (TW12 (e + 1) + 2) * i ≤ (TW12 (e + 1) + 2) * 3 := Nat.mul_le_mul_left _ (by omega)
      have b2 : (TW12 (e + 1) + 2) * (i + 1) = (TW12 (e + 1) + 2) * i + (TW12 (e + 1) + 2) := Nat.mul_succ _ _
      have lm : left ≤ most := by have := J0.nn; have := J0.le; omega
      refine ⟨_, rfl, _, rfl, _, rfl, _, _, rfl, rfl, ?_, ?_⟩
      · exact wide_div (b := 10) (by decide) (Nat.lt_of_le_of_lt (show _ ≤ 3 by decide) (by decide)) (by decide) (by decide)
      refine ⟨_, _, rfl, rfl, p, _, left / 2 + 1, rfl, hpG, by omega, by omega, Nat.lt_of_le_of_lt (show (left / 2 + 1).natAbs ≤ 12 by omega) (by decide), fun G5 r5 s5 hp5 a5 b5 => ?_⟩
      refine ⟨_, _, rfl, rfl, ?_⟩
      refine ⟨_, _, rfl, ?_⟩
      refine ⟨_, rfl, p, _, 9, rfl, hp5, by omega, by decide, by decide, fun G6 r6 s6 hp6 a6 b6 => ?_⟩
      refine ⟨_, _, rfl, rfl, .inr ⟨_, rfl, ?_⟩⟩
      obtain ⟨few, efew, f0, fl⟩ : ∃ few : Int, (if 1 + r5 < left then 1 + r5 else left) * (if decide (0 < r6) = true then 1 else 0) = few ∧ 0 ≤ few ∧ few ≤ left := by
        refine ⟨_, rfl, ?_, ?_⟩ <;> split <;> split <;> omega
      have mb1 : (if 1 + r5 < left then 1 + r5 else left).natAbs ≤ 12 := by split <;> omega
      have mb2 : (if decide (0 < r6) = true then (1 : Int) else 0).natAbs ≤ 1 := by split <;> decide
      generalize hA : (if 1 + r5 < left then 1 + r5 else left) = fA at efew mb1 ⊢
      generalize hB : (if decide (0 < r6) = true then (1 : Int) else 0) = fB at efew mb2 ⊢
      refine ⟨_, _, rfl, rfl, wide_mul (a := 10) (b := 10) (Nat.lt_of_le_of_lt mb1 (by decide)) (Nat.lt_of_le_of_lt mb2 (by decide)) (by decide) (by decide) (by decide), ?_⟩
      dsimp only
      rw [efew]
      have sG' : Sx p G G6 := s5.trans s6
      have hpG' : Pot G6 p (m + 2 + (TW12 (e + 1) + 2) * i + 2) := hp6
      generalize G6 = G' at sG' hpG' ⊢
      obtain ⟨lpG, hlpG⟩ := hpG.lst
      obtain ⟨lpG', hlpG'⟩ := hpG'.lst
      have eG' := sG' D _ nDp eG
      have kG : ∀ a xs, SqT K G a xs → SqT K G' a xs := fun a xs z => sG'.sqT hlpG z
      have dG' := dpAll_keep kG (J.noLs _) dG
      refine ⟨_, rfl, .inl ⟨rfl, vs, SqL.of eG'⟩, ?_⟩
      refine ⟨_, rfl, _, rfl, _, rfl, _, _, rfl, rfl, e + 1, by omega, p, _, few, ?_, hpG', by omega, f0, by omega, fun G4 r4 j4 s4 hp4 d4 g4 => ?_⟩
      · have ee : ((e + 2 : Nat) : Int) - 1 = ((e + 1 : Nat) : Int) := by omega
        rw [← ee]
        rfl
      have e4 := s4 D _ nDp eG'
      have k4 : ∀ a xs, SqT K G' a xs → SqT K G4 a xs := fun a xs z => s4.sqT hlpG' z
      have dG4 := dpAll_keep k4 (J.noLs _) dG'
      have vl : vs.length = js.length := by rw [dpAll_length dG, J.toDs_eq, List.length_map]
      refine ⟨D, vs, r4, rfl, rfl, e4, small1000 (by omega), ?_⟩
      have k5 : ∀ a xs, SqT K G4 a xs → SqT K (upd G4 D (.lst (vs ++ [r4]))) a xs := fun a xs z => (sx_upd (p := D)).sqT e4 z
      have d5 : DpAll K (upd G4 D (.lst (vs ++ [r4]))) (vs ++ [r4]) (J.toDs (js ++ [j4])) := by
        rw [J.toDs_app]
        exact dpAll_append (dpAll_keep k5 (J.noLs _) dG4) (dpAll_one (dp_keep k5 j4.noL d4))
      have e5 : upd G4 D (.lst (vs ++ [r4])) D = some (.lst (vs ++ [r4])) := upd_same
      have s5 : Sx p H1 (upd G4 D (.lst (vs ++ [r4]))) := sxW_new hD (sG.trans (sG'.trans s4))
      have hp5 : Pot (upd G4 D (.lst (vs ++ [r4]))) p (m + 2 + (TW12 (e + 1) + 2) * i + 2 + TW12 (e + 1)) := hp4.updW nDp
      generalize (upd G4 D (.lst (vs ++ [r4]))) = G5 at d5 e5 s5 hp5 ⊢
      refine ⟨_, rfl, _, rfl, _, _, rfl, rfl, ?_⟩
      refine ⟨left - few, js ++ [j4], _, _, _, vs ++ [r4], rfl, by rw [List.length_append, List.length_singleton]; omega, s5, hp5.mono (by omega), by omega, ?_, e5, d5⟩
      have := J0.snoc g4
      rwa [show most - left + few = most - (left - few) by omega] at this
    · rintro σ G ⟨left, js, y6, y7, y8, vs, rfl, jl, sG, hpG, l0, J0, eG, dG⟩
      have b1 : (TW12 (e + 1) + 2) * (2 + r2).toNat ≤ (TW12 (e + 1) + 2) * 4 := Nat.mul_le_mul_left _ (by omega)
      refine ⟨(by show 2 ≤ sizeLine; decide), fun l2 hl2 => ?_⟩
      have u2 : Same G (upd G l2 (.lst [.str "seq", .str "par"])) := same_new hl2
      have e2 : upd G l2 (.lst [.str "seq", .str "par"]) l2 = some (.lst [.str "seq", .str "par"]) := upd_same
      generalize (upd G l2 (.lst [.str "seq", .str "par"])) = G2 at u2 e2 ⊢
      refine ⟨_, rfl, _, _, rfl, rfl, (by show (0 : Int) < 2; decide), ?_⟩
      obtain ⟨kb, ekb⟩ := pick2 kwP (r := r1 % 2) (by omega) (by omega)
      refine ⟨_, _, _, _, rfl, rfl, SqL.of e2, ekb, ?_⟩
      refine ⟨_, rfl, D, vs, rfl, .inl ⟨SqL.of (u2 _ _ eG), fun t ht => ?_⟩⟩
      have u3 : Same G2 (upd G2 t (.tup vs)) := same_new ht
      have q3 : SqT K (upd G2 t (.tup vs)) t vs := SqT.of upd_same
      generalize (upd G2 t (.tup vs)) = G3 at u3 q3 ⊢
      refine ⟨(by show 2 ≤ sizeLine; decide), fun u hu => ?_⟩
      have u4 : Same G3 (upd G3 u (.tup [.str (kwP kb), .ref t])) := same_new hu
      have st := u2.trans (u3.trans u4)
      refine q _ _ (.ps kb js) (s1.trans (sG.trans (Same.sx st))) ((hpG.same st).mono (by omega)) ?_ (JW12.parts (JsW12.up J0 (by omega)) (by omega) (by omega))
      exact dp_ps (k := kb) (v := .ref t) upd_same (.tup (same_sqT u4 q3) (dpAll_same st dG))
  · -- rounds, copies
    refine ⟨(by show 6 ≤ sizeLine; decide), fun lc hlc => ?_⟩
    have uc : Same H1 (upd H1 lc (.lst ([2, 3, 2, 3, 1, 0].map V.int))) := same_new hlc
    have ec : upd H1 lc (.lst ([2, 3, 2, 3, 1, 0].map V.int)) lc = some (.lst ([2, 3, 2, 3, 1, 0].map V.int)) := upd_same
    have nlc : lc ≠ p := fun y => by
      rw [y, hlp] at hlc
      cases hlc
    have hpc := hp1.same uc
    refine ⟨_, rfl, p, m + 1, 6, rfl, hpc, by omega, by decide, by decide, fun H2 r2 s2 hp2 k0 k1 => ?_⟩
    obtain ⟨c, ez, hc6⟩ := pick6 (a := 2) (b := 3) (c := 2) (d := 3) (e := 1) (f := 0) k0 k1
    refine ⟨_, _, _, _, rfl, rfl, SqL.of (s2 lc _ nlc ec), ez, ?_⟩
    have c0 : 0 ≤ c := by omega
    have c3 : c ≤ 3 := by omega
    refine ⟨(by show 2 ≤ sizeLine; decide), fun l2 hl2 => ?_⟩
    have u2 : Same H2 (upd H2 l2 (.lst [.str "repeat", .str "copies"])) := same_new hl2
    have e2 : upd H2 l2 (.lst [.str "repeat", .str "copies"]) l2 = some (.lst [.str "repeat", .str "copies"]) := upd_same
    have hp3 := hp2.same u2
    generalize (upd H2 l2 (.lst [.str "repeat", .str "copies"])) = G2 at u2 e2 hp3 ⊢
    refine ⟨_, rfl, _, _, rfl, rfl, (by show (0 : Int) < 2; decide), ?_⟩
    obtain ⟨kb, ekb⟩ := pick2 kwR (r := r1 % 2) (by omega) (by omega)
    refine ⟨_, _, _, _, rfl, rfl, SqL.of e2, ekb, ?_⟩
    refine ⟨_, rfl, _, rfl, _, rfl, _, rfl, _, _, rfl, _, _, rfl, rfl, ?_, ?_⟩
    · exact wide_div (b := 10) (by split <;> omega) (Nat.lt_of_le_of_lt (show _ ≤ 3 by split <;> omega) (by decide)) (by decide) (by decide)
    have dv : 0 ≤ most / (if c > 1 then c else 1) ∧ most / (if c > 1 then c else 1) ≤ 12 := by
      have hc : c = 0 ∨ c = 1 ∨ c = 2 ∨ c = 3 := by omega
      rcases hc with rfl | rfl | rfl | rfl
      · rw [if_neg (by decide)]; omega
      · rw [if_neg (by decide)]; omega
      · rw [if_pos (by decide)]; omega
      · rw [if_pos (by decide)]; omega
    refine ⟨_, rfl, _, _, rfl, rfl, e + 1, by omega, p, _, most / (if c > 1 then c else 1), ?_, hp3, by omega, dv.1, dv.2, fun H4 r4 j4 s4 hp4 d4 g4 => ?_⟩
    · have ee : ((e + 2 : Nat) : Int) - 1 = ((e + 1 : Nat) : Int) := by omega
      rw [← ee]
      rfl
    refine ⟨(by show 3 ≤ sizeLine; decide), fun u hu => ?_⟩
    have st : Same H4 (upd H4 u (.tup [.str (kwR kb), .int c, r4])) := same_new hu
    exact q _ _ (.rn kb c j4) (s1.trans ((Same.sx uc).trans (s2.trans ((Same.sx u2).trans (s4.trans (Same.sx st)))))) ((hp4.same st).mono (by omega)) (dp_rn upd_same (dp_same st d4)) (JW12.rounds g4 c0 c3 mpos (by omega))
theorem ok_jobs12 (T : Txt K mg) : ∀ n : Nat, FnOk P w K mg base CX0 (n + 4) T.f__law_job T.d__law_job ["_law_source_here", "_law_most", "_law_deep"] (spJobs12 K n)
  | 0 => ⟨fun vs H Q E h => (nomatch h.choose_spec.1), fun A outer s H args us vs Q E _ _ _ _ h => (nomatch h.choose_spec.1)⟩
  | n + 1 => ok_job12_next T (ok_jobs12 T n)
theorem ok_job12 (T : Txt K mg) (n : Nat) : FnOk P w K mg base CX0 (n + 5) T.f__law_job T.d__law_job ["_law_source_here", "_law_most", "_law_deep"] (spJob12 K n) :=
  (ok_jobs12 T (n + 1)).imp fun vs H Q E h => ⟨n, Nat.lt_succ_self n, h⟩
end

/-! block GreatW: _law_great_job of ten ways: always steps in it (behind bJobW; after bGreat29) -/
def TGW : Nat → Nat
  | 0 => 40
  | n + 1 => 40 + 4 * TGW n
def NG : Nat → Int
  | 0 => 1
  | 1 => 1
  | n + 2 => 1 + 3 * NG (n + 1)
theorem NG_pos : ∀ n, 1 ≤ NG n
  | 0 => by decide
  | 1 => by decide
  | n + 2 => by
    have := NG_pos (n + 1)
    simp only [NG]
    omega
/-- so many steps at most -/
def GS : Nat → Nat → Int
  | 0, _ => 1
  | 1, _ => 1
  | d + 2, 0 => 4 * GS (d + 1) 0
  | d + 2, c + 1 => max (4 * GS (d + 1) (c + 1)) (1000000000 * GS (d + 1) c)
theorem GS_pos : ∀ d c, 1 ≤ GS d c
  | 0, _ => by simp only [GS]; decide
  | 1, _ => by simp only [GS]; decide
  | d + 2, 0 => by
    have := GS_pos (d + 1) 0
    simp only [GS]
    omega
  | d + 2, c + 1 => by
    have := GS_pos (d + 1) (c + 1)
    simp only [GS]
    omega
theorem GS_par (d c : Nat) : 4 * GS (d + 1) c ≤ GS (d + 2) c := by
  cases c with
  | zero => simp only [GS]; omega
  | succ c => simp only [GS]; omega
theorem GS_rn (d c : Nat) : 1000000000 * GS (d + 1) c ≤ GS (d + 2) (c + 1) := by
  simp only [GS]
  omega
theorem GS_le {d c : Nat} (hd : d ≤ 5) (hc : c ≤ 3) : GS d c ≤ 1000000000000000000000000000000 := by
  rcases (by omega : d = 0 ∨ d = 1 ∨ d = 2 ∨ d = 3 ∨ d = 4 ∨ d = 5) with rfl | rfl | rfl | rfl | rfl | rfl <;>
    rcases (by omega : c = 0 ∨ c = 1 ∨ c = 2 ∨ c = 3) with rfl | rfl | rfl | rfl <;> simp only [GS] <;> omega
structure Jg27 (d c : Nat) (j : J) : Prop where
  ok : j.ok
  nodes : j.nodes ≤ NG d
  deep : j.deep ≤ max d 1
  nn : 1 ≤ j.steps
  le : j.steps ≤ GS d c
structure Jgs27 (d c k : Nat) (js : List J) : Prop where
  ok : ∀ x ∈ js, x.ok
  nodes : J.nodesL js ≤ k * NG d
  deep : J.deepL js ≤ max d 1
  nn : (k : Int) ≤ J.stepsL js
  le : J.stepsL js ≤ k * GS d c
  len : js.length = k
theorem Jgs27.nil {d c : Nat} : Jgs27 d c 0 [] := ⟨(fun x hx => nomatch hx), by simp [J.nodesL], by simp [J.deepL], by simp [J.stepsL], by simp [J.stepsL], rfl⟩
theorem Jgs27.snoc {d c k : Nat} {js : List J} {j : J} (h : Jgs27 d c k js) (g : Jg27 d c j) : Jgs27 d c (k + 1) (js ++ [j]) := by
  have h1 := h.nodes
  have h2 := h.deep
  have h3 := h.nn
  have h4 := h.le
  have g1 := g.nodes
  have g2 := g.deep
  have g3 := g.nn
  have g4 := g.le
  refine ⟨fun x hx => ?_, ?_, ?_, ?_, ?_, by rw [List.length_append, h.len]; rfl⟩
  · rcases List.mem_append.mp hx with hx | hx
    · exact h.ok x hx
    · rw [List.mem_singleton.mp hx]
      exact g.ok
  · rw [J.nodesL_app, Int.natCast_add, Int.add_mul]
    simp only [J.nodesL]
    simp
    omega
  · rw [J.deepL_app]
    simp only [J.deepL]
    omega
  · rw [J.stepsL_app]
    simp only [J.stepsL]
    omega
  · rw [J.stepsL_app, Int.natCast_add, Int.add_mul]
    simp only [J.stepsL]
    simp
    omega
theorem Jg27.step {d c : Nat} {i : Int} (h1 : -M30 ≤ i) (h2 : i ≤ M30) : Jg27 d c (.st i) := by
  have p0 := NG_pos d
  have p1 := GS_pos d c
  exact ⟨by simp only [J.ok]; exact ⟨h1, h2⟩, by simp only [J.nodes]; omega, by simp only [J.deep]; omega, by simp only [J.steps]; omega, by simp only [J.steps]; omega⟩
theorem Jg27.parts {d c k : Nat} {b : Bool} {js : List J} (h : Jgs27 (d + 1) c k js) (hk : k ≤ 3) (hk1 : 1 ≤ k) (hd : d ≤ 3) (hc : c ≤ 3) : Jg27 (d + 2) c (.ps b js) := by
  have h1 := h.nodes
  have h2 := h.deep
  have h3 := h.nn
  have h4 := h.le
  have h5 := h.len
  have p0 := NG_pos (d + 1)
  have p1 := GS_pos (d + 1) c
  have b1 : (k : Int) * NG (d + 1) ≤ 3 * NG (d + 1) := Int.mul_le_mul_of_nonneg_right (by omega) (by omega)
  have b2 : (k : Int) * GS (d + 1) c ≤ 4 * GS (d + 1) c := Int.mul_le_mul_of_nonneg_right (by omega) (by omega)
  have e := GS_par d c
  have fc := GS_le (d := d + 2) (c := c) (by omega) hc
  refine ⟨?_, ?_, ?_, by simp only [J.steps]; omega, by simp only [J.steps]; omega⟩
  · simp only [J.ok, M30]
    exact ⟨by omega, (J.okL_iff js).mpr h.ok, by omega⟩
  · simp only [J.nodes, NG]
    omega
  · simp only [J.deep]
    omega
theorem Jg27.rounds {d c : Nat} {b : Bool} {n : Int} {x : J} (h : Jg27 (d + 1) c x) (h0 : 1 ≤ n) (hn : n ≤ 1000000000) (hd : d ≤ 3) (hc : c + 1 ≤ 3) : Jg27 (d + 2) (c + 1) (.rn b n x) := by
  have h1 := h.nodes
  have h2 := h.deep
  have h3 := h.nn
  have h4 := h.le
  have p0 := NG_pos (d + 1)
  have p1 := GS_pos (d + 1) c
  have st : x.steps * n ≤ GS (d + 1) c * 1000000000 := by
    have a1 : x.steps * n ≤ x.steps * 1000000000 := Int.mul_le_mul_of_nonneg_left hn (by omega)
    omega
  have st0 : 1 ≤ x.steps * n := by
    have := Int.mul_le_mul_of_nonneg_left h0 (show 0 ≤ x.steps by omega)
    omega
  have e := GS_rn d c
  have fc := GS_le (d := d + 2) (c := c + 1) (by omega) hc
  refine ⟨?_, ?_, ?_, by simp only [J.steps]; exact st0, by simp only [J.steps]; omega⟩
  · simp only [J.ok, M30]
    exact ⟨by omega, h.ok, by omega⟩
  · simp only [J.nodes, NG]
    omega
  · simp only [J.deep]
    omega
/-- a list of jobs, as it stands -/
structure Pl27 (K : PySem.W.Frag) (H : Hp) (p l : Addr) (m : Nat) (js : List J) (G : Hp) : Prop where
  sx : Sx p H G
  pot : Pot G p m
  ne : l ≠ p
  new : H l = none
  lst : ∃ ws, G l = some (.lst ws) ∧ DpAll K G ws (J.toDs js)
theorem Pl27.go {K : PySem.W.Frag} {H : Hp} {p l : Addr} {m : Nat} {js : List J} {G G1 : Hp} (t : Pl27 K H p l m js G) (s : Sx p G G1) : ∃ ws, G1 l = some (.lst ws) ∧ DpAll K G1 ws (J.toDs js) ∧ ws.length = js.length := by
  obtain ⟨ws, e, d⟩ := t.lst
  obtain ⟨lp, hlp⟩ := t.pot.lst
  exact ⟨ws, s l _ t.ne e, dpAll_keep (fun a xs z => s.sqT hlp z) (J.noLs _) d, by rw [dpAll_length d, J.toDs_eq, List.length_map]⟩
theorem Pl27.push {K : PySem.W.Frag} {H : Hp} {p l : Addr} {m m' : Nat} {js : List J} {j : J} {G G1 : Hp} {ws : List V} {v : V} (t : Pl27 K H p l m js G) (s : Sx p G G1) (hp : Pot G1 p m') (el : G1 l = some (.lst ws)) (dw : DpAll K G1 ws (J.toDs js)) (dv : Dp K G1 v j.toD) :
    Pl27 K H p l m' (js ++ [j]) (upd G1 l (.lst (ws ++ [v]))) := by
  have k5 : ∀ a xs, SqT K G1 a xs → SqT K (upd G1 l (.lst (ws ++ [v]))) a xs := fun a xs z => (sx_upd (p := l)).sqT el z
  refine ⟨sxW_new t.new (t.sx.trans s), hp.updW t.ne, t.ne, t.new, ⟨_, upd_same, ?_⟩⟩
  rw [J.toDs_app]
  exact dpAll_append (dpAll_keep k5 (J.noLs _) dw) (dpAll_one (dp_keep k5 j.noL dv))
theorem sx_free27 {p D : Addr} {H G : Hp} {o : HO} (s : Sx p H G) (hp : G p = some o) (h : G D = none) : H D = none ∧ D ≠ p := by
  have np : D ≠ p := fun z => by rw [z, hp] at h; cases h
  refine ⟨?_, np⟩
  cases e : H D with
  | none => rfl
  | some u =>
    have := s D u np e
    rw [h] at this
    cases this
theorem pick4 {a b c d r : Int} (h0 : 0 ≤ r) (h1 : r < 4) : ∃ x, atI [V.int a, V.int b, V.int c, V.int d] r = some (.int x) ∧ (x = a ∨ x = b ∨ x = c ∨ x = d) := by
  rcases (by omega : r = 0 ∨ r = 1 ∨ r = 2 ∨ r = 3) with rfl | rfl | rfl | rfl
  · exact ⟨a, atI_at (j := 0) rfl rfl, .inl rfl⟩
  · exact ⟨b, atI_at (j := 1) rfl rfl, .inr (.inl rfl)⟩
  · exact ⟨c, atI_at (j := 2) rfl rfl, .inr (.inr (.inl rfl))⟩
  · exact ⟨d, atI_at (j := 3) rfl rfl, .inr (.inr (.inr rfl))⟩
def spGJ27 (K : PySem.W.Frag) (n : Nat) : Sp := fun vs H Q _ => ∃ (p : Addr) (m c : Nat), vs = [.ref p, .int (n : Int), .int (c : Int)] ∧ Pot H p m ∧ m + TGW n ≤ 1099511627776 ∧ n ≤ 5 ∧ c ≤ 3 ∧
  ∀ (H' : Hp) (r : V) (j : J), Sx p H H' → Pot H' p (m + TGW n) → Dp K H' r j.toD → Jg27 n c j → Q r H'
def spGJs27 (K : PySem.W.Frag) (n : Nat) : Sp := fun vs H Q E => ∃ d, d < n ∧ spGJ27 K d vs H Q E
section
variable {P : Program} {w : World} {K : PySem.W.Frag} {mg : Str → Option Value} {base : Heap}
theorem ok_gj27_next (T : Txt K mg) {n : Nat} (g__law_great_job : FnOk P w K mg base CX0 (n + 4) T.f__law_great_job T.d__law_great_job ["_law_source_here", "_law_deep", "_law_counts"] (spGJs27 K n)) :
    FnOk P w K mg base CX0 (n + 5) T.f__law_great_job T.d__law_great_job ["_law_source_here", "_law_deep", "_law_counts"] (spGJs27 K (n + 1)) := by
  have g__law_draw : FnOk P w K mg base CX0 1 T.f__law_draw T.d__law_draw ["_law_source_here", "_law_many"] spTake := ok_take T
  have g__law_step := ok_step (P := P) (w := w) (base := base) T
  refine T.F__law_great_job.ok sc__law_great_job (fun vs H Q E h => ?_) (fun cdv A outer s H vs Q E hr h => ?_)
  · obtain ⟨d, _, p, m, c, rfl, _⟩ := h
    rfl
  obtain ⟨d, hd, p, m, c, rfl, hp, hm, d6, c2, q⟩ := h
  refine ⟨_, (pss_cons (ps_set (i := 3) sc__law_great_job.nd rfl (Or.inl rfl) (pe_call g__law_draw (hr.mono (by omega)) rfl T.m__law_draw T.F__law_draw.kp T.b__law_draw .nil pass0 (pa_cons (pv 0) (pa_cons pe_int pa_nil))))
      (pss_cons (ps_if (PW.pt (pw_or (pt_cmpR op_lt (pv 1) pe_int (nomark _)) (pw_or1 (pt_cmpR op_lt (pv 3) pe_int (nomark _))))) (pss_one (ps_ret (pe_call g__law_step (hr.mono (by omega)) rfl T.m__law_step T.F__law_step.kp T.b__law_step .nil pass0 (pa_cons (pv 0) pa_nil)))) pss_nil)
      (pss_cons (ps_if (PW.pt (pw_or (pt_cmpR op_lt (pv 3) pe_int (nomark _)) (pw_or1 (pt_cmpR op_eq (pv 2) pe_int (nomark _))))) (pss_cons (ps_setLc (i := 4) (own := [("_law_turn", 6)]) (g := (gName 6)) (by rfl) sc__law_great_job.nd rfl rfl (sw_true rfl rfl rfl (by decide +kernel)) (pi_range1 rfl T.n_range (pa_cons (pe_op op_add pe_int (pe_call g__law_draw (hr.mono (by omega)) rfl T.m__law_draw T.F__law_draw.kp T.b__law_draw .nil pass0 (pa_cons (pv 0) (pa_cons pe_int pa_nil)))) pa_nil)) (blkOk_by (N := N__law_great_job) (sc := (defScope s__law_great_job)) (by decide +kernel)) (fun _ _ _ _ _ => (pg_name (i := 6) sc__law_great_job.nd rfl (Or.inl rfl))) (fun _ _ _ _ _ => pts_nil) (fun _ _ _ _ _ => (pe_call g__law_great_job (hr.mono (by omega)) rfl T.m__law_great_job T.F__law_great_job.kp T.b__law_great_job .nil pass0 (pa_cons (pv 0) (pa_cons (pe_op op_sub (pv 1) pe_int) (pa_cons (pv 2) pa_nil))))))
        (pss_one (ps_ret (pe_tup (pa_cons (pe_ix (r := rIxL K) ix_list (pe_lst (pa_cons pe_str (pa_cons pe_str pa_nil))) (pe_op op_mod (pv 3) pe_int) (fun _ _ => rfl)) (pa_cons (pe_callTy (r := rTupS K) call_tupS (by rfl) T.n_tuple (by decide +kernel) (pa_cons (pv 4) pa_nil)) pa_nil)))))) pss_nil)
      (pss_cons (ps_set (i := 5) sc__law_great_job.nd rfl (Or.inl rfl) (pe_ix (r := rIxL K) ix_list (pe_lst (pa_cons pe_int (pa_cons pe_int (pa_cons pe_int (pa_cons (pe_op op_add pe_int (pe_call g__law_draw (hr.mono (by omega)) rfl T.m__law_draw T.F__law_draw.kp T.b__law_draw .nil pass0 (pa_cons (pv 0) (pa_cons (pe_op op_powW pe_int pe_int) pa_nil)))) pa_nil))))) (pe_call g__law_draw (hr.mono (by omega)) rfl T.m__law_draw T.F__law_draw.kp T.b__law_draw .nil pass0 (pa_cons (pv 0) (pa_cons pe_int pa_nil))) (fun _ _ => rfl)))
      (pss_one (ps_ret (pe_tup (pa_cons (pe_ix (r := rIxL K) ix_list (pe_lst (pa_cons pe_str (pa_cons pe_str pa_nil))) (pe_op op_mod (pv 3) pe_int) (fun _ _ => rfl)) (pa_cons (pv 5) (pa_cons (pe_call g__law_great_job (hr.mono (by omega)) rfl T.m__law_great_job T.F__law_great_job.kp T.b__law_great_job .nil pass0 (pa_cons (pv 0) (pa_cons (pe_op op_sub (pv 1) pe_int) (pa_cons (pe_op op_sub (pv 2) pe_int) pa_nil)))) pa_nil)))))))))), ?_⟩
  have tb : 40 ≤ TGW d := by cases d <;> simp only [TGW] <;> omega
  refine ⟨_, rfl, p, m, 10, rfl, hp, by omega, by decide, by decide, fun H1 r1 s1 hp1 h0 h1 => ?_⟩
  have one : ∀ (R : V → Hp → Prop), R = Q → spStep [.ref p] H1 R E0 := by
    rintro R rfl
    exact ⟨p, m + 1, rfl, hp1, by omega, fun H2 r2 s2 hp2 k0 k1 => q _ _ (.st r2) (s1.trans s2) (hp2.mono (by omega)) (.int _) (.step k0 k1)⟩
  refine ⟨_, rfl, _, _, rfl, rfl, _, rfl, ?_⟩
  refine ite2 (fun g2 => ?_) (fun g2 => ?_)
  · refine iteT ⟨_, rfl, ?_⟩
    exact one _ rfl
  have d2 : 2 ≤ d := by
    have g' : ¬ ((d : Int) < 2) := fun z => g2 (decide_eq_true z)
    omega
  obtain ⟨e, rfl⟩ : ∃ e, d = e + 2 := ⟨d - 2, by omega⟩
  refine ⟨_, rfl, _, _, rfl, rfl, _, rfl, ?_⟩
  refine ite2 (fun g3 => ?_) (fun g3 => ?_)
  · refine ⟨_, rfl, ?_⟩
    exact one _ rfl
  refine ⟨_, rfl, _, _, rfl, rfl, _, rfl, ?_⟩
  have etb : TGW (e + 2) = 40 + 4 * TGW (e + 1) := rfl
  have tb1 : 40 ≤ TGW (e + 1) := by simp only [TGW]; omega
  obtain ⟨lp, hlp⟩ := hp1.lst
  refine iteKeep ?_ ?_
  · -- parts
    refine iteT ?_
    refine ⟨_, rfl, p, m + 1, 2, rfl, hp1, by omega, by decide, by decide, fun H2 r2 s2 hp2 k0 k1 => ?_⟩
    refine ⟨_, _, rfl, rfl, ?_⟩
    refine ⟨_, rfl, by omega, by omega, fun D hD => ?_⟩
    obtain ⟨lp2, hlp2⟩ := hp2.lst
    obtain ⟨hDH, nDp⟩ := sx_free27 s2 hlp2 hD
    refine lc_range (lo := 0) (n := (2 + r2).toNat) (fun i G => ∃ js, Pl27 K H1 p D (m + 2 + TGW (e + 1) * i) js G ∧ Jgs27 (e + 1) c i js) ?_ ?_ ?_
    · exact ⟨[], ⟨s2.trans (Same.sx (same_new hD)), (hp2.same (same_new hD)).mono (by omega), nDp, hDH, ⟨[], upd_same, .nil⟩⟩, .nil⟩
    · rintro i G hi ⟨js, t, J0⟩
      have hi4 : i < 4 := by omega
      have b1 : TGW (e + 1) * i ≤ TGW (e + 1) * 3 := Nat.mul_le_mul_left _ (by omega)
      have b2 : TGW (e + 1) * (i + 1) = TGW (e + 1) * i + TGW (e + 1) := Nat.mul_succ _ _
      refine ⟨rfl, ?_⟩
      unfold tYes
      refine iteT ?_
      refine ⟨_, rfl, _, rfl, _, _, rfl, rfl, _, rfl, e + 1, by omega, p, _, c, ?_, t.pot, by omega, by omega, c2, fun G1 v j s hp1 dj gj => ?_⟩
      · have ee : ((e + 2 : Nat) : Int) - 1 = ((e + 1 : Nat) : Int) := by omega
        rw [← ee]
        rfl
      obtain ⟨ws, el, dw, wl⟩ := t.go s
      have := J0.len
      exact ⟨ws, el, small1000 (by omega), js ++ [j], t.push s (hp1.mono (by omega)) el dw dj, J0.snoc gj⟩
    · rintro G ⟨js, t, J0⟩
      have b1 : TGW (e + 1) * (2 + r2).toNat ≤ TGW (e + 1) * 4 := Nat.mul_le_mul_left _ (by omega)
      obtain ⟨ws, el, dw⟩ := t.lst
      refine ⟨(by show 2 ≤ sizeLine; decide), fun l2 hl2 => ?_⟩
      have u2 : Same G (upd G l2 (.lst [.str "seq", .str "par"])) := same_new hl2
      have e2 : upd G l2 (.lst [.str "seq", .str "par"]) l2 = some (.lst [.str "seq", .str "par"]) := upd_same
      generalize (upd G l2 (.lst [.str "seq", .str "par"])) = G2 at u2 e2 ⊢
      refine ⟨_, rfl, _, _, rfl, rfl, (by show (0 : Int) < 2; decide), ?_⟩
      obtain ⟨kb, ekb⟩ := pick2 kwP (r := r1 % 2) (by omega) (by omega)
      refine ⟨_, _, _, _, rfl, rfl, SqL.of e2, ekb, ?_⟩
      refine ⟨_, rfl, D, ws, rfl, .inl ⟨SqL.of (u2 _ _ el), fun t' ht' => ?_⟩⟩
      have u3 : Same G2 (upd G2 t' (.tup ws)) := same_new ht'
      have q3 : SqT K (upd G2 t' (.tup ws)) t' ws := SqT.of upd_same
      generalize (upd G2 t' (.tup ws)) = G3 at u3 q3 ⊢
      refine ⟨(by show 2 ≤ sizeLine; decide), fun u hu => ?_⟩
      have u4 : Same G3 (upd G3 u (.tup [.str (kwP kb), .ref t'])) := same_new hu
      have st := u2.trans (u3.trans u4)
      refine q _ _ (.ps kb js) (s1.trans (t.sx.trans (Same.sx st))) ((t.pot.same st).mono (by omega)) ?_ (Jg27.parts J0 (by omega) (by omega) (by omega) c2)
      exact dp_ps (k := kb) (v := .ref t') upd_same (.tup (same_sqT u4 q3) (dpAll_same st dw))
  intro g4 parts
  refine ⟨_, rfl, rfl, _, rfl, ?_⟩
  refine ite2 (fun g5 => ?_) (fun g5 => ?_)
  · dsimp only at parts
    rw [if_pos rfl] at parts
    exact parts
  have c0 : c ≠ 0 := fun z => g5 (by rw [z]; rfl)
  obtain ⟨c', rfl⟩ : ∃ c', c = c' + 1 := ⟨c - 1, by omega⟩
  -- rounds, copies
  have e9 : (10 : Int) ^ (9 : Int).toNat = 1000000000 := by decide
  refine ⟨_, rfl, _, _, rfl, rfl, powW_of 4 (by decide) (by decide) (by decide), ?_⟩
  dsimp only
  rw [e9]
  refine ⟨p, _, _, rfl, hp1, by omega, by decide, by decide, fun H2 r2 s2 hp2 k0 k1 => ?_⟩
  refine ⟨_, _, rfl, rfl, ?_⟩
  refine ⟨(by show 4 ≤ sizeLine; decide), fun l2 hl2 => ?_⟩
  have u2 : Same H2 (upd H2 l2 (.lst [.int 2, .int 3, .int 1000, .int (1 + r2)])) := same_new hl2
  have e2 : upd H2 l2 (.lst [.int 2, .int 3, .int 1000, .int (1 + r2)]) l2 = some (.lst [.int 2, .int 3, .int 1000, .int (1 + r2)]) := upd_same
  have hp3 := hp2.same u2
  have nl2 : l2 ≠ p := fun z => by
    obtain ⟨_, y⟩ := hp2.lst
    rw [z, y] at hl2
    cases hl2
  generalize (upd H2 l2 (.lst [.int 2, .int 3, .int 1000, .int (1 + r2)])) = H3 at u2 e2 hp3 ⊢
  refine ⟨_, rfl, p, _, 4, rfl, hp3, by omega, by decide, by decide, fun H4 r3 s3 hp4 j0 j1 => ?_⟩
  obtain ⟨n', en, hn⟩ := pick4 (a := 2) (b := 3) (c := 1000) (d := 1 + r2) j0 j1
  have n0 : 1 ≤ n' ∧ n' ≤ 1000000000 := by omega
  refine ⟨_, _, _, _, rfl, rfl, SqL.of (s3 _ _ nl2 e2), en, ?_⟩
  refine ⟨(by show 2 ≤ sizeLine; decide), fun l3 hl3 => ?_⟩
  have u3 : Same H4 (upd H4 l3 (.lst [.str "repeat", .str "copies"])) := same_new hl3
  have e3 : upd H4 l3 (.lst [.str "repeat", .str "copies"]) l3 = some (.lst [.str "repeat", .str "copies"]) := upd_same
  have hp5 := hp4.same u3
  generalize (upd H4 l3 (.lst [.str "repeat", .str "copies"])) = H5 at u3 e3 hp5 ⊢
  refine ⟨_, rfl, _, _, rfl, rfl, (by show (0 : Int) < 2; decide), ?_⟩
  obtain ⟨kb, ekb⟩ := pick2 kwR (r := r1 % 2) (by omega) (by omega)
  refine ⟨_, _, _, _, rfl, rfl, SqL.of e3, ekb, ?_⟩
  refine ⟨_, rfl, _, rfl, _, rfl, _, _, rfl, rfl, _, rfl, _, _, rfl, rfl, e + 1, by omega, p, _, c', ?_, hp5, by omega, by omega, by omega, fun H6 v j s6 hp6 dj gj => ?_⟩
  · have ee : ((e + 2 : Nat) : Int) - 1 = ((e + 1 : Nat) : Int) := by omega
    have ec : ((c' + 1 : Nat) : Int) - 1 = (c' : Int) := by omega
    rw [← ee, ← ec]
    rfl
  refine ⟨(by show 3 ≤ sizeLine; decide), fun u hu => ?_⟩
  have st : Same H6 (upd H6 u (.tup [.str (kwR kb), .int n', v])) := same_new hu
  exact q _ _ (.rn kb n' j) (s1.trans (s2.trans ((Same.sx u2).trans (s3.trans ((Same.sx u3).trans (s6.trans (Same.sx st))))))) ((hp6.same st).mono (by omega)) (dp_rn upd_same (dp_same st dj)) (gj.rounds n0.1 n0.2 (by omega) c2)
theorem ok_gjs27 (T : Txt K mg) : ∀ n : Nat, FnOk P w K mg base CX0 (n + 4) T.f__law_great_job T.d__law_great_job ["_law_source_here", "_law_deep", "_law_counts"] (spGJs27 K n)
  | 0 => ⟨fun vs H Q E h => (nomatch h.choose_spec.1), fun A outer s H args us vs Q E _ _ _ _ h => (nomatch h.choose_spec.1)⟩
  | n + 1 => ok_gj27_next T (ok_gjs27 T n)
end

/-! block StatesW: for the walk of _law_states (behind bStates): its promise, and small facts -/
theorem ints_vals {K : PySem.W.Frag} {H : Hp} : ∀ {xs : List V} {a : List Int}, DpAll K H xs (a.map PyData.int) → xs = a.map V.int
  | [], [], _ => rfl
  | [], _ :: _, h => by cases h
  | _ :: _, [], h => by cases h
  | x :: xs, i :: a, h => by
    cases h with
    | cons h1 h2 =>
      obtain rfl := dp_int_inv h1
      rw [List.map_cons, ints_vals h2]
def stCond (ah : List Int → List Int → Bool) (A : List (List Int)) (one : List Int) (S : List (List Int)) : Bool := A.all fun o => !(ah o one) || S.contains o
theorem st_empty {ah : List Int → List Int → Bool} {A S : List (List Int)} {one : List Int} : (((A.filter fun o => ah o one).filter fun o => !S.contains o).isEmpty) = stCond ah A one S := by
  unfold stCond
  rw [List.filter_filter]
  cases e : A.all fun o => !(ah o one) || S.contains o with
  | true =>
    rw [List.isEmpty_iff, List.filter_eq_nil_iff]
    intro o ho
    have := List.all_eq_true.mp e o ho
    simp only [Bool.or_eq_true, Bool.not_eq_true'] at this
    rcases this with h | h
    · simp [h]
    · have m : o ∈ S := by simpa using h
      simp [m]
  | false =>
    rw [List.all_eq_false] at e
    obtain ⟨o, ho, h⟩ := e
    simp only [Bool.or_eq_true, Bool.not_eq_true', not_or, Bool.not_eq_false, Bool.not_eq_true] at h
    rw [List.isEmpty_eq_false_iff, ne_eq, List.filter_eq_nil_iff]
    intro z
    exact absurd (by simp [h.1, h.2]; simpa using h.2) (z o ho)
def spStates (K : PySem.W.Frag) : Sp := fun vs H Q _ => ∃ (v : V) (j : J), vs = [v] ∧ Dp K H v j.toD ∧ j.deep ≤ 8 ∧ j.stb ∧ j.steps ≤ 12 ∧ j.rounded ∧
  ∀ (H' : Hp) (l : Addr) (ss : List V), Same H H' → H' l = some (.lst ss) → DpAll K H' ss (j.states.map stD) → Q (.ref l) H'
theorem stNext_len (ah : List Int → List Int → Bool) (A : List (List Int)) (one : List Int) (fs : List (List (List Int))) : (stNext ah A one fs).length ≤ 2 * fs.length := by
  unfold stNext
  have := List.length_filter_le (fun S => A.all fun o => !(ah o one) || S.contains o) fs
  rw [List.length_append, List.length_map]
  omega
theorem stAll_snoc (ah : List Int → List Int → Bool) (A : List (List Int)) (one : List Int) : ∀ (pre : List (List Int)) (fs : List (List (List Int))), stAll ah A (pre ++ [one]) fs = stNext ah A one (stAll ah A pre fs)
  | [], fs => rfl
  | p :: pre, fs => stAll_snoc ah A one pre (stNext ah A p fs)
/-! block Ahead: _law_ahead, which step comes ahead of which (behind bStatesW; with HandS.Zip) -/
/-- what a for walks, within a comprehension's own block: its written part is the def's -/
theorem pi_listK {X : Cx} {tg l : Expr} {tl : TE} (K : PySem.W.Frag) (hk : X.K = K) (hl : PE X l tl) : PI X tg l (iList K tl) := by
  subst hk
  exact pi_list hl
theorem pi_tupK {X : Cx} {tg l : Expr} {tl : TE} (K : PySem.W.Frag) (hk : X.K = K) (hl : PE X l tl) : PI X tg l (iTup K tl) := by
  subst hk
  exact pi_tup hl
/-- a loop over zip of two tuples, to the end of the shorter one -/
theorem for_zipT2 {K : PySem.W.Frag} {a b : Addr} {xs ys : List V} {g : TG} {tb : TS} {D : Ends} {σ : L2.St} {H : Hp} (Pv : Nat → L2.St → Hp → Prop) (h0 : Pv 0 σ H) (hq : ∀ i σ H, Pv i σ H → SqT K H a xs ∧ SqT K H b ys)
    (hs : ∀ (i : Nat) (x y : V) (T : Addr) (σ : L2.St) (H : Hp), xs[i]? = some x → ys[i]? = some y → Pv i σ H → H T = none → g (.ref T) σ (upd H T (.tup [x, y])) fun σ2 H2 => tb { D with nx := Pv (i + 1), ct := Pv (i + 1), bk := D.nx } σ2 H2)
    (hd : ∀ i σ H, i ≤ xs.length → i ≤ ys.length → (i = xs.length ∨ i = ys.length) → Pv i σ H → D.nx σ H) :
    ∃ W : Nat → Nat → L2.St → Hp → Prop, (∃ m, W 0 m σ H) ∧ ∀ i m σ H, W i m σ H →
      ((RZ.ItzT K a b).stop i H ∧ D.nx σ H) ∨ ((RZ.ItzT K a b).go i H ∧ ∃ N : L2.St → Hp → Prop, (∀ σ' H', N σ' H' → ∃ m', m' < m ∧ W (i + 1) m' σ' H') ∧ ∀ v H', (RZ.ItzT K a b).yld i H v H' → g v σ H' fun σ2 H2 => tb { D with nx := N, ct := N, bk := D.nx } σ2 H2) := by
  refine ⟨fun i m σ H => m = xs.length - i ∧ i ≤ xs.length ∧ i ≤ ys.length ∧ Pv i σ H, ⟨xs.length, rfl, Nat.zero_le _, Nat.zero_le _, h0⟩, ?_⟩
  rintro i m σ H ⟨rfl, hi, hi2, p⟩
  obtain ⟨qx, qy⟩ := hq i σ H p
  by_cases hlt : i < xs.length ∧ i < ys.length
  · have hx : xs[i]? = some xs[i] := List.getElem?_eq_getElem hlt.1
    have hy : ys[i]? = some ys[i] := List.getElem?_eq_getElem hlt.2
    refine .inr ⟨⟨xs, ys, _, _, qx, qy, hx, hy⟩, Pv (i + 1), fun σ' H' p' => ⟨xs.length - (i + 1), by omega, rfl, hlt.1, hlt.2, p'⟩, fun v H' y => ?_⟩
    obtain ⟨T, x', y', rfl, hT, rfl, f1, f2⟩ := y
    exact hs i x' y' T σ H (f1 xs qx) (f2 ys qy) p hT
  · have e : i = xs.length ∨ i = ys.length := by omega
    refine .inl ⟨⟨xs, ys, qx, qy, ?_⟩, hd i σ H hi hi2 e p⟩
    omega
theorem aheadAt_at {S : Sys} {c d : List Int} : ∀ {Ss : List Sys} {i k : Int}, i ≤ k → Ss[(k - i).toNat]? = some S → aheadAt Ss i k c d = S.ahead c d
  | [], i, k, _, h => by simp at h
  | R :: Ss, i, k, hk, h => by
    unfold aheadAt
    by_cases e : k = i
    · subst e
      rw [if_pos rfl]
      rw [Int.sub_self] at h
      have h' : R = S := by simpa using h
      rw [h']
    · rw [if_neg e]
      refine aheadAt_at (by omega) ?_
      have e2 : (k - i).toNat = (k - (i + 1)).toNat + 1 := by omega
      rw [e2] at h
      simpa using h
/-- an address has a step -/
theorem adr_row {j : J} {a : List Int} (h : a ∈ j.adr) : ∃ v, (a, v) ∈ j.sys.rows := by
  rw [← J.sys_adr j] at h
  obtain ⟨r, hr, rfl⟩ := List.mem_map.mp h
  exact ⟨r.2, hr⟩
theorem row_adr {j : J} {a : List Int} {v : Int} (h : (a, v) ∈ j.sys.rows) : a ∈ j.adr := by
  rw [← J.sys_adr j]
  exact List.mem_map.mpr ⟨_, h, rfl⟩
theorem adr_st {i : Int} {a : List Int} (h : a ∈ (J.st i).adr) : a = [] := by
  simpa [J.adr] using h
theorem adr_ps {b : Bool} {xs : List J} {k : Int} {r : List Int} (h : (k :: r) ∈ (J.ps b xs).adr) : 0 ≤ k ∧ ∃ y, xs[k.toNat]? = some y ∧ r ∈ y.adr := by
  obtain ⟨v, hv⟩ := adr_row h
  obtain ⟨h1, y, h2, h3⟩ := rows_ps hv
  exact ⟨h1, y, h2, row_adr h3⟩
theorem adr_rn {b : Bool} {n : Int} {x : J} {k : Int} {r : List Int} (h : (k :: r) ∈ (J.rn b n x).adr) : 0 ≤ k ∧ r ∈ x.adr ∧ (List.replicate (if 0 < x.steps then n.toNat else 0) x.sys)[k.toNat]? = some x.sys := by
  obtain ⟨v, hv⟩ := adr_row h
  simp only [J.sys, comp] at hv
  obtain ⟨h1, S, h2, h3⟩ := cRows_at hv
  rw [Int.sub_zero] at h2
  obtain ⟨_, rfl⟩ := List.mem_replicate.mp (List.mem_of_getElem? h2)
  exact ⟨h1, row_adr h3, h2⟩
theorem ahead_ps {b : Bool} {xs : List J} {k m : Int} {c d : List Int} {y : J} (h0 : 0 ≤ k) (hy : xs[k.toNat]? = some y) : (J.ps b xs).sys.ahead (k :: c) (m :: d) = if k ≠ m then !b && decide (k < m) else y.sys.ahead c d := by
  simp only [J.sys, comp, cAhead]
  congr 1
  refine aheadAt_at h0 ?_
  rw [Int.sub_zero, J.syss_eq, List.getElem?_map, hy]
  rfl
theorem ahead_rn {b : Bool} {n : Int} {x : J} {k m : Int} {c d : List Int} (h0 : 0 ≤ k) (hy : (List.replicate (if 0 < x.steps then n.toNat else 0) x.sys)[k.toNat]? = some x.sys) : (J.rn b n x).sys.ahead (k :: c) (m :: d) = if k ≠ m then !b && decide (k < m) else x.sys.ahead c d := by
  simp only [J.sys, comp, cAhead]
  congr 1
  refine aheadAt_at h0 ?_
  rw [Int.sub_zero, hy]
theorem ahead_nil {j : J} {a b : List Int} (ha : a ∈ j.adr) (hb : b ∈ j.adr) (h : a = [] ∨ b = []) : j.sys.ahead a b = false := by
  cases j with
  | st i => rfl
  | ps k xs =>
    simp only [J.sys, comp]
    rcases h with rfl | rfl
    · rfl
    · cases a <;> rfl
  | rn k n x =>
    simp only [J.sys, comp]
    rcases h with rfl | rfl
    · rfl
    · cases a <;> rfl
theorem w_in_sr (k : Bool) : inV (.str (kwP k)) [.str "seq", .str "repeat"] = !k := by cases k <;> decide +kernel
theorem w_in_sr2 (k : Bool) : inV (.str (kwR k)) [.str "seq", .str "repeat"] = !k := by cases k <;> decide +kernel
section
variable {P : Program} {w : World} {K : PySem.W.Frag} {mg : Str → Option Value} {base : Heap}
end

/-! block Gate: the gates of a step say that all that precede it are done (behind bRows, bStates, bAhead) -/
def hits (r : SRow) (p : List Int) : Nat := (r.2.2.filter fun g => decide (r.1.take g.1.toNat = p)).length
def cntF : List SRow → (List Int → Bool) → List Int → Nat
  | [], _, _ => 0
  | r :: R, D, p => (if D r.1 = true then hits r p else 0) + cntF R D p
def totF : List SRow → (List Int → Bool) → Nat
  | [], _ => 0
  | r :: R, D => (if D r.1 = true then 1 else 0) + totF R D
def mayF (R : List SRow) (D : List Int → Bool) (r : SRow) : Bool := r.2.2.all fun g => decide (g.2 ≤ (cntF R D (r.1.take g.1.toNat) : Int))
def lvOk (r : SRow) : Prop := ∀ g ∈ r.2.2, 0 ≤ g.1
theorem cntF_app (R S : List SRow) (D : List Int → Bool) (p : List Int) : cntF (R ++ S) D p = cntF R D p + cntF S D p := by
  induction R with
  | nil => simp [cntF]
  | cons r R ih => simp only [List.cons_append, cntF, ih]; omega
theorem totF_app (R S : List SRow) (D : List Int → Bool) : totF (R ++ S) D = totF R D + totF S D := by
  induction R with
  | nil => simp [totF]
  | cons r R ih => simp only [List.cons_append, totF, ih]; omega
theorem totF_le (R : List SRow) (D : List Int → Bool) : totF R D ≤ R.length := by
  induction R with
  | nil => simp [totF]
  | cons r R ih => simp only [totF, List.length_cons]; split <;> omega
theorem totF_full {R : List SRow} {D : List Int → Bool} : R.length ≤ totF R D ↔ ∀ r ∈ R, D r.1 = true := by
  induction R with
  | nil => simp [totF]
  | cons r R ih =>
    have := totF_le R D
    simp only [totF, List.length_cons, List.forall_mem_cons, ← ih]
    cases e : D r.1 with
    | true => simp; omega
    | false => simp; omega
theorem totF_none {R : List SRow} {D : List Int → Bool} (h : ∀ r ∈ R, D r.1 = false) : totF R D = 0 := by
  induction R with
  | nil => rfl
  | cons r R ih =>
    simp only [totF, h r (List.mem_cons_self ..), ih fun r hr => h r (List.mem_cons_of_mem _ hr)]
    simp
theorem cntF_tot {R : List SRow} {D : List Int → Bool} {p : List Int} (h : ∀ r ∈ R, hits r p = 1) : cntF R D p = totF R D := by
  induction R with
  | nil => rfl
  | cons r R ih =>
    simp only [cntF, totF, h r (List.mem_cons_self ..), ih fun r hr => h r (List.mem_cons_of_mem _ hr)]
theorem wgates {i : Int} {g : List (Int × Int)} {r : SRow} : (wRow i g r).2.2 = g ++ r.2.2.map fun p => (p.1 + 1, p.2) := rfl
theorem wadr {i : Int} {g : List (Int × Int)} {r : SRow} : (wRow i g r).1 = i :: r.1 := rfl
theorem take_up {i l : Int} {a : List Int} (h : 0 ≤ l) : (i :: a).take (l + 1).toNat = i :: a.take l.toNat := by
  have e : (l + 1).toNat = l.toNat + 1 := by omega
  rw [e, List.take_succ_cons]
theorem hits_up {i : Int} {r : SRow} (p : List Int) (lv : lvOk r) : ((r.2.2.map fun q => (q.1 + 1, q.2)).filter fun g => decide ((i :: r.1).take g.1.toNat = p)).length = match p with
    | [] => 0
    | k :: q => if i = k then hits r q else 0 := by
  have key : ∀ gs : List (Int × Int), (∀ g ∈ gs, 0 ≤ g.1) → ((gs.map fun q => (q.1 + 1, q.2)).filter fun g => decide ((i :: r.1).take g.1.toNat = p)).length = match p with
      | [] => 0
      | k :: q => if i = k then (gs.filter fun g => decide (r.1.take g.1.toNat = q)).length else 0 := by
    intro gs
    induction gs with
    | nil => intro _; cases p with
      | nil => rfl
      | cons k q => simp
    | cons g gs ih =>
      intro h
      have ih := ih fun x hx => h x (List.mem_cons_of_mem _ hx)
      have h0 := h g (List.mem_cons_self ..)
      rw [List.map_cons, List.filter_cons]
      dsimp only
      rw [take_up h0]
      cases p with
      | nil =>
        rw [if_neg (by simp)]
        exact ih
      | cons k q =>
        by_cases e : i = k
        · subst e
          simp only [if_true] at ih ⊢
          by_cases e2 : r.1.take g.1.toNat = q
          · rw [if_pos (by simp [e2]), List.length_cons, ih, List.filter_cons, if_pos (by simp [e2]), List.length_cons]
          · rw [if_neg (by simp [e2]), ih, List.filter_cons, if_neg (by simp [e2])]
        · dsimp only at ih ⊢
          rw [if_neg e] at ih ⊢
          rw [if_neg (by simp [e])]
          exact ih
  exact key r.2.2 lv
theorem hits_nil {i : Int} {sq : Bool} {n : Nat} {r : SRow} (lv : lvOk r) : hits (wRow i (gateOf sq n) r) [] = if sq = true then 1 else 0 := by
  unfold hits
  rw [wgates, wadr, List.filter_append, List.length_append, hits_up [] lv]
  cases sq <;> simp [gateOf]
theorem hits_cons {i k : Int} {sq : Bool} {n : Nat} {r : SRow} {p : List Int} (lv : lvOk r) : hits (wRow i (gateOf sq n) r) (k :: p) = if i = k then hits r p else 0 := by
  unfold hits
  rw [wgates, wadr, List.filter_append, List.length_append, hits_up (k :: p) lv]
  have e : ((gateOf sq n).filter fun g => decide ((i :: r.1).take g.1.toNat = k :: p)).length = 0 := by
    cases sq <;> simp [gateOf]
  rw [e, Nat.zero_add]
  rfl
theorem cnt_w {i k : Int} {sq : Bool} {n : Nat} {D : List Int → Bool} {p : List Int} : ∀ rs : List SRow, (∀ r ∈ rs, lvOk r) → cntF (rs.map (wRow i (gateOf sq n))) D (k :: p) = if i = k then cntF rs (fun a => D (i :: a)) p else 0
  | [], _ => by simp [cntF]
  | r :: rs, h => by
    have ih := cnt_w (i := i) (k := k) (sq := sq) (n := n) (D := D) (p := p) rs fun x hx => h x (List.mem_cons_of_mem _ hx)
    simp only [List.map_cons, cntF, ih, hits_cons (h r (List.mem_cons_self ..)), wadr]
    by_cases e : i = k
    · simp [e]
    · simp [e]
theorem cnt_packs {k : Int} {sq : Bool} {D : List Int → Bool} {p : List Int} : ∀ (rss : List (List SRow)) (i : Int) (acc : List SRow), (∀ rs ∈ rss, ∀ r ∈ rs, lvOk r) →
    cntF (packs sq rss i acc) D (k :: p) = cntF acc D (k :: p) + if i ≤ k then (match rss[(k - i).toNat]? with | some rs => cntF rs (fun a => D (k :: a)) p | none => 0) else 0
  | [], i, acc, _ => by simp [packs]
  | rs :: rr, i, acc, h => by
    have ih := cnt_packs (k := k) (sq := sq) (D := D) (p := p) rr (i + 1) (acc ++ rs.map (wRow i (gateOf sq acc.length))) fun x hx => h x (List.mem_cons_of_mem _ hx)
    rw [packs, ih, cntF_app, cnt_w rs (h rs (List.mem_cons_self ..)), Nat.add_assoc]
    congr 1
    by_cases e : i = k
    · subst e
      rw [if_pos rfl, if_neg (by omega), if_pos (Int.le_refl _), Int.sub_self]
      rfl
    · rw [if_neg e, Nat.zero_add]
      by_cases e2 : i ≤ k
      · rw [if_pos e2, if_pos (by omega)]
        have e3 : (k - i).toNat = (k - (i + 1)).toNat + 1 := by omega
        rw [e3, List.getElem?_cons_succ]
      · rw [if_neg e2, if_neg (by omega)]
theorem packs_mem2 {sq : Bool} : ∀ {rss : List (List SRow)} {i : Int} {acc : List SRow} {r : SRow}, r ∈ packs sq rss i acc → r ∈ acc ∨ ∃ k rs r0, rss[k]? = some rs ∧ r0 ∈ rs ∧ r = wRow (i + (k : Nat)) (gateOf sq (packs sq (rss.take k) i acc).length) r0
  | [], i, acc, r, h => .inl h
  | rs :: rr, i, acc, r, h => by
    rw [packs] at h
    rcases packs_mem2 h with h | ⟨k, rs', r0, h1, h2, h3⟩
    · rcases List.mem_append.mp h with h | h
      · exact .inl h
      · obtain ⟨r0, h0, rfl⟩ := List.mem_map.mp h
        exact .inr ⟨0, rs, r0, rfl, h0, by simp [packs]⟩
    · refine .inr ⟨k + 1, rs', r0, h1, h2, ?_⟩
      rw [h3, List.take_succ_cons, packs, show i + 1 + (k : Int) = i + ((k + 1 : Nat) : Int) by omega]
theorem packs_put {sq : Bool} : ∀ {rss : List (List SRow)} {i : Int} {acc : List SRow}, (∀ r ∈ acc, r ∈ packs sq rss i acc) ∧ ∀ {k : Nat} {rs : List SRow} {r0 : SRow}, rss[k]? = some rs → r0 ∈ rs →
    wRow (i + (k : Nat)) (gateOf sq (packs sq (rss.take k) i acc).length) r0 ∈ packs sq rss i acc
  | [], i, acc => ⟨fun r h => h, fun h _ => by simp at h⟩
  | rs :: rr, i, acc => by
    obtain ⟨h1, h2⟩ := packs_put (sq := sq) (rss := rr) (i := i + 1) (acc := acc ++ rs.map (wRow i (gateOf sq acc.length)))
    refine ⟨fun r h => ?_, fun {k rs' r0} e hr => ?_⟩
    · rw [packs]
      exact h1 r (List.mem_append_left _ h)
    · rw [packs]
      cases k with
      | zero =>
        simp only [List.getElem?_cons_zero, Option.some.injEq] at e
        subst e
        refine h1 _ (List.mem_append_right _ ?_)
        have e0 : packs sq ((rs :: rr).take 0) i acc = acc := rfl
        rw [e0]
        simpa using List.mem_map.mpr ⟨r0, hr, rfl⟩
      | succ k =>
        simp only [List.getElem?_cons_succ] at e
        have := h2 e hr
        rw [List.take_succ_cons, packs, show i + ((k + 1 : Nat) : Int) = i + 1 + (k : Int) by omega]
        exact this
theorem packs_split {sq : Bool} (k : Nat) : ∀ (rss : List (List SRow)) (i : Int) (acc : List SRow), ∃ rest, packs sq rss i acc = packs sq (rss.take k) i acc ++ rest ∧ ∀ r ∈ rest, ∃ m c, r.1 = m :: c ∧ i + (k : Nat) ≤ m := by
  induction k with
  | zero =>
    intro rss i acc
    have key : ∀ (rss : List (List SRow)) (i : Int) (acc : List SRow), ∃ rest, packs sq rss i acc = acc ++ rest ∧ ∀ r ∈ rest, ∃ m c, r.1 = m :: c ∧ i ≤ m := by
      intro rss
      induction rss with
      | nil => exact fun i acc => ⟨[], by simp [packs], fun r h => by cases h⟩
      | cons rs rr ih =>
        intro i acc
        obtain ⟨rest, e, h⟩ := ih (i + 1) (acc ++ rs.map (wRow i (gateOf sq acc.length)))
        refine ⟨rs.map (wRow i (gateOf sq acc.length)) ++ rest, by rw [packs, e, List.append_assoc], fun r hr => ?_⟩
        rcases List.mem_append.mp hr with hr | hr
        · obtain ⟨r0, _, rfl⟩ := List.mem_map.mp hr
          exact ⟨i, r0.1, rfl, Int.le_refl _⟩
        · obtain ⟨m, c, e, hm⟩ := h r hr
          exact ⟨m, c, e, by omega⟩
    obtain ⟨rest, e, h⟩ := key rss i acc
    refine ⟨rest, by simpa [packs] using e, fun r hr => ?_⟩
    obtain ⟨m, c, e, hm⟩ := h r hr
    exact ⟨m, c, e, by omega⟩
  | succ k ih =>
    intro rss i acc
    cases rss with
    | nil => exact ⟨[], by simp [packs], fun r h => by cases h⟩
    | cons rs rr =>
      obtain ⟨rest, e, h⟩ := ih rr (i + 1) (acc ++ rs.map (wRow i (gateOf sq acc.length)))
      refine ⟨rest, by rw [List.take_succ_cons, packs, packs, e], fun r hr => ?_⟩
      obtain ⟨m, c, e, hm⟩ := h r hr
      exact ⟨m, c, e, by omega⟩
theorem packs_low {sq : Bool} {rss : List (List SRow)} {k : Nat} {r : SRow} (h : r ∈ packs sq (rss.take k) 0 []) : ∃ m c, r.1 = m :: c ∧ m < (k : Int) := by
  rcases packs_mem2 h with h | ⟨m, rs, r0, e, _, rfl⟩
  · cases h
  · have hm := (List.getElem?_eq_some_iff.mp e).1
    rw [List.length_take] at hm
    exact ⟨0 + (m : Int), r0.1, rfl, by omega⟩
theorem mayF_w {sq : Bool} {rss : List (List SRow)} {D : List Int → Bool} {k n : Nat} {rs : List SRow} {r0 : SRow} (lv : ∀ rs ∈ rss, ∀ r ∈ rs, lvOk r) (ek : rss[k]? = some rs) (hr : r0 ∈ rs) :
    mayF (packs sq rss 0 []) D (wRow (0 + (k : Nat)) (gateOf sq n) r0) = ((!sq || decide ((n : Int) ≤ (cntF (packs sq rss 0 []) D [] : Int))) && mayF rs (fun a => D ((k : Int) :: a)) r0) := by
  unfold mayF
  rw [wgates, List.all_append, wadr]
  congr 1
  · cases sq <;> simp [gateOf]
  · rw [List.all_map]
    have lr := lv rs (List.mem_of_getElem? ek) r0 hr
    have key : ∀ gs : List (Int × Int), (∀ g ∈ gs, 0 ≤ g.1) → gs.all ((fun g : Int × Int => decide (g.2 ≤ (cntF (packs sq rss 0 []) D (((0 + (k : Int)) :: r0.1).take g.1.toNat) : Int))) ∘ fun p => (p.1 + 1, p.2)) =
        gs.all fun g => decide (g.2 ≤ (cntF rs (fun a => D ((k : Int) :: a)) (r0.1.take g.1.toNat) : Int)) := by
      intro gs
      induction gs with
      | nil => intro _; rfl
      | cons g gs ih =>
        intro h
        have e := take_up (i := 0 + (k : Int)) (a := r0.1) (h g (List.mem_cons_self ..))
        rw [List.all_cons, List.all_cons, ih fun x hx => h x (List.mem_cons_of_mem _ hx)]
        congr 1
        show decide (g.2 ≤ (cntF (packs sq rss 0 []) D (((0 + (k : Int)) :: r0.1).take (g.1 + 1).toNat) : Int)) = _
        rw [e, cnt_packs rss 0 [] lv, Int.zero_add, if_pos (by omega)]
        have e2 : ((k : Int) - 0).toNat = k := by omega
        rw [e2, ek]
        simp [cntF]
    exact key _ lr
theorem may_comp {sq : Bool} {Ss : List Sys} {rss : List (List SRow)} (len : Ss.length = rss.length) (lv : ∀ rs ∈ rss, ∀ r ∈ rs, lvOk r)
    (ih : ∀ (k : Nat) (S : Sys) (rs : List SRow), Ss[k]? = some S → rss[k]? = some rs → ∀ D, ClosedA S.ahead (rs.map (·.1)) D → ∀ r ∈ rs, (mayF rs D r = true ↔ ∀ b ∈ rs.map (·.1), S.ahead b r.1 = true → D b = true))
    (D : List Int → Bool) (cl : ClosedA (cAhead sq Ss 0) ((packs sq rss 0 []).map (·.1)) D) : ∀ r ∈ packs sq rss 0 [], (mayF (packs sq rss 0 []) D r = true ↔ ∀ b ∈ (packs sq rss 0 []).map (·.1), cAhead sq Ss 0 b r.1 = true → D b = true) := by
  intro r hr
  have hr' := hr
  rcases packs_mem2 hr with hr | ⟨k, rs, r0, ek, h0, rfl⟩
  · cases hr
  obtain ⟨S, eS⟩ : ∃ S, Ss[k]? = some S := by
    have := (List.getElem?_eq_some_iff.mp ek).1
    exact ⟨Ss[k]'(by omega), List.getElem?_eq_getElem _⟩
  have at_ : ∀ (c d : List Int), aheadAt Ss 0 (k : Int) c d = S.ahead c d := fun c d => aheadAt_at (by omega) (by rw [Int.sub_zero]; exact eS)
  have put : ∀ c ∈ rs, (k : Int) :: c.1 ∈ (packs sq rss 0 []).map (·.1) := fun c hc => List.mem_map.mpr ⟨_, packs_put.2 ek hc, by rw [wadr, Int.zero_add]⟩
  have clk : ClosedA S.ahead (rs.map (·.1)) fun a => D ((k : Int) :: a) := by
    intro a ha b hb hab hD
    obtain ⟨a', ha', rfl⟩ := List.mem_map.mp ha
    obtain ⟨b', hb', rfl⟩ := List.mem_map.mp hb
    refine cl _ (put a' ha') _ (put b' hb') ?_ hD
    simp only [cAhead, ne_eq, not_true_eq_false, if_false, at_]
    exact hab
  rw [mayF_w lv ek h0, Bool.and_eq_true, ih k S rs eS ek _ clk r0 h0, Bool.or_eq_true, Bool.not_eq_true', decide_eq_true_eq]
  -- what comes before in a row
  have row : sq = true → ((((packs sq (rss.take k) 0 []).length : Int) ≤ (cntF (packs sq rss 0 []) D [] : Int)) ↔ ∀ r ∈ packs sq (rss.take k) 0 [], D r.1 = true) := by
    intro e
    subst e
    obtain ⟨rest, es, hrest⟩ := packs_split (sq := true) k rss 0 []
    rw [cntF_tot (fun r hr => ?_), es, totF_app, ← totF_full]
    · constructor
      · intro h
        by_cases f : (packs true (rss.take k) 0 []).length ≤ totF (packs true (rss.take k) 0 []) D
        · exact f
        · exfalso
          have : ∃ b ∈ packs true (rss.take k) 0 [], D b.1 = false := by
            refine Classical.byContradiction fun z => f (totF_full.mpr fun r hr => ?_)
            cases e : D r.1 with
            | true => rfl
            | false => exact absurd ⟨r, hr, e⟩ z
          obtain ⟨b, hb, eb⟩ := this
          obtain ⟨m, c, e1, hm⟩ := packs_low hb
          have z : totF rest D = 0 := totF_none fun d hd => by
            obtain ⟨m2, c2, e2, hm2⟩ := hrest d hd
            cases e3 : D d.1 with
            | false => rfl
            | true =>
              have := cl b.1 (List.mem_map.mpr ⟨b, by rw [es]; exact List.mem_append_left _ hb, rfl⟩) d.1 (List.mem_map.mpr ⟨d, by rw [es]; exact List.mem_append_right _ hd, rfl⟩) (by
                rw [e1, e2]
                simp only [cAhead, ne_eq]
                rw [if_pos (by omega)]
                simp only [Bool.true_and, decide_eq_true_eq]
                omega) e3
              rw [eb] at this
              cases this
          have h2 := totF_le (packs true (rss.take k) 0 []) D
          omega
      · intro h
        omega
    · rcases packs_mem2 hr with hr | ⟨m, rs', r1, e1, h1, rfl⟩
      · cases hr
      · rw [hits_nil (lv rs' (List.mem_of_getElem? e1) r1 h1)]
        rfl
  constructor
  · rintro ⟨h1, h2⟩ b hb hab
    obtain ⟨b', hb', rfl⟩ := List.mem_map.mp hb
    rcases packs_mem2 hb' with hb' | ⟨m, rs', r1, e1, hr1, rfl⟩
    · cases hb'
    rw [wadr, wadr] at hab
    simp only [cAhead, Int.zero_add] at hab
    by_cases e : (m : Int) = k
    · have e' : m = k := by omega
      subst e'
      rw [ek] at e1
      cases e1
      simp only [ne_eq, not_true_eq_false, if_false, at_] at hab
      rw [wadr, Int.zero_add]
      exact h2 r1.1 (List.mem_map.mpr ⟨r1, hr1, rfl⟩) hab
    · rw [if_pos e] at hab
      simp only [Bool.and_eq_true, decide_eq_true_eq] at hab
      obtain ⟨e2, hlt⟩ := hab
      rcases h1 with h1 | h1
      · rw [e2] at h1
        cases h1
      · have full := (row e2).mp h1
        have hm : m < k := by omega
        have em : (rss.take k)[m]? = some rs' := by rw [List.getElem?_take_of_lt hm]; exact e1
        have mem := (packs_put (sq := sq) (rss := rss.take k) (i := 0) (acc := [])).2 em hr1
        have := full _ mem
        exact this
  · intro h
    refine ⟨?_, fun b hb hab => ?_⟩
    · cases e : sq with
      | false => exact .inl rfl
      | true =>
        right
        have e' := e
        rw [← e]
        refine (row e').mpr fun b hb => ?_
        obtain ⟨m, c, e1, hm⟩ := packs_low hb
        obtain ⟨rest, es, _⟩ := packs_split (sq := sq) k rss 0 []
        refine h b.1 (List.mem_map.mpr ⟨b, by rw [es]; exact List.mem_append_left _ hb, rfl⟩) ?_
        rw [e1, wadr]
        simp only [cAhead, Int.zero_add]
        rw [if_pos (by omega), e']
        simp only [Bool.true_and, decide_eq_true_eq]
        exact hm
    · obtain ⟨b', hb', rfl⟩ := List.mem_map.mp hb
      have := h _ (put b' hb') (by
        rw [wadr]
        simp only [cAhead, Int.zero_add, ne_eq, not_true_eq_false, if_false, at_]
        exact hab)
      exact this
theorem lvOk_w {i : Int} {sq : Bool} {n : Nat} {r : SRow} (h : lvOk r) : lvOk (wRow i (gateOf sq n) r) := by
  intro g hg
  rw [wgates] at hg
  rcases List.mem_append.mp hg with hg | hg
  · cases sq with
    | true => simp [gateOf] at hg; rw [hg]; exact Int.le_refl _
    | false => simp [gateOf] at hg
  · obtain ⟨q, hq, rfl⟩ := List.mem_map.mp hg
    have := h q hq
    show 0 ≤ q.1 + 1
    omega
mutual
theorem J.lv : ∀ (j : J), ∀ r ∈ j.srows, lvOk r
  | .st i, r, h => by
    simp only [J.srows, List.mem_singleton] at h
    subst h
    intro g hg
    cases hg
  | .ps b xs, r, h => by
    rw [J.srows] at h
    exact packs_mem (P := lvOk) (fun r hr => by cases hr) (fun rs h1 r h2 i m => lvOk_w (J.lvs xs rs h1 r h2)) r h
  | .rn b n x, r, h => by
    rw [J.srows] at h
    refine packs_mem (P := lvOk) (fun r hr => by cases hr) (fun rs h1 r h2 i m => ?_) r h
    obtain ⟨_, rfl⟩ := List.mem_replicate.mp h1
    exact lvOk_w (J.lv x r h2)
theorem J.lvs : ∀ (xs : List J), ∀ rs ∈ J.srowss xs, ∀ r ∈ rs, lvOk r
  | [], rs, h, _, _ => by simp [J.srowss] at h
  | x :: xs, rs, h, r, hr => by
    rw [J.srowss, List.mem_cons] at h
    rcases h with rfl | h
    · exact J.lv x r hr
    · exact J.lvs xs rs h r hr
end
mutual
theorem J.may : ∀ (j : J), j.stb → ∀ D, ClosedA j.sys.ahead (j.srows.map (·.1)) D → ∀ r ∈ j.srows, (mayF j.srows D r = true ↔ ∀ b ∈ j.srows.map (·.1), j.sys.ahead b r.1 = true → D b = true)
  | .st i, _, D, _, r, h => by
    simp only [J.srows, List.mem_singleton] at h
    subst h
    constructor
    · intro _ b hb hab
      cases hab
    · intro _
      rfl
  | .ps b xs, hs, D, cl, r, h => by
    simp only [J.stb] at hs
    simp only [J.sys, comp, J.srows] at cl h ⊢
    refine may_comp (by rw [J.syss_eq, J.srowss_eq, List.length_map, List.length_map]) (J.lvs xs) (fun k S rs e1 e2 => ?_) D cl r h
    exact J.mays xs hs.2 k S rs e1 e2
  | .rn b n x, hs, D, cl, r, h => by
    simp only [J.stb] at hs
    have ih := J.may x hs.2.1
    have e : (if x.srows.isEmpty = true then 0 else n.toNat) = if 0 < x.steps then n.toNat else 0 := by
      have hl := J.srows_len x hs.2.1
      by_cases z : 0 < x.steps
      · rw [if_pos z, if_neg (fun y => by rw [List.isEmpty_iff_length_eq_zero] at y; omega)]
      · rw [if_neg z, if_pos (List.isEmpty_iff_length_eq_zero.mpr (by omega))]
    simp only [J.sys, comp, J.srows, e] at cl h ⊢
    refine may_comp (by rw [List.length_replicate, List.length_replicate]) (fun rs hrs => ?_) (fun k S rs e1 e2 => ?_) D cl r h
    · obtain ⟨_, rfl⟩ := List.mem_replicate.mp hrs
      exact J.lv x
    · obtain ⟨_, rfl⟩ := List.mem_replicate.mp (List.mem_of_getElem? e1)
      obtain ⟨_, rfl⟩ := List.mem_replicate.mp (List.mem_of_getElem? e2)
      exact ih
theorem J.mays : ∀ (xs : List J), J.stbL xs → ∀ (k : Nat) (S : Sys) (rs : List SRow), (J.syss xs)[k]? = some S → (J.srowss xs)[k]? = some rs → ∀ D, ClosedA S.ahead (rs.map (·.1)) D → ∀ r ∈ rs, (mayF rs D r = true ↔ ∀ b ∈ rs.map (·.1), S.ahead b r.1 = true → D b = true)
  | [], _, k, S, rs, e1, _ => by simp [J.syss] at e1
  | x :: xs, hs, k, S, rs, e1, e2 => by
    cases k with
    | zero =>
      simp only [J.syss, J.srowss, List.getElem?_cons_zero, Option.some.injEq] at e1 e2
      subst e1 e2
      exact J.may x hs.1
    | succ k =>
      simp only [J.syss, J.srowss, List.getElem?_cons_succ] at e1 e2
      exact J.mays xs hs.2 k S rs e1 e2
end

/-! block Done: the object that does the steps of a small job (behind bGate, bFind, with Dt) -/
theorem kDr : ¬ ("done" : Str) = "rows" := by decide +kernel
theorem kBr : ¬ ("below" : Str) = "rows" := by decide +kernel
theorem kUr : ¬ ("usages" : Str) = "rows" := by decide +kernel
theorem kBd : ¬ ("below" : Str) = "done" := by decide +kernel
theorem kUd : ¬ ("usages" : Str) = "done" := by decide +kernel
theorem kUb : ¬ ("usages" : Str) = "below" := by decide +kernel
def dflds (r d b u : Addr) : List (Str × V) := putF "usages" (.ref u) (putF "below" (.ref b) (putF "done" (.ref d) (putF "rows" (.ref r) [])))
theorem dl_rows (r d b u : Addr) : (dflds r d b u).lookup ("rows" : Str) = some (.ref r) := by
  unfold dflds
  rw [lookup_putF, if_neg (fun z => kUr z.symm), lookup_putF, if_neg (fun z => kBr z.symm), lookup_putF, if_neg (fun z => kDr z.symm), lookup_putF, if_pos rfl]
theorem dl_done (r d b u : Addr) : (dflds r d b u).lookup ("done" : Str) = some (.ref d) := by
  unfold dflds
  rw [lookup_putF, if_neg (fun z => kUd z.symm), lookup_putF, if_neg (fun z => kBd z.symm), lookup_putF, if_pos rfl]
theorem dl_below (r d b u : Addr) : (dflds r d b u).lookup ("below" : Str) = some (.ref b) := by
  unfold dflds
  rw [lookup_putF, if_neg (fun z => kUb z.symm), lookup_putF, if_pos rfl]
theorem dl_usages (r d b u : Addr) : (dflds r d b u).lookup ("usages" : Str) = some (.ref u) := by
  unfold dflds
  rw [lookup_putF, if_pos rfl]
theorem dl_no (r d b u : Addr) {m : Str} (h1 : ¬ m = "usages") (h2 : ¬ m = "below") (h3 : ¬ m = "done") (h4 : ¬ m = "rows") : (dflds r d b u).lookup m = none := by
  unfold dflds
  rw [lookup_putF, if_neg h1, lookup_putF, if_neg h2, lookup_putF, if_neg h3, lookup_putF, if_neg h4]
  all_goals rfl
theorem len_putF (f : Str) (v : V) : ∀ fs : List (Str × V), (putF f v fs).length ≤ fs.length + 1
  | [] => Nat.le_refl _
  | (g, u) :: r => by
    have ih := len_putF f v r
    show (if g = f then (g, v) :: r else (g, u) :: putF f v r).length ≤ _
    split
    · simp
    · simp only [List.length_cons]
      omega
theorem sqT_at {K : PySem.W.Frag} {H : Hp} {p a : Addr} {o z : HO} {xs : List V} (e : H p = some o) (n1 : ∀ xs, o ≠ .tup xs) (n2 : ∀ ob u, o ≠ .frz ob u) (h : SqT K H a xs) : SqT K (upd H p z) a xs := by
  rcases h with (h | ⟨ob, h⟩) | h
  · refine .inl (.inl ?_)
    rw [upd_ne (fun q => by rw [q, e] at h; exact n1 _ (Option.some.inj h))]
    exact h
  · refine .inl (.inr ⟨ob, ?_⟩)
    rw [upd_ne (fun q => by rw [q, e] at h; exact n2 _ _ (Option.some.inj h))]
    exact h
  · exact .inr h
/-- the rows by their addresses -/
abbrev RowsAt (K : PySem.W.Frag) (H : Hp) : List DRow → List SRow → Prop := Paired fun r s => r.1 = s.1 ∧ SqT K H r.2.1 (s.1.map V.int) ∧ Dp K H r.2.2 (.tuple [.int s.2.1, gatesD s.2.2])
theorem noL_pairR (s : SRow) : noL (.tuple [.int s.2.1, gatesD s.2.2]) = true := by
  simp only [noL, noLs, gatesD, noLs_gates, Bool.and_self]
theorem RowsAt.keep {K : PySem.W.Frag} {H H' : Hp} (t : ∀ a xs, SqT K H a xs → SqT K H' a xs) {rr : List DRow} {R : List SRow} (h : RowsAt K H rr R) : RowsAt K H' rr R :=
  Paired.mapP h fun r s ⟨h1, h2, h3⟩ => ⟨h1, t _ _ h2, dp_keep t (noL_pairR s) h3⟩
theorem RowsAt.keys {K : PySem.W.Frag} {H : Hp} {rr : List DRow} {R : List SRow} (h : RowsAt K H rr R) : KeysAt K H rr := by
  induction h with
  | nil => exact KeysAt.nil
  | @cons r s rs ss h t ih =>
    intro x hx
    rcases List.mem_cons.mp hx with rfl | hx
    · rw [h.1]
      exact h.2.1
    · exact ih x hx
def rowOf (R : List SRow) (a : List Int) : Option SRow := R.find? fun s => decide (s.1 = a)
theorem rowOf_cons {s : SRow} {R : List SRow} {a : List Int} : rowOf (s :: R) a = if s.1 = a then some s else rowOf R a := by
  unfold rowOf
  by_cases e : s.1 = a <;> simp [List.find?_cons, e]
theorem rowOf_mem {R : List SRow} {a : List Int} {s : SRow} (h : rowOf R a = some s) : s ∈ R ∧ s.1 = a := by
  unfold rowOf at h
  exact ⟨List.mem_of_find?_eq_some h, by simpa using List.find?_some h⟩
theorem rowOf_some {R : List SRow} {a : List Int} (h : a ∈ R.map (·.1)) : ∃ s, rowOf R a = some s := by
  obtain ⟨s, hs, rfl⟩ := List.mem_map.mp h
  cases e : rowOf R s.1 with
  | some s => exact ⟨s, rfl⟩
  | none =>
    unfold rowOf at e
    rw [List.find?_eq_none] at e
    exact absurd (decide_eq_true rfl) (e s hs)
theorem rowOf_none {R : List SRow} {a : List Int} (h : a ∉ R.map (·.1)) : rowOf R a = none := by
  unfold rowOf
  rw [List.find?_eq_none]
  intro s hs e
  exact h (List.mem_map.mpr ⟨s, hs, of_decide_eq_true e⟩)
theorem RowsAt.look {K : PySem.W.Frag} {H : Hp} {rr : List DRow} {R : List SRow} (h : RowsAt K H rr R) (a : List Int) :
    (∃ s v, rowOf R a = some s ∧ look rr a = some v ∧ Dp K H v (.tuple [.int s.2.1, gatesD s.2.2])) ∨ (rowOf R a = none ∧ look rr a = none) := by
  induction h with
  | nil => exact .inr ⟨rfl, rfl⟩
  | @cons r s rs ss h t ih =>
    rw [look_cons, rowOf_cons]
    by_cases e : s.1 = a
    · rw [if_pos e, if_pos (h.1.trans e)]
      exact .inl ⟨s, _, rfl, rfl, h.2.2⟩
    · rw [if_neg e, if_neg (fun z => e (h.1.symm.trans z))]
      exact ih
/-- the usages on the way -/
def valR (R : List SRow) (a : List Int) : Int := ((rowOf R a).map (·.2.1)).getD 0
def sumsR (R : List SRow) : List (List Int) → Int → List Int
  | [], t => [t]
  | a :: r, t => t :: sumsR R r (t + valR R a)
def useR (R : List SRow) (done : List (List Int)) : Int := (done.map (valR R)).sum
theorem sumsR_snoc (R : List SRow) (a : List Int) : ∀ (done : List (List Int)) (t : Int), sumsR R (done ++ [a]) t = sumsR R done t ++ [t + useR R done + valR R a]
  | [], t => by simp [sumsR, useR]
  | b :: done, t => by
    rw [List.cons_append, sumsR, sumsR_snoc R a done, sumsR, List.cons_append]
    have e : t + valR R b + useR R done + valR R a = t + useR R (b :: done) + valR R a := by
      simp only [useR, List.map_cons, List.sum_cons]
      omega
    rw [e]
theorem sumsR_last (R : List SRow) : ∀ (done : List (List Int)) (t : Int), (sumsR R done t).getLast? = some (t + useR R done)
  | [], t => by simp [sumsR, useR]
  | b :: done, t => by
    have ih := sumsR_last R done (t + valR R b)
    have e : t + valR R b + useR R done = t + useR R (b :: done) := by
      simp only [useR, List.map_cons, List.sum_cons]
      omega
    rw [sumsR, List.getLast?_cons, ih, e]
    rfl
theorem sumsR_len (R : List SRow) : ∀ (done : List (List Int)) (t : Int), (sumsR R done t).length = done.length + 1
  | [], t => rfl
  | b :: done, t => by rw [sumsR, List.length_cons, sumsR_len R done, List.length_cons]
abbrev inL (done : List (List Int)) : List Int → Bool := fun a => done.contains a
structure DoneAt (P : Program) (w : World) (K : PySem.W.Frag) (C : Addr) (H0 H : Hp) (x : Addr) (j : J) (done : List (List Int)) : Prop where
  same : Same H0 H
  ex : ∃ (dx ra da ba ua : Addr) (rr dd bb : List DRow), H x = some (.ins C dx (dflds ra da ba ua)) ∧ (H ra = some (DtO P w ra rr) ∧ RowsAt K H rr j.srows) ∧
    (H da = some (DtO P w da dd) ∧ KeysAt K H dd ∧ (∀ k, (look dd k).isSome = done.contains k) ∧ dd.length ≤ done.length) ∧
    (H ba = some (DtO P w ba bb) ∧ KeysAt K H bb ∧ (∀ k, (look bb k).getD (.int 0) = .int (cntF j.srows (inL done) k : Nat)) ∧ bb.length ≤ 20 * done.length) ∧
    H ua = some (.lst ((sumsR j.srows done 0).map V.int)) ∧ (ra ≠ da ∧ ra ≠ ba ∧ da ≠ ba) ∧ (H0 x = none ∧ H0 ra = none ∧ H0 da = none ∧ H0 ba = none ∧ H0 ua = none)
theorem DoneAt.go {P : Program} {w : World} {K : PySem.W.Frag} {C : Addr} {H0 H H' : Hp} {x : Addr} {j : J} {done : List (List Int)} (d : DoneAt P w K C H0 H x j done) (s : Same H H') : DoneAt P w K C H0 H' x j done := by
  obtain ⟨h0, dx, ra, da, ba, ua, rr, dd, bb, h1, ⟨h2, h3⟩, ⟨h4, h5, h6⟩, ⟨h7, h8, h9⟩, h10, h11⟩ := d
  have t : ∀ a xs, SqT K H a xs → SqT K H' a xs := fun a xs q => same_sqT s q
  exact ⟨h0.trans s, dx, ra, da, ba, ua, rr, dd, bb, s _ _ h1, ⟨s _ _ h2, h3.keep t⟩, ⟨s _ _ h4, h5.keep t, h6⟩, ⟨s _ _ h7, h8.keep t, h9⟩, s _ _ h10, h11⟩
/-- the same, the rows perhaps locked -/
structure DoneR (P : Program) (w : World) (K : PySem.W.Frag) (C : Addr) (H : Hp) (x : Addr) (j : J) (done : List (List Int)) : Prop where
  ex : ∃ (dx ra da ba ua : Addr) (rr dd bb : List DRow), H x = some (.ins C dx (dflds ra da ba ua)) ∧ (Rd H ra (DtO P w ra rr) ∧ RowsAt K H rr j.srows) ∧
    (H da = some (DtO P w da dd) ∧ KeysAt K H dd ∧ (∀ k, (look dd k).isSome = done.contains k) ∧ dd.length ≤ done.length) ∧
    (H ba = some (DtO P w ba bb) ∧ KeysAt K H bb ∧ (∀ k, (look bb k).getD (.int 0) = .int (cntF j.srows (inL done) k : Nat)) ∧ bb.length ≤ 20 * done.length)
theorem DoneAt.toR {P : Program} {w : World} {K : PySem.W.Frag} {C : Addr} {H0 H : Hp} {x : Addr} {j : J} {done : List (List Int)} (d : DoneAt P w K C H0 H x j done) : DoneR P w K C H x j done := by
  obtain ⟨h0, dx, ra, da, ba, ua, rr, dd, bb, h1, ⟨h2, h3⟩, h4, h7, _⟩ := d
  exact ⟨dx, ra, da, ba, ua, rr, dd, bb, h1, ⟨.inl h2, h3⟩, h4, h7⟩
theorem DoneR.go {P : Program} {w : World} {K : PySem.W.Frag} {C : Addr} {H H' : Hp} {x : Addr} {j : J} {done : List (List Int)} (d : DoneR P w K C H x j done) (s : Same H H') : DoneR P w K C H' x j done := by
  obtain ⟨dx, ra, da, ba, ua, rr, dd, bb, h1, ⟨h2, h3⟩, ⟨h4, h5, h6⟩, h7, h8, h9⟩ := d
  have t : ∀ a xs, SqT K H a xs → SqT K H' a xs := fun a xs q => same_sqT s q
  exact ⟨dx, ra, da, ba, ua, rr, dd, bb, s _ _ h1, ⟨rd_same s h2, h3.keep t⟩, ⟨s _ _ h4, h5.keep t, h6⟩, s _ _ h7, h8.keep t, h9⟩
theorem cntF_none (R : List SRow) (k : List Int) : cntF R (inL []) k = 0 := by
  induction R with
  | nil => rfl
  | cons r R ih =>
    rw [cntF, ih]
    simp
theorem cut_upTo {us : List V} {i : Int} (h : 0 ≤ i) : cutV us none (some i) = us.take i.toNat := by
  by_cases h1 : i < (us.length : Int)
  · exact cut_take h h1
  · rw [List.take_of_length_le (by omega)]
    unfold cutV HT.sIx
    dsimp only
    rw [if_neg (by omega)]
    simp only [Nat.sub_zero, List.drop_zero]
    rw [Nat.min_eq_right (by omega), List.take_length]
section
variable {P : Program} {w : World} {K : PySem.W.Frag} {mg : Str → Option Value} {base : Heap}
def spDInit (P : Program) (w : World) (K : PySem.W.Frag) (C : Addr) : Sp := fun vs H Q _ => ∃ (x dx : Addr) (v : V) (j : J), vs = [.ref x, v] ∧ H x = some (.ins C dx []) ∧ Dp K H v j.toD ∧ j.deep ≤ 20 ∧ j.stb ∧ j.steps ≤ 400 ∧
  ∀ H', (∀ H0, Same H0 H → H0 x = none → DoneAt P w K C H0 H' x j []) → Q .non H'
theorem ok_dinit (T : Txt K mg) : FnOk P w K mg base CX0 42 T.f_DoneSteps_init T.d_DoneSteps_init ["self", "job"] (spDInit P w K T.c_DoneSteps) := by
  have g_step_rows : FnOk P w K mg base CX0 41 T.f_step_rows T.d_step_rows ["job"] (spRows K 20) := ok_rows T 20
  refine T.F_DoneSteps_init.ok sc_DoneSteps_init (fun vs H Q E h => ?_) (fun cdv A outer s H vs Q E hr h => ?_)
  · obtain ⟨x, dx, v, j, rfl, _⟩ := h
    rfl
  obtain ⟨x, dx, v, j, rfl, hx, hd, h20, hstb, h400, q⟩ := h
  have hu := hu_of hr
  refine ⟨_, (pss_cons (ps_fld (pv 0) (pe_dtc (own := [("address", 2), ("step", 3), ("gates", 4)]) (g := (gTup K 3 (gCons (gName 2) (gCons (gName 3) (gCons (gName 4) gNil))))) hu (by rfl) sc_DoneSteps_init.nd (pi_list (pe_call g_step_rows (hr.mono (by omega)) rfl T.m_step_rows T.F_step_rows.kp T.b_step_rows .nil pass0 (pa_cons (pv 1) pa_nil))) (blkOk_by (N := N_DoneSteps_init) (sc := defScope s_DoneSteps_init) (by decide +kernel)) (fun _ _ _ _ _ => (pg_tup (by rfl) (pgs_cons (pg_name (i := 2) sc_DoneSteps_init.nd rfl (Or.inl rfl)) (pgs_cons (pg_name (i := 3) sc_DoneSteps_init.nd rfl (Or.inl rfl)) (pgs_cons (pg_name (i := 4) sc_DoneSteps_init.nd rfl (Or.inl rfl)) pgs_nil))))) (fun _ _ _ _ _ => (pv 2)) (fun _ _ _ _ _ => (pe_tup (pa_cons (pv 3) (pa_cons (pv 4) pa_nil))))) rfl)
      (pss_cons (ps_fld (pv 0) pe_dtNew rfl)
      (pss_cons (ps_fld (pv 0) pe_dtNew rfl)
      (pss_one (ps_fld (pv 0) (pe_lst (pa_cons pe_int pa_nil)) rfl))))), ?_⟩
  refine ⟨_, rfl, v, j, rfl, hd, h20, h20, hstb, h400, fun H1 l ws s1 n1 e1 d1 => ?_⟩
  refine ⟨l, rfl, ⟨ws, SqL.of e1⟩, fun ra hra => ?_⟩
  refine dtc_list (P := P) (w := w) (K := K) (a := l) (xs := ws) (fun i H2 => Same H1 H2 ∧ ∃ rr, H2 ra = some (DtO P w ra rr) ∧ RowsAt K H2 rr (j.srows.take i)) ?_ ?_ ?_ ?_
  · exact ⟨same_new hra, [], upd_same, .nil⟩
  · rintro i H2 _ ⟨s2, _⟩
    exact SqL.of (s2 _ _ e1)
  · rintro i y H2 hi ⟨s2, rr, e2, d2⟩
    obtain ⟨d, ed, hdx⟩ := dpAll_get d1 hi
    rw [rowsD, List.getElem?_map] at ed
    obtain ⟨r, er, rfl⟩ := Option.map_eq_some_iff.mp ed
    obtain ⟨t, xs, rfl, ht, hall⟩ := dp_tup_inv (dp_same s2 hdx)
    cases hall with
    | cons da hall =>
    cases hall with
    | cons dv hall =>
    cases hall with
    | cons dg hall =>
    cases hall
    obtain rfl := dp_int_inv dv
    obtain ⟨ta, xa, rfl, qa, ha⟩ := dp_tup_inv da
    obtain rfl := Lw.ints_vals ha
    have nd : (j.srows.map (·.1)).Nodup := by
      rw [J.srows_adr j hstb, ← J.sys_adr j]
      exact J.sys_nodup j
    have ir := (List.getElem?_eq_some_iff.mp er).1
    have fresh : r.1 ∉ (j.srows.take i).map (·.1) := by
      intro m
      obtain ⟨s, hs, es⟩ := List.mem_map.mp m
      obtain ⟨k, hk⟩ := List.mem_iff_getElem?.mp hs
      have ki : k < i := by
        have := (List.getElem?_eq_some_iff.mp hk).1
        rw [List.length_take] at this
        omega
      rw [List.getElem?_take_of_lt ki] at hk
      have e1 : (j.srows.map (·.1))[k]? = some r.1 := by rw [List.getElem?_map, hk, ← es]; rfl
      have e2 : (j.srows.map (·.1))[i]? = some r.1 := by rw [List.getElem?_map, er]; rfl
      have := (List.getElem?_inj (by rw [List.length_map]; omega) nd).mp (e1.trans e2.symm)
      omega
    have ln : look rr r.1 = none := by
      rcases d2.look r.1 with ⟨s, v, es, _⟩ | ⟨_, e⟩
      · rw [rowOf_none fresh] at es
        cases es
      · exact e
    have hlr : rr.length = i := by
      rw [Paired.length d2, List.length_take]
      omega
    have hl400 := J.srows_len j hstb
    refine ⟨t, _, rfl, ht, rfl, _, _, rfl, _, _, rfl, _, _, rfl, rfl, rfl, _, rfl, _, rfl, _, rfl, (by show 2 ≤ sizeLine; decide), fun tt htt => ?_⟩
    obtain ⟨s3, d3⟩ := tup_fresh (K := K) (ds := [.int r.2.1, gatesD r.2.2]) htt (.cons (.int _) (.cons dg .nil))
    generalize (upd H2 tt _) = H3 at s3 d3 ⊢
    have e3 := s3 _ _ e2
    have d23 : RowsAt K H3 rr (j.srows.take i) := d2.keep fun a xs h => same_sqT s3 h
    have kk : ∀ (z : HO) a xs, SqT K H3 a xs → SqT K (upd H3 ra z) a xs := fun z a xs h => dt_sqT e3 h
    refine ⟨_, ⟨ra, ta, rr, r.1, rfl, rfl, e3, d23.keys, same_sqT s3 qa, by omega, rfl⟩, ?_, putD rr r.1 ta (.ref tt), upd_same, ?_⟩
    · intro b o hb
      rw [upd_ne (ne_of_none hb hra)]
      exact s3 _ _ (s2 _ _ hb)
    · rw [putD_new ln, List.take_add_one, er]
      exact Paired.snoc (d23.keep (kk _)) ⟨rfl, kk _ _ _ (same_sqT s3 qa), dp_keep (kk _) (noL_pairR r) d3⟩
  · rintro H2 ⟨s2, rr, e2, d2⟩
    have wl : ws.length = j.srows.length := by rw [dpAll_length d1, rowsD, List.length_map]
    rw [wl, List.take_length] at d2
    have s12 := s1.trans s2
    have hx2 := s12 _ _ hx
    have nx : ra ≠ x := fun z => by rw [z, hx2] at e2; exact dtO_ins (Option.some.inj e2).symm
    refine ⟨_, rfl, x, _, dx, [], rfl, hx2, T.cl_DoneSteps, T.na_DoneSteps_rows, (by show 0 < 1000; decide), fun da hda => ?_⟩
    have nda : da ≠ x := fun z => by rw [z, upd_same] at hda; cases hda
    have hda2 : H2 da = none := by rw [upd_ne nda] at hda; exact hda
    refine ⟨_, rfl, x, _, dx, _, rfl, (by rw [upd_ne (Ne.symm nda)]; exact upd_same), T.cl_DoneSteps, T.na_DoneSteps_done, (by have := len_putF "rows" (.ref ra) []; simp only [List.length_nil] at this; omega), fun ba hba => ?_⟩
    have nba : ba ≠ x := fun z => by rw [z, upd_same] at hba; cases hba
    have nbd : ba ≠ da := fun z => by rw [z, upd_ne nda, upd_same] at hba; cases hba
    have hba2 : H2 ba = none := by rw [upd_ne nba, upd_ne nbd, upd_ne nba] at hba; exact hba
    refine ⟨_, rfl, x, _, dx, _, rfl, (by rw [upd_ne (Ne.symm nba)]; exact upd_same), T.cl_DoneSteps, T.na_DoneSteps_below, (by have h1 := len_putF "rows" (.ref ra) []; have h2 := len_putF "done" (.ref da) (putF "rows" (.ref ra) []); simp only [List.length_nil] at h1; omega), (by show 1 ≤ sizeLine; decide), fun ua hua => ?_⟩
    have nua : ua ≠ x := fun z => by rw [z, upd_same] at hua; cases hua
    have nub : ua ≠ ba := fun z => by rw [z, upd_ne nba, upd_same] at hua; cases hua
    have nud : ua ≠ da := fun z => by rw [z, upd_ne nda, upd_ne (Ne.symm nbd), upd_ne nda, upd_same] at hua; cases hua
    have hua2 : H2 ua = none := by rw [upd_ne nua, upd_ne nub, upd_ne nua, upd_ne nud, upd_ne nua] at hua; exact hua
    refine ⟨_, rfl, x, _, dx, _, rfl, (by rw [upd_ne (Ne.symm nua)]; exact upd_same), T.cl_DoneSteps, T.na_DoneSteps_usages, (by have h1 := len_putF "rows" (.ref ra) []; have h2 := len_putF "done" (.ref da) (putF "rows" (.ref ra) []); have h3 := len_putF "below" (.ref ba) (putF "done" (.ref da) (putF "rows" (.ref ra) [])); simp only [List.length_nil] at h1; omega), ?_⟩
    have nrd : ra ≠ da := ne_of_none e2 hda2
    have nrb : ra ≠ ba := ne_of_none e2 hba2
    have nru : ra ≠ ua := ne_of_none e2 hua2
    refine q _ fun H0 s0 h0x => ?_
    have keep : ∀ b o, b ≠ x → H b = some o → ∀ z1 z2 z3 z4 z5 z6 z7, upd (upd (upd (upd (upd (upd (upd H2 x z1) da z2) x z3) ba z4) x z5) ua z6) x z7 b = some o := by
      intro b o nb hb z1 z2 z3 z4 z5 z6 z7
      have hb2 := s12 _ _ hb
      rw [upd_ne nb, upd_ne (ne_of_none hb2 hua2), upd_ne nb, upd_ne (ne_of_none hb2 hba2), upd_ne nb, upd_ne (ne_of_none hb2 hda2), upd_ne nb]
      exact hb2
    have free : ∀ b, H2 b = none → H0 b = none := fun b hb => (s0.trans s12).free hb
    have t : ∀ a xs, SqT K H2 a xs → ∀ f1 f2 f3 f4 z2 z4 z6, SqT K (upd (upd (upd (upd (upd (upd (upd H2 x (.ins T.c_DoneSteps dx f1)) da z2) x (.ins T.c_DoneSteps dx f2)) ba z4) x (.ins T.c_DoneSteps dx f3)) ua z6) x (.ins T.c_DoneSteps dx f4)) a xs := by
      intro a xs h f1 f2 f3 f4 z2 z4 z6
      have one : ∀ {H : Hp} {f : List (Str × V)} (o : HO), H x = some (.ins T.c_DoneSteps dx f) → SqT K H a xs → SqT K (upd H x o) a xs := fun o e q => sqT_at e (fun xs z => by cases z) (fun o u z => by cases z) q
      have two : ∀ {H : Hp} {p : Addr} {o : HO}, H p = none → SqT K H a xs → SqT K (upd H p o) a xs := fun n q => same_sqT (same_new n) q
      have a1 := one (.ins T.c_DoneSteps dx f1) hx2 h
      have a2 := two (p := da) (o := z2) (by rw [upd_ne nda]; exact hda2) a1
      have a3 := one (.ins T.c_DoneSteps dx f2) (by rw [upd_ne (Ne.symm nda)]; exact upd_same) a2
      have a4 := two (p := ba) (o := z4) (by rw [upd_ne nba, upd_ne nbd, upd_ne nba]; exact hba2) a3
      have a5 := one (.ins T.c_DoneSteps dx f3) (by rw [upd_ne (Ne.symm nba)]; exact upd_same) a4
      have a6 := two (p := ua) (o := z6) (by rw [upd_ne nua, upd_ne nub, upd_ne nua, upd_ne nud, upd_ne nua]; exact hua2) a5
      exact one _ (by rw [upd_ne (Ne.symm nua)]; exact upd_same) a6
    refine ⟨fun b o hb => ?_, dx, ra, da, ba, ua, rr, [], [], upd_same, ⟨?_, ?_⟩, ⟨?_, KeysAt.nil, fun k => rfl, Nat.zero_le _⟩, ⟨?_, KeysAt.nil, fun k => ?_, Nat.zero_le _⟩, ?_, ⟨nrd, nrb, Ne.symm nbd⟩, h0x, ?_, free _ hda2, free _ hba2, free _ hua2⟩
    · exact keep b o (fun z => by rw [z, h0x] at hb; cases hb) (s0 _ _ hb) _ _ _ _ _ _ _
    · rw [upd_ne nx, upd_ne nru, upd_ne nx, upd_ne nrb, upd_ne nx, upd_ne nrd, upd_ne nx]
      exact e2
    · exact d2.keep fun a xs h => t a xs h _ _ _ _ _ _ _
    · rw [upd_ne nda, upd_ne (Ne.symm nud), upd_ne nda, upd_ne (Ne.symm nbd), upd_ne nda, upd_same]
      rfl
    · rw [upd_ne nba, upd_ne (Ne.symm nub), upd_ne nba, upd_same]
      rfl
    · rw [cntF_none]
      rfl
    · rw [upd_ne nua, upd_same]
      rfl
    · exact (s0.trans s1).free hra
/-- an address, as data -/
def intsOf : PyData → List Int
  | .tuple ds => ds.map fun d => match d with | .int i => i | _ => 0
  | _ => []
theorem intsOf_ad (a : List Int) : intsOf (adD a) = a := by
  simp [intsOf, adD, List.map_map, Function.comp_def]
theorem noDs_ints' : ∀ l : List Int, noDs (l.map PyData.int) = true
  | [] => rfl
  | k :: l => by
    rw [List.map_cons]
    simp only [noDs, noD, noDs_ints' l, Bool.and_self]
def mayA (j : J) (done : List (List Int)) (a : List Int) : Bool := match rowOf j.srows a with
  | some r => !done.contains a && mayF j.srows (inL done) r
  | none => false
def mayD (j : J) (done : List (List Int)) (d : PyData) : Bool := isIdx d && mayA j done (intsOf d)
theorem isIdx_ad (a : List Int) : isIdx (adD a) = true := by
  show ((a.map PyData.int).all isI) = true
  rw [List.all_map, List.all_eq_true]
  intro x _
  rfl
def spMay (P : Program) (w : World) (K : PySem.W.Frag) (C : Addr) : Sp := fun vs H Q _ => ∃ (x : Addr) (v : V) (p : Addr) (d : PyData) (j : J) (done : List (List Int)), vs = [.ref x, v] ∧ DoneR P w K C H x j done ∧ Dq K p H v d ∧ d.bulk ≤ 80000 ∧ j.deep ≤ 20 ∧
  ∀ H', Same H H' → Q (.bl (mayD j done d)) H'
theorem ok_may (T : Txt K mg) : FnOk P w K mg base CX0 3 T.f_DoneSteps_may_do T.d_DoneSteps_may_do ["self", "address"] (spMay P w K T.c_DoneSteps) := by
  have g_is_index_tuple := ok_idx (P := P) (w := w) (base := base) T
  refine T.F_DoneSteps_may_do.ok sc_DoneSteps_may_do (fun vs H Q E h => ?_) (fun cdv A outer s H vs Q E hr h => ?_)
  · obtain ⟨x, v, p, d, j, done, rfl, _⟩ := h
    rfl
  obtain ⟨x, v, p, d, j, done, rfl, D0, hd, hb, h20, q⟩ := h
  have hu := hu_of hr
  refine ⟨_, (pss_cons (ps_if (PW.pt (pw_or (pt_not (pt_val (pe_call g_is_index_tuple (hr.mono (by omega)) rfl T.m_is_index_tuple T.F_is_index_tuple.kp T.b_is_index_tuple .nil pass0 (pa_cons (pv 1) pa_nil)))) (pw_or (pt_cmp (pc_dtNotIn hu (pv 1) (pe_fld (pv 0) rfl))) (pw_or1 (pt_cmp (pc_dtIn hu (pv 1) (pe_fld (pv 0) rfl))))))) (pss_one (ps_ret pe_bl)) pss_nil)
      (pss_cons (ps_set (i := 2) sc_DoneSteps_may_do.nd rfl (Or.inl rfl) (pe_ix (r := rIxT K) ix_tup (pe_dtGet hu (pe_fld (pv 0) rfl) (pv 1) (fun _ _ => rfl)) pe_int (fun _ _ => rfl)))
      (pss_one (ps_ret (pe_callB (r := rAll K) (cr_all rfl) (by rfl) T.n_all (by decide +kernel) (pa_cons (pe_lc (own := [("level", 3), ("least", 4)]) (g := (gTup K 2 (gCons (gName 3) (gCons (gName 4) gNil)))) (by rfl) sc_DoneSteps_may_do.nd (pi_tup (pv 2)) (blkOk_by (N := N_DoneSteps_may_do) (sc := (defScope s_DoneSteps_may_do)) (by decide +kernel)) (fun _ _ _ _ _ => (pg_tup (by rfl) (pgs_cons (pg_name (i := 3) sc_DoneSteps_may_do.nd rfl (Or.inl rfl)) (pgs_cons (pg_name (i := 4) sc_DoneSteps_may_do.nd rfl (Or.inl rfl)) pgs_nil)))) (fun _ _ _ _ _ => pts_nil) (fun _ _ _ _ _ => (pe_cmpR op_ge (pe_dtGetDK P w K rfl rfl rfl hu (pe_fldK K rfl (pv 0) rfl) (pe_slice (r := rSlA K) sl_tupA (pv 1) po_none (po_some (pv 3))) pe_int ⟨rfl, by rfl, by rfl, rfl⟩) (pv 4) (nomark _)))) pa_nil)))))), ?_⟩
  refine ⟨_, rfl, v, p, d, rfl, hd, hb, fun H1 s1 => ?_⟩
  have D1 := D0.go s1
  refine ⟨_, rfl, ?_⟩
  cases ei : isIdx d with
  | false =>
    refine iteT ?_
    have e : mayD j done d = false := by unfold mayD; rw [ei]; rfl
    rw [e] at q
    exact q _ s1
  | true =>
  refine iteF ?_
  obtain ⟨ds, rfl⟩ : ∃ ds, d = .tuple ds := by
    cases d <;> first | exact ⟨_, rfl⟩ | cases ei
  obtain ⟨a, rfl⟩ := idx_ints ei
  have em : mayD j done (.tuple (a.map .int)) = mayA j done a := by
    unfold mayD
    rw [ei, Bool.true_and]
    congr 1
    exact intsOf_ad a
  rw [em] at q
  obtain ⟨ta, xs, rfl, hxs, hall⟩ := dq_tup_inv (hd.keep (Same.kp s1))
  obtain rfl : xs = a.map V.int := ints_vals (hall.dp (noDs_ints' a))
  obtain ⟨dx, ra, da, ba, ua, rr, dd, bb, h1, ⟨h2, h3⟩, ⟨h4, h5, h6, h6'⟩, h7, h8, h9, h9'⟩ := id D1
  refine ⟨_, rfl, _, rfl, x, _, dx, _, _, rfl, h1, T.cl_DoneSteps, T.na_DoneSteps_rows, dl_rows _ _ _ _, _, ⟨ra, ta, rr, a, rfl, rfl, h2, h3.keys, hxs, rfl⟩, _, rfl, ?_⟩
  rcases h3.look a with ⟨r, v, er, el, dv⟩ | ⟨er, el⟩
  case inr =>
    rw [el]
    refine iteT ?_
    have e : mayA j done a = false := by unfold mayA; rw [er]
    rw [e] at q
    exact q _ s1
  rw [el]
  refine iteF ?_
  refine ⟨_, rfl, _, rfl, x, _, dx, _, _, rfl, h1, T.cl_DoneSteps, T.na_DoneSteps_done, dl_done _ _ _ _, _, ⟨da, ta, dd, a, rfl, rfl, .inl h4, h5, hxs, rfl⟩, _, rfl, ?_⟩
  rw [h6 a]
  cases ec : done.contains a with
  | true =>
    refine iteT ?_
    have e : mayA j done a = false := by unfold mayA; rw [er]; dsimp only; rw [ec]; rfl
    rw [e] at q
    exact q _ s1
  | false =>
  refine iteF ?_
  have e : mayA j done a = mayF j.srows (inL done) r := by unfold mayA; rw [er]; dsimp only; rw [ec]; rfl
  rw [e] at q
  obtain ⟨mr, rfl⟩ := rowOf_mem er
  have bd := J.srows_bd j r mr
  obtain ⟨tv, xv, rfl, qv, hv⟩ := dp_tup_inv dv
  cases hv with
  | cons dvv hv =>
  cases hv with
  | cons dg hv =>
  cases hv
  obtain ⟨tg, xg, rfl, qg, hg⟩ := dp_tup_inv dg
  have xgl : xg.length = r.2.2.length := by rw [dpAll_length hg, List.length_map]
  refine ⟨_, rfl, x, _, dx, _, _, rfl, h1, T.cl_DoneSteps, T.na_DoneSteps_rows, dl_rows _ _ _ _, _, rfl, _, ⟨ra, ta, rr, _, rfl, rfl, h2, h3.keys, hxs, el.symm⟩, _, _, _, _, rfl, rfl, qv, atI_at (j := 1) rfl rfl, ?_⟩
  refine ⟨_, rfl, tg, rfl, ⟨_, qg⟩, fun D hD => ?_⟩
  refine lc_tup (K := K) (a := tg) (xs := xg) (fun k H2 => Same H1 H2 ∧ H2 D = some (.lst (((r.2.2.take k).map fun g => decide (g.2 ≤ (cntF j.srows (inL done) (r.1.take g.1.toNat) : Int))).map V.bl))) ?_ ?_ ?_ ?_
  · exact ⟨same_new hD, by simpa using upd_same⟩
  · rintro k H2 _ ⟨s2, _⟩
    exact same_sqT s2 qg
  · rintro k y H2 hk ⟨s2, eD⟩
    obtain ⟨d, ed, hdd⟩ := dpAll_get hg hk
    rw [List.getElem?_map] at ed
    obtain ⟨pp, ep, rfl⟩ := Option.map_eq_some_iff.mp ed
    obtain ⟨tp, xp, rfl, qp, dp⟩ := dp_tup_inv hdd
    cases dp with
    | cons p1 dp =>
    cases dp with
    | cons p2 dp =>
    cases dp
    obtain rfl := dp_int_inv p1
    obtain rfl := dp_int_inv p2
    have hlt : k < r.2.2.length := (List.getElem?_eq_some_iff.mp ep).1
    refine ⟨tp, _, rfl, same_sqT s2 qp, rfl, _, _, rfl, _, _, rfl, rfl, rfl, ?_⟩
    unfold tYes
    refine iteT ?_
    have lv := J.lv j r mr pp (List.mem_of_getElem? ep)
    have kt : ∀ a xs, SqT K H1 a xs → SqT K H2 a xs := fun a xs h => same_sqT s2 h
    refine ⟨_, rfl, x, _, dx, _, _, rfl, s2 _ _ h1, T.cl_DoneSteps, T.na_DoneSteps_below, dl_below _ _ _ _, ⟨ba, bb, rfl, .inl (s2 _ _ h7), h8.keep kt⟩, _, rfl, ?_⟩
    try unfold tNoPart
    try dsimp only
    refine ⟨_, rfl, _, rfl, ?_⟩
    refine rSlA_q (kt _ _ hxs) (fun H3 t3 s3 q3 => ?_)
    rw [cut_upTo lv, ← List.map_take] at q3
    have s13 := s2.trans s3
    refine ⟨_, ⟨ba, t3, bb, _, rfl, rfl, .inl (s13 _ _ h7), h8.keep fun a xs h => same_sqT s13 h, q3, rfl⟩, _, rfl, ?_⟩
    rw [h9]
    have eD3 := s3 _ _ eD
    refine ⟨_, _, rfl, rfl, _, eD3, ?_, ?_, ?_⟩
    · rw [List.length_map, List.length_map, List.length_take]
      exact small1000 (by omega)
    · intro c o hc
      rw [upd_ne (ne_of_none hc hD)]
      exact s13 _ _ hc
    · rw [upd_same, take_step (fun g : Int × Int => decide (g.2 ≤ (cntF j.srows (inL done) (r.1.take g.1.toNat) : Int))) ep, List.map_append]
      rfl
  · rintro H2 ⟨s2, eD⟩
    rw [xgl, List.take_length] at eD
    refine ⟨D, _, rfl, SqL.of eD, ?_⟩
    have e : (r.2.2.map fun g => decide (g.2 ≤ (cntF j.srows (inL done) (r.1.take g.1.toNat) : Int))).all id = mayF j.srows (inL done) r := by
      rw [List.all_map]
      rfl
    rw [e]
    exact q _ (s1.trans s2)
theorem cntF_ext {R : List SRow} {D E : List Int → Bool} {q : List Int} (h : ∀ r ∈ R, D r.1 = E r.1) : cntF R D q = cntF R E q := by
  induction R with
  | nil => rfl
  | cons r R ih => rw [cntF, cntF, h r (List.mem_cons_self ..), ih fun r hr => h r (List.mem_cons_of_mem _ hr)]
theorem inL_snoc (done : List (List Int)) (a b : List Int) : inL (done ++ [a]) b = (inL done b || decide (b = a)) := by
  simp [inL, List.contains_eq_any_beq, List.any_append, Bool.beq_eq_decide_eq]
theorem cntF_snoc {a : List Int} {r : SRow} {done : List (List Int)} (nc : done.contains a = false) (q : List Int) : ∀ {R : List SRow}, (R.map (·.1)).Nodup → rowOf R a = some r → cntF R (inL (done ++ [a])) q = cntF R (inL done) q + hits r q
  | [], _, h => by cases h
  | s :: R, nd, h => by
    rw [List.map_cons, List.nodup_cons] at nd
    rw [rowOf_cons] at h
    rw [cntF, cntF, inL_snoc]
    by_cases e : s.1 = a
    · rw [if_pos e] at h
      cases h
      have e2 : cntF R (inL (done ++ [a])) q = cntF R (inL done) q := cntF_ext fun x hx => by
        have n : ¬ x.1 = a := fun z => nd.1 (List.mem_map.mpr ⟨x, hx, z.trans e.symm⟩)
        rw [inL_snoc, decide_eq_false n, Bool.or_false]
      rw [e2, e, show inL done a = false from nc]
      simp
      omega
    · rw [if_neg e] at h
      rw [cntF_snoc nc q nd.2 h, decide_eq_false e, Bool.or_false]
      omega
def spDoSt (P : Program) (w : World) (K : PySem.W.Frag) (C : Addr) : Sp := fun vs H Q _ => ∃ (x t : Addr) (a : List Int) (r : SRow) (H0 : Hp) (j : J) (done : List (List Int)), vs = [.ref x, .ref t] ∧ DoneAt P w K C H0 H x j done ∧ SqT K H t (a.map V.int) ∧
  rowOf j.srows a = some r ∧ done.contains a = false ∧ done.length < 400 ∧ j.deep ≤ 20 ∧ j.stb ∧ ∀ H', DoneAt P w K C H0 H' x j (done ++ [a]) → Q .non H'
theorem ok_step_d (T : Txt K mg) : FnOk P w K mg base CX0 1 T.f_DoneSteps_do_step T.d_DoneSteps_do_step ["self", "address"] (spDoSt P w K T.c_DoneSteps) := by
  refine T.F_DoneSteps_do_step.ok sc_DoneSteps_do_step (fun vs H Q E h => ?_) (fun cdv A outer s H vs Q E hr h => ?_)
  · obtain ⟨x, t, a, r, H0, j, done, rfl, _⟩ := h
    rfl
  obtain ⟨x, t, a, r, H0, j, done, rfl, D0, ht, er, nc, hlen, h20, hstb, q⟩ := h
  have hu := hu_of hr
  obtain ⟨s0, dx, ra, da, ba, ua, rr, dd, bb, h1, ⟨h2, h3⟩, ⟨h4, h5, h6, h6'⟩, ⟨h7, h8, h9, h9'⟩, h10, ⟨n1, n2, n3⟩, f1, f2, f3, f4, f5⟩ := id D0
  obtain ⟨mr, rfl⟩ := rowOf_mem er
  have bd := J.srows_bd j r mr
  rcases h3.look r.1 with ⟨r', v, er', el, dv⟩ | ⟨er', el⟩
  case inr =>
    rw [er] at er'
    cases er'
  rw [er] at er'
  cases er'
  obtain ⟨tv, xv, rfl, qv, hv⟩ := dp_tup_inv dv
  cases hv with
  | cons dvv hv =>
  cases hv with
  | cons dg hv =>
  cases hv
  obtain rfl := dp_int_inv dvv
  obtain ⟨tg, xg, rfl, qg, hg⟩ := dp_tup_inv dg
  have xgl : xg.length = r.2.2.length := by rw [dpAll_length hg, List.length_map]
  refine ⟨_, (pss_cons (ps_asg (pe_dtGet hu (pe_fld (pv 0) rfl) (pv 1) (fun _ _ => rfl)) (pg_tup (by rfl) (pgs_cons (pg_name (i := 2) sc_DoneSteps_do_step.nd rfl (Or.inl rfl)) (pgs_cons (pg_name (i := 3) sc_DoneSteps_do_step.nd rfl (Or.inl rfl)) pgs_nil))))
      (pss_cons (ps_for PassesOwn.never rfl (pi_tup (pv 3)) (pg_tup (by rfl) (pgs_cons (pg_name (i := 4) sc_DoneSteps_do_step.nd rfl (Or.inl rfl)) (pgs_cons (pg_name (i := 5) sc_DoneSteps_do_step.nd rfl (Or.inl rfl)) pgs_nil)))
        (pss_cons (ps_set (i := 6) sc_DoneSteps_do_step.nd rfl (Or.inl rfl) (pe_slice (r := rSlA K) sl_tupA (pv 1) po_none (po_some (pv 4))))
        (pss_one (ps_dtPut hu (pe_fld (pv 0) rfl) (pv 6) (pe_op op_add (pe_dtGetD hu (pe_fld (pv 0) rfl) (pv 6) pe_int ⟨rfl, by rfl, by rfl, rfl⟩) pe_int) rfl))))
      (pss_cons (ps_dtPut hu (pe_fld (pv 0) rfl) (pv 1) pe_bl rfl)
      (pss_one (ps_expr (pe_bm PySem.F.plainAttrs_list PySem.F.slot_list_append PySem.F.type_list_append mt_append (pe_fld (pv 0) rfl) (pa_cons (pe_op op_add (pe_ix (r := rIxL K) ix_list (pe_fld (pv 0) rfl) (pe_un un_neg pe_int) (fun _ _ => rfl)) (pv 2)) pa_nil))))))), ?_⟩
  refine ⟨_, rfl, x, _, dx, _, _, rfl, h1, T.cl_DoneSteps, T.na_DoneSteps_rows, dl_rows _ _ _ _, _, rfl, _, ⟨ra, t, rr, _, rfl, rfl, .inl h2, h3.keys, ht, el.symm⟩, tv, _, rfl, qv, rfl, _, _, rfl, _, _, rfl, rfl, ?_⟩
  refine ⟨_, rfl, tg, rfl, ⟨_, qg⟩, ?_⟩
  refine for_tup (K := K) (a := tg) (xs := xg) (fun k σ G => ∃ (bk : List DRow) (y4 y5 y6 : Option V), σ = [some (.ref x), some (.ref t), some (.int r.2.1), some (.ref tg), y4, y5, y6] ∧ Sx ba H G ∧ G ba = some (DtO P w ba bk) ∧ KeysAt K G bk ∧
      (∀ q, (look bk q).getD (.int 0) = .int ((cntF j.srows (inL done) q + ((r.2.2.take k).filter fun g => decide (r.1.take g.1.toNat = q)).length : Nat) : Int)) ∧ bk.length ≤ 20 * done.length + k)
    ⟨bb, none, none, none, rfl, Sx.refl, h7, h8, fun q => by rw [h9]; simp, by omega⟩ (fun k σ G _ ⟨_, _, _, _, _, sG, _⟩ => sx_dt h7 sG qg) ?_ ?_
  · rintro k y σ G hk ⟨bk, y4, y5, y6, rfl, sG, eb, kb, lb, hl⟩
    obtain ⟨d, ed, hdd⟩ := dpAll_get hg hk
    rw [List.getElem?_map] at ed
    obtain ⟨pp, ep, rfl⟩ := Option.map_eq_some_iff.mp ed
    obtain ⟨tp, xp, rfl, qp, dp⟩ := dp_tup_inv hdd
    cases dp with
    | cons p1 dp =>
    cases dp with
    | cons p2 dp =>
    cases dp
    obtain rfl := dp_int_inv p1
    obtain rfl := dp_int_inv p2
    have hlt : k < r.2.2.length := (List.getElem?_eq_some_iff.mp ep).1
    have lv := J.lv j r mr pp (List.mem_of_getElem? ep)
    have kt : ∀ a xs, SqT K H a xs → SqT K G a xs := fun a xs h => sx_dt h7 sG h
    have nxb : x ≠ ba := fun z => by rw [z, h7] at h1; exact dtO_ins (Option.some.inj h1)
    refine ⟨tp, _, rfl, kt _ _ qp, rfl, _, _, rfl, _, _, rfl, rfl, _, rfl, ?_⟩
    try unfold tNoPart
    try dsimp only
    refine ⟨_, rfl, _, rfl, ?_⟩
    refine rSlA_q (kt _ _ ht) (fun G3 t3 s3 q3 => ?_)
    rw [cut_upTo lv, ← List.map_take] at q3
    have eb3 := s3 _ _ eb
    have kb3 : KeysAt K G3 bk := kb.keep fun a xs h => same_sqT s3 h
    have hx3 := s3 _ _ (sG _ _ nxb h1)
    refine ⟨_, rfl, x, _, dx, _, _, rfl, hx3, T.cl_DoneSteps, T.na_DoneSteps_below, dl_below _ _ _ _, ⟨ba, bk, rfl, .inl eb3, kb3⟩, _, rfl, _, ⟨ba, t3, bk, _, rfl, rfl, .inl eb3, kb3, q3, rfl⟩, ?_⟩
    rw [lb]
    refine ⟨_, _, rfl, rfl, _, rfl, x, _, dx, _, _, rfl, hx3, T.cl_DoneSteps, T.na_DoneSteps_below, dl_below _ _ _ _, _, rfl, _, ⟨ba, t3, bk, _, rfl, rfl, eb3, kb3, q3, by have := bd.2; omega, rfl⟩, ?_⟩
    have kk : ∀ z a xs, SqT K G3 a xs → SqT K (upd G3 ba z) a xs := fun z a xs h => dt_sqT eb3 h
    refine ⟨_, _, _, _, rfl, fun b o nb hb => ?_, upd_same, (kb3.put q3).keep (kk _), fun q => ?_, ?_⟩
    · rw [upd_ne nb]
      exact s3 _ _ (sG _ _ nb hb)
    · rw [look_putD]
      by_cases e : q = r.1.take pp.1.toNat
      · subst e
        rw [if_pos rfl, List.take_add_one, ep, List.filter_append, List.length_append]
        simp
        omega
      · rw [if_neg e, lb, List.take_add_one, ep, List.filter_append, List.length_append]
        have e2 : ¬ r.1.take pp.1.toNat = q := fun z => e z.symm
        simp [e2]
    · exact Nat.le_trans (putD_len _ _ _ _) (by omega)
  · rintro σ G ⟨bk, y4, y5, y6, rfl, sG, eb, kb, lb, hl⟩
    rw [xgl, List.take_length] at lb
    have nxb : x ≠ ba := fun z => by rw [z, h7] at h1; exact dtO_ins (Option.some.inj h1)
    have nub : ua ≠ ba := fun z => by rw [z, h7] at h10; exact dtO_lst (Option.some.inj h10)
    have nud : ua ≠ da := fun z => by rw [z, h4] at h10; exact dtO_lst (Option.some.inj h10)
    have nur : ua ≠ ra := fun z => by rw [z, h2] at h10; exact dtO_lst (Option.some.inj h10)
    have nxd : x ≠ da := fun z => by rw [z, h4] at h1; exact dtO_ins (Option.some.inj h1)
    have nxu : x ≠ ua := fun z => by rw [z, h10] at h1; cases h1
    have hxG := sG _ _ nxb h1
    have kt : ∀ a xs, SqT K H a xs → SqT K G a xs := fun a xs h => sx_dt h7 sG h
    have edG := sG _ _ n3 h4
    have kdG : KeysAt K G dd := h5.keep kt
    have euG := sG _ _ nub h10
    refine ⟨_, rfl, x, _, dx, _, _, rfl, hxG, T.cl_DoneSteps, T.na_DoneSteps_done, dl_done _ _ _ _, _, rfl, _, ⟨da, t, dd, _, rfl, rfl, edG, kdG, kt _ _ ht, by omega, rfl⟩, ?_⟩
    have hx2 : upd G da (DtO P w da (putD dd r.1 t (.bl true))) x = some (.ins T.c_DoneSteps dx (dflds ra da ba ua)) := by rw [upd_ne nxd]; exact hxG
    have eu2 : upd G da (DtO P w da (putD dd r.1 t (.bl true))) ua = some (.lst ((sumsR j.srows done 0).map V.int)) := by rw [upd_ne nud]; exact euG
    have hsum := sumsR_last j.srows done 0
    obtain ⟨us, eus⟩ := List.getLast?_eq_some_iff.mp hsum
    have hsl := sumsR_len j.srows done 0
    refine ⟨_, rfl, x, _, dx, _, _, rfl, hx2, T.cl_DoneSteps, T.na_DoneSteps_usages, dl_usages _ _ _ _, .inl ⟨rfl, _, SqL.of eu2⟩, ?_⟩
    refine ⟨_, rfl, x, _, dx, _, _, rfl, hx2, T.cl_DoneSteps, T.na_DoneSteps_usages, dl_usages _ _ _ _, _, rfl, _, _, _, _, rfl, rfl, SqL.of eu2, (by rw [eus, List.map_append]; exact atI_last _ _), _, rfl, _, _, rfl, rfl, ?_⟩
    refine ⟨ua, _, _, rfl, rfl, eu2, (by rw [List.length_map]; exact small1000 (by omega)), ?_⟩
    have edG' : ∀ z, upd (upd G da (DtO P w da (putD dd r.1 t (.bl true)))) ua z da = some (DtO P w da (putD dd r.1 t (.bl true))) := fun z => by rw [upd_ne (Ne.symm nud), upd_same]
    have kk : ∀ z a xs, SqT K G a xs → SqT K (upd (upd G da (DtO P w da (putD dd r.1 t (.bl true)))) ua (.lst z)) a xs := fun z a xs h => sqT_at eu2 (fun xs z => by cases z) (fun o u z => by cases z) (dt_sqT edG h)
    refine q _ ⟨fun b o hb => ?_, dx, ra, da, ba, ua, rr, putD dd r.1 t (.bl true), bk, ?_, ⟨?_, ?_⟩, ⟨edG' _, ?_, fun k => ?_, ?_⟩, ⟨?_, ?_, fun k => ?_, ?_⟩, ?_, ⟨n1, n2, n3⟩, f1, f2, f3, f4, f5⟩
    · rw [upd_ne (ne_of_none hb f5), upd_ne (ne_of_none hb f3)]
      exact sG _ _ (ne_of_none hb f4) (s0 _ _ hb)
    · rw [upd_ne nxu]
      exact hx2
    · rw [upd_ne (Ne.symm nur), upd_ne n1]
      exact sG _ _ n2 h2
    · exact h3.keep fun a xs h => kk _ _ _ (kt _ _ h)
    · exact (kdG.put (kt _ _ ht)).keep (kk _)
    · rw [look_putD, List.contains_eq_any_beq, List.any_append, ← List.contains_eq_any_beq]
      by_cases e : k = r.1
      · simp [e]
      · rw [if_neg e, h6]
        have e2 : (k == r.1) = false := by simpa using e
        simp [e2]
    · have := putD_len dd r.1 t (.bl true)
      rw [List.length_append]
      simp only [List.length_singleton]
      omega
    · rw [upd_ne (Ne.symm nub), upd_ne (Ne.symm n3)]
      exact eb
    · exact kb.keep (kk _)
    · rw [lb, cntF_snoc nc k (by rw [J.srows_adr j hstb, ← J.sys_adr j]; exact J.sys_nodup j) er]
      rfl
    · rw [List.length_append]
      have := bd.2
      simp only [List.length_singleton]
      omega
    · rw [upd_same, sumsR_snoc, List.map_append, eus]
      have ev : valR j.srows r.1 = r.2.1 := by
        unfold valR
        rw [er]
        rfl
      rw [ev]
      simp
theorem nodup_len {α : Type} [DecidableEq α] : ∀ (l D : List α), l.Nodup → (∀ x ∈ l, x ∈ D) → l.length ≤ D.length
  | [], _, _, _ => Nat.zero_le _
  | x :: l, D, nd, h => by
    rw [List.nodup_cons] at nd
    have hx := h x (List.mem_cons_self ..)
    have ih := nodup_len l (D.erase x) nd.2 fun y hy => (List.mem_erase_of_ne (fun z => nd.1 (by rw [← z]; exact hy))).mpr (h y (List.mem_cons_of_mem _ hy))
    rw [List.length_erase_of_mem hx] at ih
    have := List.length_pos_of_mem hx
    rw [List.length_cons]
    omega
def walkD (j : J) : List (List Int) → List PyData → Bool × List (List Int)
  | done, [] => (true, done)
  | done, d :: ds => if mayD j done d = true then walkD j (done ++ [intsOf d]) ds else (false, done)
def allD (j : J) : PyData → Bool × List (List Int)
  | .tuple ds => walkD j [] ds
  | _ => (false, [])
/-- the same, some already done -/
def allF (j : J) (done : List (List Int)) : PyData → Bool × List (List Int)
  | .tuple ds => walkD j done ds
  | _ => (false, done)
theorem allF_nil (j : J) (d : PyData) : allF j [] d = allD j d := by cases d <;> rfl
theorem bulk_mem : ∀ {ds : List PyData} {d : PyData}, d ∈ ds → d.bulk ≤ PyData.bulkAll ds
  | [], _, h => by cases h
  | x :: ds, d, h => by
    simp only [PyData.bulkAll]
    rcases List.mem_cons.mp h with rfl | h
    · omega
    · have := bulk_mem h
      omega
theorem idx_data {d : PyData} (h : isIdx d = true) : d = adD (intsOf d) := by
  obtain ⟨ds, rfl⟩ : ∃ ds, d = .tuple ds := by
    cases d <;> first | exact ⟨_, rfl⟩ | cases h
  obtain ⟨a, rfl⟩ := idx_ints h
  show adD a = adD (intsOf (adD a))
  rw [intsOf_ad]
def spAll (P : Program) (w : World) (K : PySem.W.Frag) (C : Addr) : Sp := fun vs H Q _ => ∃ (x : Addr) (v : V) (p : Addr) (d : PyData) (H0 : Hp) (j : J) (dn : List (List Int)), vs = [.ref x, v] ∧ DoneAt P w K C H0 H x j dn ∧ dn.Nodup ∧ (∀ b ∈ dn, b ∈ j.adr) ∧ Dq K p H0 v d ∧ d.bulk ≤ 80000 ∧ j.deep ≤ 20 ∧ j.stb ∧ j.steps ≤ 400 ∧
  ∀ H', DoneAt P w K C H0 H' x j (allF j dn d).2 → Q (.bl (allF j dn d).1) H'
theorem ok_all (T : Txt K mg) : FnOk P w K mg base CX0 4 T.f_DoneSteps_do_all T.d_DoneSteps_do_all ["self", "addresses"] (spAll P w K T.c_DoneSteps) := by
  have g_DoneSteps_may_do := ok_may (P := P) (w := w) (base := base) T
  have g_DoneSteps_do_step := ok_step_d (P := P) (w := w) (base := base) T
  refine T.F_DoneSteps_do_all.ok sc_DoneSteps_do_all (fun vs H Q E h => ?_) (fun cdv A outer s H vs Q E hr h => ?_)
  · obtain ⟨x, v, p, d, H0, j, dn, rfl, _⟩ := h
    rfl
  obtain ⟨x, v, p, d, H0, j, dn, rfl, D0, dnn, dni, hd, hb, h20, hstb, h400, q⟩ := h
  have hu := hu_of hr
  refine ⟨_, (pss_cons (ps_if (pt_not (pt_val (pe_callB (r := rIsQ K) call_isQ (by rfl) T.n_isinstance (by decide +kernel) (pa_cons (pv 1) (pa_cons (pe_bltn (v := .ty "tuple") (by rfl) T.n_tuple (by decide +kernel) rfl) pa_nil))))) (pss_one (ps_ret pe_bl)) pss_nil)
      (pss_cons (ps_for PassesOwn.never rfl (pi_tup (pv 1)) (pg_name (i := 2) sc_DoneSteps_do_all.nd rfl (Or.inl rfl))
        (pss_cons (ps_if (pt_not (pt_val (pe_meth (pv 0) T.cl_DoneSteps T.mt_DoneSteps_may_do g_DoneSteps_may_do (hr.mono (by omega)) T.b_DoneSteps_may_do .nil pass0 (pa_cons (pv 2) pa_nil)))) (pss_one (ps_ret pe_bl)) pss_nil)
        (pss_one (ps_expr (pe_meth (pv 0) T.cl_DoneSteps T.mt_DoneSteps_do_step g_DoneSteps_do_step (hr.mono (by omega)) T.b_DoneSteps_do_step .nil pass0 (pa_cons (pv 2) pa_nil))))))
      (pss_one (ps_ret pe_bl)))), ?_⟩
  refine ⟨_, rfl, v, _, p, d, _, rfl, hd.keep (Same.kp D0.same), kit_tuple d, _, rfl, ?_⟩
  cases et : isTup d with
  | false =>
    refine iteT ?_
    have e : allF j dn d = (false, dn) := by cases d <;> first | rfl | cases et
    rw [e] at q
    exact q _ D0
  | true =>
  obtain ⟨ds, rfl⟩ : ∃ ds, d = .tuple ds := by
    cases d <;> first | exact ⟨_, rfl⟩ | cases et
  obtain ⟨a, xs, rfl, hxs, hall⟩ := dq_tup_inv hd
  have hlen : xs.length = ds.length := dqAll_length hall
  simp only [allF] at q
  refine iteF ?_
  refine ⟨_, rfl, a, rfl, ⟨xs, same_sqT D0.same hxs⟩, ?_⟩
  have adl := J.adr_len j hstb
  have adr := J.srows_adr j hstb
  refine for_tup (K := K) (a := a) (xs := xs) (fun k σ G => ∃ (done : List (List Int)) (y : Option V), σ = [some (.ref x), some (.ref a), y] ∧ DoneAt P w K T.c_DoneSteps H0 G x j done ∧ walkD j dn ds = walkD j done (ds.drop k) ∧ done.Nodup ∧ ∀ b ∈ done, b ∈ j.adr)
    ⟨dn, none, rfl, D0, rfl, dnn, dni⟩ (fun k σ G _ ⟨_, _, _, D, _⟩ => same_sqT D.same hxs) ?_ ?_
  · rintro k y σ G hk ⟨done, y2, rfl, D, ew, nd, hin⟩
    obtain ⟨d, ed, hdd⟩ := dqAll_get hall hk
    obtain ⟨klt, ek⟩ := List.getElem?_eq_some_iff.mp ed
    have edrop : ds.drop k = d :: ds.drop (k + 1) := by rw [← ek]; exact List.drop_eq_getElem_cons klt
    have bd : d.bulk ≤ 80000 := by
      have := bulk_mem (List.mem_of_getElem? ed)
      simp only [PyData.bulk] at hb
      omega
    rw [edrop, walkD] at ew
    obtain ⟨_, dx, ra, da, ba, ua, rr, dd, bb, h1, _⟩ := id D
    refine ⟨_, rfl, x, dx, _, rfl, h1, dl_no _ _ _ _ (by decide +kernel) (by decide +kernel) (by decide +kernel) (by decide +kernel), _, rfl, x, y, p, d, j, done, rfl, D.toR, hdd.keep (Same.kp D.same), bd, h20, fun G1 s1 => ?_⟩
    have D1 := D.go s1
    refine ⟨_, rfl, ?_⟩
    cases em : mayD j done d with
    | false =>
      refine iteT ?_
      rw [em, if_neg Bool.false_ne_true] at ew
      rw [ew] at q
      exact q _ D1
    | true =>
      rw [em, if_pos rfl] at ew
      refine iteF ?_
      have em2 := em
      unfold mayD at em2
      rw [Bool.and_eq_true] at em2
      obtain ⟨e1, e2⟩ := em2
      have ed2 := idx_data e1
      unfold mayA at e2
      obtain ⟨r, er⟩ : ∃ r, rowOf j.srows (intsOf d) = some r := by
        cases z : rowOf j.srows (intsOf d) with
        | some r => exact ⟨r, rfl⟩
        | none => rw [z] at e2; cases e2
      rw [er] at e2
      dsimp only at e2
      rw [Bool.and_eq_true, Bool.not_eq_true'] at e2
      obtain ⟨nc, _⟩ := e2
      obtain ⟨mr, ar⟩ := rowOf_mem er
      have mem : intsOf d ∈ j.adr := by rw [← adr]; exact List.mem_map.mpr ⟨r, mr, ar⟩
      have nin : intsOf d ∉ done := fun z => by
        have := List.contains_iff_mem.mpr z
        rw [nc] at this
        cases this
      have nd2 : (done ++ [intsOf d]).Nodup := by
        rw [List.nodup_append]
        refine ⟨nd, by simp, fun b hb c hc z => ?_⟩
        rw [List.mem_singleton.mp hc] at z
        exact nin (z ▸ hb)
      have in2 : ∀ b ∈ done ++ [intsOf d], b ∈ j.adr := fun b hb => by
        rcases List.mem_append.mp hb with hb | hb
        · exact hin b hb
        · rw [List.mem_singleton.mp hb]
          exact mem
      have l2 := nodup_len _ _ nd2 in2
      rw [List.length_append, List.length_singleton] at l2
      have hd1 := hdd.keep (Same.kp D1.same)
      rw [ed2] at hd1
      obtain ⟨t, xt, rfl, ht, ha⟩ := dq_tup_inv hd1
      obtain rfl := ints_vals (ha.dp (noDs_ints' _))
      obtain ⟨_, dx1, ra1, da1, ba1, ua1, rr1, dd1, bb1, k1, _⟩ := id D1
      refine ⟨_, rfl, x, dx1, _, rfl, k1, dl_no _ _ _ _ (by decide +kernel) (by decide +kernel) (by decide +kernel) (by decide +kernel), _, rfl, x, t, intsOf d, r, H0, j, done, rfl, D1, ht, er, nc, by omega, h20, hstb, fun G2 D2 => ?_⟩
      exact ⟨done ++ [intsOf d], _, rfl, D2, ew, nd2, in2⟩
  · rintro σ G ⟨done, y2, rfl, D, ew, nd, hin⟩
    rw [hlen, List.drop_length, walkD] at ew
    rw [ew] at q
    exact q _ D
end

/-! block State: which tuples are states, their usage (behind bDone, with Mx) -/
def ascB : List (List Int) → Bool
  | [] => true
  | [_] => true
  | a :: b :: r => HT.lexLt a b && ascB (b :: r)
theorem ascB_zip : ∀ as : List (List Int), ((as.zip (as.drop 1)).map fun p => HT.lexLt p.1 p.2).all id = ascB as
  | [] => rfl
  | [_] => rfl
  | a :: b :: r => by
    have ih := ascB_zip (b :: r)
    simp only [List.drop_succ_cons, List.drop_zero] at ih
    simp only [ascB, List.drop_succ_cons, List.drop_zero, List.zip_cons_cons, List.map_cons, List.all_cons, id]
    rw [← ih]
theorem ad_at {K : PySem.W.Frag} {H : Hp} {xs : List V} {as : List (List Int)} {i : Nat} {v : V} (h : DpAll K H xs (adDs as)) (e : xs[i]? = some v) : ∃ (t : Addr) (a : List Int), as[i]? = some a ∧ v = .ref t ∧ SqT K H t (a.map V.int) := by
  obtain ⟨d, ed, hd⟩ := dpAll_get h e
  rw [adDs, List.getElem?_map] at ed
  obtain ⟨a, ea, rfl⟩ := Option.map_eq_some_iff.mp ed
  obtain ⟨t, xt, rfl, ht, ha⟩ := dp_tup_inv hd
  obtain rfl := Lw.ints_vals ha
  exact ⟨t, a, ea, rfl, ht⟩
theorem noDs_ads : ∀ as : List (List Int), noDs (adDs as) = true
  | [] => rfl
  | a :: as => by
    show noDs (adD a :: adDs as) = true
    simp only [noDs, adD, noD, noDs_ints' a, noDs_ads as, Bool.and_self]
section
variable {P : Program} {w : World} {K : PySem.W.Frag} {mg : Str → Option Value} {base : Heap}
def spAsc (K : PySem.W.Frag) : Sp := fun vs H Q _ => ∃ (a : Addr) (xs : List V) (as : List (List Int)), vs = [.ref a] ∧ SqT K H a xs ∧ DpAll K H xs (adDs as) ∧ as.length ≤ 400 ∧ ∀ H', Same H H' → Q (.bl (ascB as)) H'
theorem ok_asc (T : Txt K mg) : FnOk P w K mg base CX0 1 T.f__is_ascending T.d__is_ascending ["addresses"] (spAsc K) := by
  refine T.F__is_ascending.ok sc__is_ascending (fun vs H Q E h => ?_) (fun cdv A outer s H vs Q E hr h => ?_)
  · obtain ⟨a, xs, as, rfl, _⟩ := h
    rfl
  obtain ⟨a, xs, as, rfl, hs, hall, h400, q⟩ := h
  have xl : xs.length = as.length := by rw [dpAll_length hall, adDs, List.length_map]
  refine ⟨_, (pss_one (ps_ret (pe_callB (r := rAll K) (cr_all rfl) (by rfl) T.n_all (by decide +kernel) (pa_cons (pe_lc (own := [("before", 1), ("after", 2)]) (g := (gTup K 2 (gCons (gName 1) (gCons (gName 2) gNil)))) (by rfl) sc__is_ascending.nd (RZ.pi_zipA (by rfl) T.n_zip (pa_cons (pv 0) (pa_cons (pe_slice (r := rSlA K) sl_tupA (pv 0) (po_some pe_int) po_none) pa_nil))) (blkOk_by (N := N__is_ascending) (sc := (defScope s__is_ascending)) (by decide +kernel)) (fun _ _ _ _ _ => (pg_tup (by rfl) (pgs_cons (pg_name (i := 1) sc__is_ascending.nd rfl (Or.inl rfl)) (pgs_cons (pg_name (i := 2) sc__is_ascending.nd rfl (Or.inl rfl)) pgs_nil)))) (fun _ _ _ _ _ => pts_nil) (fun _ _ _ _ _ => (pe_cmpR (r := rLtT K) (op_ltT hr.units0) (pv 1) (pv 2) (nomark _)))) pa_nil)))), ?_⟩
  refine ⟨_, rfl, _, rfl, _, rfl, ?_⟩
  try unfold tNoPart
  try dsimp only
  refine rSlA_q hs (fun G1 b s1 hb => ?_)
  have e1 : cutV xs (some 1) none = xs.drop 1 := by
    unfold cutV HT.sIx
    dsimp only
    rw [if_neg (by decide)]
    by_cases z : xs.length = 0
    · rw [List.length_eq_zero_iff.mp z]
      rfl
    · rw [Nat.min_eq_left (by show 1 ≤ xs.length; omega), List.take_of_length_le (by rw [List.length_drop]; exact Nat.le_refl _)]
      rfl
  rw [e1] at hb
  have hs1 := same_sqT s1 hs
  have hall1 := dpAll_same s1 hall
  refine ⟨a, b, _, _, rfl, .inr ⟨hs1, hb, fun D hD => ?_⟩⟩
  refine lc_it (walk_zipT2 (xs := xs) (ys := xs.drop 1) (n := xs.length - 1) (by rw [List.length_drop]; omega)) (fun i F => Same G1 F ∧ F D = some (.lst ((((as.zip (as.drop 1)).take i).map fun p => HT.lexLt p.1 p.2).map V.bl))) ?_ ?_ ?_ ?_
  · exact ⟨same_new hD, by simpa using upd_same⟩
  · rintro i F _ ⟨s3, _⟩
    exact ⟨same_sqT s3 hs1, same_sqT s3 hb⟩
  · rintro i z F F' hi ⟨s3, eD⟩ ⟨t, x, y, rfl, ht, rfl, hx, hy⟩
    dsimp only at hx hy
    rw [List.getElem?_drop] at hy
    obtain ⟨t1, a1, ea1, rfl, k1⟩ := ad_at hall1 hx
    obtain ⟨t2, a2, ea2, rfl, k2⟩ := ad_at hall1 hy
    have s4 : Same F (upd F t (.tup [.ref t1, .ref t2])) := same_new ht
    have kt : SqT K (upd F t (.tup [.ref t1, .ref t2])) t [.ref t1, .ref t2] := SqT.of upd_same
    have eD4 := s4 _ _ eD
    generalize (upd F t (.tup [.ref t1, .ref t2])) = F2 at s4 kt eD4 ⊢
    have s34 := s3.trans s4
    refine ⟨t, _, rfl, kt, rfl, _, _, rfl, _, _, rfl, rfl, rfl, ?_⟩
    unfold tYes
    refine iteT ?_
    refine ⟨_, rfl, _, rfl, t1, t2, a1, a2, rfl, rfl, same_sqT s34 k1, same_sqT s34 k2, ?_⟩
    have ez : (as.zip (as.drop 1))[i]? = some (a1, a2) := by
      rw [List.getElem?_zip_eq_some]
      exact ⟨ea1, by rw [List.getElem?_drop]; exact ea2⟩
    have il := (List.getElem?_eq_some_iff.mp ea1).1
    refine ⟨_, eD4, ?_, ?_, ?_⟩
    · rw [List.length_map, List.length_map, List.length_take]
      exact small1000 (by omega)
    · intro c o hc
      rw [upd_ne (ne_of_none hc hD)]
      exact s34 _ _ hc
    · rw [upd_same, take_step (fun p : List Int × List Int => HT.lexLt p.1 p.2) ez, List.map_append]
      rfl
  rintro F ⟨s3, eD⟩
  have tz : (as.zip (as.drop 1)).take (xs.length - 1) = as.zip (as.drop 1) := by
    refine List.take_of_length_le ?_
    rw [List.length_zip, List.length_drop]
    omega
  rw [tz] at eD
  refine ⟨D, _, rfl, SqL.of eD, ?_⟩
  rw [ascB_zip]
  exact q _ (s1.trans s3)
/-- what a tuple must be, to be a state -/
def stB (j : J) (d : PyData) : Bool := (allD j d).1 && ascB (allD j d).2
theorem walkD_all {j : J} : ∀ {ds : List PyData} {done : List (List Int)}, (walkD j done ds).1 = true → ∃ as, ds = adDs as ∧ (walkD j done ds).2 = done ++ as
  | [], done, _ => ⟨[], rfl, by simp [walkD]⟩
  | d :: ds, done, h => by
    rw [walkD] at h ⊢
    cases e : mayD j done d with
    | false =>
      rw [e, if_neg Bool.false_ne_true] at h
      cases h
    | true =>
      rw [e] at h
      rw [if_pos rfl] at h ⊢
      obtain ⟨as, e1, e2⟩ := walkD_all h
      have em := e
      unfold mayD at em
      rw [Bool.and_eq_true] at em
      refine ⟨intsOf d :: as, ?_, ?_⟩
      · show d :: ds = adD (intsOf d) :: adDs as
        rw [← idx_data em.1, e1]
      · rw [e2, List.append_assoc]
        rfl
theorem walkD_len {j : J} (hs : j.stb) : ∀ {ds : List PyData} {done : List (List Int)}, done.Nodup → (∀ b ∈ done, b ∈ j.adr) → (walkD j done ds).2.Nodup ∧ ∀ b ∈ (walkD j done ds).2, b ∈ j.adr
  | [], done, nd, hin => ⟨nd, hin⟩
  | d :: ds, done, nd, hin => by
    rw [walkD]
    cases e : mayD j done d with
    | false =>
      rw [if_neg Bool.false_ne_true]
      exact ⟨nd, hin⟩
    | true =>
      rw [if_pos rfl]
      unfold mayD at e
      rw [Bool.and_eq_true] at e
      have e2 := e.2
      unfold mayA at e2
      cases z : rowOf j.srows (intsOf d) with
      | none => rw [z] at e2; cases e2
      | some r =>
      rw [z] at e2
      dsimp only at e2
      rw [Bool.and_eq_true, Bool.not_eq_true'] at e2
      obtain ⟨mr, ar⟩ := rowOf_mem z
      refine walkD_len hs ?_ ?_
      · rw [List.nodup_append]
        refine ⟨nd, by simp, fun b hb c hc y => ?_⟩
        rw [List.mem_singleton.mp hc] at y
        have := List.contains_iff_mem.mpr hb
        rw [y, e2.1] at this
        cases this
      · intro b hb
        rcases List.mem_append.mp hb with hb | hb
        · exact hin b hb
        · rw [List.mem_singleton.mp hb, ← J.srows_adr j hs]
          exact List.mem_map.mpr ⟨r, mr, ar⟩
def spFindSt (P : Program) (w : World) (K : PySem.W.Frag) (C : Addr) : Sp := fun vs H Q _ => ∃ (v u : V) (p : Addr) (d : PyData) (j : J), vs = [v, u] ∧ Dp K H v j.toD ∧ Dq K p H u d ∧ d.bulk ≤ 80000 ∧ j.deep ≤ 20 ∧ j.stb ∧ j.steps ≤ 400 ∧
  (stB j d = false → ∀ H', Same H H' → Q .non H') ∧ (stB j d = true → ∀ H' x, DoneAt P w K C H H' x j (allD j d).2 → Q (.ref x) H')
theorem ok_findst (T : Txt K mg) : FnOk P w K mg base CX0 44 T.f__find_state T.d__find_state ["job", "value"] (spFindSt P w K T.c_DoneSteps) := by
  have g_DoneSteps_init := ok_dinit (P := P) (w := w) (base := base) T
  have g_DoneSteps_do_all := ok_all (P := P) (w := w) (base := base) T
  have g__is_ascending := ok_asc (P := P) (w := w) (base := base) T
  refine T.F__find_state.ok sc__find_state (fun vs H Q E h => ?_) (fun cdv A outer s H vs Q E hr h => ?_)
  · obtain ⟨v, u, p, d, j, rfl, _⟩ := h
    rfl
  obtain ⟨v, u, p, d, j, rfl, hv, hd, hb, h20, hstb, h400, qn, qy⟩ := h
  refine ⟨_, (pss_cons (ps_set (i := 2) sc__find_state.nd rfl (Or.inl rfl) (pe_make T.mk_DoneSteps g_DoneSteps_init (hr.mono (by omega)) rfl T.g_DoneSteps T.b_DoneSteps_init .nil pass0 (pa_cons (pv 0) pa_nil)))
      (pss_one (ps_ret (pe_ifExp (PW.pt (pw_and (pt_val (pe_meth (pv 2) T.cl_DoneSteps T.mt_DoneSteps_do_all g_DoneSteps_do_all (hr.mono (by omega)) T.b_DoneSteps_do_all .nil pass0 (pa_cons (pv 1) pa_nil))) (pw_and1 (pt_val (pe_call g__is_ascending (hr.mono (by omega)) rfl T.m__is_ascending T.F__is_ascending.kp T.b__is_ascending .nil pass0 (pa_cons (pv 1) pa_nil)))))) (pv 2) pe_non)))), ?_⟩
  refine ⟨_, rfl, fun x dx nx ndx nex => ?_⟩
  have s0 : Same H (upd (upd H dx (.own x)) x (.ins T.c_DoneSteps dx [])) := (same_new ndx).trans (same_new (by rw [upd_ne (Ne.symm nex)]; exact nx))
  refine ⟨x, dx, v, j, rfl, upd_same, dp_same s0 hv, h20, hstb, h400, fun H1 D1 => ⟨rfl, ?_⟩⟩
  have D := D1 H s0 nx
  obtain ⟨_, dx1, ra, da, ba, ua, rr, dd, bb, h1, _⟩ := id D
  refine ⟨_, rfl, x, dx1, _, rfl, h1, dl_no _ _ _ _ (by decide +kernel) (by decide +kernel) (by decide +kernel) (by decide +kernel), _, rfl, x, u, p, d, H, j, [], rfl, D, List.nodup_nil, (fun b h => nomatch h), hd, hb, h20, hstb, h400, fun H2 D2 => ?_⟩
  rw [allF_nil] at D2 ⊢
  refine ⟨_, rfl, ?_⟩
  cases e : (allD j d).1 with
  | false =>
    refine iteF ?_
    refine iteF ?_
    exact qn (by unfold stB; rw [e]; rfl) _ D2.same
  | true =>
  refine iteT ?_
  obtain ⟨ds, rfl⟩ : ∃ ds, d = .tuple ds := by
    cases d <;> first | exact ⟨_, rfl⟩ | cases e
  have e' : (walkD j [] ds).1 = true := e
  obtain ⟨as, rfl, e2⟩ := walkD_all e'
  obtain ⟨nd, hin⟩ := walkD_len (j := j) hstb (ds := adDs as) (done := []) List.nodup_nil (fun b h => by cases h)
  rw [e2, List.nil_append] at nd hin
  have e3 : (allD j (.tuple (adDs as))).2 = as := by
    show (walkD j [] (adDs as)).2 = as
    rw [e2, List.nil_append]
  have ll := nodup_len _ _ nd hin
  have adl := J.adr_len j hstb
  obtain ⟨a, xs, rfl, hs, hall⟩ := dq_tup_inv (hd.keep (Same.kp D2.same))
  refine ⟨_, rfl, a, xs, as, rfl, hs, hall.dp (noDs_ads as), by omega, fun H3 s3 => ?_⟩
  have eb : stB j (.tuple (adDs as)) = ascB as := by
    unfold stB
    rw [e, e3, Bool.true_and]
  refine ⟨_, rfl, ?_⟩
  cases ea : ascB as with
  | false =>
    refine iteF ?_
    exact qn (eb.trans ea) _ (D2.same.trans s3)
  | true =>
    refine iteT ?_
    exact ⟨_, rfl, qy (eb.trans ea) _ x (D2.go s3)⟩
def spIsSt (K : PySem.W.Frag) : Sp := fun vs H Q _ => ∃ (v u : V) (p : Addr) (d : PyData) (j : J), vs = [v, u] ∧ Dp K H v j.toD ∧ Dq K p H u d ∧ d.bulk ≤ 80000 ∧ j.deep ≤ 20 ∧ j.stb ∧ (szJ j 400 13).isSome = true ∧ j.steps ≤ 400 ∧
  ∀ H', Same H H' → Q (.bl (stB j d)) H'
def spCkSt (P : Program) (w : World) (K : PySem.W.Frag) (C I : Addr) : Sp := fun vs H Q E => ∃ (v u : V) (p : Addr) (d : PyData) (j : J), vs = [v, u] ∧ Dp K H v j.toD ∧ Dq K p H u d ∧ d.bulk ≤ 80000 ∧ j.deep ≤ 20 ∧ j.stb ∧ j.steps ≤ 400 ∧
  (stB j d = true → ∀ H' x, DoneAt P w K C H H' x j (allD j d).2 → Q (.ref x) H') ∧ (stB j d = false → ∀ H', Same H H' → E (.ref I) none H')
theorem ok_ckst (T : Txt K mg) : FnOk P w K mg base (L2.CX P w) 45 T.f_checked_state T.d_checked_state ["job", "state"] (spCkSt P w K T.c_DoneSteps T.c_InvalidState) := by
  have g__find_state := ok_findst (P := P) (w := w) (base := base) T
  refine T.F_checked_state.okX sc_checked_state (fun vs H Q E h => ?_) (fun cdv A outer s H vs Q E hr h => ?_)
  · obtain ⟨v, u, p, d, j, rfl, _⟩ := h
    rfl
  obtain ⟨v, u, p, d, j, rfl, hv, hd, hb, h20, hstb, h400, q, qe⟩ := h
  refine ⟨_, (pss_cons (ps_set (i := 2) sc_checked_state.nd rfl (Or.inl rfl) (pe_call g__find_state (hr.mono (by omega)) rfl T.m__find_state T.F__find_state.kp T.b__find_state .nil pass0 (pa_cons (pv 0) (pa_cons (pv 1) pa_nil))))
      (pss_cons (ps_if (pt_cmpR op_isN (pv 2) pe_non (nomark _)) (pss_one (ps_raise rfl (takes_of rfl rfl rfl rfl) (pmk_own PySem.F.excBase_ValueError T.x_InvalidState T.g_InvalidState T.k_InvalidState (raises_own T.bb_InvalidState T.tt_InvalidState) rfl))) pss_nil)
      (pss_one (ps_ret (pv 2))))), ?_⟩
  refine ⟨_, rfl, _, rfl, v, u, p, d, j, rfl, hv, hd, hb, h20, hstb, h400, fun e H2 s2 => ?_, fun e H2 x D => ?_⟩
  · refine ⟨_, rfl, rfl, _, rfl, ?_⟩
    refine iteT ?_
    exact qe e _ s2
  · refine ⟨_, rfl, rfl, _, rfl, ?_⟩
    refine iteF ?_
    exact ⟨_, rfl, q e _ x D⟩
def spUse (K : PySem.W.Frag) (I : Addr) : Sp := fun vs H Q E => ∃ (v u : V) (p : Addr) (d : PyData) (j : J), vs = [v, u] ∧ Dp K H v j.toD ∧ Dq K p H u d ∧ d.bulk ≤ 80000 ∧ j.deep ≤ 20 ∧ j.stb ∧ (szJ j 400 13).isSome = true ∧ j.steps ≤ 400 ∧
  (stB j d = true → ∀ H', Same H H' → Q (.int (useR j.srows (allD j d).2)) H') ∧ (stB j d = false → ∀ H', Same H H' → E (.ref I) none H')
def spRefS (K : PySem.W.Frag) : Sp := fun vs H Q _ => ∃ (v u : V) (p : Addr) (d : PyData) (j : J), vs = [v, u] ∧ Dp K H v j.toD ∧ Dq K p H u d ∧ d.bulk ≤ 80000 ∧ j.deep ≤ 20 ∧ j.stb ∧ (szJ j 400 13).isSome = true ∧ j.steps ≤ 400 ∧
  ∀ H', Same H H' → Q (.bl (!stB j d)) H'
end

/-! block Closed: drawn states; what is a state, said by the steps' order (behind bState, bAhead) -/
theorem lex_trans : ∀ {a b c : List Int}, HT.lexLt a b = true → HT.lexLt b c = true → HT.lexLt a c = true
  | [], [], _, h, _ => by cases h
  | [], _ :: _, [], _, h => by cases h
  | [], _ :: _, _ :: _, _, _ => rfl
  | _ :: _, [], _, h, _ => by cases h
  | _ :: _, _ :: _, [], _, h => by cases h
  | x :: a, y :: b, z :: c, h1, h2 => by
    rw [HT.lexLt_cons] at h1 h2 ⊢
    by_cases e1 : x = y
    · subst e1
      rw [if_pos rfl] at h1
      by_cases e2 : x = z
      · rw [if_pos e2] at h2 ⊢
        exact lex_trans h1 h2
      · rw [if_neg e2] at h2 ⊢
        exact h2
    · rw [if_neg e1, decide_eq_true_eq] at h1
      by_cases e2 : y = z
      · subst e2
        rw [if_neg e1, decide_eq_true_eq]
        exact h1
      · rw [if_neg e2, decide_eq_true_eq] at h2
        rw [if_neg (by omega), decide_eq_true_eq]
        omega
theorem lex_self : ∀ a : List Int, HT.lexLt a a = false
  | [] => rfl
  | x :: a => by rw [HT.lexLt_cons, if_pos rfl, lex_self a]
theorem lex_tri : ∀ {a b : List Int}, HT.lexLt a b = false → HT.lexLt b a = false → a = b
  | [], [], _, _ => rfl
  | [], _ :: _, h, _ => by cases h
  | _ :: _, [], _, h => by cases h
  | x :: a, y :: b, h1, h2 => by
    rw [HT.lexLt_cons] at h1 h2
    by_cases e : x = y
    · subst e
      rw [if_pos rfl] at h1 h2
      rw [lex_tri h1 h2]
    · rw [if_neg e, decide_eq_false_iff_not] at h1
      rw [if_neg (Ne.symm e), decide_eq_false_iff_not] at h2
      omega
abbrev Asc (as : List (List Int)) : Prop := as.Pairwise fun x y => HT.lexLt x y = true
theorem ascB_iff : ∀ as : List (List Int), ascB as = true ↔ Asc as
  | [] => by simp [ascB]
  | [a] => by simp [ascB]
  | a :: b :: r => by
    have ih := ascB_iff (b :: r)
    rw [ascB, Bool.and_eq_true, ih]
    constructor
    · rintro ⟨h, p⟩
      refine List.pairwise_cons.mpr ⟨fun x hx => ?_, p⟩
      rcases List.mem_cons.mp hx with rfl | hx
      · exact h
      · exact lex_trans h ((List.pairwise_cons.mp p).1 x hx)
    · intro p
      obtain ⟨h, p⟩ := List.pairwise_cons.mp p
      exact ⟨h b (List.mem_cons_self ..), p⟩
theorem asc_nodup {as : List (List Int)} (h : Asc as) : as.Nodup := h.imp fun {a b} h z => by
  rw [z, lex_self] at h
  cases h
theorem asc_weak {M : List (List Int)} (nd : M.Nodup) (h : M.Pairwise fun x y => HT.lexLt y x = false) : Asc M := by
  have h2 := List.pairwise_and_iff.mpr ⟨nd, h⟩
  refine h2.imp fun {a b} h => ?_
  cases e : HT.lexLt a b with
  | true => rfl
  | false => exact absurd (lex_tri e h.2) h.1
/-- what sorted(set(..)) says of ascending -/
theorem asc_sorted {as M : List (List Int)} (nd : M.Nodup) (h : M.Pairwise fun x y => HT.lexLt y x = false) (m : ∀ a, a ∈ M ↔ a ∈ as) : M = as ↔ ascB as = true := by
  rw [ascB_iff]
  constructor
  · rintro rfl
    exact asc_weak nd h
  · intro p
    refine ((List.perm_ext_iff_of_nodup nd (asc_nodup p)).mpr m).eq_of_pairwise (fun a b _ _ h1 h2 => ?_) (asc_weak nd h) p
    have := lex_trans h1 h2
    rw [lex_self] at this
    cases this
theorem aheadAt_lt : ∀ {Ss : List Sys} {i k : Int} {a b : List Int}, (∀ S ∈ Ss, ∀ a b, S.ahead a b = true → HT.lexLt a b = true) → aheadAt Ss i k a b = true → HT.lexLt a b = true
  | [], _, _, _, _, _, h => by cases h
  | S :: r, i, k, a, b, hS, h => by
    unfold aheadAt at h
    by_cases e : k = i
    · rw [if_pos e] at h
      exact hS S (List.mem_cons_self ..) a b h
    · rw [if_neg e] at h
      exact aheadAt_lt (fun S hs => hS S (List.mem_cons_of_mem _ hs)) h
theorem cAhead_lt {sq : Bool} {Ss : List Sys} {i : Int} (hS : ∀ S ∈ Ss, ∀ a b, S.ahead a b = true → HT.lexLt a b = true) : ∀ a b, cAhead sq Ss i a b = true → HT.lexLt a b = true
  | [], _, h => absurd (show false = true from h) Bool.false_ne_true
  | _ :: _, [], h => absurd (show false = true from h) Bool.false_ne_true
  | k :: a, m :: b, h => by
    have h : (if k ≠ m then sq && decide (k < m) else aheadAt Ss i k a b) = true := h
    rw [HT.lexLt_cons]
    by_cases e : k = m
    · rw [if_neg (fun z => z e)] at h
      rw [if_pos e]
      exact aheadAt_lt hS h
    · rw [if_pos e, Bool.and_eq_true] at h
      rw [if_neg e]
      exact h.2
mutual
theorem J.ahead_lt : ∀ (j : J) (a b : List Int), j.sys.ahead a b = true → HT.lexLt a b = true
  | .st _, _, _, h => by cases h
  | .ps _ xs, a, b, h => by
    simp only [J.sys, comp] at h
    exact cAhead_lt (J.aheads_lt xs) a b h
  | .rn _ n x, a, b, h => by
    simp only [J.sys, comp] at h
    refine cAhead_lt (fun S hS => ?_) a b h
    obtain ⟨_, rfl⟩ := List.mem_replicate.mp hS
    exact J.ahead_lt x
theorem J.aheads_lt : ∀ (xs : List J), ∀ S ∈ J.syss xs, ∀ a b, S.ahead a b = true → HT.lexLt a b = true
  | [], _, h => by cases h
  | x :: xs, S, h => by
    simp only [J.syss] at h
    rcases List.mem_cons.mp h with rfl | h
    · exact J.ahead_lt x
    · exact J.aheads_lt xs S h
end
/-- what comes ahead of a step in it, is in it -/
def Clo (j : J) (as : List (List Int)) : Prop := ∀ a ∈ j.adr, ∀ b ∈ as, j.sys.ahead a b = true → a ∈ as
theorem inL_mem {done : List (List Int)} {b : List Int} : inL done b = true ↔ b ∈ done := by
  unfold inL
  simp
theorem may_iff {j : J} (hs : j.stb) {done : List (List Int)} (c : Clo j done) {a : List Int} (ha : a ∈ j.adr) : mayA j done a = true ↔ a ∉ done ∧ ∀ b ∈ j.adr, j.sys.ahead b a = true → b ∈ done := by
  obtain ⟨r, er⟩ := rowOf_some (R := j.srows) (a := a) (by rw [J.srows_adr j hs]; exact ha)
  obtain ⟨mr, rfl⟩ := rowOf_mem er
  have cl : ClosedA j.sys.ahead (j.srows.map (·.1)) (inL done) := by
    rw [J.srows_adr j hs]
    intro x hx y hy hxy hD
    exact inL_mem.mpr (c x hx y (inL_mem.mp hD) hxy)
  have key := J.may j hs (inL done) cl r mr
  unfold mayA
  rw [er]
  dsimp only
  rw [Bool.and_eq_true, key, J.srows_adr j hs]
  refine and_congr (by simp) ?_
  constructor
  · intro h b hb hba
    exact inL_mem.mp (h b hb hba)
  · intro h b hb hba
    exact inL_mem.mpr (h b hb hba)
theorem mayD_ad (j : J) (done : List (List Int)) (a : List Int) : mayD j done (adD a) = mayA j done a := by
  unfold mayD
  rw [isIdx_ad, intsOf_ad, Bool.true_and]
theorem mayA_adr {j : J} (hs : j.stb) {done : List (List Int)} {a : List Int} (h : mayA j done a = true) : a ∈ j.adr := by
  unfold mayA at h
  cases e : rowOf j.srows a with
  | none => rw [e] at h; cases h
  | some r =>
    obtain ⟨mr, rfl⟩ := rowOf_mem e
    rw [← J.srows_adr j hs]
    exact List.mem_map.mpr ⟨r, mr, rfl⟩
theorem walk_closed {j : J} (hs : j.stb) : ∀ (as done : List (List Int)), Clo j done → (walkD j done (adDs as)).1 = true → Clo j (done ++ as) ∧ ∀ a ∈ as, a ∈ j.adr
  | [], done, c, _ => by
    rw [List.append_nil]
    exact ⟨c, fun a h => nomatch h⟩
  | a :: as, done, c, h => by
    have h' : (walkD j done (adD a :: adDs as)).1 = true := h
    rw [walkD, mayD_ad] at h'
    cases e : mayA j done a with
    | false => rw [e, if_neg Bool.false_ne_true] at h'; cases h'
    | true =>
      rw [e, if_pos rfl, intsOf_ad] at h'
      have ma := mayA_adr hs e
      obtain ⟨_, hb⟩ := (may_iff hs c ma).mp e
      have c' : Clo j (done ++ [a]) := by
        intro x hx y hy hxy
        rcases List.mem_append.mp hy with hy | hy
        · exact List.mem_append_left _ (c x hx y hy hxy)
        · rw [List.mem_singleton.mp hy] at hxy
          exact List.mem_append_left _ (hb x hx hxy)
      obtain ⟨c2, m2⟩ := walk_closed hs as (done ++ [a]) c' h'
      rw [List.append_assoc] at c2
      refine ⟨c2, fun x hx => ?_⟩
      rcases List.mem_cons.mp hx with rfl | hx
      · exact ma
      · exact m2 x hx
theorem asc_split {pre suf : List (List Int)} (h : Asc (pre ++ suf)) {a b : List Int} (ha : a ∈ pre ++ suf) (hb : b ∈ pre) (hab : HT.lexLt a b = true) : a ∈ pre := by
  rcases List.mem_append.mp ha with ha | ha
  · exact ha
  · have := (List.pairwise_append.mp h).2.2 b hb a ha
    have := lex_trans hab this
    rw [lex_self] at this
    cases this
theorem closed_walk {j : J} (hs : j.stb) {as : List (List Int)} (hm : ∀ a ∈ as, a ∈ j.adr) (asc : Asc as) (c : Clo j as) : ∀ (suf done : List (List Int)), as = done ++ suf → (walkD j done (adDs suf)).1 = true
  | [], done, _ => rfl
  | a :: suf, done, e => by
    show (walkD j done (adD a :: adDs suf)).1 = true
    rw [walkD, mayD_ad, intsOf_ad]
    have ha : a ∈ j.adr := hm a (by rw [e]; exact List.mem_append_right _ (List.mem_cons_self ..))
    have cd : Clo j done := by
      intro x hx y hy hxy
      have hx' := c x hx y (by rw [e]; exact List.mem_append_left _ hy) hxy
      rw [e] at asc hx'
      exact asc_split asc hx' hy (J.ahead_lt j x y hxy)
    have e2 : as = (done ++ [a]) ++ suf := by rw [e, List.append_assoc]; rfl
    have hmay : mayA j done a = true := by
      refine (may_iff hs cd ha).mpr ⟨fun hd => ?_, fun b hb hba => ?_⟩
      · rw [e] at asc
        have := (List.pairwise_append.mp asc).2.2 a hd a (List.mem_cons_self ..)
        rw [lex_self] at this
        cases this
      · have hb' := c b hb a (by rw [e]; exact List.mem_append_right _ (List.mem_cons_self ..)) hba
        rw [e2] at hb'
        have hlt := J.ahead_lt j b a hba
        have hb2 := asc_split (by rw [← e2]; exact asc) hb' (List.mem_append_right _ (List.mem_singleton.mpr rfl)) hlt
        rcases List.mem_append.mp hb2 with h | h
        · exact h
        · rw [List.mem_singleton.mp h, lex_self] at hlt
          cases hlt
    rw [hmay, if_pos rfl]
    exact closed_walk hs hm asc c suf (done ++ [a]) e2
/-- what a state is -/
theorem stB_ad {j : J} (hs : j.stb) (as : List (List Int)) : stB j (.tuple (adDs as)) = true ↔ (∀ a ∈ as, a ∈ j.adr) ∧ ascB as = true ∧ Clo j as := by
  unfold stB
  rw [Bool.and_eq_true]
  constructor
  · rintro ⟨h1, h2⟩
    have h1' : (walkD j [] (adDs as)).1 = true := h1
    obtain ⟨bs, e1, e2⟩ := walkD_all h1'
    have e3 : bs = as := by
      have : (adDs as).map intsOf = (adDs bs).map intsOf := by rw [e1]
      simpa [adDs, List.map_map, Function.comp_def, intsOf_ad] using this.symm
    subst e3
    obtain ⟨c, m⟩ := walk_closed hs bs [] (fun _ _ _ h => nomatch h) h1'
    have h2' : ascB (walkD j [] (adDs bs)).2 = true := h2
    rw [e2] at h2'
    exact ⟨m, h2', c⟩
  · rintro ⟨m, h, c⟩
    have h1 : (walkD j [] (adDs as)).1 = true := closed_walk hs m ((ascB_iff as).mp h) c as [] rfl
    refine ⟨h1, ?_⟩
    obtain ⟨bs, e1, e2⟩ := walkD_all h1
    have e3 : bs = as := by
      have : (adDs as).map intsOf = (adDs bs).map intsOf := by rw [e1]
      simpa [adDs, List.map_map, Function.comp_def, intsOf_ad] using this.symm
    subst e3
    show ascB (walkD j [] (adDs bs)).2 = true
    rw [e2]
    exact h
/-- other tuples are no states -/
theorem stB_not {j : J} (hs : j.stb) {d : PyData} (h : stB j d = true) : ∃ as, d = .tuple (adDs as) ∧ ∀ a ∈ as, a ∈ j.adr := by
  obtain ⟨ds, rfl⟩ : ∃ ds, d = .tuple ds := by
    cases d <;> first | exact ⟨_, rfl⟩ | cases h
  have h1 : (walkD j [] ds).1 = true := (Bool.and_eq_true _ _ ▸ h : _ ∧ _).1
  obtain ⟨as, rfl, _⟩ := walkD_all h1
  exact ⟨as, rfl, ((stB_ad hs as).mp h).1⟩
section
variable {P : Program} {w : World} {K : PySem.W.Frag} {mg : Str → Option Value} {base : Heap}
/-- jobs of which states are drawn -/
structure Few (j : J) : Prop where
  stb : j.stb
  rnd : j.rounded
  deep : j.deep ≤ 7
  steps : j.steps ≤ 43
theorem Few.len {j : J} (f : Few j) : j.adr.length ≤ 43 := by
  have h1 := J.adr_len j f.stb
  have h2 := f.steps
  omega
theorem ones_dp {K : PySem.W.Frag} {H : Hp} : ∀ n : Nat, DpAll K H (List.replicate n (.int 1)) (List.replicate n (.int 1))
  | 0 => .nil
  | n + 1 => .cons (.int 1) (ones_dp n)
theorem shaped_ones : ∀ n : Nat, SeqAt.shaped (.list (List.replicate n (.int 1))) = true := by
  have key : ∀ n : Nat, PyData.canLayAll0 (List.replicate n (.int 1)) = true ∧ PyData.depthAll (List.replicate n (.int 1)) ≤ 0 := by
    intro n
    induction n with
    | zero => simp [PyData.canLayAll0, PyData.depthAll]
    | succ n ih =>
      rw [List.replicate_succ]
      simp only [PyData.canLayAll0, PyData.canLay0, PyData.depthAll, PyData.depth, Bool.true_and]
      exact ⟨ih.1, by have := ih.2; omega⟩
  intro n
  obtain ⟨h1, h2⟩ := key n
  unfold SeqAt.shaped
  simp only [PyData.canLay0, h1, PyData.depth, Bool.true_and]
  exact decide_eq_true (by omega)
theorem eqv_ones (n : Nat) : PyData.eqv (.list (List.replicate n (.int 1))) (.list []) = decide (n = 0) := by
  cases n <;> simp [PyData.eqv, PyData.eqvAll, List.replicate_succ]
theorem ints_dpG' {K : PySem.W.Frag} {H : Hp} : ∀ a : List Int, DpAll K H (a.map V.int) (a.map PyData.int)
  | [] => .nil
  | k :: a => .cons (.int k) (ints_dpG' a)
/-- a step is one of some, or ahead of one of them -/
def inCl (j : J) (S : List (List Int)) (a : List Int) : Bool := S.contains a || S.any fun b => j.sys.ahead a b
/-- the least state with some steps -/
def cloS (j : J) (S : List (List Int)) : List (List Int) := j.adr.filter (inCl j S)
theorem cloS_sub {j : J} {S : List (List Int)} : ∀ a ∈ cloS j S, a ∈ j.adr := fun a h => (List.mem_filter.mp h).1
theorem cloS_len {j : J} (f : Few j) {S : List (List Int)} : (cloS j S).length ≤ 43 := Nat.le_trans (List.length_filter_le _ _) f.len
def spClosed (K : PySem.W.Frag) : Sp := fun vs H Q _ => ∃ (v : V) (j : J) (l : Addr) (ws : List V) (S : List (List Int)), vs = [v, .ref l] ∧ Dp K H v j.toD ∧ Few j ∧ H l = some (.lst ws) ∧ DpAll K H ws (adDs S) ∧ (∀ a ∈ S, a ∈ j.adr) ∧ S.length ≤ 10 ∧
  ∀ (H' : Hp) (t : Addr) (xs : List V), Same H H' → SqT K H' t xs → DpAll K H' xs (adDs (cloS j S)) → Q (.ref t) H'
end
/-! block Law08 (behind bDrawn, bWide, bRows, bPrec, bStates2's bAhead) -/
def Good (j : J) : Prop := j.ok ∧ j.nodes ≤ 400 ∧ j.deep ≤ 13
theorem Good.sz {j : J} (g : Good j) : szJ j 400 13 = some (j.nodes, j.steps) := szJ_some j 400 13 g.1 g.2.1 (by have := g.2.2; omega)
theorem Good.isSome {j : J} (g : Good j) : (szJ j 400 13).isSome = true := by rw [g.sz]; rfl
theorem good_of {j : J} (h : (szJ j 400 13).isSome = true) : Good j := by
  obtain ⟨⟨a, b⟩, e⟩ := Option.isSome_iff_exists.mp h
  obtain ⟨q1, q2, q3, _⟩ := szJ_inv j 400 13 a b e
  exact ⟨q1, q2, by omega⟩
theorem Good.d20 {j : J} (g : Good j) : j.deep ≤ 20 := Nat.le_trans g.2.2 (by decide)
theorem pow4_30 {n : Nat} (h : n ≤ 40) : (4 : Int) ^ n ≤ M30 := Int.le_trans (pow4_mono h) (by decide)
mutual
theorem J.few_ok : ∀ (j : J) (cs : List Int), j.small → j.cin cs → (∀ c ∈ cs, 0 ≤ c ∧ c ≤ 4) → j.deep ≤ 40 → j.ok
  | .st _, _, h, _, _, _ => by
    simp only [J.small] at h
    simpa only [J.ok] using h
  | .ps k xs, cs, h, hc, hb, hd => by
    have hf := J.few (.ps k xs) cs h hc hb hd
    have h40 := pow4_30 hd
    simp only [J.small] at h
    simp only [J.cin] at hc
    simp only [J.deep] at hd
    have h1 := J.few_okL xs cs h.2 hc hb (by omega)
    have h2 := hf.2.2
    simp only [J.ok]
    refine ⟨by omega, h1, ?_⟩
    have e : (J.ps k xs).steps = J.stepsL xs := by simp only [J.steps]
    rw [e] at h2
    omega
  | .rn k n x, cs, h, hc, hb, hd => by
    have hf := J.few (.rn k n x) cs h hc hb hd
    have h40 := pow4_30 hd
    simp only [J.small] at h
    simp only [J.cin] at hc
    simp only [J.deep] at hd
    have h1 := J.few_ok x cs h.2 hc.2 hb (by omega)
    have h2 := hf.2.2
    simp only [J.ok]
    have e : (J.rn k n x).steps = x.steps * n := by simp only [J.steps]
    rw [e] at h2
    refine ⟨h.1, h1, ?_⟩
    omega
theorem J.few_okL : ∀ (xs : List J) (cs : List Int), J.smallL xs → J.cinL cs xs → (∀ c ∈ cs, 0 ≤ c ∧ c ≤ 4) → J.deepL xs ≤ 40 → J.okL xs
  | [], _, _, _, _, _ => trivial
  | x :: xs, cs, h, hc, hb, hd => by
    simp only [J.smallL] at h
    simp only [J.cinL] at hc
    simp only [J.deepL] at hd
    exact ⟨J.few_ok x cs h.1 hc.1 hb (by omega), J.few_okL xs cs h.2 hc.2 hb (by omega)⟩
end
mutual
theorem J.few_rounded : ∀ (j : J) (cs : List Int), j.cin cs → (∀ c ∈ cs, c ≤ 1000) → j.rounded
  | .st _, _, _, _ => trivial
  | .ps k xs, cs, hc, hb => by
    simp only [J.cin] at hc
    simp only [J.rounded]
    exact J.few_roundedL xs cs hc hb
  | .rn k n x, cs, hc, hb => by
    simp only [J.cin] at hc
    simp only [J.rounded]
    exact ⟨hb n hc.1, J.few_rounded x cs hc.2 hb⟩
theorem J.few_roundedL : ∀ (xs : List J) (cs : List Int), J.cinL cs xs → (∀ c ∈ cs, c ≤ 1000) → J.roundedL xs
  | [], _, _, _ => trivial
  | x :: xs, cs, hc, hb => by
    simp only [J.cinL] at hc
    exact ⟨J.few_rounded x cs hc.1 hb, J.few_roundedL xs cs hc.2 hb⟩
end
theorem SmallOk.good {size : Int} {j : J} (h : SmallOk size j) : Good j :=
  ⟨J.few_ok j csS h.small h.cin (by decide) (by have := h.deep; omega), h.nodes, by have := h.deep; omega⟩
theorem SmallOk.rounded {size : Int} {j : J} (h : SmallOk size j) : j.rounded := J.few_rounded j csS h.cin (by decide)
/-! the addresses: bounds, order, text -/
theorem adr_bd : ∀ (a : List Int) (j : J), j.ok → a ∈ j.adr → ∀ k ∈ a, 0 ≤ k ∧ k ≤ M30
  | [], _, _, _ => by simp
  | k :: r, j, ho, h => by
    cases j with
    | st i => exact absurd (adr_st h) (by simp)
    | ps b xs =>
      obtain ⟨k0, y, ey, hy⟩ := adr_ps h
      simp only [J.ok] at ho
      have hl := (List.getElem?_eq_some_iff.mp ey).1
      have ih := adr_bd r y (ok_mem ho.2.1 (List.mem_of_getElem? ey)) hy
      intro m hm
      rcases List.mem_cons.mp hm with rfl | hm
      · have := ho.1
        simp only [M30]
        omega
      · exact ih m hm
    | rn b n x =>
      obtain ⟨k0, hy, ey⟩ := adr_rn h
      simp only [J.ok, M30] at ho
      have hl := (List.getElem?_eq_some_iff.mp ey).1
      rw [List.length_replicate] at hl
      have hkn : k < n := by
        split at hl <;> omega
      have ih := adr_bd r x ho.2.1 hy
      intro m hm
      rcases List.mem_cons.mp hm with rfl | hm
      · simp only [M30]
        omega
      · exact ih m hm
abbrev InOrd (l : List (List Int)) : Prop := l.Pairwise (fun x y => HT.lexLt y x = false)
theorem idx_low : ∀ (as : List (List (List Int))) (i : Int) (a : List Int), a ∈ idx as i → ∃ k r, a = k :: r ∧ i ≤ k
  | [], _, _, h => by simp [idx] at h
  | l :: as, i, a, h => by
    simp only [idx, List.mem_append, List.mem_map] at h
    rcases h with ⟨r, _, rfl⟩ | h
    · exact ⟨i, r, rfl, Int.le_refl _⟩
    · obtain ⟨k, r, rfl, hk⟩ := idx_low as (i + 1) a h
      exact ⟨k, r, rfl, by omega⟩
theorem idx_ord : ∀ (as : List (List (List Int))) (i : Int), (∀ l ∈ as, InOrd l) → InOrd (idx as i)
  | [], _, _ => by simp [idx]
  | l :: as, i, h => by
    simp only [InOrd, idx, List.pairwise_append, List.pairwise_map]
    refine ⟨(h l (List.mem_cons_self ..)).imp fun {a b} e => ?_, idx_ord as (i + 1) fun m hm => h m (List.mem_cons_of_mem _ hm), fun a ha b hb => ?_⟩
    · rw [HT.lexLt_cons, if_pos rfl]
      exact e
    · obtain ⟨r, _, rfl⟩ := List.mem_map.mp ha
      obtain ⟨k, r', rfl, hk⟩ := idx_low as (i + 1) b hb
      rw [HT.lexLt_cons, if_neg (by omega)]
      exact decide_eq_false (by omega)
mutual
theorem J.adr_ord : ∀ j : J, InOrd j.adr
  | .st _ => by simp [J.adr, InOrd]
  | .ps _ xs => by
    simp only [J.adr]
    exact idx_ord _ _ (J.adrs_ord xs)
  | .rn _ n x => by
    simp only [J.adr]
    refine idx_ord _ _ fun l hl => ?_
    obtain ⟨_, rfl⟩ := List.mem_replicate.mp hl
    exact J.adr_ord x
theorem J.adrs_ord : ∀ xs : List J, ∀ l ∈ J.adrs xs, InOrd l
  | [], l, h => by simp [J.adrs] at h
  | x :: xs, l, h => by
    simp only [J.adrs, List.mem_cons] at h
    rcases h with rfl | h
    · exact J.adr_ord x
    · exact J.adrs_ord xs l h
end
theorem adr_ne {j : J} {a : List Int} (h : 1 < j.steps) (ha : a ∈ j.adr) : a ≠ [] := by
  rintro rfl
  cases j with
  | st i => simp [J.steps] at h
  | ps b xs =>
    simp only [J.adr] at ha
    obtain ⟨k, r, e, _⟩ := idx_low _ _ _ ha
    cases e
  | rn b n x =>
    simp only [J.adr] at ha
    obtain ⟨k, r, e, _⟩ := idx_low _ _ _ ha
    cases e
theorem keys_of {K : PySem.W.Frag} {H : Hp} : ∀ {as : List V} {ks : List (List Int)}, DpAll K H as (adDs ks) → (∀ k ∈ ks, k ≠ []) → KeysT K H as ks
  | _, [], h, _ => by
    cases h
    exact .nil
  | _, k :: ks, h, hn => by
    cases h with
    | cons hx hr =>
    obtain ⟨t, xs, rfl, ht, hxs⟩ := dp_tup_inv hx
    obtain rfl := Lw.ints_vals hxs
    exact .cons ht (hn k (List.mem_cons_self ..)) (keys_of hr fun m hm => hn m (List.mem_cons_of_mem _ hm))
theorem ints_fine : ∀ a : List Int, (∀ k ∈ a, 0 ≤ k ∧ k ≤ M30) → fines (a.map .int)
  | [], _ => trivial
  | k :: a, h => by
    obtain ⟨h1, h2⟩ := h k (List.mem_cons_self ..)
    simp only [M30] at h2
    simp only [List.map_cons, fines, fine]
    refine ⟨?_, ints_fine a fun m hm => h m (List.mem_cons_of_mem _ hm)⟩
    have e : (1000000000000000000000000000000 : Nat) < 10 ^ 180 := by decide +kernel
    exact Nat.lt_of_le_of_lt (show k.natAbs ≤ 1000000000000000000000000000000 by omega) e
theorem adDs_fine : ∀ as : List (List Int), (∀ a ∈ as, ∀ k ∈ a, 0 ≤ k ∧ k ≤ M30) → fines (adDs as)
  | [], _ => trivial
  | a :: as, h => by
    show fines (adD a :: adDs as)
    simp only [fines, adD, fine]
    exact ⟨ints_fine a (h a (List.mem_cons_self ..)), adDs_fine as fun m hm => h m (List.mem_cons_of_mem _ hm)⟩
theorem ints_depth : ∀ a : List Int, PyData.depthAll (a.map .int) ≤ 1
  | [] => by simp [PyData.depthAll]
  | k :: a => by
    have := ints_depth a
    simp only [List.map_cons, PyData.depthAll, PyData.depth]
    omega
theorem adDs_depth : ∀ as : List (List Int), PyData.depthAll (adDs as) ≤ 2
  | [] => by simp [adDs, PyData.depthAll]
  | a :: as => by
    have h1 := adDs_depth as
    have h2 := ints_depth a
    show PyData.depthAll (adD a :: adDs as) ≤ 2
    simp only [PyData.depthAll, adD, PyData.depth]
    omega
theorem adDs_bulk {n : Nat} : ∀ as : List (List Int), (∀ a ∈ as, a.length ≤ n) → PyData.bulkAll (adDs as) ≤ as.length * (2 * n + 5)
  | [], _ => by simp [adDs, PyData.bulkAll]
  | a :: as, h => by
    have h1 := adDs_bulk as fun m hm => h m (List.mem_cons_of_mem _ hm)
    have h2 : PyData.bulkAll (a.map .int) ≤ 2 * a.length := by
      clear h h1
      induction a with
      | nil => simp [PyData.bulkAll]
      | cons k a ih =>
        simp only [List.map_cons, List.length_cons, PyData.bulkAll, PyData.bulk]
        omega
    have h3 := h a (List.mem_cons_self ..)
    show PyData.bulkAll (adD a :: adDs as) ≤ _
    rw [List.length_cons, Nat.succ_mul]
    simp only [PyData.bulkAll, adD, PyData.bulk]
    omega
theorem ints_lay : ∀ a : List Int, PyData.canLayAll0 (a.map .int) = true
  | [] => rfl
  | k :: a => by
    simp only [List.map_cons, PyData.canLayAll0, PyData.canLay0, ints_lay a, Bool.and_self]
theorem adDs_lay : ∀ as : List (List Int), PyData.canLayAll0 (adDs as) = true
  | [] => rfl
  | a :: as => by
    show PyData.canLayAll0 (adD a :: adDs as) = true
    simp only [PyData.canLayAll0, adD, PyData.canLay0, ints_lay a, adDs_lay as, Bool.and_self]
theorem adL_shaped (as : List (List Int)) : SeqAt.shaped (.list (adDs as)) = true := by
  have h := adDs_depth as
  have e : (PyData.list (adDs as)).depth ≤ 64 := by
    simp only [PyData.depth]
    omega
  unfold SeqAt.shaped
  rw [decide_eq_true e]
  simp only [PyData.canLay0, adDs_lay as, Bool.and_self]
theorem adT_shaped (as : List (List Int)) : SeqAt.shaped (.tuple (adDs as)) = true := by
  have h := adDs_depth as
  have e : (PyData.tuple (adDs as)).depth ≤ 64 := by
    simp only [PyData.depth]
    omega
  unfold SeqAt.shaped
  rw [decide_eq_true e]
  simp only [PyData.canLay0, adDs_lay as, Bool.and_self]
theorem adT_self (as : List (List Int)) : PyData.eqv (.tuple (adDs as)) (.tuple (adDs as)) = true := SeqAt.eqv_refl _ (by simp only [PyData.canLay0, adDs_lay as])
theorem adL_self (as : List (List Int)) : PyData.eqv (.list (adDs as)) (.list (adDs as)) = true := SeqAt.eqv_refl _ (by simp only [PyData.canLay0, adDs_lay as])
/-- what repr of the addresses asks for -/
theorem adT_repr {j : J} (g : Good j) (h : j.steps ≤ 400) : fine (.tuple (adDs j.adr)) ∧ (PyData.tuple (adDs j.adr)).depth ≤ 64 ∧ (PyData.tuple (adDs j.adr)).bulk ≤ 80000 := by
  have h1 := J.adr_len j (J.stb_ok j g.1)
  have h2 := adDs_depth j.adr
  have h3 := adDs_bulk (n := 13) j.adr fun a ha => Nat.le_trans (J.adr_deep j a ha) g.2.2
  refine ⟨?_, ?_, ?_⟩
  · simp only [fine]
    exact adDs_fine _ fun a ha => adr_bd a j g.1 ha
  · simp only [PyData.depth]
    omega
  · simp only [PyData.bulk]
    omega
/-! the wide jobs -/
theorem sts_all : ∀ {js : List J}, (∀ y ∈ js, ∃ i, y = .st i ∧ -M30 ≤ i ∧ i ≤ M30) → J.okL js ∧ J.stepsL js = js.length ∧ J.nodesL js = js.length ∧ J.deepL js ≤ 1 ∧ J.roundedL js
  | [], _ => by simp [J.okL, J.stepsL, J.nodesL, J.deepL, J.roundedL]
  | y :: js, h => by
    obtain ⟨i, rfl, h1, h2⟩ := h y (List.mem_cons_self ..)
    obtain ⟨a, b, c, d, e⟩ := sts_all fun m hm => h m (List.mem_cons_of_mem _ hm)
    simp only [J.okL, J.stepsL, J.nodesL, J.deepL, J.roundedL, J.ok, J.steps, J.nodes, J.deep, J.rounded, b, c, List.length_cons]
    refine ⟨⟨⟨h1, h2⟩, a⟩, by omega, by omega, by omega, trivial, e⟩
theorem WideJ.all {j : J} (h : WideJ j) : Good j ∧ j.rounded ∧ j.deep ≤ 8 ∧ j.steps ≤ 400 ∧ 0 < j.steps := by
  rcases h with ⟨n, js, n0, n1, l0, l1, hj, rfl⟩ | rfl | rfl
  · obtain ⟨a, b, c, d, e⟩ := sts_all hj
    refine ⟨⟨?_, ?_, ?_⟩, ?_, ?_, ?_, ?_⟩
    · simp only [J.ok, J.okL, J.steps, J.stepsL, M30, List.length_cons, List.length_nil, b]
      refine ⟨by omega, ⟨⟨by omega, ⟨by omega, ⟨by omega, by omega, trivial⟩, by omega⟩, by omega⟩, ⟨by omega, a, by omega⟩, trivial⟩, by omega⟩
    · simp only [J.nodes, J.nodesL, c]
      omega
    · simp only [J.deep, J.deepL]
      omega
    · simp only [J.rounded, J.roundedL]
      exact ⟨⟨by omega, trivial, trivial, trivial⟩, e, trivial⟩
    · simp only [J.deep, J.deepL]
      omega
    · simp only [J.steps, J.stepsL, b]
      omega
    · simp only [J.steps, J.stepsL, b]
      omega
  · refine ⟨⟨?_, ?_, ?_⟩, ?_, ?_, ?_, ?_⟩ <;> simp only [J.ok, J.okL, J.steps, J.stepsL, J.nodes, J.nodesL, J.deep, J.deepL, J.rounded, J.roundedL, M30, List.length_cons, List.length_nil] <;> decide
  · refine ⟨⟨?_, ?_, ?_⟩, ?_, ?_, ?_, ?_⟩ <;> simp only [J.ok, J.okL, J.steps, J.stepsL, J.nodes, J.nodesL, J.deep, J.deepL, J.rounded, J.roundedL, M30, List.length_cons, List.length_nil] <;> decide
abbrev jD8 : J := .rn false 1000000000000 (.ps true [.rn true 1000000000 (.ps false [.st 2, .st (-3)]), .st (-1)])
theorem good_D8 : Good jD8 ∧ 0 < jD8.steps ∧ jD8.deep ≤ 8 := by
  refine ⟨⟨?_, ?_, ?_⟩, ?_, ?_⟩ <;> simp only [J.ok, J.okL, J.steps, J.stepsL, J.nodes, J.nodesL, J.deep, J.deepL, M30, List.length_cons, List.length_nil] <;> decide
theorem pickA {vs : List V} {r : Int} (h0 : 0 ≤ r) (h1 : r < (vs.length : Int)) : ∃ v, vs[r.toNat]? = some v ∧ atI vs r = some v := by
  have hl : r.toNat < vs.length := by omega
  exact ⟨_, List.getElem?_eq_getElem hl, atI_at (j := r.toNat) (by omega) (List.getElem?_eq_getElem hl)⟩
abbrev jF8 : J := .rn true 1000000000000000000000000000000 (.rn false 0 (.st 5))
theorem good_F8 : Good jF8 ∧ jF8.steps ≤ 400 := by
  refine ⟨⟨?_, ?_, ?_⟩, ?_⟩ <;> simp only [J.ok, J.okL, J.steps, J.stepsL, J.nodes, J.nodesL, J.deep, J.deepL, M30, List.length_cons, List.length_nil] <;> decide
theorem adr_F8 : jF8.adr = [] := by
  have e : ¬ 0 < (J.rn false 0 (.st 5)).steps := by
    simp only [J.steps]
    decide
  simp only [J.adr]
  rw [if_neg e]
  rfl
abbrev jG8 : J := .rn true 400 (.st 1)
theorem good_G8 : Good jG8 ∧ jG8.steps ≤ 400 := by
  refine ⟨⟨?_, ?_, ?_⟩, ?_⟩ <;> simp only [J.ok, J.okL, J.steps, J.stepsL, J.nodes, J.nodesL, J.deep, J.deepL, M30, List.length_cons, List.length_nil] <;> decide
def ones (n : Nat) : List (List Int) := (List.range n).map fun (m : Nat) => [(m : Int)]
theorem ones_succ (n : Nat) : ones (n + 1) = ones n ++ [[(n : Int)]] := by
  unfold ones
  rw [List.range_succ, List.map_append]
  rfl
theorem idx_ones : ∀ n : Nat, idx (List.replicate n [[]]) 0 = ones n
  | 0 => rfl
  | n + 1 => by
    rw [List.replicate_succ', idx_app, idx_ones n, ones_succ, List.length_replicate]
    simp [idx]
theorem adr_G8 : jG8.adr = ones 400 := by
  have e : 0 < (J.st 1).steps := by
    simp only [J.steps]
    decide
  simp only [J.adr]
  rw [if_pos e]
  exact idx_ones 400
theorem good_m4 : Good (.st (-4)) ∧ (J.st (-4)).steps ≤ 400 := by
  refine ⟨⟨?_, ?_, ?_⟩, ?_⟩ <;> simp only [J.ok, J.steps, J.nodes, J.deep, M30] <;> decide

/-! block Num: is_short_integer, check_number at integers of at most 61 digits (behind bJob) -/
def B61 : Int := 9999999999999999999999999999999999999999999999999999999999999
def spNum1 : Sp := fun vs H Q _ => ∃ i : Int, vs = [.int i] ∧ -B61 ≤ i ∧ i ≤ B61 ∧ Q .non H
def spShort1 : Sp := fun vs H Q _ => ∃ i : Int, vs = [.int i] ∧ -B61 ≤ i ∧ i ≤ B61 ∧ Q (.bl true) H
section
variable {P : Program} {w : World} {K : PySem.W.Frag} {mg : Str → Option Value} {base : Heap}
theorem ok_short1 (T : Txt K mg) : FnOk P w K mg base CX0 2 T.f_is_short_integer T.d_is_short_integer ["value"] spShort1 := by
  have g_is_integer := ok_isint (P := P) (w := w) (base := base) T
  refine T.F_is_short_integer.ok sc_is_short_integer (fun vs H Q E h => ?_) (fun cdv A outer s H vs Q E hr h => ?_)
  · obtain ⟨i, rfl, _⟩ := h
    rfl
  obtain ⟨i, rfl, h1, h2, q⟩ := h
  simp only [B61] at h1 h2
  refine ⟨_, (pss_one (ps_ret (pe_and (pe_call g_is_integer (hr.mono (by omega)) rfl T.m_is_integer T.F_is_integer.kp T.b_is_integer .nil pass0 (pa_cons (pv 0) pa_nil)) (pe_one (pe_chain op_lt op_lt (pe_un un_neg (pe_glob (v := .int 10000000000000000000000000000000000000000000000000000000000000) rfl T.g_NUMBER_END ⟨_, rfl⟩)) (pv 0) (pe_glob (v := .int 10000000000000000000000000000000000000000000000000000000000000) rfl T.g_NUMBER_END ⟨_, rfl⟩)))))), ?_⟩
  refine ⟨_, rfl, _, .int i, rfl, .int _, _, rfl, ?_⟩
  refine iteT ?_
  refine ⟨_, rfl, _, rfl, _, _, rfl, rfl, _, rfl, ?_⟩
  refine ite2 (fun g => ?_) (fun g => absurd (decide_eq_true (by omega)) g)
  refine ⟨_, _, rfl, rfl, ?_⟩
  have e : decide (i < 10000000000000000000000000000000000000000000000000000000000000) = true := decide_eq_true (by omega)
  dsimp only
  rw [e]
  exact q
theorem ok_num1 (T : Txt K mg) : FnOk P w K mg base CX0 3 T.f_check_number T.d_check_number ["value"] spNum1 := by
  have g_is_short_integer := ok_short1 (P := P) (w := w) (base := base) T
  refine T.F_check_number.ok sc_check_number (fun vs H Q E h => ?_) (fun cdv A outer s H vs Q E hr h => ?_)
  · obtain ⟨i, rfl, _⟩ := h
    rfl
  obtain ⟨i, rfl, h1, h2, q⟩ := h
  refine ⟨_, (pss_one (ps_if (pt_not (pt_val (pe_call g_is_short_integer (hr.mono (by omega)) rfl T.m_is_short_integer T.F_is_short_integer.kp T.b_is_short_integer .nil pass0 (pa_cons (pv 0) pa_nil)))) (pss_one ps_never) pss_nil)), ?_⟩
  refine ⟨_, rfl, i, rfl, h1, h2, _, rfl, ?_⟩
  refine iteF ?_
  exact q
end

/-! block Avail: available (behind bState, bNum, with Dw) -/
def leO : Option Int → Int → Bool
  | none, _ => true
  | some m, i => decide (i ≤ m)
def moV : Option Int → V
  | none => .non
  | some m => .int m
/-- the steps that may be done next, of at most this value -/
def avail (j : J) (as : List (List Int)) (mo : Option Int) : List (List Int) := (j.srows.filter fun r => mayA j as r.1 && leO mo r.2.1).map (·.1)
theorem all_ad10 {j : J} {as : List (List Int)} (h : stB j (.tuple (adDs as)) = true) : (allD j (.tuple (adDs as))).2 = as := by
  unfold stB at h
  rw [Bool.and_eq_true] at h
  have h1 : (walkD j [] (adDs as)).1 = true := h.1
  obtain ⟨bs, e1, e2⟩ := walkD_all h1
  have e3 : bs = as := by
    have : (adDs as).map intsOf = (adDs bs).map intsOf := by rw [e1]
    simpa [adDs, List.map_map, Function.comp_def, intsOf_ad] using this.symm
  subst e3
  exact e2
theorem ads_noL (as : List (List Int)) : noL (.tuple (adDs as)) = true := by
  simp only [noL]
  exact noLs_ad _
theorem paired_at {α β : Type} {F : α → β → Prop} {l : List α} {m : List β} (h : Paired F l m) : ∀ {i : Nat} {x : α}, l[i]? = some x → ∃ y, m[i]? = some y ∧ F x y := by
  induction h with
  | nil => intro i x e; simp at e
  | @cons a b l m h1 h2 ih =>
    intro i x e
    cases i with
    | zero =>
      simp at e
      subst e
      exact ⟨b, rfl, h1⟩
    | succ i =>
      obtain ⟨y, e1, e2⟩ := ih (i := i) (by simpa using e)
      exact ⟨y, by simpa using e1, e2⟩
theorem fz_sqT {P : Program} {w : World} {K : PySem.W.Frag} {H : Hp} {p a c : Addr} {rs : List DRow} {od : Obj} {z : HO} {xs : List V} (e : H p = some (.frz od (DtO P w c rs))) (h : SqT K H a xs) : SqT K (upd H p z) a xs := by
  rcases h with (h | ⟨o, h⟩) | h
  · refine .inl (.inl ?_)
    rw [upd_ne (fun q => by rw [q, e] at h; cases h)]
    exact h
  · refine .inl (.inr ⟨o, ?_⟩)
    rw [upd_ne (fun q => by
      rw [q, e] at h
      injection h with h
      injection h with h1 h2
      exact dtO_tup h2)]
    exact h
  · exact .inr h
/-- an address and its step's value -/
def foundD (rs : List SRow) : List PyData := rs.map fun r => .tuple [adD r.1, .int r.2.1]
theorem noLs_found : ∀ rs : List SRow, noLs (foundD rs) = true
  | [] => rfl
  | r :: rs => by
    have h := noLs_found rs
    show noLs (.tuple [adD r.1, .int r.2.1] :: foundD rs) = true
    simp only [noLs, noL, noL_ad, h, Bool.and_self]
section
variable {P : Program} {w : World} {K : PySem.W.Frag} {mg : Str → Option Value} {base : Heap}
def spAvail (K : PySem.W.Frag) : Sp := fun vs H Q _ => ∃ (v u : V) (as : List (List Int)) (j : J) (mo : Option Int), vs = [v, u, moV mo] ∧ Dp K H v j.toD ∧ Dp K H u (.tuple (adDs as)) ∧ (PyData.tuple (adDs as)).bulk ≤ 80000 ∧ j.deep ≤ 20 ∧ j.stb ∧ (szJ j 400 13).isSome = true ∧ j.steps ≤ 400 ∧
  stB j (.tuple (adDs as)) = true ∧ (∀ m, mo = some m → -B61 ≤ m ∧ m ≤ B61) ∧ ∀ (H' : Hp) (t : Addr) (xs : List V), Same H H' → SqT K H' t xs → DpAll K H' xs (adDs (avail j as mo)) → Q (.ref t) H'
theorem ok_avail (T : Txt K mg) : FnOk P w K mg base CX0 46 T.f_available T.d_available ["job", "state", "most"] (spAvail K) := by
  have g_check_small := ok_cksmall (P := P) (w := w) (base := base) T
  have g_checked_state := ok_ckst (P := P) (w := w) (base := base) T
  have g_check_number := ok_num1 (P := P) (w := w) (base := base) T
  have g_DoneSteps_may_do := ok_may (P := P) (w := w) (base := base) T
  refine T.F_available.ok sc_available (fun vs H Q E h => ?_) (fun cdv A outer s H vs Q E hr h => ?_)
  · obtain ⟨v, u, as, j, mo, rfl, _⟩ := h
    rfl
  obtain ⟨v, u, as, j, mo, rfl, hv, hu0, hb, h20, hstb, hsz, h400, hst, hmo, q⟩ := h
  have hu := hu_of hr
  refine ⟨_, (pss_cons (ps_expr (pe_call g_check_small (hr.mono (by omega)) rfl T.m_check_small T.F_check_small.kp T.b_check_small .nil pass0 (pa_cons (pv 0) pa_nil)))
      (pss_cons (ps_set (i := 3) sc_available.nd rfl (Or.inr rfl) (pe_call g_checked_state (hr.mono (by omega)) rfl T.m_checked_state T.F_checked_state.kp T.b_checked_state .nil passN (pa_cons (pv 0) (pa_cons (pv 1) pa_nil))))
      (C8.pss_cut (ps_if (pt_cmpR op_notN (pv 2) pe_non (nomark _)) (pss_one (ps_expr (pe_call g_check_number (hr.mono (by omega)) rfl T.m_check_number T.F_check_number.kp T.b_check_number .nil pass0 (pa_cons (pv 2) pa_nil)))) pss_nil)
      (pss_cons (ps_lock (ps_setLc (i := 4) (own := [("address", 5), ("row", 6)]) (g := (gTup K 2 (gCons (gName 5) (gCons (gName 6) gNil)))) (by rfl) sc_available.nd rfl rfl (sw_true rfl rfl rfl (by decide +kernel)) (pi_di (pe_fld (pv 3) rfl)) (blkOk_by (N := N_available) (sc := (defScope s_available)) (by decide +kernel)) (fun _ _ _ _ _ => (pg_tup (by rfl) (pgs_cons (pg_name (i := 5) sc_available.nd rfl (Or.inl rfl)) (pgs_cons (pg_name (i := 6) sc_available.nd rfl (Or.inl rfl)) pgs_nil)))) (fun _ _ _ _ _ => (pts_one (pt_val (pe_meth (pv 3) T.cl_DoneSteps T.mt_DoneSteps_may_do g_DoneSteps_may_do (hr.mono (by omega)) T.b_DoneSteps_may_do .nil pass0 (pa_cons (pv 5) pa_nil))))) (fun _ _ _ _ _ => (pe_tup (pa_cons (pv 5) (pa_cons (pe_ix (r := rIxT K) ix_tup (pv 6) pe_int (fun _ _ => rfl)) pa_nil))))))
      (pss_one (ps_ret (pe_callTy (r := rTupS K) call_tupS (by rfl) T.n_tuple (by decide +kernel) (pa_cons (pe_lc (own := [("address", 5), ("step", 7)]) (g := (gTup K 2 (gCons (gName 5) (gCons (gName 7) gNil)))) (by rfl) sc_available.nd (pi_list (pv 4)) (blkOk_by (N := N_available) (sc := (defScope s_available)) (by decide +kernel)) (fun _ _ _ _ _ => (pg_tup (by rfl) (pgs_cons (pg_name (i := 5) sc_available.nd rfl (Or.inl rfl)) (pgs_cons (pg_name (i := 7) sc_available.nd rfl (Or.inl rfl)) pgs_nil)))) (fun _ _ _ _ _ => (pts_one (PW.pt (pw_or (pt_cmpR op_isN (pv 2) pe_non (nomark _)) (pw_or1 (pt_cmpR op_le (pv 7) (pv 2) (nomark _))))))) (fun _ _ _ _ _ => (pv 5))) pa_nil)))))))), ?_⟩
  refine ⟨_, rfl, v, j, rfl, hv, h20, hsz, h400, fun H1 s1 => ?_⟩
  refine ⟨_, rfl, _, rfl, v, u, 0, _, j, rfl, dp_same s1 hv, dq_of (ads_noL as) (dp_same s1 hu0), hb, h20, hstb, h400, fun _ H2 x D => ?_, fun e => by rw [hst] at e; cases e⟩
  rw [all_ad10 hst] at D
  have S2 : Same H H2 := s1.trans D.same
  refine ⟨fun σ' G => σ' = [some v, some u, some (moV mo), some (.ref x), none, none, none, none] ∧ G = H2, ?_, ?_⟩
  · cases mo with
    | none =>
      refine ⟨_, rfl, rfl, _, rfl, ?_⟩
      refine iteF ?_
      exact ⟨rfl, rfl⟩
    | some m =>
      refine ⟨_, rfl, rfl, _, rfl, ?_⟩
      refine iteT ?_
      obtain ⟨b1, b2⟩ := hmo m rfl
      exact ⟨_, rfl, m, rfl, b1, b2, rfl, rfl⟩
  rintro σ' G ⟨rfl, rfl⟩
  obtain ⟨_, dx, ra, da, ba, ua, rr, dd, bb, h1, ⟨h2, h3⟩, h4, h7, h10, ⟨n1, n2, n3⟩, _⟩ := id D
  have nx : x ≠ ra := fun z => by rw [z, h2] at h1; exact dtO_ins (Option.some.inj h1)
  refine ⟨ra, _, h2, trivial, fun od => ?_⟩
  have kL : ∀ a xs, SqT K G a xs → SqT K (upd G ra (.frz od (DtO P w ra rr))) a xs := fun a xs h => dt_sqT h2 h
  have eL : upd G ra (.frz od (DtO P w ra rr)) ra = some (.frz od (DtO P w ra rr)) := upd_same
  have gL : ∀ a, a ≠ ra → upd G ra (.frz od (DtO P w ra rr)) a = G a := fun a h => upd_ne h
  have DR : DoneR P w K T.c_DoneSteps (upd G ra (.frz od (DtO P w ra rr))) x j as :=
    ⟨dx, ra, da, ba, ua, rr, dd, bb, by rw [gL x nx]; exact h1, ⟨.inr ⟨od, eL⟩, h3.keep kL⟩, ⟨by rw [gL da (Ne.symm n1)]; exact h4.1, h4.2.1.keep kL, h4.2.2⟩, by rw [gL ba (Ne.symm n2)]; exact h7.1, h7.2.1.keep kL, h7.2.2⟩
  have h1L : upd G ra (.frz od (DtO P w ra rr)) x = some (.ins T.c_DoneSteps dx (dflds ra da ba ua)) := by rw [gL x nx]; exact h1
  have h3L := h3.keep kL
  have lr : rr.length = j.srows.length := Paired.length h3
  have l400 : (j.srows.length : Int) ≤ 400 := by rw [J.srows_len j hstb]; exact h400
  have back : ∀ F : Hp, Same (upd G ra (.frz od (DtO P w ra rr))) F → Same G (upd F ra (DtO P w ra rr)) := by
    intro F sF a o ha
    by_cases e : a = ra
    · rw [e, upd_same]
      rw [e, h2] at ha
      exact ha
    · rw [upd_ne e]
      exact sF _ _ (by rw [gL a e]; exact ha)
  generalize upd G ra (.frz od (DtO P w ra rr)) = L at kL eL DR h1L h3L back gL ⊢
  refine ⟨_, rfl, x, _, dx, _, _, rfl, h1L, T.cl_DoneSteps, T.na_DoneSteps_rows, dl_rows _ _ _ _, ra, od, rr, rfl, eL, fun C hC => ?_⟩
  refine lc_it walk_di (fun i F => Same L F ∧ ∃ ts : List V, F C = some (.lst ts) ∧ DpAll K F ts (foundD ((j.srows.take i).filter fun r => mayA j as r.1))) ?_ ?_ ?_ ?_
  · exact ⟨same_new hC, [], upd_same, .nil⟩
  · rintro i F _ ⟨sF, _⟩
    exact sF _ _ eL
  · rintro i y F F' hi ⟨sF, ts, eC, hts⟩ ⟨t2, k, b, vv, hkv, rfl, ht2, rfl⟩
    obtain ⟨r, er, ek, hb2, hvv⟩ := paired_at h3L hkv
    have il := (List.getElem?_eq_some_iff.mp er).1
    have etk : j.srows.take (i + 1) = j.srows.take i ++ [r] := by rw [List.take_add_one, er]; rfl
    have s4 : Same F (upd F t2 (.tup [.ref b, vv])) := same_new ht2
    have kt : SqT K (upd F t2 (.tup [.ref b, vv])) t2 [.ref b, vv] := SqT.of upd_same
    have eC4 := s4 _ _ eC
    generalize (upd F t2 (.tup [.ref b, vv])) = F2 at s4 kt eC4 ⊢
    have sF2 := sF.trans s4
    have tl : ts.length ≤ 400 := by
      rw [dpAll_length hts, foundD, List.length_map]
      refine Nat.le_trans (List.length_filter_le _ _) ?_
      rw [List.length_take]
      omega
    have bd := J.srows_bd j r (List.mem_of_getElem? er)
    have bk : (adD r.1).bulk ≤ 80000 := by
      have h := adDs_bulk (n := 20) [r.1] fun a ha => by
        rw [List.mem_singleton.mp ha]
        omega
      simp only [adDs, List.map_cons, List.map_nil, PyData.bulkAll, List.length_cons, List.length_nil] at h
      omega
    have hb3 := same_sqT sF2 hb2
    refine ⟨t2, _, rfl, kt, rfl, _, _, rfl, _, _, rfl, rfl, rfl, ?_⟩
    refine ⟨_, rfl, x, dx, _, rfl, sF2 _ _ h1L, dl_no _ _ _ _ (by decide +kernel) (by decide +kernel) (by decide +kernel) (by decide +kernel), _, rfl, x, .ref b, 0, adD r.1, j, as, rfl, DR.go sF2, dq_of (noL_ad _) (.tup hb3 (ints_dpG' r.1)), bk, h20, fun F3 s5 => ?_⟩
    rw [mayD_ad]
    refine ⟨_, rfl, ?_⟩
    have eC5 := s5 _ _ eC4
    have s45 := s4.trans s5
    cases em : mayA j as r.1 with
    | false =>
      refine iteF ?_
      refine ⟨sF.trans s45, ts, eC5, ?_⟩
      rw [etk, List.filter_append, List.filter_cons_of_neg (by rw [em]; exact Bool.false_ne_true), List.filter_nil, List.append_nil]
      exact dpAll_same s45 hts
    | true =>
      refine iteT ?_
      obtain ⟨tv, xv, rfl, qv, hv2⟩ := dp_tup_inv (dp_same (sF2.trans s5) hvv)
      cases hv2 with
      | cons dvv hv2 =>
      obtain rfl := dp_int_inv dvv
      refine ⟨_, rfl, _, rfl, _, _, _, _, rfl, rfl, qv, atI_at (j := 0) rfl rfl, (by show 2 ≤ sizeLine; decide), fun q2 hq2 => ?_⟩
      have s6 : Same F3 (upd F3 q2 (.tup [.ref b, .int r.2.1])) := same_new hq2
      have k6 : SqT K (upd F3 q2 (.tup [.ref b, .int r.2.1])) q2 [.ref b, .int r.2.1] := SqT.of upd_same
      have eC6 := s6 _ _ eC5
      generalize (upd F3 q2 (.tup [.ref b, .int r.2.1])) = F4 at s6 k6 eC6 ⊢
      have s46 := s45.trans s6
      refine ⟨ts, eC6, small1000 (by omega), ?_, ts ++ [.ref q2], upd_same, ?_⟩
      · intro c o hc
        rw [upd_ne (ne_of_none hc hC)]
        exact s46 _ _ (sF _ _ hc)
      · rw [etk, List.filter_append, List.filter_cons_of_pos (p := fun r : SRow => mayA j as r.1) em, List.filter_nil, foundD, List.map_append]
        have k7 : ∀ b xs, SqT K F4 b xs → SqT K (upd F4 C (.lst (ts ++ [.ref q2]))) b xs := fun b xs h => (sx_upd (p := C)).sqT eC6 h
        have dn : Dp K F4 (.ref q2) (.tuple [adD r.1, .int r.2.1]) := .tup k6 (.cons (.tup (same_sqT (s5.trans s6) hb3) (ints_dpG' r.1)) (.cons (.int _) .nil))
        exact dpAll_append (dpAll_keep k7 (noLs_found _) (dpAll_same s46 hts)) (.cons (dp_keep k7 (by simp only [noL, noLs, noL_ad, Bool.and_self]) dn) .nil)
  rintro F ⟨sF, ts, eC, hts⟩
  rw [lr, List.take_length] at hts
  have eF := sF _ _ eL
  have nC : C ≠ ra := fun z => by rw [z, eL] at hC; cases hC
  refine ⟨eF, ?_⟩
  have sN := back F sF
  have kN : ∀ a xs, SqT K F a xs → SqT K (upd F ra (DtO P w ra rr)) a xs := fun a xs h => fz_sqT eF h
  have eCN : upd F ra (DtO P w ra rr) C = some (.lst ts) := by rw [upd_ne nC]; exact eC
  have htsN := dpAll_keep kN (noLs_found _) hts
  generalize upd F ra (DtO P w ra rr) = N at sN eCN htsN ⊢
  have SN : Same H N := S2.trans sN
  have tl : ts.length = (j.srows.filter fun r => mayA j as r.1).length := by rw [dpAll_length htsN, foundD, List.length_map]
  have tl4 : ts.length ≤ 400 := by
    rw [tl]
    have := List.length_filter_le (fun r : SRow => mayA j as r.1) j.srows
    omega
  clear hts eC sF eF DR h1L h3L eL kL gL back hC
  refine ⟨_, rfl, C, rfl, ⟨ts, SqL.of eCN⟩, fun E2 hE2 => ?_⟩
  refine lc_list (K := K) (a := C) (xs := ts) (fun i F => Same N F ∧ ∃ zs : List V, F E2 = some (.lst zs) ∧ DpAll K F zs (adDs ((((j.srows.filter fun r => mayA j as r.1).take i).filter fun r => leO mo r.2.1).map (·.1)))) ?_ ?_ ?_ ?_
  · exact ⟨same_new hE2, [], upd_same, by simpa [adDs] using .nil⟩
  · rintro i F _ ⟨sF, _⟩
    exact SqL.of (sF _ _ eCN)
  · rintro i y F hi ⟨sF, zs, eE, hzs⟩
    obtain ⟨d, ed, hy⟩ := dpAll_get htsN hi
    rw [foundD, List.getElem?_map] at ed
    obtain ⟨r, er, rfl⟩ := Option.map_eq_some_iff.mp ed
    obtain ⟨tq, xq, rfl, qq, hq⟩ := dp_tup_inv hy
    cases hq with
    | cons ha hq =>
    cases hq with
    | cons hb3 hq =>
    cases hq
    obtain rfl := dp_int_inv hb3
    rename_i va
    have il := (List.getElem?_eq_some_iff.mp er).1
    have etk : (j.srows.filter fun r => mayA j as r.1).take (i + 1) = (j.srows.filter fun r => mayA j as r.1).take i ++ [r] := by rw [List.take_add_one, er]; rfl
    have zl : zs.length ≤ 400 := by
      rw [dpAll_length hzs, adDs, List.length_map, List.length_map]
      refine Nat.le_trans (List.length_filter_le _ _) ?_
      rw [List.length_take]
      omega
    have haF := dp_same sF ha
    have put : ∃ acc, F E2 = some (.lst acc) ∧ acc.length < sizeLine ∧ (leO mo r.2.1 = true → Same N (upd F E2 (.lst (acc ++ [va]))) ∧ ∃ zs : List V, upd F E2 (.lst (acc ++ [va])) E2 = some (.lst zs) ∧ DpAll K (upd F E2 (.lst (acc ++ [va]))) zs (adDs ((((j.srows.filter fun r => mayA j as r.1).take (i + 1)).filter fun r => leO mo r.2.1).map (·.1)))) := by
      refine ⟨zs, eE, small1000 (by omega), fun hle => ⟨?_, zs ++ [va], upd_same, ?_⟩⟩
      · intro c o hc
        rw [upd_ne (ne_of_none hc hE2)]
        exact sF _ _ hc
      · rw [etk, List.filter_append, List.filter_cons_of_pos (p := fun r : SRow => leO mo r.2.1) hle, List.filter_nil, List.map_append, adDs, List.map_append]
        have k7 : ∀ b xs, SqT K F b xs → SqT K (upd F E2 (.lst (zs ++ [va]))) b xs := fun b xs h => (sx_upd (p := E2)).sqT eE h
        exact dpAll_append (dpAll_keep k7 (noLs_ad _) hzs) (.cons (dp_keep k7 (noL_ad _) haF) .nil)
    refine ⟨tq, _, rfl, same_sqT sF qq, rfl, _, _, rfl, _, _, rfl, rfl, rfl, ?_⟩
    cases mo with
    | none =>
      refine ⟨_, rfl, rfl, _, rfl, ?_⟩
      refine iteT ?_
      refine iteT ?_
      obtain ⟨acc, e1, e2, e3⟩ := put
      exact ⟨_, rfl, acc, e1, e2, e3 rfl⟩
    | some m =>
      refine ⟨_, rfl, rfl, _, rfl, ?_⟩
      refine iteF ?_
      refine ⟨_, rfl, _, rfl, _, _, rfl, rfl, _, rfl, ?_⟩
      cases el : decide (r.2.1 ≤ m) with
      | true =>
        refine iteT ?_
        obtain ⟨acc, e1, e2, e3⟩ := put
        exact ⟨_, rfl, acc, e1, e2, e3 el⟩
      | false =>
        refine iteF ?_
        refine ⟨sF, zs, eE, ?_⟩
        rw [etk, List.filter_append, List.filter_cons_of_neg (p := fun r : SRow => leO (some m) r.2.1) (by show ¬ decide (r.2.1 ≤ m) = true; rw [el]; exact Bool.false_ne_true), List.filter_nil, List.append_nil]
        exact hzs
  rintro F ⟨sF, zs, eE, hzs⟩
  rw [tl, List.take_length, List.filter_filter] at hzs
  have ea : avail j as mo = (j.srows.filter fun a => leO mo a.2.1 && mayA j as a.1).map (·.1) := by
    unfold avail
    congr 1
    refine List.filter_congr fun r _ => ?_
    exact Bool.and_comm _ _
  refine ⟨E2, zs, rfl, .inl ⟨SqL.of eE, fun t ht => ?_⟩⟩
  refine q _ t zs (SN.trans (sF.trans (same_new ht))) (SqT.of upd_same) ?_
  rw [ea]
  exact dpAll_same (same_new ht) hzs
end
/-! block Prec: precedes (behind bFind, bAhead, bRows) -/
theorem cRows_put : ∀ {Ss : List Sys} {i : Int} {m : Nat} {S : Sys} {r : List Int} {v : Int}, Ss[m]? = some S → (r, v) ∈ S.rows → ((i + (m : Int)) :: r, v) ∈ cRows Ss i
  | [], _, _, _, _, _, h, _ => by simp at h
  | S :: Ss, i, 0, _, r, v, h, hr => by
    simp only [List.getElem?_cons_zero, Option.some.injEq] at h
    subst h
    simp only [cRows, List.mem_append, pre, List.mem_map]
    exact .inl ⟨(r, v), hr, by simp⟩
  | S :: Ss, i, m + 1, _, r, v, h, hr => by
    simp only [List.getElem?_cons_succ] at h
    have := cRows_put (i := i + 1) h hr
    simp only [cRows, List.mem_append]
    right
    rw [show i + ((m + 1 : Nat) : Int) = i + 1 + (m : Int) by omega]
    exact this
theorem find_of_rows : ∀ (a : List Int) (j : J) (v : Int), (a, v) ∈ j.sys.rows → j.find (a.map .int) = some v
  | [], j, v, h => by
    rw [rows_nil h]
    rfl
  | k :: r, j, v, h => by
    rw [List.map_cons, find_int]
    cases j with
    | st i =>
      simp only [J.sys, List.mem_singleton, Prod.mk.injEq] at h
      cases h.1
    | ps b xs =>
      obtain ⟨k0, y, ey, hy⟩ := rows_ps h
      simp only [J.part]
      rw [if_neg (by omega), ey]
      exact find_of_rows r y v hy
    | rn b n x =>
      have hy := rows_rn h
      obtain ⟨k0, _, e⟩ := adr_rn (row_adr h)
      have hlt := (List.getElem?_eq_some_iff.mp e).1
      rw [List.length_replicate] at hlt
      have hkn : k < n := by
        split at hlt <;> omega
      simp only [J.part]
      rw [if_neg (by omega), if_pos hkn]
      exact find_of_rows r x v hy
theorem rows_of_find : ∀ (a : List Int) (j : J) (v : Int), j.stb → j.find (a.map .int) = some v → (a, v) ∈ j.sys.rows
  | [], j, v, _, h => by
    cases j with
    | st i =>
      cases h
      simp [J.sys]
    | ps b xs => cases h
    | rn b n x => cases h
  | k :: r, j, v, hs, h => by
    rw [List.map_cons, find_int] at h
    cases j with
    | st i => cases h
    | ps b xs =>
      simp only [J.stb] at hs
      simp only [J.part] at h
      split at h
      · cases h
      · rename_i y ey
        split at ey
        · cases ey
        · have ih := rows_of_find r y v (J.stbL_mem hs.2 (List.mem_of_getElem? ey)) h
          have e2 : (J.syss xs)[k.toNat]? = some y.sys := by rw [J.syss_eq, List.getElem?_map, ey]; rfl
          have := cRows_put (i := 0) e2 ih
          simp only [J.sys, comp]
          rw [show (0 : Int) + ((k.toNat : Nat) : Int) = k by omega] at this
          exact this
    | rn b n x =>
      simp only [J.stb] at hs
      simp only [J.part] at h
      split at h
      · cases h
      · rename_i y ey
        split at ey
        · cases ey
        · split at ey
          · cases ey
            rename_i h1 h2
            have ih := rows_of_find r x v hs.2.1 h
            have hpos : 0 < x.steps := by
              have h3 := J.adr_len x hs.2.1
              have h4 := List.length_pos_of_mem (row_adr ih)
              omega
            have e2 : (List.replicate (if 0 < x.steps then n.toNat else 0) x.sys)[k.toNat]? = some x.sys := by
              rw [if_pos hpos, List.getElem?_replicate, if_pos (by omega)]
            have := cRows_put (i := 0) e2 ih
            simp only [J.sys, comp]
            rw [show (0 : Int) + ((k.toNat : Nat) : Int) = k by omega] at this
            exact this
          · cases ey
theorem find_adr {a : List Int} {j : J} {v : Int} (hs : j.stb) (h : j.find (a.map .int) = some v) : a ∈ j.adr := row_adr (rows_of_find a j v hs h)
theorem adr_find {a : List Int} {j : J} (h : a ∈ j.adr) : ∃ v, j.find (a.map .int) = some v := by
  obtain ⟨v, hv⟩ := adr_row h
  exact ⟨v, find_of_rows a j v hv⟩
def spChk0 (K : PySem.W.Frag) : Sp := fun vs H Q _ => ∃ (v u : V) (j : J) (p : Addr) (d : PyData) (i : Int), vs = [v, u] ∧ Dp K H v j.toD ∧ Dq K p H u d ∧ d.bulk ≤ 80000 ∧ fdD j d = some i ∧ ∀ H', Same H H' → Q (.int i) H'
def spPrec (K : PySem.W.Frag) : Sp := fun vs H Q _ => ∃ (v : V) (j : J) (t1 t2 : Addr) (a b : List Int), vs = [v, .ref t1, .ref t2] ∧ Dp K H v j.toD ∧ (szJ j 400 13).isSome = true ∧ SqT K H t1 (a.map V.int) ∧ SqT K H t2 (b.map V.int) ∧ a ∈ j.adr ∧ b ∈ j.adr ∧
  ∀ H', Same H H' → Q (.bl (j.sys.ahead a b)) H'
theorem ints_dq {K : PySem.W.Frag} {p : Addr} {H : Hp} : ∀ a : List Int, DqAll K p H (a.map V.int) (a.map .int)
  | [] => .nil
  | k :: a => .cons (.int k) (ints_dq a)
theorem ints_bulk : ∀ a : List Int, PyData.bulkAll (a.map .int) ≤ 2 * a.length
  | [] => by simp [PyData.bulkAll]
  | k :: a => by
    have := ints_bulk a
    simp only [List.map_cons, PyData.bulkAll, PyData.bulk, List.length_cons]
    omega
section
variable {P : Program} {w : World} {K : PySem.W.Frag} {mg : Str → Option Value} {base : Heap}
theorem ok_chk0 (T : Txt K mg) : FnOk P w K mg base CX0 4 T.f__checked_step T.d__checked_step ["job", "address"] (spChk0 K) := by
  have g_find_step := ok_find (P := P) (w := w) (base := base) T
  refine T.F__checked_step.ok sc__checked_step (fun vs H Q E h => ?_) (fun cdv A outer s H vs Q E hr h => ?_)
  · obtain ⟨v, u, j, p, d, i, rfl, _⟩ := h
    rfl
  obtain ⟨v, u, j, p, d, i, rfl, hd, hu, hb, ef, q⟩ := h
  refine ⟨_, (pss_cons (ps_set (i := 2) sc__checked_step.nd rfl (Or.inl rfl) (pe_call g_find_step (hr.mono (by omega)) rfl T.m_find_step T.F_find_step.kp T.b_find_step .nil pass0 (pa_cons (pv 0) (pa_cons (pv 1) pa_nil))))
      (pss_cons (ps_if (pt_cmpR op_isN (pv 2) pe_non (nomark _)) (pss_one ps_never) pss_nil)
      (pss_one (ps_ret (pv 2))))), ?_⟩
  refine ⟨_, rfl, _, rfl, v, u, j, p, d, rfl, hd, hu, hb, fun H1 s1 => ?_⟩
  rw [ef]
  refine ⟨_, rfl, rfl, _, rfl, ?_⟩
  refine iteF ?_
  exact ⟨_, rfl, q _ s1⟩
theorem ok_prec (T : Txt K mg) : FnOk P w K mg base CX0 45 T.f_precedes T.d_precedes ["job", "first", "second"] (spPrec K) := by
  have g_checked_sizes := ok_checked (P := P) (w := w) (base := base) T
  have g__checked_step := ok_chk0 (P := P) (w := w) (base := base) T
  have g__part_at := ok_part (P := P) (w := w) (base := base) T
  refine T.F_precedes.ok sc_precedes (fun vs H Q E h => ?_) (fun cdv A outer s H vs Q E hr h => ?_)
  · obtain ⟨v, j, t1, t2, a, b, rfl, _⟩ := h
    rfl
  obtain ⟨v, j, t1, t2, a, b, rfl, hd, hs, h1, h2, ha, hb, q⟩ := h
  obtain ⟨⟨a0, b0⟩, ez⟩ := Option.isSome_iff_exists.mp hs
  have inv := szJ_inv j 400 13 a0 b0 ez
  have hdp : j.deep ≤ 13 := by have := inv.2.2.1; omega
  have la := J.adr_deep j a ha
  have lb := J.adr_deep j b hb
  have bka : (PyData.tuple (a.map .int)).bulk ≤ 80000 := by
    have := ints_bulk a
    simp only [PyData.bulk]
    omega
  have bkb : (PyData.tuple (b.map .int)).bulk ≤ 80000 := by
    have := ints_bulk b
    simp only [PyData.bulk]
    omega
  obtain ⟨va, ea⟩ := adr_find ha
  obtain ⟨vb, eb⟩ := adr_find hb
  refine ⟨_, (pss_cons (ps_expr (pe_call g_checked_sizes (hr.mono (by omega)) rfl T.m_checked_sizes T.F_checked_sizes.kp T.b_checked_sizes .nil pass0 (pa_cons (pv 0) pa_nil)))
      (pss_cons (ps_expr (pe_call g__checked_step (hr.mono (by omega)) rfl T.m__checked_step T.F__checked_step.kp T.b__checked_step .nil pass0 (pa_cons (pv 0) (pa_cons (pv 1) pa_nil))))
      (pss_cons (ps_expr (pe_call g__checked_step (hr.mono (by omega)) rfl T.m__checked_step T.F__checked_step.kp T.b__checked_step .nil pass0 (pa_cons (pv 0) (pa_cons (pv 2) pa_nil))))
      (pss_cons (ps_set (i := 3) sc_precedes.nd rfl (Or.inl rfl) (pv 0))
      (pss_cons (ps_for PassesOwn.never rfl (RZ.pi_zipA (by rfl) T.n_zip (pa_cons (pv 1) (pa_cons (pv 2) pa_nil))) (pg_tup (by rfl) (pgs_cons (pg_name (i := 4) sc_precedes.nd rfl (Or.inl rfl)) (pgs_cons (pg_name (i := 5) sc_precedes.nd rfl (Or.inl rfl)) pgs_nil)))
        (pss_cons (ps_if (pt_cmpR op_ne (pv 4) (pv 5) (nomark _)) (pss_one (ps_ret (pe_and (pe_cmpR (r := rIn K false) op_in_seq (pe_ix (r := rIxT K) ix_tup (pv 3) pe_int (fun _ _ => rfl)) (pe_tup (pa_cons pe_str (pa_cons pe_str pa_nil))) (by rfl)) (pe_one (pe_cmpR op_lt (pv 4) (pv 5) (nomark _)))))) pss_nil)
        (pss_one (ps_set (i := 3) sc_precedes.nd rfl (Or.inl rfl) (pe_call g__part_at (hr.mono (by omega)) rfl T.m__part_at T.F__part_at.kp T.b__part_at .nil pass0 (pa_cons (pv 3) (pa_cons (pv 4) pa_nil)))))))
      (pss_one (ps_ret pe_bl))))))), ?_⟩
  refine ⟨_, rfl, v, j, a0, b0, rfl, hd, by omega, ez, fun H1 t s1 e1 => ?_⟩
  refine ⟨_, rfl, _, rfl, v, .ref t1, j, t1, .tuple (a.map .int), va, rfl, dp_same s1 hd, .tup (same_sqT s1 h1) (ints_dq a), bka, ea, fun H2 s2 => ?_⟩
  have s12 := s1.trans s2
  refine ⟨_, rfl, _, rfl, v, .ref t2, j, t2, .tuple (b.map .int), vb, rfl, dp_same s12 hd, .tup (same_sqT s12 h2) (ints_dq b), bkb, eb, fun H3 s3 => ?_⟩
  have s13 := s12.trans s3
  refine ⟨_, rfl, ?_⟩
  refine ⟨_, rfl, _, rfl, t1, t2, _, _, rfl, .inr ⟨same_sqT s13 h1, same_sqT s13 h2, ?_⟩⟩
  refine for_zipT2 (K := K) (xs := a.map V.int) (ys := b.map V.int) (fun i σ H' => ∃ (u : V) (y : J) (y3 y4 : Option V), σ = [some v, some (.ref t1), some (.ref t2), some u, y3, y4] ∧ Same H H' ∧ Dp K H' u y.toD ∧
      a.drop i ∈ y.adr ∧ b.drop i ∈ y.adr ∧ j.sys.ahead a b = y.sys.ahead (a.drop i) (b.drop i))
    ⟨v, j, none, none, rfl, s13, dp_same s13 hd, by simpa using ha, by simpa using hb, by simp⟩ (fun i σ H' ⟨_, _, _, _, _, s1, _⟩ => ⟨same_sqT s1 h1, same_sqT s1 h2⟩) ?_ ?_
  · rintro i x x2 t σ H' hi hi2 ⟨u, y, y3, y4, rfl, s1, hu, hya, hyb, hah⟩ ht
    rw [List.getElem?_map] at hi hi2
    obtain ⟨k, ek, rfl⟩ := Option.map_eq_some_iff.mp hi
    obtain ⟨m, em, rfl⟩ := Option.map_eq_some_iff.mp hi2
    obtain ⟨hlt, ek'⟩ := List.getElem?_eq_some_iff.mp ek
    obtain ⟨hlt2, em'⟩ := List.getElem?_eq_some_iff.mp em
    have da : a.drop i = k :: a.drop (i + 1) := by rw [← ek']; exact List.drop_eq_getElem_cons hlt
    have db : b.drop i = m :: b.drop (i + 1) := by rw [← em']; exact List.drop_eq_getElem_cons hlt2
    rw [da] at hya
    rw [db] at hyb
    rw [da, db] at hah
    have s2 : Same H' (upd H' t (.tup [.int k, .int m])) := same_new ht
    have qt : SqT K (upd H' t (.tup [.int k, .int m])) t [.int k, .int m] := SqT.of upd_same
    generalize (upd H' t (.tup [.int k, .int m])) = H2 at s2 qt ⊢
    refine ⟨t, _, rfl, qt, rfl, _, _, rfl, _, _, rfl, rfl, ?_⟩
    refine ⟨_, rfl, _, rfl, rfl, _, rfl, ?_⟩
    rw [w_dec_int]
    have hah2 : ∃ z, y.part k = some z ∧ (k = m → a.drop (i + 1) ∈ z.adr ∧ b.drop (i + 1) ∈ z.adr) ∧ j.sys.ahead a b = if k ≠ m then y.sq && decide (k < m) else z.sys.ahead (a.drop (i + 1)) (b.drop (i + 1)) := by
      cases y with
      | st z => exact absurd (adr_st hya) (by simp)
      | ps kb xs =>
        obtain ⟨k0, y', ey, hya'⟩ := adr_ps hya
        obtain ⟨m0, y'', ey2, hyb'⟩ := adr_ps hyb
        rw [ahead_ps k0 ey] at hah
        refine ⟨y', by simp only [J.part]; rw [if_neg (by omega), ey], fun e => ⟨hya', ?_⟩, hah⟩
        subst e
        rw [ey] at ey2
        obtain rfl := Option.some.inj ey2
        exact hyb'
      | rn kb n x =>
        obtain ⟨k0, hya', ey⟩ := adr_rn hya
        obtain ⟨m0, hyb', ey2⟩ := adr_rn hyb
        rw [ahead_rn k0 ey] at hah
        have hlt := (List.getElem?_eq_some_iff.mp ey).1
        rw [List.length_replicate] at hlt
        have hkn : k < n := by
          split at hlt <;> omega
        exact ⟨x, by simp only [J.part]; rw [if_neg (by omega), if_pos hkn], fun e => ⟨hya', hyb'⟩, hah⟩
    obtain ⟨z, ez, hz, hah3⟩ := hah2
    have ety : isTup y.toD = true := by
      cases y with
      | st i => cases ez
      | ps b xs => rfl
      | rn b n x => rfl
    by_cases km : k = m
    · subst km
      simp only [ne_eq, not_true_eq_false, if_false] at hah3
      rw [decide_eq_true rfl]
      refine iteF ?_
      refine ⟨_, rfl, _, rfl, u, y, k, rfl, dp_same s2 hu, fun H3 r s3 hr3 => ?_⟩
      rw [ez] at hr3
      exact ⟨r, z, _, _, rfl, s1.trans (s2.trans s3), hr3, (hz rfl).1, (hz rfl).2, hah3⟩
    · simp only [ne_eq, km, not_false_eq_true, if_true] at hah3
      rw [decide_eq_false km]
      refine iteT ?_
      obtain ⟨tj, ysj, xj, rfl, hwj, hsq⟩ := j_word ety (dp_same s2 hu)
      refine ⟨_, rfl, _, _, _, _, rfl, rfl, hwj, atI_at (j := 0) rfl rfl, (by show 2 ≤ sizeLine; decide), fun t3 ht3 => ?_⟩
      refine ⟨t3, _, rfl, .inr (SqT.of upd_same), rfl, rfl, ?_⟩
      refine ⟨_, rfl, ?_⟩
      have hq := q _ (s1.trans (s2.trans (same_new (o := .tup [.str "seq", .str "repeat"]) ht3)))
      rw [hah3] at hq
      show if inV (.str xj) [.str "seq", .str "repeat"] = true then _ else _
      rw [hsq]
      cases esq : y.sq with
      | true =>
        rw [esq] at hq
        refine iteT ?_
        refine ⟨_, rfl, _, rfl, _, _, rfl, rfl, ?_⟩
        exact hq
      | false =>
        rw [esq] at hq
        refine iteF ?_
        exact hq
  · rintro i σ H' hi hi2 e ⟨u, y, y3, y4, rfl, s1, hu, hya, hyb, hah⟩
    rw [List.length_map] at hi hi2 e
    rw [List.length_map] at e
    have hq := q _ s1
    rw [hah, ahead_nil hya hyb (by rcases e with e | e <;> (subst e; simp))] at hq
    exact hq
end
/-! block Val: _law_value, is_address, step_value, _law_refused (behind bFind) -/
def spVal (K : PySem.W.Frag) : Sp := fun vs H Q _ => ∃ (v u : V) (j : J) (p : Addr) (d : PyData), vs = [v, u] ∧ Dp K H v j.toD ∧ Dq K p H u d ∧ ∀ H', Same H H' → Q (opV (fdD j d)) H'
theorem find_nt {y : J} {d : PyData} {r : List PyData} (h : isTup y.toD = false) : y.find (d :: r) = none := by
  cases y with
  | st i => cases d <;> rfl
  | ps b xs => cases h
  | rn b n x => cases h
theorem find_ni {y : J} {d : PyData} {r : List PyData} (h : isI d = false) : y.find (d :: r) = none := by
  cases d with
  | int k => simp [isI] at h
  | _ => cases y <;> rfl
def spRef (K : PySem.W.Frag) : Sp := fun vs H Q _ => ∃ (v u : V) (j : J) (p : Addr) (d : PyData), vs = [v, u] ∧ Dp K H v j.toD ∧ j.deep ≤ 20 ∧ (szJ j 400 13).isSome = true ∧ Dq K p H u d ∧ d.bulk ≤ 80000 ∧ ∀ H', Same H H' → Q (.bl (fdD j d).isNone) H'
section
variable {P : Program} {w : World} {K : PySem.W.Frag} {mg : Str → Option Value} {base : Heap}
/-- the error of a value that is no address -/
def spChk (K : PySem.W.Frag) (C : Addr) : Sp := fun vs H Q E => ∃ (v u : V) (j : J) (p : Addr) (d : PyData), vs = [v, u] ∧ Dp K H v j.toD ∧ Dq K p H u d ∧ d.bulk ≤ 80000 ∧
  (∀ i, fdD j d = some i → ∀ H', Same H H' → Q (.int i) H') ∧ (fdD j d = none → ∀ H', Same H H' → E (.ref C) none H')
def spStepV (K : PySem.W.Frag) (C : Addr) : Sp := fun vs H Q E => ∃ (v u : V) (j : J) (p : Addr) (d : PyData), vs = [v, u] ∧ Dp K H v j.toD ∧ j.deep ≤ 20 ∧ (szJ j 400 13).isSome = true ∧ Dq K p H u d ∧ d.bulk ≤ 80000 ∧
  (∀ i, fdD j d = some i → ∀ H', Same H H' → Q (.int i) H') ∧ (fdD j d = none → ∀ H', Same H H' → E (.ref C) none H')
def spIsAdr (K : PySem.W.Frag) : Sp := fun vs H Q _ => ∃ (v u : V) (j : J) (p : Addr) (d : PyData), vs = [v, u] ∧ Dp K H v j.toD ∧ j.deep ≤ 20 ∧ (szJ j 400 13).isSome = true ∧ Dq K p H u d ∧ d.bulk ≤ 80000 ∧ ∀ H', Same H H' → Q (.bl (fdD j d).isSome) H'
theorem ok_isadr (T : Txt K mg) : FnOk P w K mg base CX0 44 T.f_is_address T.d_is_address ["job", "value"] (spIsAdr K) := by
  have g_checked_sizes := ok_checked (P := P) (w := w) (base := base) T
  have g_find_step := ok_find (P := P) (w := w) (base := base) T
  refine T.F_is_address.ok sc_is_address (fun vs H Q E h => ?_) (fun cdv A outer s H vs Q E hr h => ?_)
  · obtain ⟨v, u, j, p, d, rfl, _⟩ := h
    rfl
  obtain ⟨v, u, j, p, d, rfl, hd, hdeep, hs, hu, hb, q⟩ := h
  obtain ⟨⟨a, b⟩, ez⟩ := Option.isSome_iff_exists.mp hs
  refine ⟨_, (pss_cons (ps_expr (pe_call g_checked_sizes (hr.mono (by omega)) rfl T.m_checked_sizes T.F_checked_sizes.kp T.b_checked_sizes .nil pass0 (pa_cons (pv 0) pa_nil)))
      (pss_one (ps_ret (pe_cmpR op_notN (pe_call g_find_step (hr.mono (by omega)) rfl T.m_find_step T.F_find_step.kp T.b_find_step .nil pass0 (pa_cons (pv 0) (pa_cons (pv 1) pa_nil))) pe_non (nomark _))))), ?_⟩
  refine ⟨_, rfl, v, j, a, b, rfl, hd, hdeep, ez, fun H1 t s1 e1 => ?_⟩
  refine ⟨_, rfl, _, rfl, v, u, j, p, d, rfl, dp_same s1 hd, hu.keep (Same.kp s1), hb, fun H2 s2 => ?_⟩
  cases ef : fdD j d with
  | none =>
    rw [ef] at q
    exact ⟨rfl, q _ (s1.trans s2)⟩
  | some i =>
    rw [ef] at q
    exact ⟨rfl, q _ (s1.trans s2)⟩
end

/-! block Bits16: sets of steps as bits (behind bGen16) -/
/-- the bits of those items that p holds of, counted from n on -/
def maskOf {α : Type} : Nat → List α → (α → Bool) → Nat
  | _, [], _ => 0
  | n, a :: l, p => (if p a = true then 2 ^ n else 0) ||| maskOf (n + 1) l p
theorem maskOf_bit {α : Type} (p : α → Bool) : ∀ (l : List α) (n i : Nat), (maskOf n l p).testBit i = true ↔ ∃ k a, l[k]? = some a ∧ p a = true ∧ i = n + k
  | [], n, i => by simp [maskOf]
  | a :: l, n, i => by
    have ih := maskOf_bit p l (n + 1) i
    rw [maskOf, Nat.testBit_or, Bool.or_eq_true, ih]
    constructor
    · rintro (h | ⟨k, b, h1, h2, h3⟩)
      · by_cases e : p a = true
        · rw [if_pos e, Nat.testBit_two_pow] at h
          exact ⟨0, a, rfl, e, (of_decide_eq_true h).symm⟩
        · rw [if_neg e, Nat.zero_testBit] at h
          cases h
      · exact ⟨k + 1, b, by simpa using h1, h2, by omega⟩
    · rintro ⟨k, b, h1, h2, h3⟩
      cases k with
      | zero =>
        obtain rfl : a = b := by simpa using h1
        refine .inl ?_
        rw [if_pos h2, Nat.testBit_two_pow]
        exact decide_eq_true (by omega)
      | succ k => exact .inr ⟨k, b, by simpa using h1, h2, by omega⟩
theorem maskOf_app {α : Type} (p : α → Bool) : ∀ (l m : List α) (n : Nat), maskOf n (l ++ m) p = maskOf n l p ||| maskOf (n + l.length) m p
  | [], m, n => by simp [maskOf]
  | a :: l, m, n => by
    rw [List.cons_append, maskOf, maskOf_app p l m (n + 1), maskOf, Nat.or_assoc]
    congr 3
    rw [List.length_cons]
    omega
theorem maskOf_congr {α : Type} {p q : α → Bool} : ∀ (l : List α) (n : Nat), (∀ a ∈ l, p a = q a) → maskOf n l p = maskOf n l q
  | [], _, _ => rfl
  | a :: l, n, h => by
    rw [maskOf, maskOf, h a (List.mem_cons_self ..), maskOf_congr l (n + 1) fun b hb => h b (List.mem_cons_of_mem _ hb)]
theorem maskOf_none {α : Type} : ∀ (l : List α) (n : Nat), maskOf n l (fun _ => false) = 0
  | [], _ => rfl
  | a :: l, n => by rw [maskOf, if_neg Bool.false_ne_true, maskOf_none l (n + 1)]; rfl
theorem maskOf_map {α β : Type} (f : β → α) (p : α → Bool) : ∀ (l : List β) (n : Nat), maskOf n (l.map f) p = maskOf n l fun b => p (f b)
  | [], _ => rfl
  | a :: l, n => by rw [List.map_cons, maskOf, maskOf, maskOf_map f p l (n + 1)]
theorem maskOf_lt {α : Type} (p : α → Bool) (l : List α) (n : Nat) : maskOf n l p < 2 ^ (n + l.length) := by
  refine Nat.lt_pow_two_of_testBit _ fun i hi => ?_
  cases e : (maskOf n l p).testBit i with
  | false => rfl
  | true =>
    obtain ⟨k, a, h1, _, rfl⟩ := (maskOf_bit p l n i).mp e
    have := (List.getElem?_eq_some_iff.mp h1).1
    omega
theorem or_bits {a b : Nat} : Builtin.bitOr (a : Int) (b : Int) = ((a ||| b : Nat) : Int) := by
  rw [bitOr_nn (Int.natCast_nonneg _) (Int.natCast_nonneg _)]
  rfl
theorem and_bits {a b : Nat} : Builtin.bitAnd (a : Int) (b : Int) = ((a &&& b : Nat) : Int) := by
  rw [PyProof.Rows.bitAnd_pp (Int.natCast_nonneg _) (Int.natCast_nonneg _)]
  rfl
/-- b is within c -/
theorem sub_bits {a b : Nat} : a &&& b = b ↔ ∀ i, b.testBit i = true → a.testBit i = true := by
  constructor
  · intro h i hb
    rw [← h, Nat.testBit_and, Bool.and_eq_true] at hb
    exact hb.1
  · intro h
    refine Nat.eq_of_testBit_eq fun i => ?_
    rw [Nat.testBit_and]
    cases e : b.testBit i with
    | false => rw [Bool.and_false]
    | true => rw [h i e]; rfl
/-! ### rows of a system -/
abbrev BRow := Int × Nat × List Int
def rowsS (S : Sys) (n A : Nat) (pre : List Int) : List BRow := S.rows.map fun r => (r.2, A ||| maskOf n (S.rows.map (·.1)) (fun o => S.ahead o r.1), pre ++ r.1)
def allS (S : Sys) (n : Nat) : Nat := maskOf n (S.rows.map (·.1)) fun _ => true
theorem cRows_app : ∀ (Ss Ts : List Sys) (i : Int), cRows (Ss ++ Ts) i = cRows Ss i ++ cRows Ts (i + Ss.length)
  | [], Ts, i => by simp [cRows]
  | S :: Ss, Ts, i => by
    rw [List.cons_append, cRows, cRows_app Ss Ts (i + 1), cRows, List.append_assoc]
    congr 3
    rw [List.length_cons]
    omega
theorem cRows_in {Ss : List Sys} {i : Int} {a : Row1} (h : a ∈ cRows Ss i) : ∃ k b, a.1 = k :: b ∧ i ≤ k ∧ k < i + Ss.length := by
  induction Ss generalizing i with
  | nil => simp [cRows] at h
  | cons S Ss ih =>
    simp only [cRows, List.mem_append, pre, List.mem_map] at h
    rcases h with ⟨b, _, rfl⟩ | h
    · exact ⟨i, b.1, rfl, Int.le_refl _, by rw [List.length_cons]; omega⟩
    · obtain ⟨k, b, e, h1, h2⟩ := ih h
      exact ⟨k, b, e, by omega, by rw [List.length_cons]; omega⟩
theorem aheadAt_mid : ∀ (Ss Ts : List Sys) (S : Sys) (i : Int) (a b : List Int), aheadAt (Ss ++ S :: Ts) i (i + Ss.length) a b = S.ahead a b
  | [], Ts, S, i, a, b => by
    rw [List.nil_append, aheadAt, if_pos (by simp)]
  | T :: Ss, Ts, S, i, a, b => by
    rw [List.cons_append, aheadAt, if_neg (by rw [List.length_cons]; omega)]
    have h := aheadAt_mid Ss Ts S (i + 1) a b
    rw [← h]
    congr 1
    rw [List.length_cons]
    omega
/-- one part's rows within the whole -/
theorem rows_part (sq : Bool) (Ss Ts : List Sys) (S : Sys) (n A : Nat) (pr : List Int) :
    rowsS (comp sq (Ss ++ S :: Ts) 0) n A pr = (rowsS (comp sq (Ss ++ S :: Ts) 0) n A pr).take (cRows Ss 0).length ++
      rowsS S (n + (cRows Ss 0).length) (if sq = true then A ||| maskOf n ((cRows Ss 0).map (·.1)) (fun _ => true) else A) (pr ++ [(Ss.length : Int)]) ++
      (rowsS (comp sq (Ss ++ S :: Ts) 0) n A pr).drop ((cRows Ss 0).length + S.rows.length) := by
  have er : (comp sq (Ss ++ S :: Ts) 0).rows = cRows Ss 0 ++ (pre (Ss.length : Int) S.rows ++ cRows Ts (Ss.length + 1)) := by
    show cRows (Ss ++ S :: Ts) 0 = _
    rw [cRows_app, cRows]
    simp
  have key : ((rowsS (comp sq (Ss ++ S :: Ts) 0) n A pr).drop (cRows Ss 0).length).take S.rows.length = rowsS S (n + (cRows Ss 0).length) (if sq = true then A ||| maskOf n ((cRows Ss 0).map (·.1)) (fun _ => true) else A) (pr ++ [(Ss.length : Int)]) := by
    unfold rowsS
    rw [← List.map_drop, ← List.map_take, er, List.drop_left, List.take_left' (by simp [pre])]
    unfold pre
    rw [List.map_map]
    refine List.map_congr_left fun r hr => ?_
    show (r.2, A ||| maskOf n _ _, pr ++ ((Ss.length : Int) :: r.1)) = _
    have e3 : pr ++ ((Ss.length : Int) :: r.1) = (pr ++ [(Ss.length : Int)]) ++ r.1 := by simp
    rw [e3]
    congr 2
    rw [List.map_append, List.map_append, maskOf_app, maskOf_app]
    have m1 : maskOf n ((cRows Ss 0).map (·.1)) (fun o => (comp sq (Ss ++ S :: Ts) 0).ahead o ((Ss.length : Int) :: r.1)) = if sq = true then maskOf n ((cRows Ss 0).map (·.1)) (fun _ => true) else 0 := by
      have : ∀ o ∈ (cRows Ss 0).map (·.1), (comp sq (Ss ++ S :: Ts) 0).ahead o ((Ss.length : Int) :: r.1) = sq := fun o ho => by
        obtain ⟨q, hq, rfl⟩ := List.mem_map.mp ho
        obtain ⟨k, b, e, h1, h2⟩ := cRows_in hq
        rw [e]
        show (if k ≠ (Ss.length : Int) then sq && decide (k < (Ss.length : Int)) else _) = sq
        rw [if_pos (by omega), decide_eq_true (show k < (Ss.length : Int) by omega), Bool.and_true]
      cases sq with
      | true => rw [maskOf_congr (q := fun _ => true) _ _ this]; rfl
      | false => rw [maskOf_congr (q := fun _ => false) _ _ this, maskOf_none]; rfl
    have m3 : ∀ m, maskOf m ((cRows Ts (Ss.length + 1)).map (·.1)) (fun o => (comp sq (Ss ++ S :: Ts) 0).ahead o ((Ss.length : Int) :: r.1)) = 0 := fun m => by
      rw [maskOf_congr (q := fun _ => false), maskOf_none]
      intro o ho
      obtain ⟨q, hq, rfl⟩ := List.mem_map.mp ho
      obtain ⟨k, b, e, h1, h2⟩ := cRows_in hq
      rw [e]
      show (if k ≠ (Ss.length : Int) then sq && decide (k < (Ss.length : Int)) else _) = false
      rw [if_pos (by omega), decide_eq_false (show ¬ k < (Ss.length : Int) by omega), Bool.and_false]
    have m2 : maskOf (n + ((cRows Ss 0).map (·.1)).length) ((S.rows.map fun a => ((Ss.length : Int) :: a.1, a.2)).map (·.1)) (fun o => (comp sq (Ss ++ S :: Ts) 0).ahead o ((Ss.length : Int) :: r.1)) = maskOf (n + (cRows Ss 0).length) (S.rows.map (·.1)) (fun o => S.ahead o r.1) := by
      rw [List.map_map, List.length_map, maskOf_map, maskOf_map]
      refine maskOf_congr _ _ fun q _ => ?_
      show (if (Ss.length : Int) ≠ (Ss.length : Int) then _ else aheadAt (Ss ++ S :: Ts) 0 (Ss.length : Int) q.1 r.1) = _
      rw [if_neg (by simp)]
      have h := aheadAt_mid Ss Ts S 0 q.1 r.1
      rw [Int.zero_add] at h
      exact h
    rw [m1, m2, m3, Nat.or_zero]
    cases sq with
    | true => rw [if_pos rfl, if_pos rfl, Nat.or_assoc]
    | false => rw [if_neg Bool.false_ne_true, if_neg Bool.false_ne_true, Nat.zero_or]
  rw [← key, ← List.drop_drop, List.append_assoc, List.take_append_drop, List.take_append_drop]
theorem all_part (Ss : List Sys) (S : Sys) (n : Nat) : maskOf n ((cRows (Ss ++ [S]) 0).map (·.1)) (fun _ => true) = maskOf n ((cRows Ss 0).map (·.1)) (fun _ => true) ||| allS S (n + (cRows Ss 0).length) := by
  rw [cRows_app, cRows, cRows, List.append_nil, List.map_append, maskOf_app, List.length_map]
  unfold allS pre
  simp only [List.map_map, maskOf_map]

/-! block Rows16: _law_rows, each step with the bits of what comes before (behind bBits16) -/
def browD (r : BRow) : PyData := .tuple [.int r.1, .int (r.2.1 : Int), adD r.2.2]
def browsD (rs : List BRow) : List PyData := rs.map browD
theorem noLs_brow : ∀ rs : List BRow, noLs (browsD rs) = true
  | [] => rfl
  | r :: rs => by
    have h := noLs_brow rs
    show noLs (.tuple [.int r.1, .int (r.2.1 : Int), adD r.2.2] :: browsD rs) = true
    simp only [noLs, noL, noL_ad, h, Bool.and_self]
theorem seqP_in (k : Bool) : inV (.str (kwP k)) [.str "seq", .str "repeat"] = !k := by cases k <;> decide +kernel
theorem seqR_in (k : Bool) : inV (.str (kwR k)) [.str "seq", .str "repeat"] = !k := by cases k <;> decide +kernel
theorem rowsS_len (S : Sys) (n A : Nat) (pr : List Int) : (rowsS S n A pr).length = S.rows.length := by
  unfold rowsS
  rw [List.length_map]
theorem Rows_sx {p D : Addr} {H G : Hp} {o : HO} (hD : H D = none) (s : Sx p H G) : Sx p H (upd G D o) := sxW_new hD s
/-- what a job's parts are, to the eye of the rows -/
theorem rn_rows {k : Bool} {c : Int} {x : J} (h : x.stb) (n A : Nat) (pr : List Int) :
    rowsS (J.rn k c x).sys n A pr = rowsS (comp (!k) ((List.replicate c.toNat x).map J.sys) 0) n A pr ∧ allS (J.rn k c x).sys n = allS (comp (!k) ((List.replicate c.toNat x).map J.sys) 0) n ∧ (J.rn k c x).sys.rows.length = (comp (!k) ((List.replicate c.toNat x).map J.sys) 0).rows.length := by
  rw [J.sys, List.map_replicate]
  by_cases e : 0 < x.steps
  · rw [if_pos e]
    exact ⟨rfl, rfl, rfl⟩
  · rw [if_neg e]
    have hl := J.adr_len x h
    have hn : x.sys.rows = [] := by
      have h1 : x.sys.rows.length = x.adr.length := by rw [← J.sys_adr x, List.length_map]
      exact List.length_eq_zero_iff.mp (by omega)
    have hc : ∀ (m : Nat) (i : Int), cRows (List.replicate m x.sys) i = [] := by
      intro m
      induction m with
      | zero => intro i; rfl
      | succ m ih =>
        intro i
        rw [List.replicate_succ, cRows, ih, hn]
        rfl
    have e1 : (comp (!k) (List.replicate c.toNat x.sys) 0).rows = [] := hc _ _
    have e2 : (comp (!k) (List.replicate 0 x.sys) 0).rows = [] := hc _ _
    unfold rowsS allS
    rw [e1, e2]
    exact ⟨rfl, rfl, rfl⟩
theorem sys_syss : ∀ xs : List J, J.syss xs = xs.map J.sys
  | [] => rfl
  | x :: xs => by rw [J.syss, sys_syss xs, List.map_cons]
section
variable {P : Program} {w : World} {K : PySem.W.Frag} {mg : Str → Option Value} {base : Heap}
def spRows16 (K : PySem.W.Frag) (n : Nat) : Sp := fun vs H Q _ => ∃ (v : V) (l pt : Addr) (j : J) (A : Nat) (pr : List Int) (rs : List BRow) (ws : List V), vs = [v, .ref l, .int (A : Int), .ref pt] ∧ Dp K H v j.toD ∧ j.deep ≤ n ∧ j.stb ∧ j.steps ≤ 1000 ∧ j.rounded ∧
  H l = some (.lst ws) ∧ DpAll K H ws (browsD rs) ∧ rs.length + j.sys.rows.length ≤ 60 ∧ SqT K H pt (pr.map V.int) ∧ pr.length + j.deep ≤ 60 ∧
  ∀ (H' : Hp) (ws' : List V), Sx l H H' → H' l = some (.lst ws') → DpAll K H' ws' (browsD (rs ++ rowsS j.sys rs.length A pr)) → Q (.int (allS j.sys rs.length : Nat)) H'
theorem ok_rows16_next (T : Txt K mg) {n : Nat} (g__law_rows : FnOk P w K mg base CX0 n T.f__law_rows T.d__law_rows ["_law_job_here", "_law_rows_here", "_law_ahead", "_law_address"] (spRows16 K n)) :
    FnOk P w K mg base CX0 (n + 1) T.f__law_rows T.d__law_rows ["_law_job_here", "_law_rows_here", "_law_ahead", "_law_address"] (spRows16 K (n + 1)) := by
  refine T.F__law_rows.ok sc__law_rows (fun vs H Q E h => ?_) (fun cdv A outer s H vs Q E hr h => ?_)
  · obtain ⟨v, l, pt, j, A, pr, rs, ws, rfl, _⟩ := h
    rfl
  obtain ⟨v, l, pt, j, Ah, pr, rs, ws, rfl, hd, hdeep, hstb, hst, hrd, hl, hws, h60, hpt, hpr, q⟩ := h
  refine ⟨_, (pss_cons (ps_if (pt_val (pe_callB (r := rIsD K) call_isD (by rfl) T.n_isinstance (by decide +kernel) (pa_cons (pv 0) (pa_cons (pe_bltn (v := .ty "int") (by rfl) T.n_int (by decide +kernel) rfl) pa_nil)))) (pss_cons (ps_expr (pe_bm PySem.F.plainAttrs_list PySem.F.slot_list_append PySem.F.type_list_append mt_append (pv 1) (pa_cons (pe_tup (pa_cons (pv 0) (pa_cons (pv 2) (pa_cons (pv 3) pa_nil)))) pa_nil)))
        (pss_one (ps_ret (pe_op op_shl pe_int (pe_op op_sub (pe_callB (r := rLenS K) call_lenS (by rfl) T.n_len (by decide +kernel) (pa_cons (pv 1) pa_nil)) pe_int))))) pss_nil)
      (pss_cons (ps_set (i := 4) sc__law_rows.nd rfl (Or.inl rfl) (pe_ifExp (pt_cmpR (r := rIn K false) op_in_seq (pe_ix (r := rIxT K) ix_tup (pv 0) pe_int (fun _ _ => rfl)) (pe_tup (pa_cons pe_str (pa_cons pe_str pa_nil))) (by rfl)) (pe_ix (r := rIxT K) ix_tup (pv 0) pe_int (fun _ _ => rfl)) (pe_op (r := rRepZ K) op_repZ (pe_tup (pa_cons (pe_ix (r := rIxT K) ix_tup (pv 0) pe_int (fun _ _ => rfl)) pa_nil)) (pe_ix (r := rIxT K) ix_tup (pv 0) pe_int (fun _ _ => rfl)))))
      (pss_cons (ps_set (i := 5) sc__law_rows.nd rfl (Or.inl rfl) pe_int)
      (pss_cons (ps_for PassesOwn.never rfl (pi_enumT (by rfl) T.n_enumerate (pa_cons (pv 4) pa_nil)) (pg_tup (by rfl) (pgs_cons (pg_name (i := 6) sc__law_rows.nd rfl (Or.inl rfl)) (pgs_cons (pg_name (i := 7) sc__law_rows.nd rfl (Or.inl rfl)) pgs_nil)))
        (pss_cons (ps_set (i := 8) sc__law_rows.nd rfl (Or.inl rfl) (pe_ifExp (pt_cmpR (r := rIn K false) op_in_seq (pe_ix (r := rIxT K) ix_tup (pv 0) pe_int (fun _ _ => rfl)) (pe_tup (pa_cons pe_str (pa_cons pe_str pa_nil))) (by rfl)) (pe_op op_or (pv 2) (pv 5)) (pv 2)))
        (pss_one (ps_set (i := 5) sc__law_rows.nd rfl (Or.inl rfl) (pe_op op_or (pv 5) (pe_call g__law_rows (hr.mono (by omega)) rfl T.m__law_rows T.F__law_rows.kp T.b__law_rows .nil pass0 (pa_cons (pv 7) (pa_cons (pv 1) (pa_cons (pv 8) (pa_cons (pe_op (r := rCatA K) op_catA (pv 3) (pe_tup (pa_cons (pv 6) pa_nil))) pa_nil))))))))))
      (pss_one (ps_ret (pv 5))))))), ?_⟩
  have wl : ws.length = rs.length := by rw [dpAll_length hws, browsD, List.length_map]
  refine ⟨_, rfl, _, _, _, _, rfl, hd, kit_int _, _, rfl, ?_⟩
  have etu : isInt j.toD = !isTup j.toD := by cases j <;> rfl
  rw [etu]
  cases ej : isTup j.toD with
  | false =>
    refine iteT ?_
    cases j with
    | ps k xs => cases ej
    | rn k c x => cases ej
    | st i =>
      obtain rfl := dp_int_inv hd
      refine ⟨_, rfl, .inl ⟨rfl, ws, SqL.of hl⟩, ?_⟩
      refine ⟨_, rfl, _, rfl, _, rfl, (by show 3 ≤ sizeLine; decide), fun t ht => ?_⟩
      have s1 : Same H (upd H t (.tup [.int i, .int (Ah : Int), .ref pt])) := same_new ht
      have q1 : SqT K (upd H t (.tup [.int i, .int (Ah : Int), .ref pt])) t [.int i, .int (Ah : Int), .ref pt] := SqT.of upd_same
      have hl1 := s1 _ _ hl
      have hws1 := dpAll_same s1 hws
      have hpt1 := same_sqT s1 hpt
      generalize (upd H t (.tup [.int i, .int (Ah : Int), .ref pt])) = H1 at s1 q1 hl1 hws1 hpt1 ⊢
      refine ⟨l, ws, .ref t, rfl, rfl, hl1, small1000 (by omega), ?_⟩
      have k2 : ∀ b xs, SqT K H1 b xs → SqT K (upd H1 l (.lst (ws ++ [.ref t]))) b xs := fun b xs h => (sx_upd (p := l)).sqT hl1 h
      have dn : Dp K H1 (.ref t) (browD (i, Ah, pr)) := .tup q1 (.cons (.int _) (.cons (.int _) (.cons (.tup hpt1 (ints_dp' pr)) .nil)))
      have d2 : DpAll K (upd H1 l (.lst (ws ++ [.ref t]))) (ws ++ [.ref t]) (browsD (rs ++ [(i, Ah, pr)])) := by
        rw [browsD, List.map_append]
        exact dpAll_append (dpAll_keep k2 (noLs_brow rs) hws1) (.cons (dp_keep k2 (by simp only [browD, noL, noLs, noL_ad, Bool.and_self]) dn) .nil)
      have sx2 : Sx l H (upd H1 l (.lst (ws ++ [.ref t]))) := (Same.sx s1).trans sx_upd
      have e2 : upd H1 l (.lst (ws ++ [.ref t])) l = some (.lst (ws ++ [.ref t])) := upd_same
      generalize (upd H1 l (.lst (ws ++ [.ref t]))) = H2 at d2 sx2 e2 ⊢
      refine ⟨_, rfl, l, _, rfl, .inl (SqL.of e2), ?_⟩
      refine ⟨_, _, rfl, rfl, ?_⟩
      have hlen : (ws ++ [V.ref t]).length = rs.length + 1 := by rw [List.length_append, wl]; rfl
      simp only [J.sys, List.length_singleton] at h60
      refine ⟨_, _, rfl, rfl, ⟨by rw [hlen]; omega, by rw [hlen]; omega, by decide⟩, ?_⟩
      have ev : V.int (1 * 2 ^ ((((ws ++ [V.ref t]).length : Nat) : Int) - 1).toNat) = V.int ((allS (J.st i).sys rs.length : Nat) : Int) := by
        rw [hlen]
        congr 1
        have : (((rs.length + 1 : Nat) : Int) - 1).toNat = rs.length := by omega
        rw [this]
        simp [allS, J.sys, maskOf]
      have er : rowsS (J.st i).sys rs.length Ah pr = [(i, Ah, pr)] := by
        simp [rowsS, J.sys, maskOf]
      have q' := q H2 _ sx2 e2 (by rw [er]; exact d2)
      rw [← ev] at q'
      exact q'
  | true =>
  refine iteF ?_
  -- the word
  obtain ⟨a, zs, x0, rfl, hzs, hz0, hcs⟩ : ∃ (a : Addr) (zs : List V) (x0 : Str), v = .ref a ∧ SqT K H a zs ∧ atI zs 0 = some (.str x0) ∧
      ((∃ (k : Bool) (xs : List J) (b : Addr) (us : List V), j = .ps k xs ∧ x0 = kwP k ∧ zs = [.str x0, .ref b] ∧ SqT K H b us ∧ DpAll K H us (J.toDs xs)) ∨
       (∃ (k : Bool) (c : Int) (x : J) (vx : V), j = .rn k c x ∧ x0 = kwR k ∧ zs = [.str x0, .int c, vx] ∧ Dp K H vx x.toD)) := by
    cases j with
    | st i => cases ej
    | ps k xs =>
      obtain ⟨a, b, us, rfl, h1, h2, h3⟩ := ps_inv hd
      exact ⟨a, _, _, rfl, h1, rfl, .inl ⟨k, xs, b, us, rfl, rfl, rfl, h2, h3⟩⟩
    | rn k c x =>
      obtain ⟨a, vx, rfl, h1, h2⟩ := rn_inv hd
      exact ⟨a, _, _, rfl, h1, rfl, .inr ⟨k, c, x, vx, rfl, rfl, rfl, h2⟩⟩
  refine ⟨_, rfl, _, _, _, _, rfl, rfl, hzs, hz0, (by show 2 ≤ sizeLine; decide), fun t ht => ?_⟩
  refine ⟨t, _, rfl, .inr (SqT.of upd_same), rfl, rfl, _, rfl, ?_⟩
  have s1 : Same H (upd H t (.tup [.str "seq", .str "par"])) := same_new ht
  generalize (upd H t (.tup [.str "seq", .str "par"])) = H1 at s1 ⊢
  refine ite_mid (fun x H' => ∃ (li : Addr) (ys : List V) (js : List J) (sq : Bool), x = .ref li ∧ Same H H' ∧ SqT K H' li ys ∧ DpAll K H' ys (J.toDs js) ∧
    (∀ y ∈ js, y.deep ≤ n ∧ y.deep + 1 ≤ j.deep ∧ y.stb ∧ y.steps ≤ 1000 ∧ y.rounded) ∧ (∀ A m pr, rowsS j.sys m A pr = rowsS (comp sq (js.map J.sys) 0) m A pr) ∧ (∀ m, allS j.sys m = allS (comp sq (js.map J.sys) 0) m) ∧ j.sys.rows.length = (comp sq (js.map J.sys) 0).rows.length ∧
      inV (.str x0) [.str "seq", .str "repeat"] = sq) (fun hc Q' go => ?_) (fun hc Q' go => ?_) ?_
  · rcases hcs with ⟨k, xs, b, us, rfl, rfl, rfl, hus, hall⟩ | ⟨k, c, x, vx, rfl, rfl, rfl, hvx⟩
    · simp only [J.stb] at hstb
      simp only [J.rounded] at hrd
      simp only [J.steps] at hst
      refine ⟨_, rfl, _, _, _, _, rfl, rfl, same_sqT s1 hzs, rfl, ?_⟩
      refine go _ _ ⟨b, us, xs, !k, rfl, s1, same_sqT s1 hus, dpAll_same s1 hall, fun y hy => ?_, fun A m pr => by rw [J.sys, sys_syss], fun m => by rw [J.sys, sys_syss], by rw [J.sys, sys_syss], seqP_in k⟩
      have h1 := J.deepL_mem hy
      simp only [J.deep] at hdeep ⊢
      exact ⟨by omega, by omega, J.stbL_mem hstb.2 hy, J.steps_mem hstb.2 hst hy, J.roundedL_mem hrd hy⟩
    · have hc' : inV (.str (kwR k)) [.str "seq", .str "par"] = true := hc
      rw [kwR_in] at hc'
      cases hc'
  · rcases hcs with ⟨k, xs, b, us, rfl, rfl, rfl, hus, hall⟩ | ⟨k, c, x, vx, rfl, rfl, rfl, hvx⟩
    · have hc' : inV (.str (kwP k)) [.str "seq", .str "par"] = false := hc
      rw [kwP_in] at hc'
      cases hc'
    · simp only [J.stb] at hstb
      simp only [J.rounded] at hrd
      simp only [J.steps] at hst
      refine ⟨_, rfl, _, _, _, _, rfl, rfl, same_sqT s1 hzs, rfl, (by show 1 ≤ sizeLine; decide), fun t2 ht2 => ?_⟩
      have s2 : Same H1 (upd H1 t2 (.tup [vx])) := same_new ht2
      have q2 : SqT K (upd H1 t2 (.tup [vx])) t2 [vx] := SqT.of upd_same
      generalize (upd H1 t2 (.tup [vx])) = H2 at s2 q2 ⊢
      have s12 := s1.trans s2
      refine ⟨_, rfl, _, _, _, _, rfl, rfl, same_sqT s12 hzs, rfl, t2, c, [vx], rfl, rfl, q2, by simp, hstb.1.1, hrd.1, (by show 1 ≤ 1000; decide), fun H3 p s3 hp => ?_⟩
      have e1 : (List.replicate c.toNat [vx]).flatten = List.replicate c.toNat vx := by
        generalize c.toNat = m
        induction m with
        | zero => rfl
        | succ m ih => simp [List.replicate_succ, ih]
      refine go _ _ ⟨p, _, List.replicate c.toNat x, !k, rfl, s12.trans s3, hp, dpAll_rep' (dp_same (s12.trans s3) hvx) _, fun y hy => ?_, fun A m pr => (rn_rows hstb.2.1 m A pr).1, fun m => (rn_rows hstb.2.1 m 0 []).2.1, (rn_rows hstb.2.1 0 0 []).2.2, seqR_in k⟩
      obtain ⟨hne, rfl⟩ := List.mem_replicate.mp hy
      have hc1 : 1 ≤ c := by omega
      have hx0 := J.steps_nn' y hstb.2.1
      simp only [J.deep] at hdeep ⊢
      refine ⟨by omega, by omega, hstb.2.1, ?_, hrd.2⟩
      have h1 : y.steps * 1 ≤ y.steps * c := Int.mul_le_mul_of_nonneg_left hc1 hx0
      omega
  rintro x H2 ⟨li, ys, js, sq, rfl, s2, hli, hys, hjs, eR, eA, eL, esq⟩
  have ylen : ys.length = js.length := by rw [dpAll_length hys, J.toDs_eq, List.length_map]
  rw [eL] at h60
  rw [eR, eA] at q
  have el : (comp sq (js.map J.sys) 0).rows.length = (cRows (js.map J.sys) 0).length := rfl
  have hl2 := s2 _ _ hl
  have hws2 := dpAll_same s2 hws
  have hpt2 := same_sqT s2 hpt
  have hzs2 := same_sqT s2 hzs
  refine ⟨_, rfl, li, ys, rfl, hli, ?_⟩
  refine for_it (walk_enumT (xs := ys)) (fun m σ G => ∃ (y6 y7 y8 : Option V) (wn : List V), σ = [some (.ref a), some (.ref l), some (.int (Ah : Int)), some (.ref pt), some (.ref li), some (.int ((maskOf rs.length ((cRows ((js.take m).map J.sys) 0).map (·.1)) (fun _ => true) : Nat) : Int)), y6, y7, y8] ∧ Sx l H2 G ∧ G l = some (.lst wn) ∧
      DpAll K G wn (browsD (rs ++ (rowsS (comp sq (js.map J.sys) 0) rs.length Ah pr).take (cRows ((js.take m).map J.sys) 0).length)))
    ⟨none, none, none, ws, rfl, Sx.refl, hl2, by simpa [cRows] using hws2⟩ ?_ ?_ ?_
  · rintro m σ G _ ⟨_, _, _, _, _, sG, _, _⟩
    exact sG.sqT hl2 hli
  · rintro m z σ G G' hm ⟨y6, y7, y8, wn, rfl, sG, eG, hwn⟩ ⟨t3, x1, x, rfl, ht3, rfl, hx1, hx⟩
    obtain rfl : V.int (m : Int) = x1 := Option.some.inj hx1
    dsimp only at hx
    have s5 : Same G (upd G t3 (.tup [.int m, x])) := same_new ht3
    have q5 : SqT K (upd G t3 (.tup [.int m, x])) t3 [.int m, x] := SqT.of upd_same
    generalize (upd G t3 (.tup [.int m, x])) = G1 at s5 q5 ⊢
    have sG1 : Sx l H2 G1 := sG.trans (Same.sx s5)
    refine ⟨t3, _, rfl, q5, rfl, _, _, rfl, _, _, rfl, rfl, ?_⟩
    obtain ⟨y, ey, my, dy⟩ := part_at hys hx
    obtain ⟨ydeep, ydeep2, ystb, yst, yrd⟩ := hjs y my
    have ml : m < js.length := (List.getElem?_eq_some_iff.mp ey).1
    have k1 := fun b xs (h : SqT K H2 b xs) => sG1.sqT hl2 h
    have hzsG := k1 _ _ hzs2
    -- which bits come before
    refine ⟨_, rfl, _, _, _, _, rfl, rfl, hzsG, hz0, (by show 2 ≤ sizeLine; decide), fun t6 ht6 => ?_⟩
    refine ⟨t6, _, rfl, .inr (SqT.of upd_same), rfl, rfl, _, rfl, ?_⟩
    have s6 : Same G1 (upd G1 t6 (.tup [.str "seq", .str "repeat"])) := same_new ht6
    generalize (upd G1 t6 (.tup [.str "seq", .str "repeat"])) = G2 at s6 ⊢
    have sG2 : Sx l H2 G2 := sG1.trans (Same.sx s6)
    have e2 := (s5.trans s6) _ _ eG
    have hwn2 := dpAll_same (s5.trans s6) hwn
    rw [esq]
    refine ite_mid (fun x H' => x = .int (((if sq = true then Ah ||| maskOf rs.length ((cRows ((js.take m).map J.sys) 0).map (·.1)) (fun _ => true) else Ah) : Nat) : Int) ∧ H' = G2) (fun hc Q' go => ?_) (fun hc Q' go => ?_) ?_
    · refine ⟨_, rfl, _, rfl, _, _, rfl, rfl, ?_⟩
      dsimp only
      rw [or_bits]
      have hc : sq = true := hc
      exact go _ _ ⟨by rw [hc, if_pos rfl], rfl⟩
    · refine ⟨_, rfl, ?_⟩
      have hc : sq = false := hc
      exact go _ _ ⟨by rw [hc, if_neg Bool.false_ne_true], rfl⟩
    rintro x' H' ⟨ex', eh'⟩
    subst x' H'
    -- the part's own rows
    have part := rows_part sq ((js.take m).map J.sys) ((js.drop (m + 1)).map J.sys) y.sys rs.length Ah pr
    have ejs : (js.take m).map J.sys ++ y.sys :: (js.drop (m + 1)).map J.sys = js.map J.sys := by
      have e1 : js = js.take m ++ y :: js.drop (m + 1) := by
        have h1 := List.getElem?_eq_some_iff.mp ey
        rw [← h1.2, ← List.drop_eq_getElem_cons h1.1, List.take_append_drop]
      conv =>
        rhs
        rw [e1]
      rw [List.map_append, List.map_cons]
    rw [ejs] at part
    have etk : (js.take (m + 1)).map J.sys = (js.take m).map J.sys ++ [y.sys] := by rw [List.take_add_one, ey, List.map_append]; rfl
    have ecl : (cRows ((js.take (m + 1)).map J.sys) 0).length = (cRows ((js.take m).map J.sys) 0).length + y.sys.rows.length := by
      rw [etk, cRows_app, cRows, cRows, List.append_nil, List.length_append]
      simp [pre]
    have ctot : (cRows ((js.take (m + 1)).map J.sys) 0).length ≤ (cRows (js.map J.sys) 0).length := by
      rw [← ejs, show (js.take m).map J.sys ++ y.sys :: (js.drop (m + 1)).map J.sys = ((js.take m).map J.sys ++ [y.sys]) ++ (js.drop (m + 1)).map J.sys by simp, ← etk, cRows_app _ _ 0, List.length_append]
      omega
    have etake : (rowsS (comp sq (js.map J.sys) 0) rs.length Ah pr).take (cRows ((js.take (m + 1)).map J.sys) 0).length = (rowsS (comp sq (js.map J.sys) 0) rs.length Ah pr).take (cRows ((js.take m).map J.sys) 0).length ++
        rowsS y.sys (rs.length + (cRows ((js.take m).map J.sys) 0).length) (if sq = true then Ah ||| maskOf rs.length ((cRows ((js.take m).map J.sys) 0).map (·.1)) (fun _ => true) else Ah) (pr ++ [(((js.take m).map J.sys).length : Int)]) := by
      conv =>
        lhs
        rw [part]
      rw [ecl, List.take_append_of_le_length]
      · rw [List.take_of_length_le]
        rw [List.length_append, List.length_take, rowsS_len, rowsS_len, el]
        omega
      · rw [List.length_append, List.length_take, rowsS_len, rowsS_len, el]
        omega
    have elm : ((js.take m).map J.sys).length = m := by rw [List.length_map, List.length_take]; omega
    have rlen : (rs ++ (rowsS (comp sq (js.map J.sys) 0) rs.length Ah pr).take (cRows ((js.take m).map J.sys) 0).length).length = rs.length + (cRows ((js.take m).map J.sys) 0).length := by
      rw [List.length_append, List.length_take, rowsS_len, el]
      omega
    rw [elm] at etake
    have hpt3 := sG2.sqT hl2 hpt2
    refine ⟨_, rfl, ?_⟩
    refine ⟨_, rfl, _, rfl, _, rfl, _, rfl, _, rfl, (by show 1 ≤ sizeLine; decide), fun t7 ht7 => ?_⟩
    have s7 : Same G2 (upd G2 t7 (.tup [.int m])) := same_new ht7
    have q7 : SqT K (upd G2 t7 (.tup [.int m])) t7 ([(m : Int)].map V.int) := SqT.of upd_same
    generalize (upd G2 t7 (.tup [.int m])) = G3 at s7 q7 ⊢
    refine rCatA_q (same_sqT s7 hpt3) q7 (small (by simp only [List.length_map, List.length_singleton]; omega)) (fun G4 t8 s8 q8 => ?_)
    rw [← List.map_append] at q8
    have s78 := s7.trans s8
    have sG4 : Sx l H2 G4 := sG2.trans (Same.sx s78)
    have e4 := s78 _ _ e2
    have hwn4 := dpAll_same s78 hwn2
    refine ⟨x, l, t8, y, _, pr ++ [(m : Int)], _, wn, rfl, dp_keep (fun b xs h => sG4.sqT hl2 h) y.noL dy, ydeep, ystb, yst, yrd, e4, hwn4, by rw [rlen]; omega, q8, by rw [List.length_append, List.length_singleton]; omega, fun G5 wn5 s9 e9 h9 => ?_⟩
    refine ⟨_, _, rfl, rfl, ?_⟩
    dsimp only
    rw [or_bits, rlen]
    rw [rlen, List.append_assoc, ← etake] at h9
    refine ⟨some (.int m), some x, some (.int (((if sq = true then Ah ||| maskOf rs.length ((cRows ((js.take m).map J.sys) 0).map (·.1)) (fun _ => true) else Ah) : Nat) : Int)), wn5, ?_, sG4.trans s9, e9, h9⟩
    rw [etk, all_part]
    rfl
  · rintro σ G ⟨y6, y7, y8, wn, rfl, sG, eG, hwn⟩
    rw [ylen, List.take_length] at hwn ⊢
    rw [List.take_of_length_le (by rw [rowsS_len, el]; exact Nat.le_refl _)] at hwn
    refine ⟨_, rfl, ?_⟩
    exact q G wn ((Same.sx s2).trans sG) eG hwn
theorem ok_rows16 (T : Txt K mg) : ∀ n : Nat, FnOk P w K mg base CX0 n T.f__law_rows T.d__law_rows ["_law_job_here", "_law_rows_here", "_law_ahead", "_law_address"] (spRows16 K n)
  | 0 => ⟨fun vs H Q E h => by
      obtain ⟨v, l, pt, j, A, pr, rs, ws, rfl, _⟩ := h
      rfl, fun A outer s H args us vs Q E _ _ _ _ h => by
      obtain ⟨v, l, pt, j, A, pr, rs, ws, rfl, _, h0, _⟩ := h
      have := J.deep_pos j
      omega⟩
  | n + 1 => ok_rows16_next T (ok_rows16 T n)
end

/-! block OddW: _law_odd, one of twenty-one values (behind bAcc; after bOdd28) -/
def oddsD : List PyData := [.none, .bool true, .bool false, .int (-1), .int 0, .int 1, .int 5, .int (M30 + 1), .int M60, .str "", .str "seq", .str "par", .str "a", .tuple [], .list [], .dict [], .tuple [.int 0], .tuple [.str "seq"]] ++ [.tuple [.tuple []], .list [.str "seq", .tuple []], .tuple [.str "use", .str "a"]]
theorem oddsD_all {P : PyData → Bool} (h : oddsD.all P = true) {d : PyData} (hd : d ∈ oddsD) : P d = true := List.all_eq_true.mp h d hd
def spOddW (K : PySem.W.Frag) : Sp := fun vs H Q _ => ∃ (p : Addr) (m : Nat), vs = [.ref p] ∧ Pot H p m ∧ m + 1 ≤ 1099511627776 ∧
  ∀ (H' : Hp) (v : V) (d : PyData), Sx p H H' → Pot H' p (m + 1) → Dq K p H' v d → d ∈ oddsD → Q v H'
section
variable {P : Program} {w : World} {K : PySem.W.Frag} {mg : Str → Option Value} {base : Heap}
theorem ok_oddW (T : Txt K mg) : FnOk P w K mg base CX0 2 T.f__law_odd T.d__law_odd ["_law_source_here"] (spOddW K) := by
  have g__law_draw : FnOk P w K mg base CX0 1 T.f__law_draw T.d__law_draw ["_law_source_here", "_law_many"] spTake := ok_take T
  refine T.F__law_odd.ok sc__law_odd (fun vs H Q E h => ?_) (fun cdv A outer s H vs Q E hr h => ?_)
  · obtain ⟨p, m, rfl, _⟩ := h
    rfl
  obtain ⟨p, m, rfl, hp, hm, q⟩ := h
  refine ⟨_, (pss_cons (ps_set (i := 1) sc__law_odd.nd rfl (Or.inl rfl) (pe_lst (pa_cons pe_non (pa_cons pe_bl (pa_cons pe_bl (pa_cons (pe_un un_neg pe_int) (pa_cons pe_int (pa_cons pe_int (pa_cons pe_int (pa_cons (pe_op op_add (pe_op op_powW pe_int pe_int) pe_int) (pa_cons (pe_op op_powW pe_int pe_int) (pa_cons pe_str (pa_cons pe_str (pa_cons pe_str (pa_cons pe_str (pa_cons (pe_tup pa_nil) (pa_cons (pe_lst pa_nil) (pa_cons pe_dnewK (pa_cons (pe_tup (pa_cons pe_int pa_nil)) (pa_cons (pe_tup (pa_cons pe_str pa_nil)) pa_nil))))))))))))))))))))
      (pss_one (ps_ret (pe_ix (r := rIxL K) ix_list (pe_op op_cat (pv 1) (pe_lst (pa_cons (pe_tup (pa_cons (pe_tup pa_nil) pa_nil)) (pa_cons (pe_lst (pa_cons pe_str (pa_cons (pe_tup pa_nil) pa_nil))) (pa_cons (pe_tup (pa_cons pe_str (pa_cons pe_str pa_nil))) pa_nil))))) (pe_call g__law_draw (hr.mono (by omega)) rfl T.m__law_draw T.F__law_draw.kp T.b__law_draw .nil pass0 (pa_cons (pv 0) (pa_cons pe_int pa_nil))) (fun _ _ => rfl))))), ?_⟩
  obtain ⟨lp, hlp⟩ := hp.lst
  have A0 : Acc K p H H [] [] := ⟨Same.refl _, .nil⟩
  have e30 : (10 : Int) ^ (30 : Int).toNat = M30 := by decide
  have e60 : (10 : Int) ^ (60 : Int).toNat = M60 := by decide
  refine ⟨_, rfl, ?_⟩
  refine ⟨_, _, rfl, rfl, powW_of 4 (by decide) (by decide) (by decide), _, _, rfl, rfl, ?_⟩
  refine ⟨_, _, rfl, rfl, powW_of 4 (by decide) (by decide) (by decide), ?_⟩
  dsimp only
  rw [e30, e60]
  obtain ⟨e1, he1⟩ : ∃ e1 : Int, M30 + 1 = e1 := ⟨_, rfl⟩
  obtain ⟨e2, he2⟩ : ∃ e2 : Int, M60 = e2 := ⟨_, rfl⟩
  rw [he1, he2]
  refine ⟨(by show 0 ≤ sizeLine; decide), fun t1 h1 => ?_⟩
  have A1 := A0.tup h1 .nil
  generalize (upd H t1 (.tup [])) = H1 at A1 ⊢
  refine ⟨(by show 0 ≤ sizeLine; decide), fun l2 h2 => ?_⟩
  have A2 := A1.lst hlp h2 .nil
  generalize (upd H1 l2 (.lst [])) = H2 at A2 ⊢
  refine fun D hD => ?_
  have A3 := A2.dct hlp hD
  generalize (upd H2 D (.dK [])) = H3 at A3 ⊢
  refine ⟨(by show 1 ≤ sizeLine; decide), fun t4 h4 => ?_⟩
  have A4 := A3.tup h4 (.cons (.int 0) .nil)
  generalize (upd H3 t4 (.tup [.int 0])) = H4 at A4 ⊢
  refine ⟨(by show 1 ≤ sizeLine; decide), fun t5 h5 => ?_⟩
  have A5 := A4.tup h5 (.cons (.str "seq") .nil)
  generalize (upd H4 t5 (.tup [.str "seq"])) = H5 at A5 ⊢
  refine ⟨(by show 18 ≤ sizeLine; decide), fun l6 h6 => ?_⟩
  obtain ⟨xs1, ex1⟩ : ∃ xs1 : List V, xs1 = [.non, .bl true, .bl false, .int (-1), .int 0, .int 1, .int 5, .int e1, .int e2, .str "", .str "seq", .str "par", .str "a", .ref t1, .ref l2, .ref D, .ref t4, .ref t5] := ⟨_, rfl⟩
  have A6 := A5.lst hlp h6 (xs := xs1) (es := [.none, .bool true, .bool false, .int (-1), .int 0, .int 1, .int 5, .int e1, .int e2, .str "", .str "seq", .str "par", .str "a", .tuple [], .list [], .dict [], .tuple [.int 0], .tuple [.str "seq"]]) (by
    rw [ex1]
    exact .cons .non (.cons (.bl true) (.cons (.bl false) (.cons (.int _) (.cons (.int _) (.cons (.int _) (.cons (.int _) (.cons (.int _) (.cons (.int _) (.cons (.str _) (.cons (.str _) (.cons (.str _) (.cons (.str _) (.cons (A5.f.at 4 rfl rfl) (.cons (A5.f.at 3 rfl rfl) (.cons (A5.f.at 2 rfl rfl) (.cons (A5.f.at 1 rfl rfl) (.cons (A5.f.at 0 rfl rfl) .nil))))))))))))))))))
  have n6 : l6 ≠ p := fun z => by rw [z, A5.s _ _ hlp] at h6; cases h6
  have el6 : upd H5 l6 (.lst xs1) l6 = some (.lst xs1) := upd_same
  rw [← ex1]
  generalize (upd H5 l6 (.lst xs1)) = H6 at A6 el6 ⊢
  refine ⟨_, rfl, ?_⟩
  refine ⟨(by show 0 ≤ sizeLine; decide), fun t7 h7 => ?_⟩
  have A7 := A6.tup h7 .nil
  have el7 := A7.s
  have f7 : upd H6 t7 (.tup []) l6 = some (.lst xs1) := same_new h7 _ _ el6
  generalize (upd H6 t7 (.tup [])) = H7 at A7 f7 ⊢
  refine ⟨(by show 1 ≤ sizeLine; decide), fun t8 h8 => ?_⟩
  have A8 := A7.tup h8 (.cons (A7.f.at 0 rfl rfl) .nil)
  have f8 : upd H7 t8 (.tup [.ref t7]) l6 = some (.lst xs1) := same_new h8 _ _ f7
  generalize (upd H7 t8 (.tup [.ref t7])) = H8 at A8 f8 ⊢
  refine ⟨(by show 0 ≤ sizeLine; decide), fun t9 h9 => ?_⟩
  have A9 := A8.tup h9 .nil
  have f9 : upd H8 t9 (.tup []) l6 = some (.lst xs1) := same_new h9 _ _ f8
  generalize (upd H8 t9 (.tup [])) = H9 at A9 f9 ⊢
  refine ⟨(by show 2 ≤ sizeLine; decide), fun ta ha => ?_⟩
  have Aa := A9.lst hlp ha (.cons (.str "seq") (.cons (A9.f.at 0 rfl rfl) .nil))
  have fa : upd H9 ta (.lst [.str "seq", .ref t9]) l6 = some (.lst xs1) := same_new ha _ _ f9
  generalize (upd H9 ta (.lst [.str "seq", .ref t9])) = Ha at Aa fa ⊢
  refine ⟨(by show 2 ≤ sizeLine; decide), fun tb hb => ?_⟩
  have Ab := Aa.tup hb (.cons (.str "use") (.cons (.str "a") .nil))
  have fb : upd Ha tb (.tup [.str "use", .str "a"]) l6 = some (.lst xs1) := same_new hb _ _ fa
  generalize (upd Ha tb (.tup [.str "use", .str "a"])) = Hb at Ab fb ⊢
  refine ⟨(by show 3 ≤ sizeLine; decide), fun lc hc => ?_⟩
  have sc : Same Hb (upd Hb lc (.lst [V.ref t8, V.ref ta, V.ref tb])) := same_new hc
  have ec : upd Hb lc (.lst [V.ref t8, V.ref ta, V.ref tb]) lc = some (.lst [V.ref t8, V.ref ta, V.ref tb]) := upd_same
  generalize (upd Hb lc (.lst [V.ref t8, V.ref ta, V.ref tb])) = Hc at sc ec ⊢
  have x18 : xs1.length = 18 := by rw [ex1]; rfl
  refine ⟨l6, lc, _, _, rfl, rfl, sc _ _ fb, ec, by rw [x18]; show 18 + 3 ≤ sizeLine; decide, fun ld hd => ?_⟩
  have sd : Same Hc (upd Hc ld (.lst (xs1 ++ [V.ref t8, V.ref ta, V.ref tb]))) := same_new hd
  have fd : upd Hc ld (.lst (xs1 ++ [V.ref t8, V.ref ta, V.ref tb])) ld = some (.lst (xs1 ++ [V.ref t8, V.ref ta, V.ref tb])) := upd_same
  have sH := Ab.s.trans (sc.trans sd)
  have nd : ld ≠ p := fun z => by rw [z, sc _ _ (Ab.s _ _ hlp)] at hd; cases hd
  obtain ⟨es, ees⟩ : ∃ es : List PyData, es = [.none, .bool true, .bool false, .int (-1), .int 0, .int 1, .int 5, .int e1, .int e2, .str "", .str "seq", .str "par", .str "a", .tuple [], .list [], .dict [], .tuple [.int 0], .tuple [.str "seq"]] ++ [.tuple [.tuple []], .list [.str "seq", .tuple []], .tuple [.str "use", .str "a"]] := ⟨_, rfl⟩
  have F : DqAll K p Hb (xs1 ++ [V.ref t8, V.ref ta, V.ref tb]) es := by
    rw [ees]
    refine dqAll_append ?_ (.cons (Ab.f.at 3 rfl rfl) (.cons (Ab.f.at 1 rfl rfl) (.cons (Ab.f.at 0 rfl rfl) .nil)))
    rw [ex1]
    exact .cons .non (.cons (.bl true) (.cons (.bl false) (.cons (.int _) (.cons (.int _) (.cons (.int _) (.cons (.int _) (.cons (.int _) (.cons (.int _) (.cons (.str _) (.cons (.str _) (.cons (.str _) (.cons (.str _) (.cons (Ab.f.at 10 rfl rfl) (.cons (Ab.f.at 9 rfl rfl) (.cons (Ab.f.at 8 rfl rfl) (.cons (Ab.f.at 7 rfl rfl) (.cons (Ab.f.at 6 rfl rfl) .nil)))))))))))))))))
  have F2 := F.keep (Same.kp (sc.trans sd))
  have x21 : (xs1 ++ [V.ref t8, V.ref ta, V.ref tb]).length = 21 := by rw [List.length_append, x18]; rfl
  generalize (xs1 ++ [V.ref t8, V.ref ta, V.ref tb]) = xs2 at fd F2 x21 sd sH ⊢
  generalize (upd Hc ld (.lst xs2)) = Hd at sd fd sH F2 ⊢
  refine ⟨_, rfl, p, m, 21, rfl, hp.same sH, by omega, by decide, by decide, fun Hg r sg hpg r0 r1 => ?_⟩
  obtain ⟨x, hx, ex⟩ := pick (vs := xs2) r0 (by rw [x21]; exact r1)
  obtain ⟨d, hdm, _, hdq⟩ := dqAll_some (F2.keep (sg.kp (sH _ _ hlp))) hx
  refine ⟨_, _, _, _, rfl, rfl, SqL.of (sg _ _ nd fd), ex, ?_⟩
  refine q _ x d ((Same.sx sH).trans sg) hpg hdq ?_
  rw [ees, ← he1, ← he2] at hdm
  exact hdm
end

/-! block Firsts: _law_firsts, what a job can begin with by its rows (behind bChsM, bRows16, bLaw08M) -/
theorem idx_at : ∀ {as : List (List (List Int))} {i k : Int} {r : List Int}, k :: r ∈ idx as i → ∃ (m : Nat) (A : List (List Int)), as[m]? = some A ∧ k = i + m ∧ r ∈ A
  | [], i, k, r, h => by simp [idx] at h
  | A :: as, i, k, r, h => by
    simp only [idx, List.mem_append, List.mem_map] at h
    rcases h with ⟨b, hb, e⟩ | h
    · obtain ⟨rfl, rfl⟩ := List.cons.inj e
      exact ⟨0, A, rfl, by simp, hb⟩
    · obtain ⟨m, B, h1, h2, h3⟩ := idx_at h
      exact ⟨m + 1, B, h1, by omega, h3⟩
theorem cfs_at : ∀ {xs : List J} {i k : Int} {m : Nat} {x : J} {a : List Int}, xs[m]? = some x → k = i + m → J.cfs xs i k a = x.cf a
  | y :: xs, i, k, 0, x, a, h, e => by
    obtain rfl : y = x := Option.some.inj h
    rw [J.cfs, if_pos (by omega)]
  | y :: xs, i, k, m + 1, x, a, h, e => by
    rw [J.cfs, if_neg (by omega)]
    exact cfs_at (m := m) h (by omega)
theorem cf_nil : ∀ j : J, j.cf [] = true
  | .st _ => rfl
  | .ps _ _ => rfl
  | .rn _ _ _ => rfl
theorem kwP_cop (k : Bool) : (kwP k == ("copies" : Str)) = false := by cases k <;> decide +kernel
theorem kwR_cop (k : Bool) : (kwR k == ("copies" : Str)) = k := by cases k <;> decide +kernel
/-- which rows are firsts -/
def fstB (j : J) (r : BRow) : Bool := r.2.1 == 0 && j.cf r.2.2
theorem maskOf_zero {n : Nat} {as : List (List Int)} {D : List Int → Bool} : (maskOf n as D == 0) = as.all fun a => !D a := by
  rw [Bool.eq_iff_iff, beq_iff_eq, List.all_eq_true]
  constructor
  · intro h a ha
    cases e : D a with
    | false => rfl
    | true =>
      obtain ⟨k, hk⟩ := List.mem_iff_getElem?.mp ha
      have := (maskOf_bit D as n (n + k)).mpr ⟨k, a, hk, e, rfl⟩
      rw [h, Nat.zero_testBit] at this
      cases this
  · intro h
    refine Nat.eq_of_testBit_eq fun i => ?_
    rw [Nat.zero_testBit]
    cases e : (maskOf n as D).testBit i with
    | false => rfl
    | true =>
      obtain ⟨k, a, hk, ha, _⟩ := (maskOf_bit D as n i).mp e
      have := h a (List.mem_of_getElem? hk)
      rw [ha] at this
      cases this
theorem firsts_chs {j : J} (h : j.stb) : ((rowsS j.sys 0 0 []).filter (fstB j)).map (·.2.2) = j.chs := by
  rw [(J.chs_eq j h).1, ← J.sys_adr j, rowsS, List.filter_map, List.map_map, List.filter_map]
  have : (fstB j ∘ fun r : Row1 => (r.2, 0 ||| maskOf 0 (j.sys.rows.map (·.1)) (fun o => j.sys.ahead o r.1), [] ++ r.1)) = ((fun a => mins (j.sys.rows.map (·.1)) j.sys.ahead a && j.cf a) ∘ fun r : Row1 => r.1) := by
    funext r
    simp only [Function.comp_apply, fstB, List.nil_append, Nat.zero_or, maskOf_zero]
    rfl
  rw [this]
  rfl
theorem rowsS_row {j : J} {i : Nat} {r : BRow} (h : (rowsS j.sys 0 0 [])[i]? = some r) : (r.2.2, r.1) ∈ j.sys.rows := by
  rw [rowsS, List.getElem?_map] at h
  obtain ⟨x, hx, rfl⟩ := Option.map_eq_some_iff.mp h
  exact List.mem_of_getElem? hx
theorem len1_keys {ks : List (List Int)} (h : ks.Pairwise fun x y => HT.lexLt x y = true) (nk : ∀ k ∈ ks, ks.length ≤ 1 ∨ k ≠ []) : ks.length ≤ 1 ∨ ∀ k ∈ ks, k ≠ [] := by
  by_cases c : ks.length ≤ 1
  · exact .inl c
  · exact .inr fun k hk => (nk k hk).resolve_left c
theorem keys_dpF {K : PySem.W.Frag} {H : Hp} : ∀ {xs : List V} {ks : List (List Int)}, KeysT K H xs ks → DpAll K H xs (adDs ks)
  | _, _, .nil => .nil
  | _, _, .cons h _ r => .cons (.tup h (ints_dp' _)) (keys_dpF r)
theorem asc_perm {ls so : List (List Int)} (h : Asc so) (p : ls.Perm so) (w : ls.Pairwise fun x y => HT.lexLt y x = false) : ls = so := by
  have nd : ls.Nodup := (p.nodup_iff).mpr (asc_nodup h)
  refine p.eq_of_pairwise (fun a b _ _ h1 h2 => ?_) (asc_weak nd w) h
  have := lex_trans h1 h2
  rw [lex_self] at this
  cases this
theorem sortLZ_of {K : PySem.W.Frag} {H : Hp} {Q : VK} {a : Addr} {xs : List V} {ks so : List (List Int)} (h : SqL K H a xs) (d : DpAll K H xs (adDs ks)) (hk : ks.length ≤ 1 ∨ ∀ k ∈ ks, k ≠ []) (hs : Asc so) (hp : so.Perm ks)
    (q : ∀ (ys : List V) (p : Addr), H p = none → DpAll K H ys (adDs so) → Q (.ref p) (upd H p (.lst ys))) : rSortLZ K [.ref a] H Q := by
  have xl : xs.length = ks.length := by rw [dpAll_length d, adDs, List.length_map]
  rcases hk with hk | hk
  · refine .inr ⟨a, xs, rfl, h, by omega, fun p hp' => q xs p hp' ?_⟩
    have : so = ks := by
      have hl := hp.length_eq
      match ks, so, hl, hk, hp with
      | [], [], _, _, _ => rfl
      | [x], [y], _, _, hp => rw [List.perm_singleton.mp hp]
    rw [this]
    exact d
  · refine .inl ⟨a, xs, ks, rfl, h, keys_of d hk, fun ys ls p hy w hpm hp' => q ys p hp' ?_⟩
    have := asc_perm hs (hpm.trans hp.symm) w
    rw [← this]
    exact keys_dpF hy
theorem sortTZ_of {K : PySem.W.Frag} {H : Hp} {Q : VK} {a : Addr} {xs : List V} {ks so : List (List Int)} (h : SqT K H a xs) (d : DpAll K H xs (adDs ks)) (hk : ks.length ≤ 1 ∨ ∀ k ∈ ks, k ≠ []) (hs : Asc so) (hp : so.Perm ks)
    (q : ∀ (ys : List V) (p : Addr), H p = none → DpAll K H ys (adDs so) → Q (.ref p) (upd H p (.lst ys))) : rSortTZ K [.ref a] H Q := by
  have xl : xs.length = ks.length := by rw [dpAll_length d, adDs, List.length_map]
  rcases hk with hk | hk
  · refine .inr ⟨a, xs, rfl, h, by omega, fun p hp' => q xs p hp' ?_⟩
    have : so = ks := by
      have hl := hp.length_eq
      match ks, so, hl, hk, hp with
      | [], [], _, _, _ => rfl
      | [x], [y], _, _, hp => rw [List.perm_singleton.mp hp]
    rw [this]
    exact d
  · refine .inl ⟨a, xs, ks, rfl, h, keys_of d hk, fun ys ls p hy w hpm hp' => q ys p hp' ?_⟩
    have := asc_perm hs (hpm.trans hp.symm) w
    rw [← this]
    exact keys_dpF hy
theorem adr_keys (j : J) : j.adr.length ≤ 1 ∨ ∀ a ∈ j.adr, a ≠ [] := by
  cases j with
  | st i => exact .inl (by simp [J.adr])
  | ps k xs =>
    refine .inr fun a ha => ?_
    simp only [J.adr] at ha
    obtain ⟨m, b, rfl, _⟩ := idx_head ha
    simp
  | rn k n x =>
    refine .inr fun a ha => ?_
    simp only [J.adr] at ha
    obtain ⟨m, b, rfl, _⟩ := idx_head ha
    simp
theorem sub_keys {j : J} {ks : List (List Int)} (h : ks.Sublist j.adr) : ks.length ≤ 1 ∨ ∀ a ∈ ks, a ≠ [] := by
  rcases adr_keys j with g | g
  · exact .inl (Nat.le_trans h.length_le g)
  · exact .inr fun a ha => g a (h.subset ha)
theorem J.adrF_asc (j : J) : Asc j.adr := asc_weak (by rw [← J.sys_adr j]; exact J.sys_nodup j) (J.adr_ord j)
theorem J.chs_sub {j : J} (h : j.stb) : j.chs.Sublist j.adr := by
  rw [(J.chs_eq j h).1]
  exact List.filter_sublist
theorem J.chs_asc {j : J} (h : j.stb) : Asc j.chs := (J.adrF_asc j).sublist (J.chs_sub h)
theorem and_mid {c : Bool} {te : TE} {σ : L2.St} {H : Hp} {Q : VK} (R : V → Hp → Prop) (h1 : c = true → ∀ Q : VK, (∀ x H', R x H' → Q x H') → te σ H Q) (h2 : c = false → R (.bl false) H)
    (h : ∀ x H', R x H' → Q x H') : if c = true then te σ H Q else Q (.bl false) H := by
  cases c with
  | true => exact h1 rfl Q h
  | false => exact h _ _ (h2 rfl)
def spFirsts (K : PySem.W.Frag) : Sp := fun vs H Q _ => ∃ (v : V) (j : J), vs = [v] ∧ Dp K H v j.toD ∧ j.deep ≤ 20 ∧ j.stb ∧ j.steps ≤ 40 ∧ j.rounded ∧
  ∀ (H' : Hp) (l : Addr) (fs : List V), Same H H' → H l = none → H' l = some (.lst fs) → DpAll K H' fs (adDs j.chs) → Q (.ref l) H'
section
variable {P : Program} {w : World} {K : PySem.W.Frag} {mg : Str → Option Value} {base : Heap}
theorem ok_firsts (T : Txt K mg) : FnOk P w K mg base CX0 21 T.f__law_firsts T.d__law_firsts ["_law_job_here"] (spFirsts K) := by
  have g__law_rows := ok_rows16 (P := P) (w := w) (base := base) T 20
  refine T.F__law_firsts.ok sc__law_firsts (fun vs H Q E h => ?_) (fun cdv A outer s H vs Q E hr h => ?_)
  · obtain ⟨v, j, rfl, _⟩ := h
    rfl
  obtain ⟨v, j, rfl, hd, hdeep, hstb, hst, hrd, q⟩ := h
  have len60 : (j.sys.rows.length : Int) = j.steps := by
    have h1 : j.sys.rows.length = j.adr.length := by rw [← J.sys_adr j, List.length_map]
    rw [h1]
    exact J.adr_len j hstb
  refine ⟨_, (pss_cons (ps_par (i := 1) (j := 2) (by rfl) sc__law_firsts.nd rfl rfl (by decide) rfl rfl (pa_cons (pe_lst pa_nil) (pa_cons (pe_lst pa_nil) pa_nil)) (by rfl))
      (pss_cons (ps_expr (pe_call g__law_rows (hr.mono (by omega)) rfl T.m__law_rows T.F__law_rows.kp T.b__law_rows .nil pass0 (pa_cons (pv 0) (pa_cons (pv 1) (pa_cons pe_int (pa_cons (pe_tup pa_nil) pa_nil))))))
      (pss_cons (ps_for PassesOwn.never rfl (pi_list (pv 1)) (pg_tup (by rfl) (pgs_cons (pg_name (i := 3) sc__law_firsts.nd rfl (Or.inl rfl)) (pgs_cons (pg_name (i := 4) sc__law_firsts.nd rfl (Or.inl rfl)) (pgs_cons (pg_name (i := 5) sc__law_firsts.nd rfl (Or.inl rfl)) pgs_nil))))
        (pss_cons (ps_par (i := 6) (j := 7) (by rfl) sc__law_firsts.nd rfl rfl (by decide) rfl rfl (pa_cons (pv 0) (pa_cons (pe_cmpR op_eq (pv 4) pe_int (nomark _)) pa_nil)) (by rfl))
        (pss_cons (ps_for PassesOwn.never rfl (pi_tup (pv 5)) (pg_name (i := 8) sc__law_firsts.nd rfl (Or.inl rfl))
          (pss_cons (ps_set (i := 7) sc__law_firsts.nd rfl (Or.inl rfl) (pe_and (pv 7) (pe_one (pe_or (pe_cmpR op_ne (pe_ix (r := rIxT K) ix_tup (pv 6) pe_int (fun _ _ => rfl)) pe_str (nomark _)) (pe_one (pe_cmpR op_eq (pv 8) pe_int (nomark _)))))))
          (pss_one (ps_set (i := 6) sc__law_firsts.nd rfl (Or.inl rfl) (pe_ifExp (pt_cmpR (r := rIn K false) op_in_seq (pe_ix (r := rIxT K) ix_tup (pv 6) pe_int (fun _ _ => rfl)) (pe_tup (pa_cons pe_str (pa_cons pe_str pa_nil))) (by rfl)) (pe_ix (r := rIxT K) ix_tup (pe_ix (r := rIxT K) ix_tup (pv 6) pe_int (fun _ _ => rfl)) (pv 8) (fun _ _ => rfl)) (pe_ix (r := rIxT K) ix_tup (pv 6) pe_int (fun _ _ => rfl)))))))
        (pss_one (ps_if (pt_val (pv 7)) (pss_one (ps_expr (pe_bm PySem.F.plainAttrs_list PySem.F.slot_list_append PySem.F.type_list_append mt_append (pv 2) (pa_cons (pv 5) pa_nil)))) pss_nil)))))
      (pss_one (ps_ret (pe_callB (r := rSortLZ K) cr_sortLZ (by rfl) T.n_sorted (by decide +kernel) (pa_cons (pv 2) pa_nil))))))), ?_⟩
  refine ⟨(by show 0 ≤ sizeLine; decide), fun l hl => ?_⟩
  have s1 : Same H (upd H l (.lst [])) := same_new hl
  have e1 : upd H l (.lst []) l = some (.lst []) := upd_same
  generalize (upd H l (.lst [])) = H1 at s1 e1 ⊢
  refine ⟨(by show 0 ≤ sizeLine; decide), fun f hf => ?_⟩
  have s2 : Same H1 (upd H1 f (.lst [])) := same_new hf
  have e2 : upd H1 f (.lst []) f = some (.lst []) := upd_same
  have nfl : f ≠ l := fun z => by rw [z, e1] at hf; cases hf
  have hfH : H f = none := Same.free' s1 hf
  generalize (upd H1 f (.lst [])) = H2 at s2 e2 ⊢
  refine ⟨_, _, rfl, ?_⟩
  refine ⟨_, rfl, _, rfl, (by show 0 ≤ sizeLine; decide), fun pt hpt => ?_⟩
  have s3 : Same H2 (upd H2 pt (.tup [])) := same_new hpt
  have k3 : SqT K (upd H2 pt (.tup [])) pt (([] : List Int).map V.int) := SqT.of upd_same
  generalize (upd H2 pt (.tup [])) = H3 at s3 k3 ⊢
  have s123 := s1.trans (s2.trans s3)
  refine ⟨v, l, pt, j, 0, [], [], [], rfl, dp_same s123 hd, hdeep, hstb, by omega, hrd, s3 _ _ (s2 _ _ e1), .nil, by simp; omega, k3, by simp; omega, fun H4 ws sx4 e4 d4 => ?_⟩
  have s4 : Same H H4 := Same.sx_free s123 hl sx4
  have ef4 : H4 f = some (.lst []) := sx4 _ _ nfl (s3 _ _ e2)
  have ed : browsD ([] ++ rowsS j.sys ([] : List BRow).length 0 []) = browsD (rowsS j.sys 0 0 []) := rfl
  rw [ed] at d4
  have wl : ws.length = j.sys.rows.length := by rw [dpAll_length d4, browsD, List.length_map, rowsS_len]
  generalize hR : rowsS j.sys 0 0 [] = R at d4
  have Rl : R.length = ws.length := by rw [← hR, rowsS_len, wl]
  have hdj4 := dp_same s4 hd
  refine ⟨_, rfl, l, rfl, ⟨_, SqL.of e4⟩, ?_⟩
  refine for_list (K := K) (a := l) (xs := ws) (fun i σ G => ∃ (y3 y4 y5 y6 y7 y8 : Option V) (us : List V), σ = [some v, some (.ref l), some (.ref f), y3, y4, y5, y6, y7, y8] ∧ Sx f H4 G ∧ G f = some (.lst us) ∧ DpAll K G us (adDs (((R.take i).filter (fstB j)).map (·.2.2))))
    ⟨_, _, _, _, _, _, [], rfl, Sx.refl, ef4, .nil⟩ (fun i σ G _ ⟨_, _, _, _, _, _, _, _, s, _, _⟩ => SqL.of (s _ _ nfl.symm e4)) ?_ ?_
  · rintro i x σ G hx ⟨y3, y4, y5, y6, y7, y8, us, rfl, sG, eG, dG⟩
    obtain ⟨d, ed1, dx⟩ := dpAll_get d4 hx
    rw [browsD, List.getElem?_map] at ed1
    obtain ⟨r, er, rfl⟩ := Option.map_eq_some_iff.mp ed1
    obtain ⟨tr, xs, rfl, hxs, hall⟩ := dp_tup_inv dx
    cases hall with
    | cons h1 h2 =>
    cases h2 with
    | cons h3 h4 =>
    cases h4 with
    | cons h5 h6 =>
    cases h6
    obtain rfl := dp_int_inv h1
    obtain rfl := dp_int_inv h3
    obtain ⟨ta, xa, rfl, hta, hxa⟩ := dp_tup_inv h5
    obtain rfl := Lw.ints_vals hxa
    have kG : ∀ a xs, SqT K H4 a xs → SqT K G a xs := fun a xs z => sG.sqT ef4 z
    have rrow := rowsS_row (j := j) (i := i) (r := r) (by rw [hR]; exact er)
    refine ⟨tr, _, rfl, kG _ _ hxs, rfl, _, _, rfl, _, _, rfl, _, _, rfl, rfl, ?_⟩
    refine ⟨_, rfl, _, rfl, rfl, ?_⟩
    refine ⟨_, _, rfl, ?_⟩
    refine ⟨_, rfl, ta, rfl, ⟨_, kG _ _ hta⟩, ?_⟩
    refine for_tup (K := K) (a := ta) (xs := r.2.2.map V.int) (fun k σ M => ∃ (u : V) (y : J) (fl : Bool) (y8 : Option V), σ = [some v, some (.ref l), some (.ref f), some (.int r.1), some (.int (r.2.1 : Int)), some (.ref ta), some u, some (.bl fl), y8] ∧ Same G M ∧ Dp K M u y.toD ∧ (r.2.2.drop k, r.1) ∈ y.sys.rows ∧ fstB j r = (fl && y.cf (r.2.2.drop k)))
      ⟨v, j, decide (V.int (r.2.1 : Int) = V.int 0), _, rfl, Same.refl _, dp_keep kG j.noL hdj4, by simpa using rrow, ?_⟩ (fun k σ M _ ⟨_, _, _, _, _, sM, _⟩ => same_sqT sM (kG _ _ hta)) ?_ ?_
    · unfold fstB
      rw [List.drop_zero]
      congr 1
      rw [Bool.eq_iff_iff, beq_iff_eq, decide_eq_true_eq]
      constructor
      · intro z
        rw [z]
        rfl
      · intro z
        have := V.int.inj z
        omega
    · rintro k x σ M hk ⟨u, y, fl, y8, rfl, sM, hu, hy, hf⟩
      rw [List.getElem?_map] at hk
      obtain ⟨m, em, rfl⟩ := Option.map_eq_some_iff.mp hk
      obtain ⟨hlt, em'⟩ := List.getElem?_eq_some_iff.mp em
      have hdrop : r.2.2.drop k = m :: r.2.2.drop (k + 1) := by rw [← em']; exact List.drop_eq_getElem_cons hlt
      rw [hdrop] at hy hf
      cases y with
      | st z =>
        simp only [J.sys, List.mem_singleton, Prod.mk.injEq] at hy
        cases hy.1
      | ps b xs =>
        obtain ⟨k0, y', ey, hy'⟩ := rows_ps hy
        obtain ⟨c, d, vs, rfl, hys, hvs, hall⟩ := ps_inv hu
        have len : vs.length = xs.length := parts_len hall
        have hlt : m.toNat < xs.length := (List.getElem?_eq_some_iff.mp ey).1
        obtain ⟨z, ez, eat⟩ := atI_ex (vs := vs) k0 (by omega)
        obtain ⟨j', ej', _, dj'⟩ := parts_at hall ez
        rw [ey] at ej'
        obtain rfl := Option.some.inj ej'
        have hf' : fstB j r = (fl && y'.cf (r.2.2.drop (k + 1))) := by
          rw [hf, J.cf, cfs_at ey (by omega)]
        refine ⟨_, rfl, fl, rfl, ?_⟩
        refine and_mid (fun x' M' => x' = .bl fl ∧ M' = M) (fun hc Q' go => ?_) (fun hc => ?_) ?_
        · refine ⟨_, rfl, _, _, _, _, rfl, rfl, hys, rfl, rfl, _, rfl, ?_⟩
          refine iteTb (by cases b <;> decide +kernel) ?_
          exact go _ _ ⟨by rw [hc], rfl⟩
        · exact ⟨by rw [hc], rfl⟩
        rintro x' M' ⟨e', rfl⟩
        subst e'
        refine ⟨_, rfl, _, _, _, _, rfl, rfl, hys, rfl, (by show 2 ≤ sizeLine; decide), fun t ht => ?_⟩
        refine ⟨t, _, rfl, .inr (SqT.of upd_same), rfl, rfl, _, rfl, ?_⟩
        have s2 : Same M' (upd M' t (.tup [.str "seq", .str "par"])) := same_new ht
        show if inV (.str (kwP b)) [.str "seq", .str "par"] = true then _ else _
        rw [w_in_parts]
        refine iteT ?_
        generalize (upd M' t (.tup [.str "seq", .str "par"])) = M2 at s2 ⊢
        refine ⟨_, rfl, _, _, _, _, rfl, rfl, same_sqT s2 hys, rfl, _, rfl, _, _, _, _, rfl, rfl, same_sqT s2 hvs, eat, ?_⟩
        exact ⟨_, _, _, _, rfl, sM.trans s2, dp_same s2 dj', hy', hf'⟩
      | rn b n x =>
        have hy' := rows_rn hy
        obtain ⟨c, z, rfl, hys, hx⟩ := rn_inv hu
        have hf' : fstB j r = ((fl && (!b || m == 0)) && x.cf (r.2.2.drop (k + 1))) := by
          rw [hf, J.cf, Bool.and_assoc]
        refine ⟨_, rfl, fl, rfl, ?_⟩
        refine and_mid (fun x' M' => x' = .bl (fl && (!b || m == 0)) ∧ M' = M) (fun hc Q' go => ?_) (fun hc => ?_) ?_
        · refine ⟨_, rfl, _, _, _, _, rfl, rfl, hys, rfl, rfl, _, rfl, ?_⟩
          cases b with
          | false =>
            refine iteTb (by decide +kernel) ?_
            exact go _ _ ⟨by rw [hc]; rfl, rfl⟩
          | true =>
            refine iteFb (by decide +kernel) ?_
            refine ⟨_, rfl, rfl, ?_⟩
            refine go _ _ ⟨?_, rfl⟩
            rw [hc]
            congr 1
            simp only [Bool.true_and, Bool.not_true, Bool.false_or]
            rw [Bool.eq_iff_iff, decide_eq_true_eq, beq_iff_eq]
            exact ⟨fun z => V.int.inj z, fun z => by rw [z]⟩
        · exact ⟨by rw [hc]; rfl, rfl⟩
        rintro x' M' ⟨e', rfl⟩
        subst e'
        refine ⟨_, rfl, _, _, _, _, rfl, rfl, hys, rfl, (by show 2 ≤ sizeLine; decide), fun t ht => ?_⟩
        refine ⟨t, _, rfl, .inr (SqT.of upd_same), rfl, rfl, _, rfl, ?_⟩
        have s2 : Same M' (upd M' t (.tup [.str "seq", .str "par"])) := same_new ht
        show if inV (.str (kwR b)) [.str "seq", .str "par"] = true then _ else _
        rw [w_in_parts_no]
        refine iteF ?_
        generalize (upd M' t (.tup [.str "seq", .str "par"])) = M2 at s2 ⊢
        refine ⟨_, rfl, _, _, _, _, rfl, rfl, same_sqT s2 hys, rfl, ?_⟩
        exact ⟨_, _, _, _, rfl, sM.trans s2, dp_same s2 hx, hy', hf'⟩
    · rintro σ M ⟨u, y, fl, y8, rfl, sM, hu, hy, hf⟩
      rw [List.length_map, List.drop_length] at hf
      rw [cf_nil, Bool.and_true] at hf
      have etk : (R.take (i + 1)).filter (fstB j) = (R.take i).filter (fstB j) ++ (if fl = true then [r] else []) := by
        rw [List.take_add_one, er, List.filter_append, ← hf]
        congr 1
        simp only [Option.toList_some, List.filter_cons, List.filter_nil]
      rw [etk, List.map_append, adDs, List.map_append]
      have eM := sM _ _ eG
      have dM := dpAll_same sM dG
      have sHM : Sx f H4 M := sG.trans (Same.sx sM)
      refine ⟨_, rfl, fl, rfl, ?_⟩
      refine ite2 (fun g => ?_) (fun g => ?_)
      · refine ⟨_, rfl, .inl ⟨rfl, us, SqL.of eM⟩, ?_⟩
        refine ⟨_, rfl, f, us, _, rfl, rfl, eM, ?_, ?_⟩
        · have h1 : us.length ≤ R.length := by
            rw [dpAll_length dG, adDs, List.length_map, List.length_map]
            exact Nat.le_trans (List.length_filter_le _ _) (by rw [List.length_take]; omega)
          have : wl = wl := rfl
          exact small1000 (by omega)
        refine ⟨_, _, _, _, _, _, _, rfl, sHM.trans sx_upd, upd_same, ?_⟩
        rw [if_pos g]
        have k5 : ∀ a xs, SqT K M a xs → SqT K (upd M f (.lst (us ++ [.ref ta]))) a xs := fun a xs z => (sx_upd (p := f)).sqT eM z
        refine dpAll_append (dpAll_keep k5 ?_ dM) (.cons ?_ .nil)
        · have := ads_noL (((R.take i).filter (fstB j)).map (·.2.2))
          simp only [noL] at this
          exact this
        · exact dp_keep k5 (noL_ad _) (.tup (same_sqT sM (kG _ _ hta)) (ints_dp' _))
      · refine ⟨_, _, _, _, _, _, _, rfl, sHM, eM, ?_⟩
        rw [if_neg g, List.map_nil, List.map_nil, List.append_nil]
        exact dM
  · rintro σ G ⟨y3, y4, y5, y6, y7, y8, us, rfl, sG, eG, dG⟩
    rw [List.take_of_length_le (by omega), ← hR, firsts_chs hstb] at dG
    have sHG : Same H G := Same.sx_free s4 hfH sG
    refine ⟨_, rfl, ?_⟩
    refine sortLZ_of (SqL.of eG) dG (sub_keys (J.chs_sub hstb)) (J.chs_asc hstb) (List.Perm.refl _) fun ys p hp dy => ?_
    have s5 : Same G (upd G p (.lst ys)) := same_new hp
    exact q _ p ys (sHG.trans s5) (Same.free' sHG hp) upd_same (dpAll_same s5 dy)
end

/-! block Small64: _law_small_right of k64 (behind bFirsts, bAvail, bIsCh, bOddW) -/
theorem ads_repr {j : J} (g : Good j) (h : j.steps ≤ 400) {ks : List (List Int)} (s : ks.Sublist j.adr) : fine (.tuple (adDs ks)) ∧ (PyData.tuple (adDs ks)).depth ≤ 64 ∧ (PyData.tuple (adDs ks)).bulk ≤ 80000 := by
  have h1 := J.adr_len j (J.stb_ok j g.1)
  have h2 := adDs_depth ks
  have h3 := adDs_bulk (n := 13) ks fun a ha => Nat.le_trans (J.adr_deep j a (s.subset ha)) g.2.2
  have h4 := s.length_le
  refine ⟨?_, ?_, ?_⟩
  · simp only [fine]
    exact adDs_fine _ fun a ha => adr_bd a j g.1 (s.subset ha)
  · simp only [PyData.depth]
    omega
  · simp only [PyData.bulk]
    omega
theorem JW12.good {n : Nat} {most : Int} {j : J} (h : JW12 n most j) (hn : n ≤ 4) : Good j ∧ j.deep ≤ 6 := by
  have h1 := h.deep
  have h2 := h.nodes
  have h3 : NW12 n ≤ 277 := by
    rcases (by omega : n = 0 ∨ n = 1 ∨ n = 2 ∨ n = 3 ∨ n = 4) with rfl | rfl | rfl | rfl | rfl <;> simp only [NW12] <;> omega
  exact ⟨⟨h.ok, by omega, by omega⟩, by omega⟩
/-- an index as a truth value, if it can be *one* -/
def bzV (k : Int) : V := if k < 2 then .bl (decide (0 < k)) else .int k
def bzD (k : Int) : PyData := if k < 2 then .bool (decide (0 < k)) else .int k
theorem bz_dq {K : PySem.W.Frag} {p : Addr} {H : Hp} : ∀ a : List Int, DqAll K p H (a.map bzV) (a.map bzD)
  | [] => .nil
  | k :: a => by
    refine .cons ?_ (bz_dq a)
    unfold bzV bzD
    split
    · exact .bl _
    · exact .int _
theorem bz_bulk : ∀ a : List Int, PyData.bulkAll (a.map bzD) ≤ 2 * a.length
  | [] => by simp [PyData.bulkAll]
  | k :: a => by
    have ih := bz_bulk a
    have h : (bzD k).bulk ≤ 1 := by
      unfold bzD
      split <;> simp [PyData.bulk]
    simp only [List.map_cons, PyData.bulkAll, List.length_cons]
    omega
theorem bz_idx {a : List Int} {k : Int} (hk : k ∈ a) (h2 : k < 2) (j : J) : isCh j (.tuple (a.map bzD)) = false := by
  have : isIdx (.tuple (a.map bzD)) = false := by
    show ((a.map bzD).all isI) = false
    rw [List.all_eq_false]
    refine ⟨bzD k, List.mem_map.mpr ⟨k, hk, rfl⟩, ?_⟩
    unfold bzD
    rw [if_pos h2]
    simp [isI]
  unfold isCh
  rw [this]
  rfl
theorem and_midT {c : Bool} {tb : L2.St → Hp → (Bool → Hp → Prop) → Prop} {σ : L2.St} {H : Hp} {Q : Bool → Hp → Prop} (R : Bool → Hp → Prop) (h1 : c = true → ∀ Q : Bool → Hp → Prop, (∀ x H', R x H' → Q x H') → tb σ H Q) (h2 : c = false → R false H)
    (h : ∀ x H', R x H' → Q x H') : if c = true then tb σ H Q else Q false H := by
  cases c with
  | true => exact h1 rfl Q h
  | false => exact h _ _ (h2 rfl)
theorem avail_mins {j : J} (hs : j.stb) : avail j [] none = j.adr.filter (mins j.adr j.sys.ahead) := by
  have c : Clo j [] := fun a _ b hb => nomatch hb
  unfold avail
  conv => rhs; rw [← J.srows_adr j hs]
  rw [List.filter_map]
  congr 1
  refine List.filter_congr fun r hr => ?_
  have ha : r.1 ∈ j.adr := by
    rw [← J.srows_adr j hs]
    exact List.mem_map.mpr ⟨r, hr, rfl⟩
  have hm := may_iff hs c ha
  simp only [Function.comp_apply]
  rw [J.srows_adr j hs, Bool.eq_iff_iff, Bool.and_eq_true, hm]
  unfold mins
  rw [List.all_eq_true]
  constructor
  · rintro ⟨⟨_, h⟩, _⟩ b hb
    cases e : j.sys.ahead b r.1 with
    | false => rfl
    | true => exact nomatch h b hb e
  · intro h
    refine ⟨⟨(fun z => nomatch z), fun b hb e => ?_⟩, rfl⟩
    have := h b hb
    rw [e] at this
    cases this
theorem chs_mins {j : J} (hs : j.stb) : ∀ a ∈ j.chs, a ∈ j.adr.filter (mins j.adr j.sys.ahead) := by
  intro a ha
  rw [(J.chs_eq j hs).1] at ha
  obtain ⟨h1, h2⟩ := List.mem_filter.mp ha
  rw [Bool.and_eq_true] at h2
  exact List.mem_filter.mpr ⟨h1, h2.1⟩
theorem rows_mins {j : J} : ((rowsS j.sys 0 0 []).filter fun r => r.2.1 == 0).map (·.2.2) = j.adr.filter (mins j.adr j.sys.ahead) := by
  rw [← J.sys_adr j, rowsS, List.filter_map, List.map_map, List.filter_map]
  have : ((fun r : BRow => r.2.1 == 0) ∘ fun r : Row1 => (r.2, 0 ||| maskOf 0 (j.sys.rows.map (·.1)) (fun o => j.sys.ahead o r.1), [] ++ r.1)) = ((mins (j.sys.rows.map (·.1)) j.sys.ahead) ∘ fun r : Row1 => r.1) := by
    funext r
    simp only [Function.comp_apply, List.nil_append, Nat.zero_or, maskOf_zero]
    rfl
  rw [this]
  rfl
theorem allT_ads : ∀ as : List (List Int), allT (adDs as) = true
  | [] => rfl
  | a :: as => allT_ads as
theorem odd_lay {d : PyData} (h : d ∈ oddsD) : isDct d = true ∨ noD d = true ∧ d.canLay0 = true ∧ d.depth ≤ 60 := by
  have := oddsD_all (P := fun d => isDct d || (noD d && (d.canLay0 && decide (d.depth ≤ 60)))) (by decide +kernel) h
  simp only [Bool.or_eq_true, Bool.and_eq_true, decide_eq_true_eq] at this
  exact this
theorem odd_ch {j : J} {d : PyData} (h : d ∈ oddsD) : isCh j d = inTQ (adDs j.chs) d := by
  unfold isCh inTQ
  cases e : isIdx d with
  | true =>
    have : isDct d = false := by cases d <;> first | rfl | (simp [isIdx] at e)
    rw [this]
    rfl
  | false =>
    rw [Bool.false_and]
    have : ((adDs j.chs).any fun e => e.eqv d) = false := by
      rw [List.any_eq_false]
      intro x hx
      obtain ⟨a, _, rfl⟩ := List.mem_map.mp hx
      simp only [oddsD, List.cons_append, List.nil_append, List.mem_cons, List.not_mem_nil, or_false] at h
      rcases h with rfl | rfl | rfl | rfl | rfl | rfl | rfl | rfl | rfl | rfl | rfl | rfl | rfl | rfl | rfl | rfl | rfl | rfl | rfl | rfl | rfl
      all_goals (first | (exact absurd e (by decide)) | (cases a <;> simp [adD, PyData.eqv, PyData.eqvAll]))
    rw [this, Bool.and_false]
def spSmall64 (K : PySem.W.Frag) : Sp := fun vs H Q _ => ∃ (p : Addr) (m : Nat), vs = [.ref p] ∧ Pot H p m ∧ m + 14000 ≤ 1099511627776 ∧
  ∀ H', Sx p H H' → Pot H' p (m + 14000) → Q (.bl true) H'
section
variable {P : Program} {w : World} {K : PySem.W.Frag} {mg : Str → Option Value} {base : Heap}
theorem ok_small64 (T : Txt K mg) : FnG P w K mg base CX0 50 T.f__law_small_right T.d__law_small_right ["_law_source_here"] (spSmall64 K) := by
  have g__law_job := ok_job12 (P := P) (w := w) (base := base) T 4
  have g__law_firsts := ok_firsts (P := P) (w := w) (base := base) T
  have g__law_rows := ok_rows16 (P := P) (w := w) (base := base) T 20
  have g_choices := ok_choices (P := P) (w := w) (base := base) T
  have g_is_choice := ok_isch (P := P) (w := w) (base := base) T
  have g_available := ok_avail (P := P) (w := w) (base := base) T
  have g__law_odd := ok_oddW (P := P) (w := w) (base := base) T
  refine okG T.F__law_small_right sc__law_small_right (fun vs H Q E h => ?_) (fun cdv A outer s H vs Q E hr gd h => ?_)
  · obtain ⟨p, m, rfl, _⟩ := h
    rfl
  obtain ⟨p, m, rfl, hp, hm, q⟩ := h
  refine ⟨_, (pss_cons (ps_set (i := 1) sc__law_small_right.nd rfl (Or.inl rfl) (pe_call g__law_job (hr.mono (by omega)) rfl T.m__law_job T.F__law_job.kp T.b__law_job .nil pass0 (pa_cons (pv 0) (pa_cons pe_int (pa_cons pe_int pa_nil)))))
      (pss_cons (ps_par (i := 2) (j := 3) (by rfl) sc__law_small_right.nd rfl rfl (by decide) rfl rfl (pa_cons (pe_call g__law_firsts (hr.mono (by omega)) rfl T.m__law_firsts T.F__law_firsts.kp T.b__law_firsts .nil pass0 (pa_cons (pv 1) pa_nil)) (pa_cons (pe_lst pa_nil) pa_nil)) (by rfl))
      (pss_cons (ps_expr (pe_call g__law_rows (hr.mono (by omega)) rfl T.m__law_rows T.F__law_rows.kp T.b__law_rows .nil pass0 (pa_cons (pv 1) (pa_cons (pv 3) (pa_cons pe_int (pa_cons (pe_tup pa_nil) pa_nil))))))
      (pss_cons (ps_if (pt_cmpR op_ne (pe_callB (r := rRepr K) (call_reprD gd (room66 hr)) (by rfl) T.n_repr (by decide +kernel) (pa_cons (pe_call g_choices (hr.mono (by omega)) rfl T.m_choices T.F_choices.kp T.b_choices .nil pass0 (pa_cons (pv 1) pa_nil)) pa_nil)) (pe_callB (r := rRepr K) (call_reprD gd (room66 hr)) (by rfl) T.n_repr (by decide +kernel) (pa_cons (pe_callTy (r := rTupS K) call_tupS (by rfl) T.n_tuple (by decide +kernel) (pa_cons (pv 2) pa_nil)) pa_nil)) (nomark _)) (pss_one (ps_ret pe_bl)) pss_nil)
      (pss_cons (ps_for PassesOwn.never rfl (pi_list (pv 3)) (pg_tup (by rfl) (pgs_cons (pg_name (i := 4) sc__law_small_right.nd rfl (Or.inl rfl)) (pgs_cons (pg_name (i := 5) sc__law_small_right.nd rfl (Or.inl rfl)) (pgs_cons (pg_name (i := 6) sc__law_small_right.nd rfl (Or.inl rfl)) pgs_nil))))
        (pss_cons (ps_if (pt_cmpR op_ne (pe_callB (r := rRepr K) (call_reprD gd (room66 hr)) (by rfl) T.n_repr (by decide +kernel) (pa_cons (pe_call g_is_choice (hr.mono (by omega)) rfl T.m_is_choice T.F_is_choice.kp T.b_is_choice .nil pass0 (pa_cons (pv 1) (pa_cons (pv 6) pa_nil))) pa_nil)) (pe_callB (r := rRepr K) (call_reprD gd (room66 hr)) (by rfl) T.n_repr (by decide +kernel) (pa_cons (pe_cmpR (r := rInLD K) (op_inLD (room66 hr)) (pv 6) (pv 2) (by rfl)) pa_nil)) (nomark _)) (pss_one (ps_ret pe_bl)) pss_nil)
        (pss_cons (ps_set (i := 7) sc__law_small_right.nd rfl (Or.inl rfl) (pe_callTy (r := rTupS K) call_tupS (by rfl) T.n_tuple (by decide +kernel) (pa_cons (pe_lc (own := [("_law_at", 10)]) (g := (gName 10)) (by rfl) sc__law_small_right.nd (pi_tup (pv 6)) (blkOk_by (N := N__law_small_right) (sc := (defScope s__law_small_right)) (by decide +kernel)) (fun _ _ _ _ _ => (pg_name (i := 10) sc__law_small_right.nd rfl (Or.inl rfl))) (fun _ _ _ _ _ => pts_nil) (fun _ _ _ _ _ => (pe_ifExp (pt_cmpR op_lt (pv 10) pe_int (nomark _)) (pe_cmpR op_gt (pv 10) pe_int (nomark _)) (pv 10)))) pa_nil)))
        (pss_cons (ps_if (PW.pt (pw_and (pt_cmpR op_lt (pe_callB (r := rMinT K) (cr_minT rfl (room66 hr)) (by rfl) T.n_min (by decide +kernel) (pa_cons (pe_op (r := rCatA K) op_catA (pv 6) (pe_tup (pa_cons pe_int pa_nil))) pa_nil)) pe_int (nomark _)) (pw_and1 (pt_cmpR op_notBl (pe_call g_is_choice (hr.mono (by omega)) rfl T.m_is_choice T.F_is_choice.kp T.b_is_choice .nil pass0 (pa_cons (pv 1) (pa_cons (pv 7) pa_nil))) pe_bl (nomark _))))) (pss_one (ps_ret pe_bl)) pss_nil)
        (pss_one (ps_if (pt_cmpR op_notBl (pe_call g_is_choice (hr.mono (by omega)) rfl T.m_is_choice T.F_is_choice.kp T.b_is_choice .nil pass0 (pa_cons (pv 1) (pa_cons (pe_callTy (r := rListS K) call_listS (by rfl) T.n_list (by decide +kernel) (pa_cons (pv 6) pa_nil)) pa_nil))) pe_bl (nomark _)) (pss_one (ps_ret pe_bl)) pss_nil))))))
      (pss_cons (ps_set (i := 8) sc__law_small_right.nd rfl (Or.inr rfl) (pe_call g_available (hr.mono (by omega)) rfl T.m_available T.F_available.kp T.b_available T.vd_available pass0 (pa_cons (pv 1) (pa_cons (pe_tup pa_nil) pa_nil))))
      (pss_cons (ps_if (pt_cmpR (r := rNeD K) (op_neD hr.units) (pe_lc (own := [("_law_one", 11)]) (g := (gName 11)) (by rfl) sc__law_small_right.nd (pi_list (pv 2)) (blkOk_by (N := N__law_small_right) (sc := (defScope s__law_small_right)) (by decide +kernel)) (fun _ _ _ _ _ => (pg_name (i := 11) sc__law_small_right.nd rfl (Or.inl rfl))) (fun _ _ _ _ _ => (pts_one (pt_cmpR (r := rNotTD K) (op_notInTD (room66 hr)) (pv 11) (pv 8) (by rfl)))) (fun _ _ _ _ _ => (pv 11))) (pe_lst pa_nil) (nomark _)) (pss_one (ps_ret pe_bl)) pss_nil)
      (pss_cons (ps_set (i := 9) sc__law_small_right.nd rfl (Or.inl rfl) (pe_call g__law_odd (hr.mono (by omega)) rfl T.m__law_odd T.F__law_odd.kp T.b__law_odd .nil pass0 (pa_cons (pv 0) pa_nil)))
      (pss_cons (ps_if (pt_cmpR op_ne (pe_callB (r := rRepr K) (call_reprD gd (room66 hr)) (by rfl) T.n_repr (by decide +kernel) (pa_cons (pe_call g_is_choice (hr.mono (by omega)) rfl T.m_is_choice T.F_is_choice.kp T.b_is_choice .nil pass0 (pa_cons (pv 1) (pa_cons (pv 9) pa_nil))) pa_nil)) (pe_callB (r := rRepr K) (call_reprD gd (room66 hr)) (by rfl) T.n_repr (by decide +kernel) (pa_cons (pe_cmpR (r := rInTQ K) (op_inTQ (room66 hr)) (pv 9) (pv 2) (by rfl)) pa_nil)) (nomark _)) (pss_one (ps_ret pe_bl)) pss_nil)
      (pss_one (ps_ret (pe_cmpR (r := rEqD K) (op_eqD hr.units) (pe_callB (r := rSortTZ K) cr_sortTZ (by rfl) T.n_sorted (by decide +kernel) (pa_cons (pv 8) pa_nil)) (pe_callB (r := rSortLZ K) cr_sortLZ (by rfl) T.n_sorted (by decide +kernel) (pa_cons (pe_lc (own := [("_law_row", 12)]) (g := (gName 12)) (by rfl) sc__law_small_right.nd (pi_list (pv 3)) (blkOk_by (N := N__law_small_right) (sc := (defScope s__law_small_right)) (by decide +kernel)) (fun _ _ _ _ _ => (pg_name (i := 12) sc__law_small_right.nd rfl (Or.inl rfl))) (fun _ _ _ _ _ => (pts_one (pt_cmpR op_eq (pe_ix (r := rIxT K) ix_tup (pv 12) pe_int (fun _ _ => rfl)) pe_int (nomark _)))) (fun _ _ _ _ _ => (pe_ix (r := rIxT K) ix_tup (pv 12) pe_int (fun _ _ => rfl)))) pa_nil)) (nomark _))))))))))))), ?_⟩
  have tw : TW12 4 = 13640 := by decide
  refine ⟨_, rfl, p, m, 12, rfl, hp, by omega, by decide, by decide, fun H1 v j s1 hp1 hd1 hj => ?_⟩
  rw [tw] at hp1
  obtain ⟨gj, hdeep⟩ := hj.good (by decide)
  have hstb := J.stb_ok j gj.1
  have hst : j.steps ≤ 12 := hj.le
  have hst0 := hj.nn
  have hA := J.adr_len j hstb
  refine ⟨_, rfl, v, j, rfl, hd1, by omega, hstb, by omega, hj.rounded, fun H2 lf fs s2 hlf elf dfs => ?_⟩
  refine ⟨(by show 0 ≤ sizeLine; decide), fun lr hlr => ?_⟩
  have s3 : Same H2 (upd H2 lr (.lst [])) := same_new hlr
  have e3 : upd H2 lr (.lst []) lr = some (.lst []) := upd_same
  have nrf : lf ≠ lr := fun z => by rw [z] at elf; rw [elf] at hlr; cases hlr
  have elf3 := s3 _ _ elf
  generalize (upd H2 lr (.lst [])) = H3 at s3 e3 elf3 ⊢
  refine ⟨_, _, rfl, ?_⟩
  refine ⟨_, rfl, _, rfl, (by show 0 ≤ sizeLine; decide), fun pt hpt => ?_⟩
  have s4 : Same H3 (upd H3 pt (.tup [])) := same_new hpt
  have k4 : SqT K (upd H3 pt (.tup [])) pt (([] : List Int).map V.int) := SqT.of upd_same
  generalize (upd H3 pt (.tup [])) = H4 at s4 k4 ⊢
  have s24 := s2.trans (s3.trans s4)
  have len60 : (j.sys.rows.length : Int) = j.steps := by
    have h1 : j.sys.rows.length = j.adr.length := by rw [← J.sys_adr j, List.length_map]
    rw [h1]
    exact hA
  refine ⟨v, lr, pt, j, 0, [], [], [], rfl, dp_same s24 hd1, by omega, hstb, by omega, hj.rounded, s4 _ _ e3, .nil, by simp; omega, k4, by simp; omega, fun H5 ws sx5 e5 d5 => ?_⟩
  have s5 : Same H1 H5 := Same.sx_free s24 (Same.free' s2 hlr) sx5
  have elf5 : H5 lf = some (.lst fs) := sx5 _ _ nrf (s4 _ _ elf3)
  have ed : browsD ([] ++ rowsS j.sys ([] : List BRow).length 0 []) = browsD (rowsS j.sys 0 0 []) := rfl
  rw [ed] at d5
  have wl : ws.length = j.sys.rows.length := by rw [dpAll_length d5, browsD, List.length_map, rowsS_len]
  have hd5 := dp_same s5 hd1
  have dfs5 : DpAll K H5 fs (adDs j.chs) := by
    have := dpAll_same (s3.trans s4) dfs
    exact dpAll_keep (fun a xs z => sx5.sqT (s4 _ _ e3) z) (by have := ads_noL j.chs; simp only [noL] at this; exact this) this
  -- the choices
  obtain ⟨f1, f2, f3⟩ := ads_repr gj (by omega) (J.chs_sub hstb)
  refine ⟨_, rfl, v, j, rfl, hd5, by omega, gj.1, gj.2.1, fun H6 rc s6 drc => ?_⟩
  refine ⟨rc, _, rfl, drc, f1, f2, f3, ?_⟩
  refine ⟨_, rfl, lf, fs, rfl, .inl ⟨SqL.of (s6 _ _ elf5), fun tq htq => ?_⟩⟩
  have s7 : Same H6 (upd H6 tq (.tup fs)) := same_new htq
  have d7 : Dp K (upd H6 tq (.tup fs)) (.ref tq) (.tuple (adDs j.chs)) := .tup (SqT.of upd_same) (dpAll_same (s6.trans s7) dfs5)
  generalize (upd H6 tq (.tup fs)) = H7 at s7 d7 ⊢
  refine ⟨_, _, rfl, d7, f1, f2, f3, ?_⟩
  refine ⟨rfl, _, rfl, ?_⟩
  refine iteFb (by simp) ?_
  have s57 := s6.trans s7
  have elf7 := s57 _ _ elf5
  have dfs7 := dpAll_same s57 dfs5
  have e7 := s57 _ _ e5
  have d7r := dpAll_same s57 d5
  have hd7 := dp_same s57 hd5
  have s17 := s5.trans s57
  generalize hR : rowsS j.sys 0 0 [] = R at d7r
  have Rl : R.length = ws.length := by rw [← hR, rowsS_len, wl]
  obtain ⟨lp, hlp⟩ := hp1.lst
  refine ⟨_, rfl, lr, rfl, ⟨_, SqL.of e7⟩, ?_⟩
  refine for_list (K := K) (a := lr) (xs := ws) (fun i σ G => ∃ (y4 y5 y6 y7 : Option V), σ = [some (.ref p), some v, some (.ref lf), some (.ref lr), y4, y5, y6, y7, none, none, none, none, none] ∧ Same H7 G)
    ⟨_, _, _, _, rfl, Same.refl _⟩ (fun i σ G _ ⟨_, _, _, _, _, s⟩ => SqL.of (s _ _ e7)) ?_ ?_
  · rintro i x σ G hx ⟨y4, y5, y6, y7, rfl, sG⟩
    obtain ⟨d, ed1, dx⟩ := dpAll_get d7r hx
    rw [browsD, List.getElem?_map] at ed1
    obtain ⟨r, er, rfl⟩ := Option.map_eq_some_iff.mp ed1
    obtain ⟨tr, xs, rfl, hxs, hall⟩ := dp_tup_inv dx
    cases hall with
    | cons h1 h2 =>
    cases h2 with
    | cons h3 h4 =>
    cases h4 with
    | cons h5 h6 =>
    cases h6
    obtain rfl := dp_int_inv h1
    obtain rfl := dp_int_inv h3
    obtain ⟨ta, xa, rfl, hta, hxa⟩ := dp_tup_inv h5
    obtain rfl := Lw.ints_vals hxa
    have rrow := rowsS_row (j := j) (i := i) (r := r) (by rw [hR]; exact er)
    have radr : r.2.2 ∈ j.adr := row_adr rrow
    refine ⟨tr, _, rfl, same_sqT sG hxs, rfl, _, _, rfl, _, _, rfl, _, _, rfl, rfl, ?_⟩
    have hda := dp_same sG h5
    have rdeep := J.adr_deep j _ radr
    have rb : (adD r.2.2).bulk ≤ 80000 := by
      have := ints_bulk r.2.2
      simp only [adD, PyData.bulk]
      omega
    refine ⟨_, rfl, _, rfl, v, .ref ta, j, p, adD r.2.2, rfl, dp_same sG hd7, dq_of (noL_ad _) hda, rb, by omega, gj.1, gj.2.1, fun G1 s8 => ?_⟩
    refine ⟨_, _, rfl, .bl _, trivial, by simp [PyData.depth], by simp [PyData.bulk], ?_⟩
    have sG1 := sG.trans s8
    refine ⟨_, rfl, _, rfl, adDs j.chs, adD r.2.2, .lst (SqL.of (sG1 _ _ elf7)) (dpAll_same sG1 dfs7), dp_same s8 hda, ads_lay _, ad_lay _, Nat.le_trans (ad_depth _) (by decide), ?_⟩
    refine ⟨_, _, rfl, .bl _, trivial, by simp [PyData.depth], by simp [PyData.bulk], ?_⟩
    refine ⟨rfl, _, rfl, ?_⟩
    refine iteFb (by rw [isCh_ad, any_ad]; simp) ?_
    refine ⟨_, rfl, ta, rfl, ⟨_, same_sqT sG1 hta⟩, fun D hD => ?_⟩
    refine lc_tup (K := K) (a := ta) (xs := r.2.2.map V.int) (fun k G3 => Same G1 G3 ∧ G3 D = some (.lst ((r.2.2.take k).map bzV))) ?_ ?_ ?_ ?_
    · exact ⟨same_new hD, upd_same⟩
    · rintro k G3 _ ⟨sk, _⟩
      exact same_sqT (sG1.trans sk) hta
    · rintro k z G3 hk ⟨sk, ek⟩
      rw [List.getElem?_map] at hk
      obtain ⟨n, en, rfl⟩ := Option.map_eq_some_iff.mp hk
      refine ⟨rfl, ?_⟩
      unfold tYes
      refine iteT ?_
      refine ⟨_, rfl, _, _, rfl, rfl, _, rfl, ?_⟩
      have fin : ∀ y : V, y = bzV n → ∃ acc, G3 D = some (.lst acc) ∧ acc.length < sizeLine ∧ Same G1 (upd G3 D (.lst (acc ++ [y]))) ∧ upd G3 D (.lst (acc ++ [y])) D = some (.lst ((r.2.2.take (k + 1)).map bzV)) := by
        rintro y rfl
        have ln : (r.2.2.take k).length ≤ r.2.2.length := by rw [List.length_take]; omega
        refine ⟨_, ek, small1000 (by rw [List.length_map]; omega), Same.sx_free sk hD sx_upd, ?_⟩
        rw [upd_same, List.take_add_one, en, List.map_append]
        rfl
      refine ite2 (fun g => ?_) (fun g => ?_)
      · refine ⟨_, rfl, _, _, rfl, rfl, ?_⟩
        refine fin _ ?_
        unfold bzV
        rw [if_pos (of_decide_eq_true g)]
      · refine ⟨_, rfl, ?_⟩
        refine fin _ ?_
        unfold bzV
        rw [if_neg (fun z => g (decide_eq_true z))]
    · rintro G3 ⟨sk, ek⟩
      rw [List.length_map, List.take_length] at ek
      refine ⟨D, _, rfl, .inl ⟨SqL.of ek, fun tb htb => ?_⟩⟩
      have s9 : Same G3 (upd G3 tb (.tup (r.2.2.map bzV))) := same_new htb
      have k9 : SqT K (upd G3 tb (.tup (r.2.2.map bzV))) tb (r.2.2.map bzV) := SqT.of upd_same
      generalize (upd G3 tb (.tup (r.2.2.map bzV))) = G4 at s9 k9 ⊢
      have sG4 := sG1.trans (sk.trans s9)
      refine ⟨_, rfl, (by show 1 ≤ sizeLine; decide), fun t2 ht2 => ?_⟩
      have s10 : Same G4 (upd G4 t2 (.tup [.int 2])) := same_new ht2
      have k10 : SqT K (upd G4 t2 (.tup [.int 2])) t2 ([(2 : Int)].map V.int) := SqT.of upd_same
      generalize (upd G4 t2 (.tup [.int 2])) = G5 at s10 k10 ⊢
      refine rCatA_q (same_sqT (sG4.trans s10) hta) k10 (small (by simp only [List.length_map, List.length_singleton]; omega)) (fun G6 t3 s11 k11 => ?_)
      rw [← List.map_append] at k11
      have sG6 := sG4.trans (s10.trans s11)
      refine ⟨t3, r.2.2 ++ [2], rfl, k11, by simp, fun mn hmn hle => ?_⟩
      refine ⟨_, _, rfl, rfl, _, rfl, ?_⟩
      refine and_midT (fun b H' => b = false ∧ Same G6 H') (fun hc Q' go => ?_) (fun hc => ⟨rfl, Same.refl _⟩) ?_
      · have hc := of_decide_eq_true hc
        have hin : mn ∈ r.2.2 := by
          rcases List.mem_append.mp hmn with h | h
          · exact h
          · rw [List.mem_singleton.mp h] at hc
            omega
        have bb := bz_bulk r.2.2
        refine ⟨_, rfl, _, rfl, v, .ref tb, j, p, .tuple (r.2.2.map bzD), rfl, dp_same sG6 hd7, .tup (same_sqT (s10.trans s11) k9) (bz_dq _), by simp only [PyData.bulk]; omega, by omega, gj.1, gj.2.1, fun G7 s12 => ?_⟩
        rw [bz_idx hin hc]
        refine ⟨_, _, rfl, rfl, _, rfl, ?_⟩
        exact go _ _ ⟨by decide, s12⟩
      rintro b G7 ⟨rfl, s12⟩
      have sG7 := sG6.trans s12
      refine iteFb rfl ?_
      refine ⟨_, rfl, _, rfl, ta, _, rfl, .inr (same_sqT sG7 hta), fun ll hll => ?_⟩
      have nll : ll ≠ p := fun z => by
        rw [z, (s17.trans sG7) _ _ hlp] at hll
        cases hll
      obtain ⟨s13, d13⟩ := lstq (K := K) (p := p) nll hll (ints_dq (p := p) (K := K) (H := G7) r.2.2)
      generalize (upd G7 ll (.lst (r.2.2.map V.int))) = G8 at s13 d13 ⊢
      have lb : (PyData.list (r.2.2.map .int)).bulk ≤ 80000 := by
        have := ints_bulk r.2.2
        simp only [PyData.bulk]
        omega
      refine ⟨v, .ref ll, j, p, .list (r.2.2.map .int), rfl, dp_same (sG7.trans s13) hd7, d13, lb, by omega, gj.1, gj.2.1, fun G9 s14 => ?_⟩
      have e0 : isCh j (.list (r.2.2.map .int)) = false := rfl
      rw [e0]
      refine ⟨_, _, rfl, rfl, _, rfl, ?_⟩
      refine iteFb (by decide) ?_
      exact ⟨_, _, _, _, rfl, sG7.trans (s13.trans s14)⟩
  · rintro σ G ⟨y4, y5, y6, y7, rfl, sG⟩
    refine ⟨_, rfl, (by show 0 ≤ sizeLine; decide), fun te hte => ?_⟩
    obtain ⟨s13, d13⟩ := tup_fresh (K := K) (ds := adDs []) hte .nil
    generalize (upd G te (.tup [])) = G1 at s13 d13 ⊢
    have sG1 := sG.trans s13
    refine ⟨v, .ref te, [], j, none, rfl, dp_same sG1 hd7, d13, by decide, by omega, hstb, gj.isSome, by omega, (stB_ad hstb []).mpr ⟨(fun a ha => nomatch ha), rfl, (fun a _ b hb => nomatch hb)⟩, (fun m hm => nomatch hm), fun H8 tf xf s14 kf df => ?_⟩
    rw [avail_mins hstb] at df
    have sH8 := sG1.trans s14
    have dfs8 := dpAll_same sH8 dfs7
    have efs8 := sH8 _ _ elf7
    refine ⟨_, rfl, lf, rfl, ⟨_, SqL.of efs8⟩, fun D hD => ?_⟩
    refine lc_list (K := K) (a := lf) (xs := fs) (fun k G3 => Same H8 G3 ∧ G3 D = some (.lst [])) ?_ ?_ ?_ ?_
    · exact ⟨same_new hD, upd_same⟩
    · rintro k G3 _ ⟨sk, _⟩
      exact SqL.of (sk _ _ efs8)
    · rintro k z G3 hk ⟨sk, ek⟩
      obtain ⟨t, a, ea, rfl, hta⟩ := ad_at dfs8 hk
      have ina : a ∈ j.adr.filter (mins j.adr j.sys.ahead) := chs_mins hstb a (List.mem_of_getElem? ea)
      refine ⟨rfl, ?_⟩
      refine ⟨_, rfl, _, rfl, adDs (j.adr.filter (mins j.adr j.sys.ahead)), adD a, .tup (same_sqT sk kf) (dpAll_same sk df), .tup (same_sqT sk hta) (ints_dp' _), ads_lay _, ad_lay _, Nat.le_trans (ad_depth _) (by decide), ?_⟩
      rw [any_ad, List.contains_iff_mem.mpr ina]
      refine ⟨_, rfl, ?_⟩
      exact iteFb rfl ⟨sk, ek⟩
    · rintro G3 ⟨sk, ek⟩
      refine ⟨(by show 0 ≤ sizeLine; decide), fun l0 hl0 => ?_⟩
      have s15 : Same G3 (upd G3 l0 (.lst [])) := same_new hl0
      have e15 : upd G3 l0 (.lst []) l0 = some (.lst []) := upd_same
      have ek15 := s15 _ _ ek
      generalize (upd G3 l0 (.lst [])) = G4 at s15 e15 ek15 ⊢
      refine ⟨.list [], .list [], .lst (SqL.of ek15) .nil, .lst (SqL.of e15) .nil, rfl, rfl, _, rfl, ?_⟩
      refine iteFb (by decide) ?_
      have s8x := sk.trans s15
      have s1x := s17.trans (sH8.trans s8x)
      have hpx := hp1.same s1x
      obtain ⟨lx, hlx⟩ := hpx.lst
      refine ⟨_, rfl, p, _, rfl, hpx, by omega, fun H9 vo d s16 hp16 dq16 hmem => ?_⟩
      have k9 : ∀ a xs, SqT K H8 a xs → SqT K H9 a xs := fun a xs z => s16.sqT hlx (same_sqT s8x z)
      have hd9 : Dp K H9 v j.toD := dp_keep k9 j.noL (dp_same sH8 hd7)
      have nfp : lf ≠ p := fun z => by
        rw [z] at elf7
        have := s17 _ _ hlp
        rw [elf7] at this
        rw [z] at hlf
        rw [hlp] at hlf
        cases hlf
      have nrp : lr ≠ p := fun z => by
        rw [z] at hlr
        rw [s2 _ _ hlp] at hlr
        cases hlr
      have efs9 : H9 lf = some (.lst fs) := s16 _ _ nfp (s8x _ _ efs8)
      have dfs9 : DpAll K H9 fs (adDs j.chs) := dpAll_keep k9 (by have := ads_noL j.chs; simp only [noL] at this; exact this) dfs8
      have eR9 : H9 lr = some (.lst ws) := s16 _ _ nrp (s8x _ _ (sH8 _ _ e7))
      have dR9 : DpAll K H9 ws (browsD R) := dpAll_keep k9 (noLs_brow R) (dpAll_same sH8 d7r)
      have db : d.bulk ≤ 80000 := by
        have := oddsD_all (P := fun d => decide (d.bulk ≤ 80000)) (by decide +kernel) hmem
        exact of_decide_eq_true this
      refine ⟨_, rfl, _, rfl, v, vo, j, p, d, rfl, hd9, dq16, db, by omega, gj.1, gj.2.1, fun Ha sa => ?_⟩
      refine ⟨_, _, rfl, .bl _, trivial, by simp [PyData.depth], by simp [PyData.bulk], ?_⟩
      refine ⟨_, rfl, _, rfl, p, adDs j.chs, d, .lst (SqL.of (sa _ _ efs9)) (dpAll_same sa dfs9), allT_ads _, Dq.keep (Same.kp sa) dq16, ads_lay _, odd_lay hmem, ?_⟩
      refine ⟨_, _, rfl, .bl _, trivial, by simp [PyData.depth], by simp [PyData.bulk], ?_⟩
      refine ⟨rfl, _, rfl, ?_⟩
      refine iteFb (by rw [odd_ch hmem]; simp) ?_
      have k9a : SqT K Ha tf xf := same_sqT sa (k9 _ _ kf)
      have df9 : DpAll K Ha xf (adDs (j.adr.filter (mins j.adr j.sys.ahead))) := dpAll_same sa (dpAll_keep k9 (by have := ads_noL (j.adr.filter (mins j.adr j.sys.ahead)); simp only [noL] at this; exact this) df)
      have sub : (j.adr.filter (mins j.adr j.sys.ahead)).Sublist j.adr := List.filter_sublist
      have asc := (J.adrF_asc j).sublist sub
      refine ⟨_, rfl, ?_⟩
      refine sortTZ_of k9a df9 (sub_keys sub) asc (List.Perm.refl _) fun ys1 p1 hp1' dy1 => ?_
      have sb : Same Ha (upd Ha p1 (.lst ys1)) := same_new hp1'
      have eb : upd Ha p1 (.lst ys1) p1 = some (.lst ys1) := upd_same
      have dy1b := dpAll_same sb dy1
      generalize (upd Ha p1 (.lst ys1)) = Hb at sb eb dy1b ⊢
      have sab := sa.trans sb
      have eRb := sab _ _ eR9
      have dRb := dpAll_same sab dR9
      refine ⟨_, rfl, lr, rfl, ⟨_, SqL.of eRb⟩, fun D2 hD2 => ?_⟩
      refine lc_list (K := K) (a := lr) (xs := ws) (fun k G5 => Same Hb G5 ∧ ∃ us, G5 D2 = some (.lst us) ∧ DpAll K G5 us (adDs (((R.take k).filter fun r => r.2.1 == 0).map (·.2.2)))) ?_ ?_ ?_ ?_
      · exact ⟨same_new hD2, [], upd_same, .nil⟩
      · rintro k G5 _ ⟨sk5, _⟩
        exact SqL.of (sk5 _ _ eRb)
      · rintro k z G5 hk ⟨sk5, us, ek5, dk5⟩
        obtain ⟨d', ed', dz⟩ := dpAll_get dRb hk
        rw [browsD, List.getElem?_map] at ed'
        obtain ⟨r, er, rfl⟩ := Option.map_eq_some_iff.mp ed'
        obtain ⟨tr, xs, rfl, hxs, hall⟩ := dp_tup_inv dz
        cases hall with
        | cons h1 h2 =>
        cases h2 with
        | cons h3 h4 =>
        cases h4 with
        | cons h5 h6 =>
        cases h6
        obtain rfl := dp_int_inv h1
        obtain rfl := dp_int_inv h3
        have ul : us.length ≤ R.length := by
          rw [dpAll_length dk5, adDs, List.length_map, List.length_map]
          exact Nat.le_trans (List.length_filter_le _ _) (by rw [List.length_take]; omega)
        have eb2 : decide (V.int (r.2.1 : Int) = V.int 0) = (r.2.1 == 0) := by
          rw [Bool.eq_iff_iff, decide_eq_true_eq, beq_iff_eq]
          exact ⟨fun z => by have := V.int.inj z; omega, fun z => by rw [z]; rfl⟩
        have etk : (R.take (k + 1)).filter (fun r => r.2.1 == 0) = (R.take k).filter (fun r => r.2.1 == 0) ++ (if (r.2.1 == 0) = true then [r] else []) := by
          rw [List.take_add_one, er, List.filter_append]
          congr 1
          simp only [Option.toList_some, List.filter_cons, List.filter_nil]
        refine ⟨rfl, ?_⟩
        refine ⟨_, rfl, _, _, _, _, rfl, rfl, same_sqT sk5 hxs, rfl, rfl, _, rfl, ?_⟩
        rw [eb2, etk, List.map_append, adDs, List.map_append]
        refine ite2 (fun g => ?_) (fun g => ?_)
        · refine ⟨_, rfl, _, _, _, _, rfl, rfl, same_sqT sk5 hxs, rfl, us, ek5, small1000 (by omega), Same.sx_free sk5 hD2 sx_upd, _, upd_same, ?_⟩
          rw [if_pos g]
          have k5 : ∀ (o : HO) a xs, SqT K G5 a xs → SqT K (upd G5 D2 o) a xs := fun o a xs z => (sx_upd (p := D2)).sqT ek5 z
          refine dpAll_append (dpAll_keep (k5 _) ?_ dk5) (.cons ?_ .nil)
          · have := ads_noL (((R.take k).filter fun r => r.2.1 == 0).map (·.2.2))
            simp only [noL] at this
            exact this
          · exact dp_keep (k5 _) (noL_ad _) (dp_same sk5 h5)
        · refine ⟨sk5, us, ek5, ?_⟩
          rw [if_neg g, List.map_nil, List.map_nil, List.append_nil]
          exact dk5
      · rintro G5 ⟨sk5, us, ek5, dk5⟩
        rw [List.take_of_length_le (by omega), ← hR, rows_mins] at dk5
        refine sortLZ_of (SqL.of ek5) dk5 (sub_keys sub) asc (List.Perm.refl _) fun ys2 p2 hp2' dy2 => ?_
        have sc : Same G5 (upd G5 p2 (.lst ys2)) := same_new hp2'
        have s5c := sk5.trans sc
        refine ⟨_, _, .lst (SqL.of (s5c _ _ eb)) (dpAll_same s5c dy1b), .lst (SqL.of upd_same) (dpAll_same sc dy2), adL_shaped _, adL_shaped _, ?_⟩
        rw [adL_self]
        refine q _ ?_ ?_
        · exact s1.trans ((Same.sx s1x).trans (s16.trans (Same.sx (sab.trans s5c))))
        · exact (hp16.same (sab.trans s5c)).mono (by omega)
end

/-! block Great64: _law_great_right of k64 (behind bSmall64, bGreatW) -/
def spGreat64 (K : PySem.W.Frag) : Sp := fun vs H Q _ => ∃ (p : Addr) (m : Nat), vs = [.ref p] ∧ Pot H p m ∧ m + 14000 ≤ 1099511627776 ∧
  ∀ H', Sx p H H' → Pot H' p (m + 14000) → Q (.bl true) H'
theorem NG_le {d : Nat} (h : d ≤ 5) : NG d ≤ 121 ∧ (d ≤ 4 → NG d ≤ 40) := by
  rcases (by omega : d = 0 ∨ d = 1 ∨ d = 2 ∨ d = 3 ∨ d = 4 ∨ d = 5) with rfl | rfl | rfl | rfl | rfl | rfl <;> simp only [NG] <;> omega
theorem M_keys {K : PySem.W.Frag} {H : Hp} : ∀ M : List (Addr × List Int), (∀ p ∈ M, SqT K H p.1 (p.2.map V.int)) → DpAll K H (M.map fun q => V.ref q.1) (adDs (M.map (·.2)))
  | [], _ => .nil
  | p :: M, h => .cons (.tup (h p (List.mem_cons_self ..)) (ints_dp' _)) (M_keys M fun q hq => h q (List.mem_cons_of_mem _ hq))
theorem pairs_of {K : PySem.W.Frag} {H : Hp} : ∀ {xs : List V} {as : List (List Int)}, DpAll K H xs (adDs as) → ∃ ks : List (Addr × List Int), xs = ks.map (fun p => V.ref p.1) ∧ ks.map (·.2) = as ∧ ∀ p ∈ ks, SqT K H p.1 (p.2.map V.int)
  | _, [], h => by
    cases h
    exact ⟨[], rfl, rfl, fun p hp => nomatch hp⟩
  | _, a :: as, h => by
    cases h with
    | cons hx hr =>
    obtain ⟨t, xs, rfl, ht, hxs⟩ := dp_tup_inv hx
    obtain rfl := Lw.ints_vals hxs
    obtain ⟨ks, e1, e2, e3⟩ := pairs_of hr
    refine ⟨(t, a) :: ks, by rw [e1]; rfl, by rw [← e2]; rfl, fun p hp => ?_⟩
    rcases List.mem_cons.mp hp with rfl | hp
    · exact ht
    · exact e3 p hp
theorem atI_lastG {vs : List V} (h : 0 < vs.length) : ∃ v, vs[vs.length - 1]? = some v ∧ atI vs (-1) = some v := by
  obtain ⟨l, z, rfl⟩ : ∃ l z, vs = l ++ [z] := ⟨vs.dropLast, vs.getLast (fun e => by rw [e] at h; cases h), (List.dropLast_concat_getLast _).symm⟩
  refine ⟨z, ?_, L2.atI_last _ _⟩
  rw [List.length_append, List.length_singleton, Nat.add_sub_cancel, List.getElem?_concat_length]
section
variable {P : Program} {w : World} {K : PySem.W.Frag} {mg : Str → Option Value} {base : Heap}
theorem ok_great64 (T : Txt K mg) : FnG P w K mg base CX0 50 T.f__law_great_right T.d__law_great_right ["_law_source_here"] (spGreat64 K) := by
  have g__law_great_job := ok_gjs27 (P := P) (w := w) (base := base) T 5
  have g_choices := ok_choices (P := P) (w := w) (base := base) T
  have g_is_choice := ok_isch (P := P) (w := w) (base := base) T
  have g_is_address := ok_isadr (P := P) (w := w) (base := base) T
  have g_precedes := ok_prec (P := P) (w := w) (base := base) T
  refine okG T.F__law_great_right sc__law_great_right (fun vs H Q E h => ?_) (fun cdv A outer s H vs Q E hr gd h => ?_)
  · obtain ⟨p, m, rfl, _⟩ := h
    rfl
  obtain ⟨p, m, rfl, hp, hm, q⟩ := h
  refine ⟨_, (pss_cons (ps_set (i := 1) sc__law_great_right.nd rfl (Or.inr rfl) (pe_call g__law_great_job (hr.mono (by omega)) rfl T.m__law_great_job T.F__law_great_job.kp T.b__law_great_job .nil pass0 (pa_cons (pv 0) (pa_cons pe_int (pa_cons pe_int pa_nil)))))
      (pss_cons (ps_set (i := 2) sc__law_great_right.nd rfl (Or.inr rfl) (pe_call g_choices (hr.mono (by omega)) rfl T.m_choices T.F_choices.kp T.b_choices .nil pass0 (pa_cons (pv 1) pa_nil)))
      (pss_cons (ps_if (PW.pt (pw_or (pt_cmpR (r := rEqD K) (op_eqD hr.units) (pv 2) (pe_tup pa_nil) (nomark _)) (pw_or1 (pt_cmpR (r := rNeD K) (op_neD hr.units) (pe_callTy (r := rListS K) call_listS (by rfl) T.n_list (by decide +kernel) (pa_cons (pv 2) pa_nil)) (pe_callB (r := rSortSZ K P w) (cr_sortSZ rfl) (by rfl) T.n_sorted (by decide +kernel) (pa_cons (pe_callTy (r := rSetTW K P w) (cr_setTW rfl (Nat.lt_of_le_of_lt (Nat.add_le_add_left (by decide) _) (room66 hr))) (by rfl) T.n_set (by decide +kernel) (pa_cons (pv 2) pa_nil)) pa_nil)) (nomark _))))) (pss_one (ps_ret pe_bl)) pss_nil)
      (pss_cons (ps_if (pt_cmpR (r := rNeD K) (op_neD hr.units) (pe_lc (own := [("_law_one", 3)]) (g := (gName 3)) (by rfl) sc__law_great_right.nd (pi_tup (pv 2)) (blkOk_by (N := N__law_great_right) (sc := (defScope s__law_great_right)) (by decide +kernel)) (fun _ _ _ _ _ => (pg_name (i := 3) sc__law_great_right.nd rfl (Or.inl rfl))) (fun _ _ _ _ _ => (pts_one (PW.pt (pw_or (pt_cmpR op_notBl (pe_call g_is_choice (hr.mono (by omega)) rfl T.m_is_choice T.F_is_choice.kp T.b_is_choice .nil pass0 (pa_cons (pv 1) (pa_cons (pv 3) pa_nil))) pe_bl (nomark _)) (pw_or1 (pt_cmpR op_notBl (pe_call g_is_address (hr.mono (by omega)) rfl T.m_is_address T.F_is_address.kp T.b_is_address .nil pass0 (pa_cons (pv 1) (pa_cons (pv 3) pa_nil))) pe_bl (nomark _))))))) (fun _ _ _ _ _ => (pv 3))) (pe_lst pa_nil) (nomark _)) (pss_one (ps_ret pe_bl)) pss_nil)
      (pss_one (ps_ret (pe_cmpR (r := rEqD K) (op_eqD hr.units) (pe_lc (own := [("_law_one", 3)]) (g := (gName 3)) (by rfl) sc__law_great_right.nd (pi_tup (pv 2)) (blkOk_by (N := N__law_great_right) (sc := (defScope s__law_great_right)) (by decide +kernel)) (fun _ _ _ _ _ => (pg_name (i := 3) sc__law_great_right.nd rfl (Or.inl rfl))) (fun _ _ _ _ _ => (pts_one (PW.pt (pw_or (pt_val (pe_call g_precedes (hr.mono (by omega)) rfl T.m_precedes T.F_precedes.kp T.b_precedes .nil pass0 (pa_cons (pv 1) (pa_cons (pv 3) (pa_cons (pe_ix (r := rIxT K) ix_tup (pv 2) pe_int (fun _ _ => rfl)) pa_nil))))) (pw_or1 (pt_val (pe_call g_precedes (hr.mono (by omega)) rfl T.m_precedes T.F_precedes.kp T.b_precedes .nil pass0 (pa_cons (pv 1) (pa_cons (pe_ix (r := rIxT K) ix_tup (pv 2) (pe_un un_neg pe_int) (fun _ _ => rfl)) (pa_cons (pv 3) pa_nil)))))))))) (fun _ _ _ _ _ => (pv 3))) (pe_lst pa_nil) (nomark _)))))))), ?_⟩
  have tw : TGW 4 = 13640 := by decide
  refine ⟨_, rfl, 4, by decide, p, m, 2, rfl, hp, by omega, by decide, by decide, fun H1 v j s1 hp1 hd1 hj => ?_⟩
  rw [tw] at hp1
  have nb := (NG_le (d := 4) (by decide)).2 (by decide)
  have jn := hj.nodes
  have jd : j.deep ≤ 4 := hj.deep
  have gj : Good j := ⟨hj.ok, by omega, by omega⟩
  have hstb := J.stb_ok j gj.1
  have hA := J.adr_len j hstb
  have hs1 := hj.nn
  have ane : j.adr ≠ [] := fun z => by
    rw [z] at hA
    simp at hA
    omega
  have cne := (J.chs_eq j hstb).2 ane
  have clen := J.chs_len j
  refine ⟨_, rfl, v, j, rfl, hd1, by omega, gj.1, gj.2.1, fun H2 rc s2 drc => ?_⟩
  obtain ⟨tc, xc, rfl, hxc, dxc⟩ := dp_tup_inv drc
  obtain ⟨ks, rfl, eks, hks⟩ := pairs_of dxc
  have kl : ks.length = j.chs.length := by rw [← eks, List.length_map]
  refine ⟨_, rfl, (by show 0 ≤ sizeLine; decide), fun t0 ht0 => ?_⟩
  obtain ⟨s3, d3⟩ := tup_fresh (K := K) (ds := []) ht0 .nil
  generalize (upd H2 t0 (.tup [])) = H3 at s3 d3 ⊢
  refine ⟨_, _, dp_same s3 drc, d3, adT_shaped _, rfl, _, rfl, ?_⟩
  have e0 : PyData.eqv (.tuple (adDs j.chs)) (.tuple []) = false := by
    cases h : j.chs with
    | nil => exact absurd h cne
    | cons a l => simp [adDs, PyData.eqv, PyData.eqvAll]
  refine iteFb e0 ?_
  refine ⟨_, rfl, tc, _, rfl, .inr (same_sqT s3 hxc), fun ll hll => ?_⟩
  have s4 : Same H3 (upd H3 ll (.lst (ks.map fun p => V.ref p.1))) := same_new hll
  have e4 : upd H3 ll (.lst (ks.map fun p => V.ref p.1)) ll = some (.lst (ks.map fun p => V.ref p.1)) := upd_same
  generalize (upd H3 ll (.lst (ks.map fun p => V.ref p.1))) = H4 at s4 e4 ⊢
  have s24 := s3.trans s4
  refine ⟨_, rfl, tc, ks, rfl, same_sqT s24 hxc, fun p hp => same_sqT s24 (hks p hp), fun L hL nL => ?_, fun S L hS hL hL2 => ?_⟩
  · have h1 := nodup_len (L.map (·.2)) j.chs nL fun a ha => by
      obtain ⟨p, hp, rfl⟩ := List.mem_map.mp ha
      rw [← eks]
      exact List.mem_map.mpr ⟨p, hL p hp, rfl⟩
    rw [List.length_map] at h1
    omega
  have s5 : Same H4 (upd H4 S (SetTO P w S L)) := same_new hS
  have e5 : upd H4 S (SetTO P w S L) S = some (SetTO P w S L) := upd_same
  generalize (upd H4 S (SetTO P w S L)) = H5 at s5 e5 ⊢
  have s25 := s24.trans s5
  have hL5 : ∀ p ∈ L, SqT K H5 p.1 (p.2.map V.int) := fun p hp => same_sqT s25 (hks p (hL p hp))
  have mem : ∀ a, a ∈ L.map (·.2) ↔ a ∈ j.chs := fun a => by
    rw [← eks]
    constructor
    · intro h
      obtain ⟨p, hp, rfl⟩ := List.mem_map.mp h
      exact List.mem_map.mpr ⟨p, hL p hp, rfl⟩
    · intro h
      obtain ⟨p, hp, rfl⟩ := List.mem_map.mp h
      exact hL2 p hp
  refine ⟨S, L, rfl, e5, hL5, fun nL h2 p hp => ?_, fun M pm hM nM wM lM hpm => ?_⟩
  · have hin : p.2 ∈ j.chs := (mem _).mp (List.mem_map.mpr ⟨p, hp, rfl⟩)
    rcases sub_keys (J.chs_sub hstb) with h | h
    · have h1 := nodup_len (L.map (·.2)) j.chs nL fun a ha => (mem a).mp ha
      rw [List.length_map] at h1
      omega
    · exact h _ hin
  have eM : M.map (·.2) = j.chs := by
    refine (asc_sorted nM (List.pairwise_map.mpr wM) fun a => ?_).mpr ((ascB_iff _).mpr (J.chs_asc hstb))
    rw [← mem a]
    exact (hM.map (·.2)).mem_iff
  have s6 : Same H5 (upd H5 pm (.lst (M.map fun q => V.ref q.1))) := same_new hpm
  have d6 : Dp K (upd H5 pm (.lst (M.map fun q => V.ref q.1))) (.ref pm) (.list (adDs j.chs)) := by
    rw [← eM]
    exact .lst (SqL.of upd_same) (M_keys M fun p hp => same_sqT s6 (hL5 p (hM.subset hp)))
  generalize (upd H5 pm (.lst (M.map fun q => V.ref q.1))) = H6 at s6 d6 ⊢
  have s46 := s5.trans s6
  have s26 := s24.trans s46
  refine ⟨_, _, .lst (SqL.of (s46 _ _ e4)) (dpAll_same s26 dxc), d6, adL_shaped _, adL_shaped _, _, rfl, ?_⟩
  refine iteFb (by rw [adL_self]; rfl) ?_
  have hx6 := same_sqT s26 hxc
  have dx6 := dpAll_same s26 dxc
  have hd6 := dp_same (s2.trans s26) hd1
  have hin : ∀ {k : Nat} {z : V}, (ks.map fun p => V.ref p.1)[k]? = some z → ∃ (t : Addr) (a : List Int), z = .ref t ∧ SqT K H6 t (a.map V.int) ∧ a ∈ j.chs := by
    intro k z hk
    obtain ⟨t, a, ea, rfl, hta⟩ := ad_at dx6 hk
    exact ⟨t, a, rfl, hta, List.mem_of_getElem? ea⟩
  have abulk : ∀ {a : List Int}, a ∈ j.chs → (adD a).bulk ≤ 80000 := by
    intro a ha
    have h1 := J.adr_deep j a (J.chs_adr hstb a ha)
    have := ints_bulk a
    simp only [adD, PyData.bulk]
    omega
  refine ⟨_, rfl, tc, rfl, ⟨_, hx6⟩, fun D hD => ?_⟩
  refine lc_tup (K := K) (a := tc) (xs := ks.map fun p => V.ref p.1) (fun k G3 => Same H6 G3 ∧ G3 D = some (.lst [])) ?_ ?_ ?_ ?_
  · exact ⟨same_new hD, upd_same⟩
  · rintro k G3 _ ⟨sk, _⟩
    exact same_sqT sk hx6
  · rintro k z G3 hk ⟨sk, ek⟩
    obtain ⟨t, a, rfl, hta, ha⟩ := hin hk
    refine ⟨rfl, ?_⟩
    have ab := abulk ha
    refine ⟨_, rfl, _, rfl, v, .ref t, j, p, adD a, rfl, dp_same sk hd6, dq_of (noL_ad _) (.tup (same_sqT sk hta) (ints_dp' _)), ab, by omega, gj.1, gj.2.1, fun G4 s7 => ?_⟩
    rw [isCh_ad, List.contains_iff_mem.mpr ha]
    refine ⟨_, _, rfl, rfl, _, rfl, ?_⟩
    refine iteFb (by decide) ?_
    have s67 := sk.trans s7
    refine ⟨_, rfl, _, rfl, v, .ref t, j, p, adD a, rfl, dp_same s67 hd6, by omega, gj.isSome, dq_of (noL_ad _) (.tup (same_sqT s67 hta) (ints_dp' _)), ab, fun G5 s8 => ?_⟩
    obtain ⟨val, ev⟩ := adr_find (J.chs_adr hstb a ha)
    have ef : (fdD j (adD a)).isSome = true := by
      show (j.find (a.map .int)).isSome = true
      rw [ev]
      rfl
    rw [ef]
    refine ⟨_, _, rfl, rfl, _, rfl, ?_⟩
    exact iteFb (by decide) ⟨s67.trans s8, s8 _ _ (s7 _ _ ek)⟩
  · rintro G3 ⟨sk, ek⟩
    refine ⟨(by show 0 ≤ sizeLine; decide), fun l0 hl0 => ?_⟩
    have s15 : Same G3 (upd G3 l0 (.lst [])) := same_new hl0
    have e15 : upd G3 l0 (.lst []) l0 = some (.lst []) := upd_same
    have ek15 := s15 _ _ ek
    generalize (upd G3 l0 (.lst [])) = G4 at s15 e15 ek15 ⊢
    refine ⟨.list [], .list [], .lst (SqL.of ek15) .nil, .lst (SqL.of e15) .nil, rfl, rfl, _, rfl, ?_⟩
    refine iteFb (by decide) ?_
    have s8x := sk.trans s15
    have hx8 := same_sqT s8x hx6
    refine ⟨_, rfl, tc, rfl, ⟨_, hx8⟩, fun D2 hD2 => ?_⟩
    refine lc_tup (K := K) (a := tc) (xs := ks.map fun p => V.ref p.1) (fun k G5 => Same G4 G5 ∧ G5 D2 = some (.lst [])) ?_ ?_ ?_ ?_
    · exact ⟨same_new hD2, upd_same⟩
    · rintro k G5 _ ⟨sk2, _⟩
      exact same_sqT sk2 hx8
    · rintro k z G5 hk ⟨sk2, ek2⟩
      obtain ⟨t, a, rfl, hta, ha⟩ := hin hk
      have s65 := s8x.trans sk2
      refine ⟨rfl, ?_⟩
      have kpos : 0 < ks.length := by
        rw [kl]
        exact List.length_pos_iff.mpr cne
      obtain ⟨z0, ez0, at0⟩ := atI_ex (vs := ks.map fun p => V.ref p.1) (r := 0) (by decide) (by rw [List.length_map]; omega)
      obtain ⟨t1, a1, rfl, ht1, ha1⟩ := hin ez0
      refine ⟨_, rfl, _, rfl, _, rfl, _, _, _, _, rfl, rfl, same_sqT s65 hx6, at0, ?_⟩
      refine ⟨v, j, t, t1, a, a1, rfl, dp_same s65 hd6, gj.isSome, same_sqT s65 hta, same_sqT s65 ht1, J.chs_adr hstb a ha, J.chs_adr hstb a1 ha1, fun G6 s9 => ?_⟩
      rw [J.chs_min hstb ha1 (J.chs_adr hstb a ha)]
      refine ⟨_, rfl, ?_⟩
      refine iteFb rfl ?_
      have s69 := s65.trans s9
      obtain ⟨z2, ez2, at2⟩ := atI_lastG (vs := ks.map fun p => V.ref p.1) (by rw [List.length_map]; omega)
      obtain ⟨t2, a2, rfl, ht2, ha2⟩ := hin ez2
      refine ⟨_, rfl, _, rfl, _, rfl, _, _, _, _, rfl, rfl, same_sqT s69 hx6, at2, _, rfl, v, j, t2, t, a2, a, rfl, dp_same s69 hd6, gj.isSome, same_sqT s69 ht2, same_sqT s69 hta, J.chs_adr hstb a2 ha2, J.chs_adr hstb a ha, fun G7 s10 => ?_⟩
      rw [J.chs_min hstb ha (J.chs_adr hstb a2 ha2)]
      refine ⟨_, rfl, ?_⟩
      exact iteFb rfl ⟨sk2.trans (s9.trans s10), s10 _ _ (s9 _ _ ek2)⟩
    · rintro G5 ⟨sk2, ek2⟩
      refine ⟨(by show 0 ≤ sizeLine; decide), fun l1 hl1 => ?_⟩
      have s16 : Same G5 (upd G5 l1 (.lst [])) := same_new hl1
      refine ⟨.list [], .list [], .lst (SqL.of (s16 _ _ ek2)) .nil, .lst (SqL.of upd_same) .nil, rfl, rfl, ?_⟩
      have sall := s2.trans (s26.trans (s8x.trans (sk2.trans s16)))
      exact q _ (s1.trans (Same.sx sall)) ((hp1.same sall).mono (by omega))
end

/-! block Law64 (behind bGreat64) -/
def spLaw (K : PySem.W.Frag) : Sp := fun vs H Q _ => ∃ (a : Addr) (ns : List Int), vs = [.ref a] ∧ Only H ∧ SqL K H a (ns.map V.int) ∧ ns.length ≤ 63 ∧ ∀ H', Q (.bl true) H'
abbrev jB64 : J := .ps false [.ps true [], .rn false 0 (.st 4), .rn true 100000000000000000000 (.ps true [.st 5, .rn true 0 (.st 5), .st 6]), .st 7]
theorem jB64_chs : jB64.chs = [[2, 0, 0], [2, 0, 2]] := by decide +kernel
theorem jB64_ok : jB64.ok ∧ jB64.nodes ≤ 400 ∧ jB64.deep ≤ 13 := by
  refine ⟨?_, by decide +kernel, by decide +kernel⟩
  simp [J.ok, J.okL, J.steps, J.stepsL, M30]
section
variable {P : Program} {w : World} {K : PySem.W.Frag} {mg : Str → Option Value} {base : Heap}
theorem ok_law {f : Addr} {fd : FuncData} (F : Fun K "law" "law" s_law f fd) (T : Txt K mg) : FnG P w K mg base CX0 60 f fd ["_law_script"] (spLaw K) := by
  have g__law_source := ok_source (P := P) (w := w) (base := base) T
  have g__law_small_right := ok_small64 (P := P) (w := w) (base := base) T
  have g__law_great_right := ok_great64 (P := P) (w := w) (base := base) T
  have g_choices := ok_choices (P := P) (w := w) (base := base) T
  have g_is_choice := ok_isch (P := P) (w := w) (base := base) T
  refine okG F sc_law (fun vs H Q E h => ?_) (fun cdv A outer s H vs Q E hr gd h => ?_)
  · obtain ⟨a, ns, rfl, _⟩ := h
    rfl
  obtain ⟨a, ns, rfl, hO, hS, hlen, q⟩ := h
  have hsc := Scr.of hO hS
  refine ⟨_, (pss_cons (ps_for PassesOwn.never rfl (pi_range1 rfl T.n_range (pa_cons (pe_callB (call_max2 rfl) (by rfl) T.n_max (by decide +kernel) (pa_cons pe_int (pa_cons (pe_callB (call_min2 rfl) (by rfl) T.n_min (by decide +kernel) (pa_cons pe_int (pa_cons (pe_callB (r := rLenS K) call_lenS (by rfl) T.n_len (by decide +kernel) (pa_cons (pv 0) pa_nil)) pa_nil))) pa_nil))) pa_nil)) (pg_name (i := 1) sc_law.nd rfl (Or.inl rfl))
        (pss_cons (ps_set (i := 2) sc_law.nd rfl (Or.inl rfl) (pe_call g__law_source (hr.mono (by omega)) rfl T.m__law_source T.F__law_source.kp T.b__law_source .nil pass0 (pa_cons (pv 0) (pa_cons (pv 1) pa_nil))))
        (pss_one (ps_if (PW.pt (pw_or (pt_not (pt_val (pe_callG g__law_small_right (hr.mono (by omega)) gd rfl T.m__law_small_right T.F__law_small_right.kp T.b__law_small_right .nil (pa_cons (pv 2) pa_nil)))) (pw_or1 (pt_not (pt_val (pe_callG g__law_great_right (hr.mono (by omega)) gd rfl T.m__law_great_right T.F__law_great_right.kp T.b__law_great_right .nil (pa_cons (pv 2) pa_nil))))))) (pss_one (ps_ret pe_bl)) pss_nil))))
      (pss_cons (ps_set (i := 3) sc_law.nd rfl (Or.inl rfl) (pw_tup (pws_cons (pw_str (E := [])) (pws_cons (pw_tup (pws_cons (pw_tup (pws_cons (pw_str (E := [])) (pws_cons (pw_tup (pws_nil (E := [])) (by decide)) (pws_nil (E := [])))) (by decide)) (pws_cons (pw_tup (pws_cons (pw_str (E := [])) (pws_cons (pw_int (E := []) (n := 0) pe_int (by decide +kernel) (fun σ H Q q => q)) (pws_cons (pw_int (E := []) (n := 4) pe_int (by decide +kernel) (fun σ H Q q => q)) (pws_nil (E := []))))) (by decide)) (pws_cons (pw_tup (pws_cons (pw_str (E := [])) (pws_cons (pw_int (E := []) (n := 100000000000000000000) (pe_op op_powW pe_int pe_int) (by decide +kernel) (fun σ H Q q => ⟨_, _, rfl, rfl, powW_of 4 (by decide) (by decide) (by decide), q⟩)) (pws_cons (pw_tup (pws_cons (pw_str (E := [])) (pws_cons (pw_tup (pws_cons (pw_int (E := []) (n := 5) pe_int (by decide +kernel) (fun σ H Q q => q)) (pws_cons (pw_tup (pws_cons (pw_str (E := [])) (pws_cons (pw_int (E := []) (n := 0) pe_int (by decide +kernel) (fun σ H Q q => q)) (pws_cons (pw_int (E := []) (n := 5) pe_int (by decide +kernel) (fun σ H Q q => q)) (pws_nil (E := []))))) (by decide)) (pws_cons (pw_int (E := []) (n := 6) pe_int (by decide +kernel) (fun σ H Q q => q)) (pws_nil (E := []))))) (by decide)) (pws_nil (E := [])))) (by decide)) (pws_nil (E := []))))) (by decide)) (pws_cons (pw_int (E := []) (n := 7) pe_int (by decide +kernel) (fun σ H Q q => q)) (pws_nil (E := [])))))) (by decide)) (pws_nil (E := [])))) (by decide)))
      (pss_cons (ps_if (PW.pt (pw_or (pt_cmpR (r := rNeD K) (op_neD hr.units) (pe_call g_choices (hr.mono (by omega)) rfl T.m_choices T.F_choices.kp T.b_choices .nil pass0 (pa_cons (pv 3) pa_nil)) (pw_tup (pws_cons (pw_tup (pws_cons (pw_int (E := []) (n := 2) pe_int (by decide +kernel) (fun σ H Q q => q)) (pws_cons (pw_int (E := []) (n := 0) pe_int (by decide +kernel) (fun σ H Q q => q)) (pws_cons (pw_int (E := []) (n := 0) pe_int (by decide +kernel) (fun σ H Q q => q)) (pws_nil (E := []))))) (by decide)) (pws_cons (pw_tup (pws_cons (pw_int (E := []) (n := 2) pe_int (by decide +kernel) (fun σ H Q q => q)) (pws_cons (pw_int (E := []) (n := 0) pe_int (by decide +kernel) (fun σ H Q q => q)) (pws_cons (pw_int (E := []) (n := 2) pe_int (by decide +kernel) (fun σ H Q q => q)) (pws_nil (E := []))))) (by decide)) (pws_nil (E := [])))) (by decide)) (nomark _)) (pw_or1 (pt_cmpR op_notBl (pe_call g_is_choice (hr.mono (by omega)) rfl T.m_is_choice T.F_is_choice.kp T.b_is_choice .nil pass0 (pa_cons (pv 3) (pa_cons (pw_tup (pws_cons (pw_int (E := []) (n := 2) pe_int (by decide +kernel) (fun σ H Q q => q)) (pws_cons (pw_int (E := []) (n := 1) pe_int (by decide +kernel) (fun σ H Q q => q)) (pws_cons (pw_int (E := []) (n := 0) pe_int (by decide +kernel) (fun σ H Q q => q)) (pws_nil (E := []))))) (by decide)) pa_nil))) pe_bl (nomark _))))) (pss_one (ps_ret pe_bl)) pss_nil)
      (pss_one (ps_ret (pe_and (pe_cmpR (r := rEqD K) (op_eqD hr.units) (pe_call g_choices (hr.mono (by omega)) rfl T.m_choices T.F_choices.kp T.b_choices .nil pass0 (pa_cons (pw_tup (pws_cons (pw_str (E := [])) (pws_cons (pw_tup (pws_nil (E := [])) (by decide)) (pws_nil (E := [])))) (by decide)) pa_nil)) (pw_tup (pws_nil (E := [])) (by decide)) (nomark _)) (pe_and (pe_cmpR (r := rEqD K) (op_eqD hr.units) (pe_call g_choices (hr.mono (by omega)) rfl T.m_choices T.F_choices.kp T.b_choices .nil pass0 (pa_cons pe_int pa_nil)) (pw_tup (pws_cons (pw_tup (pws_nil (E := [])) (by decide)) (pws_nil (E := []))) (by decide)) (nomark _)) (pe_one (pe_cmpR op_isBl (pe_call g_is_choice (hr.mono (by omega)) rfl T.m_is_choice T.F_is_choice.kp T.b_is_choice .nil pass0 (pa_cons pe_int (pa_cons (pw_tup (pws_nil (E := [])) (by decide)) pa_nil))) pe_bl (nomark _)))))))))), ?_⟩
  refine ⟨_, rfl, a, _, rfl, .inl hsc.sq, _, _, rfl, _, _, rfl, _, rfl, ?_, ?_, ?_⟩
  · show -(2 ^ 62) ≤ (if (if (((ns.map V.int).length : Nat) : Int) < 8 then (((ns.map V.int).length : Nat) : Int) else 8) > 1 then (if (((ns.map V.int).length : Nat) : Int) < 8 then (((ns.map V.int).length : Nat) : Int) else 8) else 1)
    split <;> (try split) <;> omega
  · show (if (if (((ns.map V.int).length : Nat) : Int) < 8 then (((ns.map V.int).length : Nat) : Int) else 8) > 1 then (if (((ns.map V.int).length : Nat) : Int) < 8 then (((ns.map V.int).length : Nat) : Int) else 8) else 1) < 2 ^ 62
    split <;> (try split) <;> omega
  have hturns : (if (if (((ns.map V.int).length : Nat) : Int) < 8 then (((ns.map V.int).length : Nat) : Int) else 8) > 1 then (if (((ns.map V.int).length : Nat) : Int) < 8 then (((ns.map V.int).length : Nat) : Int) else 8) else 1).toNat ≤ 8 := by
    split <;> (try split) <;> omega
  generalize (if (if (((ns.map V.int).length : Nat) : Int) < 8 then (((ns.map V.int).length : Nat) : Int) else 8) > 1 then (if (((ns.map V.int).length : Nat) : Int) < 8 then (((ns.map V.int).length : Nat) : Int) else 8) else 1) = turns at hturns ⊢
  refine for_range (lo := 0) (n := turns.toNat) (fun i σ H' => ∃ y1 y2 y3 : Option V, σ = [some (.ref a), y1, y2, y3] ∧ Same H H') ⟨none, none, none, rfl, Same.refl _⟩ ?_ ?_
  · rintro i σ H' hi ⟨y1, y2, y3, rfl, t⟩
    refine ⟨_, rfl, _, rfl, a, ns, 0 + (i : Int), rfl, (hsc.same t).sq, by omega, by omega, by omega, fun A1 p s3 hpn hp => ?_⟩
    have hpH : H p = none := t.free hpn
    refine ⟨_, rfl, p, 0, rfl, hp, by decide, fun A2 sx2 hp2 => ?_⟩
    refine ⟨_, rfl, ?_⟩
    refine iteF ?_
    refine ⟨_, rfl, p, _, rfl, hp2, by decide, fun A3 sx3 hp3 => ?_⟩
    refine ⟨_, rfl, ?_⟩
    refine iteF ?_
    exact ⟨_, _, _, rfl, Same.sx_free (t.trans s3) hpH (sx2.trans sx3)⟩
  · rintro σ H' ⟨y1, y2, y3, rfl, t⟩
    refine ⟨Ns.nil, fun G1 v s1 d1 => ?_⟩
    have d1 : Dp K G1 v jB64.toD := d1
    obtain ⟨j1, j2, j3⟩ := jB64_ok
    refine ⟨_, rfl, v, jB64, rfl, d1, j3, j1, j2, fun G2 r s2 dr => ?_⟩
    rw [jB64_chs] at dr
    refine ⟨Ns.nil, fun G3 u s3 du => ?_⟩
    refine ⟨_, _, dp_same s3 dr, du, by decide +kernel, by decide +kernel, _, rfl, ?_⟩
    refine iteFb (by decide +kernel) ?_
    have d3 := dp_same (s2.trans s3) d1
    refine ⟨_, rfl, Ns.nil, fun G4 u4 s4 du4 => ?_⟩
    refine ⟨v, u4, jB64, 0, adD [2, 1, 0], rfl, dp_same s4 d3, dq_of (by decide +kernel) du4, by decide +kernel, j3, j1, j2, fun G5 s5 => ?_⟩
    have e5 : isCh jB64 (adD [2, 1, 0]) = false := by rw [isCh_ad, jB64_chs]; decide +kernel
    rw [e5]
    refine ⟨_, _, rfl, rfl, _, rfl, ?_⟩
    refine iteFb (by decide) ?_
    refine ⟨Ns.nil, fun G6 v6 s6 d6 => ?_⟩
    refine ⟨v6, .ps false [], rfl, d6, by decide, by simp [J.ok, J.okL, J.stepsL], by decide, fun G7 r7 s7 dr7 => ?_⟩
    refine ⟨Ns.nil, fun G8 u8 s8 du8 => ?_⟩
    refine ⟨_, _, dp_same s8 dr7, du8, by decide +kernel, by decide +kernel, ?_⟩
    refine ⟨_, rfl, ?_⟩
    refine iteTb (by decide +kernel) ?_
    refine ⟨.int 5, .st 5, rfl, .int 5, by decide, by simp [J.ok, M30], by decide, fun G9 r9 s9 dr9 => ?_⟩
    refine ⟨Ns.nil, fun Ga ua sa dua => ?_⟩
    refine ⟨_, _, dp_same sa dr9, dua, by decide +kernel, by decide +kernel, ?_⟩
    refine ⟨_, rfl, ?_⟩
    refine iteTb (by decide +kernel) ?_
    refine ⟨Ns.nil, fun Gb ub sb dub => ?_⟩
    refine ⟨.int 5, ub, .st 5, 0, adD [], rfl, .int 5, dq_of (by decide +kernel) dub, by decide +kernel, by decide, by simp [J.ok, M30], by decide, fun Gc sc => ?_⟩
    have ec : isCh (.st 5) (adD []) = true := by decide +kernel
    rw [ec]
    exact ⟨_, _, rfl, rfl, q _⟩
end
theorem all_mk {l : PySem.W.OpenLaw} {w : World} {K : PySem.W.Frag} {h : Heap} {mg : Str → Option Value} {fa : Addr} (X : K.In h) (G : h.Ns mainGlobals mg) (hfa : mg "law" = some (.ref fa))
    {od0 an0 : Option Addr} {sl0 : Array (Option Value)} {oc0 kV0 dc0 pm0 cd0 ct0 : Value} {f0 : Addr}
    {od1 an1 : Option Addr} {sl1 : Array (Option Value)} {oc1 kV1 dc1 pm1 cd1 ct1 : Value} {f1 : Addr}
    {od2 an2 : Option Addr} {sl2 : Array (Option Value)} {oc2 kV2 dc2 pm2 cd2 ct2 : Value} {f2 : Addr}
    {od3 an3 : Option Addr} {sl3 : Array (Option Value)} {oc3 kV3 dc3 pm3 cd3 ct3 : Value} {f3 : Addr}
    {od4 an4 : Option Addr} {sl4 : Array (Option Value)} {oc4 kV4 dc4 pm4 cd4 ct4 : Value} {f4 : Addr}
    {od5 an5 : Option Addr} {sl5 : Array (Option Value)} {oc5 kV5 dc5 pm5 cd5 ct5 : Value} {f5 : Addr}
    {od6 an6 : Option Addr} {sl6 : Array (Option Value)} {oc6 kV6 dc6 pm6 cd6 ct6 : Value} {f6 : Addr}
    {od7 an7 : Option Addr} {sl7 : Array (Option Value)} {oc7 kV7 dc7 pm7 cd7 ct7 : Value} {f7 : Addr}
    {od8 an8 : Option Addr} {sl8 : Array (Option Value)} {oc8 kV8 dc8 pm8 cd8 ct8 : Value} {f8 : Addr}
    {od9 an9 : Option Addr} {sl9 : Array (Option Value)} {oc9 kV9 dc9 pm9 cd9 ct9 : Value} {f9 : Addr}
    {od10 an10 : Option Addr} {sl10 : Array (Option Value)} {oc10 kV10 dc10 pm10 cd10 ct10 : Value} {f10 : Addr}
    {od11 an11 : Option Addr} {sl11 : Array (Option Value)} {oc11 kV11 dc11 pm11 cd11 ct11 : Value} {f11 : Addr}
    {od12 an12 : Option Addr} {sl12 : Array (Option Value)} {oc12 kV12 dc12 pm12 cd12 ct12 : Value} {f12 : Addr}
    {od13 an13 : Option Addr} {sl13 : Array (Option Value)} {oc13 kV13 dc13 pm13 cd13 ct13 : Value} {f13 : Addr}
    {od14 an14 : Option Addr} {sl14 : Array (Option Value)} {oc14 kV14 dc14 pm14 cd14 ct14 : Value} {f14 : Addr}
    {od15 an15 : Option Addr} {sl15 : Array (Option Value)} {oc15 kV15 dc15 pm15 cd15 ct15 : Value} {f15 : Addr}
    {od16 an16 : Option Addr} {sl16 : Array (Option Value)} {oc16 kV16 dc16 pm16 cd16 ct16 : Value} {f16 : Addr}
    {od17 an17 : Option Addr} {sl17 : Array (Option Value)} {oc17 kV17 dc17 pm17 cd17 ct17 : Value} {f17 : Addr}
    {od18 an18 : Option Addr} {sl18 : Array (Option Value)} {oc18 kV18 dc18 pm18 cd18 ct18 : Value} {f18 : Addr}
    {od19 an19 : Option Addr} {sl19 : Array (Option Value)} {oc19 kV19 dc19 pm19 cd19 ct19 : Value} {f19 : Addr}
    {od20 an20 : Option Addr} {sl20 : Array (Option Value)} {oc20 kV20 dc20 pm20 cd20 ct20 : Value} {f20 : Addr}
    {od21 an21 : Option Addr} {sl21 : Array (Option Value)} {oc21 kV21 dc21 pm21 cd21 ct21 : Value} {f21 : Addr}
    {od22 an22 : Option Addr} {sl22 : Array (Option Value)} {oc22 kV22 dc22 pm22 cd22 ct22 : Value} {f22 : Addr}
    {od23 an23 : Option Addr} {sl23 : Array (Option Value)} {oc23 kV23 dc23 pm23 cd23 ct23 : Value} {f23 : Addr}
    {od24 an24 : Option Addr} {sl24 : Array (Option Value)} {oc24 kV24 dc24 pm24 cd24 ct24 : Value} {f24 : Addr}
    {od25 an25 : Option Addr} {sl25 : Array (Option Value)} {oc25 kV25 dc25 pm25 cd25 ct25 : Value} {f25 : Addr}
    {od26 an26 : Option Addr} {sl26 : Array (Option Value)} {oc26 dc26 pm26 cd26 ct26 : Value} {f26 kD26 : Addr}
    {od27 an27 : Option Addr} {sl27 : Array (Option Value)} {oc27 kV27 dc27 pm27 cd27 ct27 : Value} {f27 : Addr}
    {od28 an28 : Option Addr} {sl28 : Array (Option Value)} {oc28 kV28 dc28 pm28 cd28 ct28 : Value} {f28 : Addr}
    {od29 an29 : Option Addr} {sl29 : Array (Option Value)} {oc29 kV29 dc29 pm29 cd29 ct29 : Value} {f29 : Addr}
    {od30 an30 : Option Addr} {sl30 : Array (Option Value)} {oc30 kV30 dc30 pm30 cd30 ct30 : Value} {f30 : Addr}
    {od31 an31 : Option Addr} {sl31 : Array (Option Value)} {oc31 kV31 dc31 pm31 cd31 ct31 : Value} {f31 : Addr}
    {od32 an32 : Option Addr} {sl32 : Array (Option Value)} {oc32 kV32 dc32 pm32 cd32 ct32 : Value} {f32 : Addr}
    {od33 an33 : Option Addr} {sl33 : Array (Option Value)} {oc33 kV33 dc33 pm33 cd33 ct33 : Value} {f33 : Addr}
    {od34 an34 : Option Addr} {sl34 : Array (Option Value)} {oc34 kV34 dc34 pm34 cd34 ct34 : Value} {f34 : Addr}
    {od35 an35 : Option Addr} {sl35 : Array (Option Value)} {oc35 kV35 dc35 pm35 cd35 ct35 : Value} {f35 : Addr}
    {od36 an36 : Option Addr} {sl36 : Array (Option Value)} {oc36 kV36 dc36 pm36 cd36 ct36 : Value} {f36 : Addr}
    {od37 an37 : Option Addr} {sl37 : Array (Option Value)} {oc37 kV37 dc37 pm37 cd37 ct37 : Value} {f37 : Addr}
    {od38 an38 : Option Addr} {sl38 : Array (Option Value)} {oc38 kV38 dc38 pm38 cd38 ct38 : Value} {f38 : Addr}
    {od39 an39 : Option Addr} {sl39 : Array (Option Value)} {oc39 kV39 dc39 pm39 cd39 ct39 : Value} {f39 : Addr}
    {od40 an40 : Option Addr} {sl40 : Array (Option Value)} {oc40 kV40 dc40 pm40 cd40 ct40 : Value} {f40 : Addr}
    {od41 an41 : Option Addr} {sl41 : Array (Option Value)} {oc41 kV41 dc41 pm41 cd41 ct41 : Value} {f41 : Addr}
    {od42 an42 : Option Addr} {sl42 : Array (Option Value)} {oc42 kV42 dc42 pm42 cd42 ct42 : Value} {f42 : Addr}
    {od43 an43 : Option Addr} {sl43 : Array (Option Value)} {oc43 kV43 dc43 pm43 cd43 ct43 : Value} {f43 : Addr}
    {od44 an44 : Option Addr} {sl44 : Array (Option Value)} {oc44 kV44 dc44 pm44 cd44 ct44 : Value} {f44 : Addr}
    {od45 an45 : Option Addr} {sl45 : Array (Option Value)} {oc45 kV45 dc45 pm45 cd45 ct45 : Value} {f45 : Addr}
    {od46 an46 : Option Addr} {sl46 : Array (Option Value)} {oc46 kV46 dc46 pm46 cd46 ct46 : Value} {f46 : Addr}
    {od47 an47 : Option Addr} {sl47 : Array (Option Value)} {oc47 kV47 dc47 pm47 cd47 ct47 : Value} {f47 : Addr}
    {w0c : Addr}
    {tk0 : Tok}
    {tk1 : Tok}
    {tk2 : Tok}
    {tk3 : Tok}
    {tk4 : Tok}
    {tk5 : Tok}
    {tk6 : Tok}
    {x0c : Addr}
    (a0 : PySem.W.nsIn K mainGlobals "_wall" = some (some (.ref f0)))
    (l0 : K.lookup f0 = some ⟨oc0, od0, .func (PySem.W.fnOf "_wall" "_wall" (defArgs s__wall) (defBody s__wall) (defScope s__wall) .none kV0 dc0 pm0 an0 cd0 ct0), sl0⟩)
    (c0 : PySem.W.codeIn K cd0 "_wall" = true) (k0 : PySem.W.keepIn K (.ref f0) = true)
    (a1 : PySem.W.nsIn K mainGlobals "is_integer" = some (some (.ref f1)))
    (l1 : K.lookup f1 = some ⟨oc1, od1, .func (PySem.W.fnOf "is_integer" "is_integer" (defArgs s_is_integer) (defBody s_is_integer) (defScope s_is_integer) .none kV1 dc1 pm1 an1 cd1 ct1), sl1⟩)
    (c1 : PySem.W.codeIn K cd1 "is_integer" = true) (k1 : PySem.W.keepIn K (.ref f1) = true)
    (a2 : PySem.W.nsIn K mainGlobals "is_within" = some (some (.ref f2)))
    (l2 : K.lookup f2 = some ⟨oc2, od2, .func (PySem.W.fnOf "is_within" "is_within" (defArgs s_is_within) (defBody s_is_within) (defScope s_is_within) .none kV2 dc2 pm2 an2 cd2 ct2), sl2⟩)
    (c2 : PySem.W.codeIn K cd2 "is_within" = true) (k2 : PySem.W.keepIn K (.ref f2) = true)
    (a3 : PySem.W.nsIn K mainGlobals "is_short_integer" = some (some (.ref f3)))
    (l3 : K.lookup f3 = some ⟨oc3, od3, .func (PySem.W.fnOf "is_short_integer" "is_short_integer" (defArgs s_is_short_integer) (defBody s_is_short_integer) (defScope s_is_short_integer) .none kV3 dc3 pm3 an3 cd3 ct3), sl3⟩)
    (c3 : PySem.W.codeIn K cd3 "is_short_integer" = true) (k3 : PySem.W.keepIn K (.ref f3) = true)
    (a4 : PySem.W.nsIn K mainGlobals "check_number" = some (some (.ref f4)))
    (l4 : K.lookup f4 = some ⟨oc4, od4, .func (PySem.W.fnOf "check_number" "check_number" (defArgs s_check_number) (defBody s_check_number) (defScope s_check_number) .none kV4 dc4 pm4 an4 cd4 ct4), sl4⟩)
    (c4 : PySem.W.codeIn K cd4 "check_number" = true) (k4 : PySem.W.keepIn K (.ref f4) = true)
    (a5 : PySem.W.nsIn K mainGlobals "checked_sizes" = some (some (.ref f5)))
    (l5 : K.lookup f5 = some ⟨oc5, od5, .func (PySem.W.fnOf "checked_sizes" "checked_sizes" (defArgs s_checked_sizes) (defBody s_checked_sizes) (defScope s_checked_sizes) .none kV5 dc5 pm5 an5 cd5 ct5), sl5⟩)
    (c5 : PySem.W.codeIn K cd5 "checked_sizes" = true) (k5 : PySem.W.keepIn K (.ref f5) = true)
    (a6 : PySem.W.nsIn K mainGlobals "steps_of_leaf" = some (some (.ref f6)))
    (l6 : K.lookup f6 = some ⟨oc6, od6, .func (PySem.W.fnOf "steps_of_leaf" "steps_of_leaf" (defArgs s_steps_of_leaf) (defBody s_steps_of_leaf) (defScope s_steps_of_leaf) .none kV6 dc6 pm6 an6 cd6 ct6), sl6⟩)
    (c6 : PySem.W.codeIn K cd6 "steps_of_leaf" = true) (k6 : PySem.W.keepIn K (.ref f6) = true)
    (a7 : PySem.W.nsIn K mainGlobals "sizes_of" = some (some (.ref f7)))
    (l7 : K.lookup f7 = some ⟨oc7, od7, .func (PySem.W.fnOf "sizes_of" "sizes_of" (defArgs s_sizes_of) (defBody s_sizes_of) (defScope s_sizes_of) .none kV7 dc7 pm7 an7 cd7 ct7), sl7⟩)
    (c7 : PySem.W.codeIn K cd7 "sizes_of" = true) (k7 : PySem.W.keepIn K (.ref f7) = true)
    (a8 : PySem.W.nsIn K mainGlobals "_sizes" = some (some (.ref f8)))
    (l8 : K.lookup f8 = some ⟨oc8, od8, .func (PySem.W.fnOf "_sizes" "_sizes" (defArgs s__sizes) (defBody s__sizes) (defScope s__sizes) .none kV8 dc8 pm8 an8 cd8 ct8), sl8⟩)
    (c8 : PySem.W.codeIn K cd8 "_sizes" = true) (k8 : PySem.W.keepIn K (.ref f8) = true)
    (a9 : PySem.W.nsIn K mainGlobals "_sizes_of_parts" = some (some (.ref f9)))
    (l9 : K.lookup f9 = some ⟨oc9, od9, .func (PySem.W.fnOf "_sizes_of_parts" "_sizes_of_parts" (defArgs s__sizes_of_parts) (defBody s__sizes_of_parts) (defScope s__sizes_of_parts) .none kV9 dc9 pm9 an9 cd9 ct9), sl9⟩)
    (c9 : PySem.W.codeIn K cd9 "_sizes_of_parts" = true) (k9 : PySem.W.keepIn K (.ref f9) = true)
    (a10 : PySem.W.nsIn K mainGlobals "_sizes_of_rounds" = some (some (.ref f10)))
    (l10 : K.lookup f10 = some ⟨oc10, od10, .func (PySem.W.fnOf "_sizes_of_rounds" "_sizes_of_rounds" (defArgs s__sizes_of_rounds) (defBody s__sizes_of_rounds) (defScope s__sizes_of_rounds) .none kV10 dc10 pm10 an10 cd10 ct10), sl10⟩)
    (c10 : PySem.W.codeIn K cd10 "_sizes_of_rounds" = true) (k10 : PySem.W.keepIn K (.ref f10) = true)
    (a11 : PySem.W.nsIn K mainGlobals "_within_count" = some (some (.ref f11)))
    (l11 : K.lookup f11 = some ⟨oc11, od11, .func (PySem.W.fnOf "_within_count" "_within_count" (defArgs s__within_count) (defBody s__within_count) (defScope s__within_count) .none kV11 dc11 pm11 an11 cd11 ct11), sl11⟩)
    (c11 : PySem.W.codeIn K cd11 "_within_count" = true) (k11 : PySem.W.keepIn K (.ref f11) = true)
    (a12 : PySem.W.nsIn K mainGlobals "is_address" = some (some (.ref f12)))
    (l12 : K.lookup f12 = some ⟨oc12, od12, .func (PySem.W.fnOf "is_address" "is_address" (defArgs s_is_address) (defBody s_is_address) (defScope s_is_address) .none kV12 dc12 pm12 an12 cd12 ct12), sl12⟩)
    (c12 : PySem.W.codeIn K cd12 "is_address" = true) (k12 : PySem.W.keepIn K (.ref f12) = true)
    (a13 : PySem.W.nsIn K mainGlobals "precedes" = some (some (.ref f13)))
    (l13 : K.lookup f13 = some ⟨oc13, od13, .func (PySem.W.fnOf "precedes" "precedes" (defArgs s_precedes) (defBody s_precedes) (defScope s_precedes) .none kV13 dc13 pm13 an13 cd13 ct13), sl13⟩)
    (c13 : PySem.W.codeIn K cd13 "precedes" = true) (k13 : PySem.W.keepIn K (.ref f13) = true)
    (a14 : PySem.W.nsIn K mainGlobals "check_small" = some (some (.ref f14)))
    (l14 : K.lookup f14 = some ⟨oc14, od14, .func (PySem.W.fnOf "check_small" "check_small" (defArgs s_check_small) (defBody s_check_small) (defScope s_check_small) .none kV14 dc14 pm14 an14 cd14 ct14), sl14⟩)
    (c14 : PySem.W.codeIn K cd14 "check_small" = true) (k14 : PySem.W.keepIn K (.ref f14) = true)
    (a15 : PySem.W.nsIn K mainGlobals "is_index_tuple" = some (some (.ref f15)))
    (l15 : K.lookup f15 = some ⟨oc15, od15, .func (PySem.W.fnOf "is_index_tuple" "is_index_tuple" (defArgs s_is_index_tuple) (defBody s_is_index_tuple) (defScope s_is_index_tuple) .none kV15 dc15 pm15 an15 cd15 ct15), sl15⟩)
    (c15 : PySem.W.codeIn K cd15 "is_index_tuple" = true) (k15 : PySem.W.keepIn K (.ref f15) = true)
    (a16 : PySem.W.nsIn K mainGlobals "find_step" = some (some (.ref f16)))
    (l16 : K.lookup f16 = some ⟨oc16, od16, .func (PySem.W.fnOf "find_step" "find_step" (defArgs s_find_step) (defBody s_find_step) (defScope s_find_step) .none kV16 dc16 pm16 an16 cd16 ct16), sl16⟩)
    (c16 : PySem.W.codeIn K cd16 "find_step" = true) (k16 : PySem.W.keepIn K (.ref f16) = true)
    (a17 : PySem.W.nsIn K mainGlobals "_checked_step" = some (some (.ref f17)))
    (l17 : K.lookup f17 = some ⟨oc17, od17, .func (PySem.W.fnOf "_checked_step" "_checked_step" (defArgs s__checked_step) (defBody s__checked_step) (defScope s__checked_step) .none kV17 dc17 pm17 an17 cd17 ct17), sl17⟩)
    (c17 : PySem.W.codeIn K cd17 "_checked_step" = true) (k17 : PySem.W.keepIn K (.ref f17) = true)
    (a18 : PySem.W.nsIn K mainGlobals "_part_at" = some (some (.ref f18)))
    (l18 : K.lookup f18 = some ⟨oc18, od18, .func (PySem.W.fnOf "_part_at" "_part_at" (defArgs s__part_at) (defBody s__part_at) (defScope s__part_at) .none kV18 dc18 pm18 an18 cd18 ct18), sl18⟩)
    (c18 : PySem.W.codeIn K cd18 "_part_at" = true) (k18 : PySem.W.keepIn K (.ref f18) = true)
    (a19 : PySem.W.nsIn K mainGlobals "step_rows" = some (some (.ref f19)))
    (l19 : K.lookup f19 = some ⟨oc19, od19, .func (PySem.W.fnOf "step_rows" "step_rows" (defArgs s_step_rows) (defBody s_step_rows) (defScope s_step_rows) .none kV19 dc19 pm19 an19 cd19 ct19), sl19⟩)
    (c19 : PySem.W.codeIn K cd19 "step_rows" = true) (k19 : PySem.W.keepIn K (.ref f19) = true)
    (a20 : PySem.W.nsIn K mainGlobals "_rows_by_index" = some (some (.ref f20)))
    (l20 : K.lookup f20 = some ⟨oc20, od20, .func (PySem.W.fnOf "_rows_by_index" "_rows_by_index" (defArgs s__rows_by_index) (defBody s__rows_by_index) (defScope s__rows_by_index) .none kV20 dc20 pm20 an20 cd20 ct20), sl20⟩)
    (c20 : PySem.W.codeIn K cd20 "_rows_by_index" = true) (k20 : PySem.W.keepIn K (.ref f20) = true)
    (a21 : PySem.W.nsIn K mainGlobals "_row_within" = some (some (.ref f21)))
    (l21 : K.lookup f21 = some ⟨oc21, od21, .func (PySem.W.fnOf "_row_within" "_row_within" (defArgs s__row_within) (defBody s__row_within) (defScope s__row_within) .none kV21 dc21 pm21 an21 cd21 ct21), sl21⟩)
    (c21 : PySem.W.codeIn K cd21 "_row_within" = true) (k21 : PySem.W.keepIn K (.ref f21) = true)
    (a22 : PySem.W.nsIn K mainGlobals "choices" = some (some (.ref f22)))
    (l22 : K.lookup f22 = some ⟨oc22, od22, .func (PySem.W.fnOf "choices" "choices" (defArgs s_choices) (defBody s_choices) (defScope s_choices) .none kV22 dc22 pm22 an22 cd22 ct22), sl22⟩)
    (c22 : PySem.W.codeIn K cd22 "choices" = true) (k22 : PySem.W.keepIn K (.ref f22) = true)
    (a23 : PySem.W.nsIn K mainGlobals "is_choice" = some (some (.ref f23)))
    (l23 : K.lookup f23 = some ⟨oc23, od23, .func (PySem.W.fnOf "is_choice" "is_choice" (defArgs s_is_choice) (defBody s_is_choice) (defScope s_is_choice) .none kV23 dc23 pm23 an23 cd23 ct23), sl23⟩)
    (c23 : PySem.W.codeIn K cd23 "is_choice" = true) (k23 : PySem.W.keepIn K (.ref f23) = true)
    (a24 : PySem.W.nsIn K mainGlobals "_choices" = some (some (.ref f24)))
    (l24 : K.lookup f24 = some ⟨oc24, od24, .func (PySem.W.fnOf "_choices" "_choices" (defArgs s__choices) (defBody s__choices) (defScope s__choices) .none kV24 dc24 pm24 an24 cd24 ct24), sl24⟩)
    (c24 : PySem.W.codeIn K cd24 "_choices" = true) (k24 : PySem.W.keepIn K (.ref f24) = true)
    (a25 : PySem.W.nsIn K mainGlobals "_is_choice" = some (some (.ref f25)))
    (l25 : K.lookup f25 = some ⟨oc25, od25, .func (PySem.W.fnOf "_is_choice" "_is_choice" (defArgs s__is_choice) (defBody s__is_choice) (defScope s__is_choice) .none kV25 dc25 pm25 an25 cd25 ct25), sl25⟩)
    (c25 : PySem.W.codeIn K cd25 "_is_choice" = true) (k25 : PySem.W.keepIn K (.ref f25) = true)
    (a26 : PySem.W.nsIn K mainGlobals "available" = some (some (.ref f26)))
    (l26 : K.lookup f26 = some ⟨oc26, od26, .func (PySem.W.fnOf "available" "available" (defArgs s_available) (defBody s_available) (defScope s_available) .none (.ref kD26) dc26 pm26 an26 cd26 ct26), sl26⟩)
    (kn26 : PySem.W.nsIn K kD26 "most" = some (some .none))
    (c26 : PySem.W.codeIn K cd26 "available" = true) (k26 : PySem.W.keepIn K (.ref f26) = true)
    (a27 : PySem.W.nsIn K mainGlobals "checked_state" = some (some (.ref f27)))
    (l27 : K.lookup f27 = some ⟨oc27, od27, .func (PySem.W.fnOf "checked_state" "checked_state" (defArgs s_checked_state) (defBody s_checked_state) (defScope s_checked_state) .none kV27 dc27 pm27 an27 cd27 ct27), sl27⟩)
    (c27 : PySem.W.codeIn K cd27 "checked_state" = true) (k27 : PySem.W.keepIn K (.ref f27) = true)
    (a28 : PySem.W.nsIn K mainGlobals "_find_state" = some (some (.ref f28)))
    (l28 : K.lookup f28 = some ⟨oc28, od28, .func (PySem.W.fnOf "_find_state" "_find_state" (defArgs s__find_state) (defBody s__find_state) (defScope s__find_state) .none kV28 dc28 pm28 an28 cd28 ct28), sl28⟩)
    (c28 : PySem.W.codeIn K cd28 "_find_state" = true) (k28 : PySem.W.keepIn K (.ref f28) = true)
    (a29 : PySem.W.nsIn K mainGlobals "_is_ascending" = some (some (.ref f29)))
    (l29 : K.lookup f29 = some ⟨oc29, od29, .func (PySem.W.fnOf "_is_ascending" "_is_ascending" (defArgs s__is_ascending) (defBody s__is_ascending) (defScope s__is_ascending) .none kV29 dc29 pm29 an29 cd29 ct29), sl29⟩)
    (c29 : PySem.W.codeIn K cd29 "_is_ascending" = true) (k29 : PySem.W.keepIn K (.ref f29) = true)
    (a30 : PySem.W.nsIn K mainGlobals "_law_source" = some (some (.ref f30)))
    (l30 : K.lookup f30 = some ⟨oc30, od30, .func (PySem.W.fnOf "_law_source" "_law_source" (defArgs s__law_source) (defBody s__law_source) (defScope s__law_source) .none kV30 dc30 pm30 an30 cd30 ct30), sl30⟩)
    (c30 : PySem.W.codeIn K cd30 "_law_source" = true) (k30 : PySem.W.keepIn K (.ref f30) = true)
    (a31 : PySem.W.nsIn K mainGlobals "_law_draw" = some (some (.ref f31)))
    (l31 : K.lookup f31 = some ⟨oc31, od31, .func (PySem.W.fnOf "_law_draw" "_law_draw" (defArgs s__law_draw) (defBody s__law_draw) (defScope s__law_draw) .none kV31 dc31 pm31 an31 cd31 ct31), sl31⟩)
    (c31 : PySem.W.codeIn K cd31 "_law_draw" = true) (k31 : PySem.W.keepIn K (.ref f31) = true)
    (a32 : PySem.W.nsIn K mainGlobals "_law_great" = some (some (.ref f32)))
    (l32 : K.lookup f32 = some ⟨oc32, od32, .func (PySem.W.fnOf "_law_great" "_law_great" (defArgs s__law_great) (defBody s__law_great) (defScope s__law_great) .none kV32 dc32 pm32 an32 cd32 ct32), sl32⟩)
    (c32 : PySem.W.codeIn K cd32 "_law_great" = true) (k32 : PySem.W.keepIn K (.ref f32) = true)
    (a33 : PySem.W.nsIn K mainGlobals "_law_step" = some (some (.ref f33)))
    (l33 : K.lookup f33 = some ⟨oc33, od33, .func (PySem.W.fnOf "_law_step" "_law_step" (defArgs s__law_step) (defBody s__law_step) (defScope s__law_step) .none kV33 dc33 pm33 an33 cd33 ct33), sl33⟩)
    (c33 : PySem.W.codeIn K cd33 "_law_step" = true) (k33 : PySem.W.keepIn K (.ref f33) = true)
    (a34 : PySem.W.nsIn K mainGlobals "_law_empty" = some (some (.ref f34)))
    (l34 : K.lookup f34 = some ⟨oc34, od34, .func (PySem.W.fnOf "_law_empty" "_law_empty" (defArgs s__law_empty) (defBody s__law_empty) (defScope s__law_empty) .none kV34 dc34 pm34 an34 cd34 ct34), sl34⟩)
    (c34 : PySem.W.codeIn K cd34 "_law_empty" = true) (k34 : PySem.W.keepIn K (.ref f34) = true)
    (a35 : PySem.W.nsIn K mainGlobals "_law_job" = some (some (.ref f35)))
    (l35 : K.lookup f35 = some ⟨oc35, od35, .func (PySem.W.fnOf "_law_job" "_law_job" (defArgs s__law_job) (defBody s__law_job) (defScope s__law_job) .none kV35 dc35 pm35 an35 cd35 ct35), sl35⟩)
    (c35 : PySem.W.codeIn K cd35 "_law_job" = true) (k35 : PySem.W.keepIn K (.ref f35) = true)
    (a36 : PySem.W.nsIn K mainGlobals "_law_great_job" = some (some (.ref f36)))
    (l36 : K.lookup f36 = some ⟨oc36, od36, .func (PySem.W.fnOf "_law_great_job" "_law_great_job" (defArgs s__law_great_job) (defBody s__law_great_job) (defScope s__law_great_job) .none kV36 dc36 pm36 an36 cd36 ct36), sl36⟩)
    (c36 : PySem.W.codeIn K cd36 "_law_great_job" = true) (k36 : PySem.W.keepIn K (.ref f36) = true)
    (a37 : PySem.W.nsIn K mainGlobals "_law_odd" = some (some (.ref f37)))
    (l37 : K.lookup f37 = some ⟨oc37, od37, .func (PySem.W.fnOf "_law_odd" "_law_odd" (defArgs s__law_odd) (defBody s__law_odd) (defScope s__law_odd) .none kV37 dc37 pm37 an37 cd37 ct37), sl37⟩)
    (c37 : PySem.W.codeIn K cd37 "_law_odd" = true) (k37 : PySem.W.keepIn K (.ref f37) = true)
    (a38 : PySem.W.nsIn K mainGlobals "_law_rows" = some (some (.ref f38)))
    (l38 : K.lookup f38 = some ⟨oc38, od38, .func (PySem.W.fnOf "_law_rows" "_law_rows" (defArgs s__law_rows) (defBody s__law_rows) (defScope s__law_rows) .none kV38 dc38 pm38 an38 cd38 ct38), sl38⟩)
    (c38 : PySem.W.codeIn K cd38 "_law_rows" = true) (k38 : PySem.W.keepIn K (.ref f38) = true)
    (a39 : PySem.W.nsIn K mainGlobals "_law_firsts" = some (some (.ref f39)))
    (l39 : K.lookup f39 = some ⟨oc39, od39, .func (PySem.W.fnOf "_law_firsts" "_law_firsts" (defArgs s__law_firsts) (defBody s__law_firsts) (defScope s__law_firsts) .none kV39 dc39 pm39 an39 cd39 ct39), sl39⟩)
    (c39 : PySem.W.codeIn K cd39 "_law_firsts" = true) (k39 : PySem.W.keepIn K (.ref f39) = true)
    (a40 : PySem.W.nsIn K mainGlobals "_law_small_right" = some (some (.ref f40)))
    (l40 : K.lookup f40 = some ⟨oc40, od40, .func (PySem.W.fnOf "_law_small_right" "_law_small_right" (defArgs s__law_small_right) (defBody s__law_small_right) (defScope s__law_small_right) .none kV40 dc40 pm40 an40 cd40 ct40), sl40⟩)
    (c40 : PySem.W.codeIn K cd40 "_law_small_right" = true) (k40 : PySem.W.keepIn K (.ref f40) = true)
    (a41 : PySem.W.nsIn K mainGlobals "_law_great_right" = some (some (.ref f41)))
    (l41 : K.lookup f41 = some ⟨oc41, od41, .func (PySem.W.fnOf "_law_great_right" "_law_great_right" (defArgs s__law_great_right) (defBody s__law_great_right) (defScope s__law_great_right) .none kV41 dc41 pm41 an41 cd41 ct41), sl41⟩)
    (c41 : PySem.W.codeIn K cd41 "_law_great_right" = true) (k41 : PySem.W.keepIn K (.ref f41) = true)
    (a47 : PySem.W.nsIn K mainGlobals "law" = some (some (.ref f47)))
    (l47 : K.lookup f47 = some ⟨oc47, od47, .func (PySem.W.fnOf "law" "law" (defArgs s_law) (defBody s_law) (defScope s_law) .none kV47 dc47 pm47 an47 cd47 ct47), sl47⟩)
    (c47 : PySem.W.codeIn K cd47 "law" = true) (k47 : PySem.W.keepIn K (.ref f47) = true)
    (w0g : PySem.W.nsIn K mainGlobals "DoneSteps" = some (some (.ref w0c))) (w0p : PySem.W.plainGet K w0c Str.empty = true) (w0d : PySem.W.hasDictIn K w0c = true) (w0o : PySem.W.plainOver K w0c = true) (w0s : PySem.W.findIn K (.ref w0c) "__setattr__" = some (some (.builtin "object.__setattr__"))) (w0m : PySem.W.makesIn K w0c = true) (w0k : PySem.W.keepIn K (.ref w0c) = true)
    (w0n0 : PySem.W.findIn K (.ref w0c) "rows" = some none)
    (w0n1 : PySem.W.findIn K (.ref w0c) "done" = some none)
    (w0n2 : PySem.W.findIn K (.ref w0c) "below" = some none)
    (w0n3 : PySem.W.findIn K (.ref w0c) "usages" = some none)
    (a42 : PySem.W.findIn K (.ref w0c) "__init__" = some (some (.ref f42))) (i42 : PySem.W.isFn K (.ref f42) = true)
    (l42 : K.lookup f42 = some ⟨oc42, od42, .func (PySem.W.fnOf "__init__" "DoneSteps.__init__" (defArgs s_DoneSteps_init) (defBody s_DoneSteps_init) (defScope s_DoneSteps_init) .none kV42 dc42 pm42 an42 cd42 ct42), sl42⟩)
    (c42 : PySem.W.codeIn K cd42 "DoneSteps.__init__" = true) (k42 : PySem.W.keepIn K (.ref f42) = true)
    (a43 : PySem.W.findIn K (.ref w0c) "may_do" = some (some (.ref f43))) (i43 : PySem.W.isFn K (.ref f43) = true)
    (l43 : K.lookup f43 = some ⟨oc43, od43, .func (PySem.W.fnOf "may_do" "DoneSteps.may_do" (defArgs s_DoneSteps_may_do) (defBody s_DoneSteps_may_do) (defScope s_DoneSteps_may_do) .none kV43 dc43 pm43 an43 cd43 ct43), sl43⟩)
    (c43 : PySem.W.codeIn K cd43 "DoneSteps.may_do" = true) (k43 : PySem.W.keepIn K (.ref f43) = true)
    (a44 : PySem.W.findIn K (.ref w0c) "do_step" = some (some (.ref f44))) (i44 : PySem.W.isFn K (.ref f44) = true)
    (l44 : K.lookup f44 = some ⟨oc44, od44, .func (PySem.W.fnOf "do_step" "DoneSteps.do_step" (defArgs s_DoneSteps_do_step) (defBody s_DoneSteps_do_step) (defScope s_DoneSteps_do_step) .none kV44 dc44 pm44 an44 cd44 ct44), sl44⟩)
    (c44 : PySem.W.codeIn K cd44 "DoneSteps.do_step" = true) (k44 : PySem.W.keepIn K (.ref f44) = true)
    (a45 : PySem.W.findIn K (.ref w0c) "do_all" = some (some (.ref f45))) (i45 : PySem.W.isFn K (.ref f45) = true)
    (l45 : K.lookup f45 = some ⟨oc45, od45, .func (PySem.W.fnOf "do_all" "DoneSteps.do_all" (defArgs s_DoneSteps_do_all) (defBody s_DoneSteps_do_all) (defScope s_DoneSteps_do_all) .none kV45 dc45 pm45 an45 cd45 ct45), sl45⟩)
    (c45 : PySem.W.codeIn K cd45 "DoneSteps.do_all" = true) (k45 : PySem.W.keepIn K (.ref f45) = true)
    (a46 : PySem.W.findIn K (.ref w0c) "is_complete" = some (some (.ref f46))) (i46 : PySem.W.isFn K (.ref f46) = true)
    (l46 : K.lookup f46 = some ⟨oc46, od46, .func (PySem.W.fnOf "is_complete" "DoneSteps.is_complete" (defArgs s_DoneSteps_is_complete) (defBody s_DoneSteps_is_complete) (defScope s_DoneSteps_is_complete) .none kV46 dc46 pm46 an46 cd46 ct46), sl46⟩)
    (c46 : PySem.W.codeIn K cd46 "DoneSteps.is_complete" = true) (k46 : PySem.W.keepIn K (.ref f46) = true)
    (gc0 : PySem.W.nsIn K mainGlobals "NUMBER_END" = some (some (.int 10000000000000000000000000000000000000000000000000000000000000 tk0)))
    (gc1 : PySem.W.nsIn K mainGlobals "MAX_STEP" = some (some (.int 1000000000000000000000000000000 tk1)))
    (gc2 : PySem.W.nsIn K mainGlobals "MAX_COUNT" = some (some (.int 1000000000000000000000000000000 tk2)))
    (gc3 : PySem.W.nsIn K mainGlobals "MAX_PARTS" = some (some (.int 400 tk3)))
    (gc4 : PySem.W.nsIn K mainGlobals "MAX_NODES" = some (some (.int 400 tk4)))
    (gc5 : PySem.W.nsIn K mainGlobals "MAX_DEPTH" = some (some (.int 13 tk5)))
    (gc6 : PySem.W.nsIn K mainGlobals "MAX_SMALL" = some (some (.int 400 tk6)))
    (x0g : PySem.W.nsIn K mainGlobals "InvalidState" = some (some (.ref x0c))) (x0x : PySem.W.excIn K x0c [.type "ValueError", .type "Exception", .type "BaseException", .type "object"] "ValueError.__new__" = true) (x0k : PySem.W.keepIn K (.ref x0c) = true) (x0b : PySem.W.subIn K (.ref x0c) (.type "BaseException") = some true) (x0t : PySem.W.typeIn K (.ref x0c) = some (.type "type")) (x0i : PySem.W.isClsIn K x0c = true)
    (z0 : PySem.W.nsIn K mainGlobals "abs" = some none)
    (z1 : PySem.W.nsIn K mainGlobals "all" = some none)
    (z2 : PySem.W.nsIn K mainGlobals "bool" = some none)
    (z3 : PySem.W.nsIn K mainGlobals "enumerate" = some none)
    (z4 : PySem.W.nsIn K mainGlobals "int" = some none)
    (z5 : PySem.W.nsIn K mainGlobals "isinstance" = some none)
    (z6 : PySem.W.nsIn K mainGlobals "len" = some none)
    (z7 : PySem.W.nsIn K mainGlobals "list" = some none)
    (z8 : PySem.W.nsIn K mainGlobals "max" = some none)
    (z9 : PySem.W.nsIn K mainGlobals "min" = some none)
    (z10 : PySem.W.nsIn K mainGlobals "range" = some none)
    (z11 : PySem.W.nsIn K mainGlobals "repr" = some none)
    (z12 : PySem.W.nsIn K mainGlobals "set" = some none)
    (z13 : PySem.W.nsIn K mainGlobals "sorted" = some none)
    (z14 : PySem.W.nsIn K mainGlobals "tuple" = some none)
    (z15 : PySem.W.nsIn K mainGlobals "zip" = some none) :
    ∃ fd : FuncData, (∀ (s : Shared) (v : Value), BindsTo s fd ⟨[v], []⟩ [("_law_script", v)]) ∧ ∀ base : Heap, K.In base → base.Ns mainGlobals mg → FnG l.prog w K mg base CX0 60 fa fd ["_law_script"] (spLaw K) := by
  have e := hfa.symm.trans (PySem.W.mg_of X G a47)
  cases e
  have T : Txt K mg := by
    have F0 := fun_mk (st := s__wall) l0 c0 k0
    have F1 := fun_mk (st := s_is_integer) l1 c1 k1
    have F2 := fun_mk (st := s_is_within) l2 c2 k2
    have F3 := fun_mk (st := s_is_short_integer) l3 c3 k3
    have F4 := fun_mk (st := s_check_number) l4 c4 k4
    have F5 := fun_mk (st := s_checked_sizes) l5 c5 k5
    have F6 := fun_mk (st := s_steps_of_leaf) l6 c6 k6
    have F7 := fun_mk (st := s_sizes_of) l7 c7 k7
    have F8 := fun_mk (st := s__sizes) l8 c8 k8
    have F9 := fun_mk (st := s__sizes_of_parts) l9 c9 k9
    have F10 := fun_mk (st := s__sizes_of_rounds) l10 c10 k10
    have F11 := fun_mk (st := s__within_count) l11 c11 k11
    have F12 := fun_mk (st := s_is_address) l12 c12 k12
    have F13 := fun_mk (st := s_precedes) l13 c13 k13
    have F14 := fun_mk (st := s_check_small) l14 c14 k14
    have F15 := fun_mk (st := s_is_index_tuple) l15 c15 k15
    have F16 := fun_mk (st := s_find_step) l16 c16 k16
    have F17 := fun_mk (st := s__checked_step) l17 c17 k17
    have F18 := fun_mk (st := s__part_at) l18 c18 k18
    have F19 := fun_mk (st := s_step_rows) l19 c19 k19
    have F20 := fun_mk (st := s__rows_by_index) l20 c20 k20
    have F21 := fun_mk (st := s__row_within) l21 c21 k21
    have F22 := fun_mk (st := s_choices) l22 c22 k22
    have F23 := fun_mk (st := s_is_choice) l23 c23 k23
    have F24 := fun_mk (st := s__choices) l24 c24 k24
    have F25 := fun_mk (st := s__is_choice) l25 c25 k25
    have F26 := fun_mk (st := s_available) l26 c26 k26
    have F27 := fun_mk (st := s_checked_state) l27 c27 k27
    have F28 := fun_mk (st := s__find_state) l28 c28 k28
    have F29 := fun_mk (st := s__is_ascending) l29 c29 k29
    have F30 := fun_mk (st := s__law_source) l30 c30 k30
    have F31 := fun_mk (st := s__law_draw) l31 c31 k31
    have F32 := fun_mk (st := s__law_great) l32 c32 k32
    have F33 := fun_mk (st := s__law_step) l33 c33 k33
    have F34 := fun_mk (st := s__law_empty) l34 c34 k34
    have F35 := fun_mk (st := s__law_job) l35 c35 k35
    have F36 := fun_mk (st := s__law_great_job) l36 c36 k36
    have F37 := fun_mk (st := s__law_odd) l37 c37 k37
    have F38 := fun_mk (st := s__law_rows) l38 c38 k38
    have F39 := fun_mk (st := s__law_firsts) l39 c39 k39
    have F40 := fun_mk (st := s__law_small_right) l40 c40 k40
    have F41 := fun_mk (st := s__law_great_right) l41 c41 k41
    have F42 := fun_mk (st := s_DoneSteps_init) l42 c42 k42
    have F43 := fun_mk (st := s_DoneSteps_may_do) l43 c43 k43
    have F44 := fun_mk (st := s_DoneSteps_do_step) l44 c44 k44
    have F45 := fun_mk (st := s_DoneSteps_do_all) l45 c45 k45
    have F46 := fun_mk (st := s_DoneSteps_is_complete) l46 c46 k46
    have B0 := F0.binds (ps := ["k"]) fun _ _ _ _ _ _ us hl => match us, hl with | [_], _ => rfl
    have B1 := F1.binds (ps := ["value"]) fun _ _ _ _ _ _ us hl => match us, hl with | [_], _ => rfl
    have B2 := F2.binds (ps := ["value", "least", "greatest"]) fun _ _ _ _ _ _ us hl => match us, hl with | [_, _, _], _ => rfl
    have B3 := F3.binds (ps := ["value"]) fun _ _ _ _ _ _ us hl => match us, hl with | [_], _ => rfl
    have B4 := F4.binds (ps := ["value"]) fun _ _ _ _ _ _ us hl => match us, hl with | [_], _ => rfl
    have B5 := F5.binds (ps := ["job"]) fun _ _ _ _ _ _ us hl => match us, hl with | [_], _ => rfl
    have B6 := F6.binds (ps := ["value"]) fun _ _ _ _ _ _ us hl => match us, hl with | [_], _ => rfl
    have B7 := F7.binds (ps := ["value", "leaf_steps"]) fun _ _ _ _ _ _ us hl => match us, hl with | [_, _], _ => rfl
    have B8 := F8.binds (ps := ["value", "leaf_steps", "room", "levels"]) fun _ _ _ _ _ _ us hl => match us, hl with | [_, _, _, _], _ => rfl
    have B9 := F9.binds (ps := ["parts", "leaf_steps", "room", "levels"]) fun _ _ _ _ _ _ us hl => match us, hl with | [_, _, _, _], _ => rfl
    have B10 := F10.binds (ps := ["n", "inner", "leaf_steps", "room", "levels"]) fun _ _ _ _ _ _ us hl => match us, hl with | [_, _, _, _, _], _ => rfl
    have B11 := F11.binds (ps := ["nodes", "steps"]) fun _ _ _ _ _ _ us hl => match us, hl with | [_, _], _ => rfl
    have B12 := F12.binds (ps := ["job", "value"]) fun _ _ _ _ _ _ us hl => match us, hl with | [_, _], _ => rfl
    have B13 := F13.binds (ps := ["job", "first", "second"]) fun _ _ _ _ _ _ us hl => match us, hl with | [_, _, _], _ => rfl
    have B14 := F14.binds (ps := ["job"]) fun _ _ _ _ _ _ us hl => match us, hl with | [_], _ => rfl
    have B15 := F15.binds (ps := ["value"]) fun _ _ _ _ _ _ us hl => match us, hl with | [_], _ => rfl
    have B16 := F16.binds (ps := ["job", "value"]) fun _ _ _ _ _ _ us hl => match us, hl with | [_, _], _ => rfl
    have B17 := F17.binds (ps := ["job", "address"]) fun _ _ _ _ _ _ us hl => match us, hl with | [_, _], _ => rfl
    have B18 := F18.binds (ps := ["job", "index"]) fun _ _ _ _ _ _ us hl => match us, hl with | [_, _], _ => rfl
    have B19 := F19.binds (ps := ["job"]) fun _ _ _ _ _ _ us hl => match us, hl with | [_], _ => rfl
    have B20 := F20.binds (ps := ["job"]) fun _ _ _ _ _ _ us hl => match us, hl with | [_], _ => rfl
    have B21 := F21.binds (ps := ["index", "outer_gates", "row"]) fun _ _ _ _ _ _ us hl => match us, hl with | [_, _, _], _ => rfl
    have B22 := F22.binds (ps := ["job"]) fun _ _ _ _ _ _ us hl => match us, hl with | [_], _ => rfl
    have B23 := F23.binds (ps := ["job", "value"]) fun _ _ _ _ _ _ us hl => match us, hl with | [_, _], _ => rfl
    have B24 := F24.binds (ps := ["job"]) fun _ _ _ _ _ _ us hl => match us, hl with | [_], _ => rfl
    have B25 := F25.binds (ps := ["job", "value"]) fun _ _ _ _ _ _ us hl => match us, hl with | [_, _], _ => rfl
    have D26 := kw_one (st := s_available) l26 c26 k26 kn26
    have E26 := D26.binds0 (ps := ["job", "state", "most"]) 2 (by simp) rfl (fun D doc pm an cdv ct us ks l1 l2 => match us, ks, l1, l2 with | [u0, u1], [k1], _, _ => ⟨_, _, _, _, _, _, rfl, rfl, rfl⟩)
    have M26 := D26.kbinds0 (ps := ["job", "state", "most"]) 2 ["most"] [] (fun us mv ws => us ++ ws) (by simp) (fun q h => nomatch h) (fun r1 _ r3 => r1.append r3) (fun D doc pm an cdv ct us mv ws l1 l2 l3 => match us, mv, ws, l1, l2, l3 with | [u0, u1], [], [k1], _, _, _ => rfl)
    have B27 := F27.binds (ps := ["job", "state"]) fun _ _ _ _ _ _ us hl => match us, hl with | [_, _], _ => rfl
    have B28 := F28.binds (ps := ["job", "value"]) fun _ _ _ _ _ _ us hl => match us, hl with | [_, _], _ => rfl
    have B29 := F29.binds (ps := ["addresses"]) fun _ _ _ _ _ _ us hl => match us, hl with | [_], _ => rfl
    have B30 := F30.binds (ps := ["_law_script", "_law_at"]) fun _ _ _ _ _ _ us hl => match us, hl with | [_, _], _ => rfl
    have B31 := F31.binds (ps := ["_law_source_here", "_law_many"]) fun _ _ _ _ _ _ us hl => match us, hl with | [_, _], _ => rfl
    have B32 := F32.binds (ps := ["_law_source_here", "_law_many"]) fun _ _ _ _ _ _ us hl => match us, hl with | [_, _], _ => rfl
    have B33 := F33.binds (ps := ["_law_source_here"]) fun _ _ _ _ _ _ us hl => match us, hl with | [_], _ => rfl
    have B34 := F34.binds (ps := ["_law_source_here"]) fun _ _ _ _ _ _ us hl => match us, hl with | [_], _ => rfl
    have B35 := F35.binds (ps := ["_law_source_here", "_law_most", "_law_deep"]) fun _ _ _ _ _ _ us hl => match us, hl with | [_, _, _], _ => rfl
    have B36 := F36.binds (ps := ["_law_source_here", "_law_deep", "_law_counts"]) fun _ _ _ _ _ _ us hl => match us, hl with | [_, _, _], _ => rfl
    have B37 := F37.binds (ps := ["_law_source_here"]) fun _ _ _ _ _ _ us hl => match us, hl with | [_], _ => rfl
    have B38 := F38.binds (ps := ["_law_job_here", "_law_rows_here", "_law_ahead", "_law_address"]) fun _ _ _ _ _ _ us hl => match us, hl with | [_, _, _, _], _ => rfl
    have B39 := F39.binds (ps := ["_law_job_here"]) fun _ _ _ _ _ _ us hl => match us, hl with | [_], _ => rfl
    have B40 := F40.binds (ps := ["_law_source_here"]) fun _ _ _ _ _ _ us hl => match us, hl with | [_], _ => rfl
    have B41 := F41.binds (ps := ["_law_source_here"]) fun _ _ _ _ _ _ us hl => match us, hl with | [_], _ => rfl
    have B42 := F42.binds (ps := ["self", "job"]) fun _ _ _ _ _ _ us hl => match us, hl with | [_, _], _ => rfl
    have B43 := F43.binds (ps := ["self", "address"]) fun _ _ _ _ _ _ us hl => match us, hl with | [_, _], _ => rfl
    have B44 := F44.binds (ps := ["self", "address"]) fun _ _ _ _ _ _ us hl => match us, hl with | [_, _], _ => rfl
    have B45 := F45.binds (ps := ["self", "addresses"]) fun _ _ _ _ _ _ us hl => match us, hl with | [_, _], _ => rfl
    have B46 := F46.binds (ps := ["self"]) fun _ _ _ _ _ _ us hl => match us, hl with | [_], _ => rfl
    exact {
      x__wall := ⟨f0, _, F0, B0, PySem.W.mg_of X G a0⟩,
      x_is_integer := ⟨f1, _, F1, B1, PySem.W.mg_of X G a1⟩,
      x_is_within := ⟨f2, _, F2, B2, PySem.W.mg_of X G a2⟩,
      x_is_short_integer := ⟨f3, _, F3, B3, PySem.W.mg_of X G a3⟩,
      x_check_number := ⟨f4, _, F4, B4, PySem.W.mg_of X G a4⟩,
      x_checked_sizes := ⟨f5, _, F5, B5, PySem.W.mg_of X G a5⟩,
      x_steps_of_leaf := ⟨f6, _, F6, B6, PySem.W.mg_of X G a6⟩,
      x_sizes_of := ⟨f7, _, F7, B7, PySem.W.mg_of X G a7⟩,
      x__sizes := ⟨f8, _, F8, B8, PySem.W.mg_of X G a8⟩,
      x__sizes_of_parts := ⟨f9, _, F9, B9, PySem.W.mg_of X G a9⟩,
      x__sizes_of_rounds := ⟨f10, _, F10, B10, PySem.W.mg_of X G a10⟩,
      x__within_count := ⟨f11, _, F11, B11, PySem.W.mg_of X G a11⟩,
      x_is_address := ⟨f12, _, F12, B12, PySem.W.mg_of X G a12⟩,
      x_precedes := ⟨f13, _, F13, B13, PySem.W.mg_of X G a13⟩,
      x_check_small := ⟨f14, _, F14, B14, PySem.W.mg_of X G a14⟩,
      x_is_index_tuple := ⟨f15, _, F15, B15, PySem.W.mg_of X G a15⟩,
      x_find_step := ⟨f16, _, F16, B16, PySem.W.mg_of X G a16⟩,
      x__checked_step := ⟨f17, _, F17, B17, PySem.W.mg_of X G a17⟩,
      x__part_at := ⟨f18, _, F18, B18, PySem.W.mg_of X G a18⟩,
      x_step_rows := ⟨f19, _, F19, B19, PySem.W.mg_of X G a19⟩,
      x__rows_by_index := ⟨f20, _, F20, B20, PySem.W.mg_of X G a20⟩,
      x__row_within := ⟨f21, _, F21, B21, PySem.W.mg_of X G a21⟩,
      x_choices := ⟨f22, _, F22, B22, PySem.W.mg_of X G a22⟩,
      x_is_choice := ⟨f23, _, F23, B23, PySem.W.mg_of X G a23⟩,
      x__choices := ⟨f24, _, F24, B24, PySem.W.mg_of X G a24⟩,
      x__is_choice := ⟨f25, _, F25, B25, PySem.W.mg_of X G a25⟩,
      f_available := f26, d_available := _, F_available := F26, ds_available := E26.choose, vd_available := E26.choose_spec.1, b_available := E26.choose_spec.2, gn_available := _, kn_available := M26.choose_spec, m_available := PySem.W.mg_of X G a26,
      x_checked_state := ⟨f27, _, F27, B27, PySem.W.mg_of X G a27⟩,
      x__find_state := ⟨f28, _, F28, B28, PySem.W.mg_of X G a28⟩,
      x__is_ascending := ⟨f29, _, F29, B29, PySem.W.mg_of X G a29⟩,
      x__law_source := ⟨f30, _, F30, B30, PySem.W.mg_of X G a30⟩,
      x__law_draw := ⟨f31, _, F31, B31, PySem.W.mg_of X G a31⟩,
      x__law_great := ⟨f32, _, F32, B32, PySem.W.mg_of X G a32⟩,
      x__law_step := ⟨f33, _, F33, B33, PySem.W.mg_of X G a33⟩,
      x__law_empty := ⟨f34, _, F34, B34, PySem.W.mg_of X G a34⟩,
      x__law_job := ⟨f35, _, F35, B35, PySem.W.mg_of X G a35⟩,
      x__law_great_job := ⟨f36, _, F36, B36, PySem.W.mg_of X G a36⟩,
      x__law_odd := ⟨f37, _, F37, B37, PySem.W.mg_of X G a37⟩,
      x__law_rows := ⟨f38, _, F38, B38, PySem.W.mg_of X G a38⟩,
      x__law_firsts := ⟨f39, _, F39, B39, PySem.W.mg_of X G a39⟩,
      x__law_small_right := ⟨f40, _, F40, B40, PySem.W.mg_of X G a40⟩,
      x__law_great_right := ⟨f41, _, F41, B41, PySem.W.mg_of X G a41⟩,
      f_DoneSteps_init := f42, d_DoneSteps_init := _, F_DoneSteps_init := F42, b_DoneSteps_init := B42, mk_DoneSteps := ⟨w0m, a42, i42, w0k⟩,
      f_DoneSteps_may_do := f43, d_DoneSteps_may_do := _, F_DoneSteps_may_do := F43, b_DoneSteps_may_do := B43, mt_DoneSteps_may_do := ⟨a43, i43, k43⟩,
      f_DoneSteps_do_step := f44, d_DoneSteps_do_step := _, F_DoneSteps_do_step := F44, b_DoneSteps_do_step := B44, mt_DoneSteps_do_step := ⟨a44, i44, k44⟩,
      f_DoneSteps_do_all := f45, d_DoneSteps_do_all := _, F_DoneSteps_do_all := F45, b_DoneSteps_do_all := B45, mt_DoneSteps_do_all := ⟨a45, i45, k45⟩,
      f_DoneSteps_is_complete := f46, d_DoneSteps_is_complete := _, F_DoneSteps_is_complete := F46, b_DoneSteps_is_complete := B46, mt_DoneSteps_is_complete := ⟨a46, i46, k46⟩,
      c_DoneSteps := w0c, g_DoneSteps := PySem.W.mg_of X G w0g, cl_DoneSteps := ⟨w0p, w0d, w0o, w0s⟩, na_DoneSteps_rows := w0n0, na_DoneSteps_done := w0n1, na_DoneSteps_below := w0n2, na_DoneSteps_usages := w0n3,
      t_NUMBER_END := tk0, g_NUMBER_END := PySem.W.mg_of X G gc0,
      t_MAX_STEP := tk1, g_MAX_STEP := PySem.W.mg_of X G gc1,
      t_MAX_COUNT := tk2, g_MAX_COUNT := PySem.W.mg_of X G gc2,
      t_MAX_PARTS := tk3, g_MAX_PARTS := PySem.W.mg_of X G gc3,
      t_MAX_NODES := tk4, g_MAX_NODES := PySem.W.mg_of X G gc4,
      t_MAX_DEPTH := tk5, g_MAX_DEPTH := PySem.W.mg_of X G gc5,
      t_MAX_SMALL := tk6, g_MAX_SMALL := PySem.W.mg_of X G gc6,
      c_InvalidState := x0c, g_InvalidState := PySem.W.mg_of X G x0g, x_InvalidState := x0x, k_InvalidState := x0k, bb_InvalidState := x0b, tt_InvalidState := x0t,
      n_abs := PySem.W.mg_none_of X G z0,
      n_all := PySem.W.mg_none_of X G z1,
      n_bool := PySem.W.mg_none_of X G z2,
      n_enumerate := PySem.W.mg_none_of X G z3,
      n_int := PySem.W.mg_none_of X G z4,
      n_isinstance := PySem.W.mg_none_of X G z5,
      n_len := PySem.W.mg_none_of X G z6,
      n_list := PySem.W.mg_none_of X G z7,
      n_max := PySem.W.mg_none_of X G z8,
      n_min := PySem.W.mg_none_of X G z9,
      n_range := PySem.W.mg_none_of X G z10,
      n_repr := PySem.W.mg_none_of X G z11,
      n_set := PySem.W.mg_none_of X G z12,
      n_sorted := PySem.W.mg_none_of X G z13,
      n_tuple := PySem.W.mg_none_of X G z14,
      n_zip := PySem.W.mg_none_of X G z15 }
  exact ⟨PySem.W.fnOf "law" "law" (defArgs s_law) (defBody s_law) (defScope s_law) .none kV47 dc47 pm47 an47 cd47 ct47, fun s v => .of_eq rfl, fun base _ _ => ok_law (fun_mk (st := s_law) l47 c47 k47) T⟩
end Lw

open PySem PySem.W PyProof.Rows
set_option maxRecDepth 100000 in
set_option maxHeartbeats 0 in
theorem PySem.Challenge.cw_roomprofile_k64_choices_told_holds : PySem.Challenge.rw_roomprofile_k64_choices_told.Holds := by
  w_on; o_law
  obtain ⟨K, as, e, h, hf⟩ := Hd.pre (by assumption)
  refine h ?_
  refine Rp.law_end (l := PySem.Challenge.rw_roomprofile_k64_choices_told) (n := 63) (k := 60) (x := "_law_script") (sp := Lw.spLaw) rfl (by decide) rfl ⟨rfl, by decide, by decide⟩ (fun w h Y => PySem.W.kIn_of Y) ?F (fun K H a ns hl hO hS => ⟨a, ns, rfl, hO, hS, hl, fun _ => rfl⟩)
  case F =>
    intro w mg fa h KX G hmg
    refine hf w.params _ ?_
    intro od0 an0 sl0 oc0 kV0 dc0 pm0 cd0 ct0 f0 od1 an1 sl1 oc1 kV1 dc1 pm1 cd1 ct1 f1 od2 an2 sl2 oc2 kV2 dc2 pm2 cd2 ct2 f2 od3 an3 sl3 oc3 kV3 dc3 pm3 cd3 ct3 f3 od4 an4 sl4 oc4 kV4 dc4 pm4 cd4 ct4 f4 od5 an5 sl5 oc5 kV5 dc5 pm5 cd5 ct5 f5 od6 an6 sl6 oc6 kV6 dc6 pm6 cd6 ct6 f6 od7 an7 sl7 oc7 kV7 dc7 pm7 cd7 ct7 f7 od8 an8 sl8 oc8 kV8 dc8 pm8 cd8 ct8 f8 od9 an9 sl9 oc9 kV9 dc9 pm9 cd9 ct9 f9 od10 an10 sl10 oc10 kV10 dc10 pm10 cd10 ct10 f10 od11 an11 sl11 oc11 kV11 dc11 pm11 cd11 ct11 f11 od12 an12 sl12 oc12 kV12 dc12 pm12 cd12 ct12 f12 od13 an13 sl13 oc13 kV13 dc13 pm13 cd13 ct13 f13 od14 an14 sl14 oc14 kV14 dc14 pm14 cd14 ct14 f14 od15 an15 sl15 oc15 kV15 dc15 pm15 cd15 ct15 f15 od16 an16 sl16 oc16 kV16 dc16 pm16 cd16 ct16 f16 od17 an17 sl17 oc17 kV17 dc17 pm17 cd17 ct17 f17 od18 an18 sl18 oc18 kV18 dc18 pm18 cd18 ct18 f18 od19 an19 sl19 oc19 kV19 dc19 pm19 cd19 ct19 f19 od20 an20 sl20 oc20 kV20 dc20 pm20 cd20 ct20 f20 od21 an21 sl21 oc21 kV21 dc21 pm21 cd21 ct21 f21 od22 an22 sl22 oc22 kV22 dc22 pm22 cd22 ct22 f22 od23 an23 sl23 oc23 kV23 dc23 pm23 cd23 ct23 f23 od24 an24 sl24 oc24 kV24 dc24 pm24 cd24 ct24 f24 od25 an25 sl25 oc25 kV25 dc25 pm25 cd25 ct25 f25 od26 an26 sl26 oc26 dc26 pm26 cd26 ct26 f26 kD26 od27 an27 sl27 oc27 kV27 dc27 pm27 cd27 ct27 f27 od28 an28 sl28 oc28 kV28 dc28 pm28 cd28 ct28 f28 od29 an29 sl29 oc29 kV29 dc29 pm29 cd29 ct29 f29 od30 an30 sl30 oc30 kV30 dc30 pm30 cd30 ct30 f30 od31 an31 sl31 oc31 kV31 dc31 pm31 cd31 ct31 f31 od32 an32 sl32 oc32 kV32 dc32 pm32 cd32 ct32 f32 od33 an33 sl33 oc33 kV33 dc33 pm33 cd33 ct33 f33 od34 an34 sl34 oc34 kV34 dc34 pm34 cd34 ct34 f34 od35 an35 sl35 oc35 kV35 dc35 pm35 cd35 ct35 f35 od36 an36 sl36 oc36 kV36 dc36 pm36 cd36 ct36 f36 od37 an37 sl37 oc37 kV37 dc37 pm37 cd37 ct37 f37 od38 an38 sl38 oc38 kV38 dc38 pm38 cd38 ct38 f38 od39 an39 sl39 oc39 kV39 dc39 pm39 cd39 ct39 f39 od40 an40 sl40 oc40 kV40 dc40 pm40 cd40 ct40 f40 od41 an41 sl41 oc41 kV41 dc41 pm41 cd41 ct41 f41 od42 an42 sl42 oc42 kV42 dc42 pm42 cd42 ct42 f42 od43 an43 sl43 oc43 kV43 dc43 pm43 cd43 ct43 f43 od44 an44 sl44 oc44 kV44 dc44 pm44 cd44 ct44 f44 od45 an45 sl45 oc45 kV45 dc45 pm45 cd45 ct45 f45 od46 an46 sl46 oc46 kV46 dc46 pm46 cd46 ct46 f46 od47 an47 sl47 oc47 kV47 dc47 pm47 cd47 ct47 f47 w0c tk0 tk1 tk2 tk3 tk4 tk5 tk6 x0c a0 l0 c0 k0 a1 l1 c1 k1 a2 l2 c2 k2 a3 l3 c3 k3 a4 l4 c4 k4 a5 l5 c5 k5 a6 l6 c6 k6 a7 l7 c7 k7 a8 l8 c8 k8 a9 l9 c9 k9 a10 l10 c10 k10 a11 l11 c11 k11 a12 l12 c12 k12 a13 l13 c13 k13 a14 l14 c14 k14 a15 l15 c15 k15 a16 l16 c16 k16 a17 l17 c17 k17 a18 l18 c18 k18 a19 l19 c19 k19 a20 l20 c20 k20 a21 l21 c21 k21 a22 l22 c22 k22 a23 l23 c23 k23 a24 l24 c24 k24 a25 l25 c25 k25 a26 l26 kn26 c26 k26 a27 l27 c27 k27 a28 l28 c28 k28 a29 l29 c29 k29 a30 l30 c30 k30 a31 l31 c31 k31 a32 l32 c32 k32 a33 l33 c33 k33 a34 l34 c34 k34 a35 l35 c35 k35 a36 l36 c36 k36 a37 l37 c37 k37 a38 l38 c38 k38 a39 l39 c39 k39 a40 l40 c40 k40 a41 l41 c41 k41 a47 l47 c47 k47 w0g w0p w0d w0o w0s w0m w0k w0n0 w0n1 w0n2 w0n3 a42 i42 l42 c42 k42 a43 i43 l43 c43 k43 a44 i44 l44 c44 k44 a45 i45 l45 c45 k45 a46 i46 l46 c46 k46 gc0 gc1 gc2 gc3 gc4 gc5 gc6 x0g x0x x0k x0b x0t x0i z0 z1 z2 z3 z4 z5 z6 z7 z8 z9 z10 z11 z12 z13 z14 z15
    exact Lw.all_mk KX G hmg a0 l0 c0 k0 a1 l1 c1 k1 a2 l2 c2 k2 a3 l3 c3 k3 a4 l4 c4 k4 a5 l5 c5 k5 a6 l6 c6 k6 a7 l7 c7 k7 a8 l8 c8 k8 a9 l9 c9 k9 a10 l10 c10 k10 a11 l11 c11 k11 a12 l12 c12 k12 a13 l13 c13 k13 a14 l14 c14 k14 a15 l15 c15 k15 a16 l16 c16 k16 a17 l17 c17 k17 a18 l18 c18 k18 a19 l19 c19 k19 a20 l20 c20 k20 a21 l21 c21 k21 a22 l22 c22 k22 a23 l23 c23 k23 a24 l24 c24 k24 a25 l25 c25 k25 a26 l26 kn26 c26 k26 a27 l27 c27 k27 a28 l28 c28 k28 a29 l29 c29 k29 a30 l30 c30 k30 a31 l31 c31 k31 a32 l32 c32 k32 a33 l33 c33 k33 a34 l34 c34 k34 a35 l35 c35 k35 a36 l36 c36 k36 a37 l37 c37 k37 a38 l38 c38 k38 a39 l39 c39 k39 a40 l40 c40 k40 a41 l41 c41 k41 a47 l47 c47 k47 w0g w0p w0d w0o w0s w0m w0k w0n0 w0n1 w0n2 w0n3 a42 i42 l42 c42 k42 a43 i43 l43 c43 k43 a44 i44 l44 c44 k44 a45 i45 l45 c45 k45 a46 i46 l46 c46 k46 gc0 gc1 gc2 gc3 gc4 gc5 gc6 x0g x0x x0k x0b x0t x0i z0 z1 z2 z3 z4 z5 z6 z7 z8 z9 z10 z11 z12 z13 z14 z15
