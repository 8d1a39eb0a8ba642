import PyProof.Rows.All
import Wide.All
import OpenK.AllK
import Wide.FinOn
import HandS.ForMost
import HandS.Exc
import HandS.TryOnly
import HandS.ExcOwn
import HandS.WordsExc
import HandS.Flow
import HandS.Wide
import HandS.WideBits
import HandS.Defaults
import HandS.IsInst
import HandS.RaiseMore
import HandS.FStr
import HandS.Text
import HandS.StrMore
import HandS.Star
import HandS.Style
import HandS.ClsMeth
import HandS.Property
import HandS.CallLocal
import HandS.MakeKwOnly
import KE.KCallOwn
import PyProof.InstSpecial
import KE.KExcIs
import KE.KTryMore
import HandS.ExcInit
import HandS.ExcCtx
import HandS.HotCalls
import HandS.ExcField
import HandS.CallSlots
import HandS.Lambda
import HandS.EndTab
import HandS.SetFor
import HandS.Codes
import HandS.Walk
import HandS.DeepEq
import KE.KOpsOwn
import OpenK.KMeth
import HandS.TupMul
import HandS.OwnEq
import KE.GoesMore
import HandS.TupAny
import HandS.Deep
import KE.GoesZip
import HandS.Small
import PyProof.Rows.Range3
import KE.KDictZip
import KE.DataEq
import HandS.Iter
import HandS.Dict
import KE.KRevSl
import HandS.Zip
import KE.DatumOrd
import KE.KUnpackStar
import HandS.Strs
import KE.KUnpack
import PyProof.Rows.StrRev
import PyProof.ReprNest
import PyProof.ReprDict
import KE.KExcInit
import HandS.Conv
import HandS.ExcValue
import KE.OsRunLaw
import HandS.Words
import PySem.Challenge.RW_sizechains_k88_limits_and_errors_made
set_option Elab.async false
set_option linter.all false
set_option exponentiation.threshold 10000
set_option maxRecDepth 100000
namespace Gd
open PySem PySem.Spec PyProof.Rows L2
/-! the head -/
def top (i : Nat) : Stmt := PySem.Challenge.pw_sizechains_k88_limits_and_errors_made.main.body.getD i (.Pass ⟨0, 0, 0, 0⟩)
abbrev s__wall : Stmt := top 0
abbrev s_InvalidFraction_init : Stmt := inClass (top 3) 0
abbrev s_InvalidSize_init : Stmt := inClass (top 4) 0
abbrev s_InvalidBox_init : Stmt := inClass (top 5) 0
abbrev s_InvalidKeep_init : Stmt := inClass (top 6) 0
abbrev s_InvalidTimes_init : Stmt := inClass (top 7) 0
abbrev s_InvalidStep_init : Stmt := inClass (top 8) 0
abbrev s_InvalidSteps_init : Stmt := inClass (top 9) 0
abbrev s_InvalidChain_init : Stmt := inClass (top 10) 0
abbrev s_InvalidText_init : Stmt := inClass (top 11) 0
abbrev s_InvalidKind_init : Stmt := inClass (top 12) 0
abbrev s_InvalidRecords_init : Stmt := inClass (top 13) 0
abbrev s_InvalidName_init : Stmt := inClass (top 14) 0
abbrev s_InvalidDeeds_init : Stmt := inClass (top 15) 0
abbrev s_InvalidLine_init : Stmt := inClass (top 16) 0
abbrev s_NoStep_init : Stmt := inClass (top 18) 0
abbrev s_UnknownName_init : Stmt := inClass (top 19) 0
abbrev s_NameTaken_init : Stmt := inClass (top 20) 0
abbrev s_TooManySteps_init : Stmt := inClass (top 23) 0
abbrev s_TooManyDeeds_init : Stmt := inClass (top 24) 0
abbrev s_is_integer : Stmt := top 26
abbrev s_is_positive : Stmt := top 27
abbrev s_common_divisor : Stmt := top 28
abbrev s_lowest_terms : Stmt := top 29
abbrev s_is_fraction : Stmt := top 30
abbrev s_check_fractions : Stmt := top 31
abbrev s_fraction : Stmt := top 32
abbrev s_as_fraction : Stmt := top 33
abbrev s_product : Stmt := top 34
abbrev s_quotient : Stmt := top 35
abbrev s_order : Stmt := top 36
abbrev s_compare : Stmt := top 37
abbrev s_format_fraction : Stmt := top 38
abbrev s_is_numeral : Stmt := top 39
abbrev s_find_fraction : Stmt := top 40
abbrev s_check_size : Stmt := top 42
abbrev s_Size_init : Stmt := inClass (top 43) 0
abbrev s_Size_read : Stmt := inClass (top 43) 1
abbrev s_Size_ratio : Stmt := inClass (top 43) 2
abbrev s_Size_turned : Stmt := inClass (top 43) 3
abbrev s_Size_eq : Stmt := inClass (top 43) 4
abbrev s_Size_contains : Stmt := inClass (top 43) 5
abbrev s_Size_mul : Stmt := inClass (top 43) 6
abbrev s_Size_str : Stmt := inClass (top 43) 7
abbrev s_Size_repr : Stmt := inClass (top 43) 8
abbrev s_check_box : Stmt := top 49
abbrev s_Step_read : Stmt := inClass (top 50) 1
abbrev s_Step_details : Stmt := inClass (top 50) 2
abbrev s_Step_eq : Stmt := inClass (top 50) 3
abbrev s_Step_str : Stmt := inClass (top 50) 4
abbrev s_Step_repr : Stmt := inClass (top 50) 5
abbrev s_Scaling_init : Stmt := inClass (top 51) 0
abbrev s_Scaling_details : Stmt := inClass (top 51) 1
abbrev s_Scaling_factor : Stmt := inClass (top 51) 2
abbrev s_Shrink_init : Stmt := inClass (top 52) 1
abbrev s_Shrink_apply : Stmt := inClass (top 52) 2
abbrev s_Grow_init : Stmt := inClass (top 53) 1
abbrev s_Grow_apply : Stmt := inClass (top 53) 2
abbrev s_Crop_init : Stmt := inClass (top 54) 0
abbrev s_Crop_details : Stmt := inClass (top 54) 1
abbrev s_CropWidth_init : Stmt := inClass (top 55) 2
abbrev s_CropWidth_apply : Stmt := inClass (top 55) 3
abbrev s_CropHeight_init : Stmt := inClass (top 56) 2
abbrev s_CropHeight_apply : Stmt := inClass (top 56) 3
abbrev s_Turn_init : Stmt := inClass (top 57) 1
abbrev s_Turn_details : Stmt := inClass (top 57) 2
abbrev s_Turn_apply : Stmt := inClass (top 57) 3
abbrev s_Landscape_apply : Stmt := inClass (top 58) 1
abbrev s_Portrait_apply : Stmt := inClass (top 59) 1
abbrev s_find_sides : Stmt := top 60
abbrev s_scaling : Stmt := top 61
abbrev s_find_scaling : Stmt := top 62
abbrev s_find_crop : Stmt := top 63
abbrev s_find_turn : Stmt := top 64
abbrev s_find_step : Stmt := top 65
abbrev s_check_chain : Stmt := top 67
abbrev s_find_steps : Stmt := top 68
abbrev s_Chain_init : Stmt := inClass (top 69) 1
abbrev s_Chain_read : Stmt := inClass (top 69) 2
abbrev s_Chain_steps : Stmt := inClass (top 69) 3
abbrev s_Chain_walk : Stmt := inClass (top 69) 4
abbrev s_Chain_call : Stmt := inClass (top 69) 5
abbrev s_Chain_len : Stmt := inClass (top 69) 6
abbrev s_Chain_iter : Stmt := inClass (top 69) 7
abbrev s_Chain_contains : Stmt := inClass (top 69) 8
abbrev s_Chain_getitem : Stmt := inClass (top 69) 9
abbrev s_Chain_add : Stmt := inClass (top 69) 10
abbrev s_Chain_mul : Stmt := inClass (top 69) 11
abbrev s_Chain_eq : Stmt := inClass (top 69) 12
abbrev s_Chain_str : Stmt := inClass (top 69) 13
abbrev s_Chain_repr : Stmt := inClass (top 69) 14
abbrev s_l_cell : Stmt := top 71
abbrev s_l_pool : Stmt := top 72
abbrev s_l_draw : Stmt := top 73
abbrev s_l_kind : Stmt := top 74
abbrev s_l_by_position : Stmt := top 75
abbrev s_l_by_name : Stmt := top 76
abbrev s_l_fields : Stmt := top 77
abbrev s_l_right : Stmt := top 78
abbrev s_law : Stmt := top 79
def q0 : Program := { PySem.Challenge.rw_sizechains_k88_limits_and_errors_made.row.prog with main := { PySem.Challenge.rw_sizechains_k88_limits_and_errors_made.row.prog.main with body := [top 79] } }
abbrev loose0 : List Str := [Str.ofString "_wall", Str.ofString "PictureError", Str.ofString "InvalidFraction", Str.ofString "InvalidSize", Str.ofString "InvalidBox", Str.ofString "InvalidKeep", Str.ofString "InvalidTimes", Str.ofString "InvalidStep", Str.ofString "InvalidSteps", Str.ofString "InvalidChain", Str.ofString "InvalidText", Str.ofString "InvalidKind", Str.ofString "InvalidRecords", Str.ofString "InvalidName", Str.ofString "InvalidDeeds", Str.ofString "InvalidLine", Str.ofString "FindError", Str.ofString "NoStep", Str.ofString "UnknownName", Str.ofString "NameTaken", Str.ofString "NothingToUndo", Str.ofString "LimitError", Str.ofString "TooManySteps", Str.ofString "TooManyDeeds", Str.ofString "is_integer", Str.ofString "is_positive", Str.ofString "common_divisor", Str.ofString "lowest_terms", Str.ofString "is_fraction", Str.ofString "check_fractions", Str.ofString "fraction", Str.ofString "as_fraction", Str.ofString "product", Str.ofString "quotient", Str.ofString "order", Str.ofString "compare", Str.ofString "format_fraction", Str.ofString "is_numeral", Str.ofString "find_fraction", Str.ofString "check_size", Str.ofString "Size", Str.ofString "MOST_SIDE", Str.ofString "MOST_STEPS", Str.ofString "MOST_RECORDS", Str.ofString "MOST_DEEDS", Str.ofString "check_box", Str.ofString "Step", Str.ofString "Scaling", Str.ofString "Shrink", Str.ofString "Grow", Str.ofString "Crop", Str.ofString "CropWidth", Str.ofString "CropHeight", Str.ofString "Turn", Str.ofString "Landscape", Str.ofString "Portrait", Str.ofString "find_sides", Str.ofString "scaling", Str.ofString "find_scaling", Str.ofString "find_crop", Str.ofString "find_turn", Str.ofString "find_step", Str.ofString "check_chain", Str.ofString "find_steps", Str.ofString "Chain", Str.ofString "_law_cell", Str.ofString "_law_pool", Str.ofString "_law_draw", Str.ofString "_law_kind", Str.ofString "_law_by_position", Str.ofString "_law_by_name", Str.ofString "_law_fields", Str.ofString "_law_right"]
abbrev lv0 : List (Str × PySem.W.WData) := []
abbrev seen0 (s : Shared) : Bool := PySem.W.xlAt q0 lv0 s && PySem.W.recOk (PySem.W.RowW.records (PySem.W.OpenRow.toRowW PySem.Challenge.rw_sizechains_k88_limits_and_errors_made.row)) s
def K0 : PySem.Params → PySem.W.Frag := fun P => 
  (nat_lit 2, { cls := Value.none, data := Data.dict #[{ hash := PyData.keyHash P (Str.ofString "type.__subclasses__.ArithmeticError.0"), key := Value.str (Str.ofString "type.__subclasses__.ArithmeticError.0") 689, val := Value.int 392 0 }, { hash := PyData.keyHash P (Str.ofString "type.__subclasses__.ArithmeticError.n"), key := Value.str (Str.ofString "type.__subclasses__.ArithmeticError.n") 690, val := Value.int 1 0 }] 2 }) ::
  (nat_lit 3, { cls := Value.type "dict", data := Data.dict #[{ hash := PyData.keyHash P (Str.ofString "__name__"), key := Value.str (Str.ofString "__name__") 165, val := Value.str (Str.ofString "law_sizechains_k88_limits_and_errors_made") 1650 }, { hash := PyData.keyHash P (Str.ofString "__doc__"), key := Value.str (Str.ofString "__doc__") 166, val := Value.none }, { hash := PyData.keyHash P (Str.ofString "__package__"), key := Value.str (Str.ofString "__package__") 167, val := Value.none }, { hash := PyData.keyHash P (Str.ofString "__loader__"), key := Value.str (Str.ofString "__loader__") 168, val := Value.builtin "__main__.__loader__#opaque" }, { hash := PyData.keyHash P (Str.ofString "__spec__"), key := Value.str (Str.ofString "__spec__") 169, val := Value.none }, { hash := PyData.keyHash P (Str.ofString "__annotations__"), key := Value.str (Str.ofString "__annotations__") 170, val := Value.ref 6 }, { hash := PyData.keyHash P (Str.ofString "__builtins__"), key := Value.str (Str.ofString "__builtins__") 171, val := Value.ref 4 }, { hash := PyData.keyHash P (Str.ofString "__file__"), key := Value.str (Str.ofString "__file__") 173, val := Value.str (Str.ofString "/claim/cut.py") 172 }, { hash := PyData.keyHash P (Str.ofString "__cached__"), key := Value.str (Str.ofString "__cached__") 174, val := Value.none }, { hash := PyData.keyHash P (Str.ofString "_wall"), key := Value.str (Str.ofString "_wall") 193, val := Value.ref 21 }, { hash := PyData.keyHash P (Str.ofString "PictureError"), key := Value.str (Str.ofString "PictureError") 213, val := Value.ref 31 }, { hash := PyData.keyHash P (Str.ofString "InvalidFraction"), key := Value.str (Str.ofString "InvalidFraction") 238, val := Value.ref 51 }, { hash := PyData.keyHash P (Str.ofString "InvalidSize"), key := Value.str (Str.ofString "InvalidSize") 263, val := Value.ref 70 }, { hash := PyData.keyHash P (Str.ofString "InvalidBox"), key := Value.str (Str.ofString "InvalidBox") 288, val := Value.ref 89 }, { hash := PyData.keyHash P (Str.ofString "InvalidKeep"), key := Value.str (Str.ofString "InvalidKeep") 313, val := Value.ref 108 }, { hash := PyData.keyHash P (Str.ofString "InvalidTimes"), key := Value.str (Str.ofString "InvalidTimes") 338, val := Value.ref 127 }, { hash := PyData.keyHash P (Str.ofString "InvalidStep"), key := Value.str (Str.ofString "InvalidStep") 363, val := Value.ref 146 }, { hash := PyData.keyHash P (Str.ofString "InvalidSteps"), key := Value.str (Str.ofString "InvalidSteps") 388, val := Value.ref 165 }, { hash := PyData.keyHash P (Str.ofString "InvalidChain"), key := Value.str (Str.ofString "InvalidChain") 413, val := Value.ref 184 }, { hash := PyData.keyHash P (Str.ofString "InvalidText"), key := Value.str (Str.ofString "InvalidText") 438, val := Value.ref 203 }, { hash := PyData.keyHash P (Str.ofString "InvalidKind"), key := Value.str (Str.ofString "InvalidKind") 463, val := Value.ref 222 }, { hash := PyData.keyHash P (Str.ofString "InvalidRecords"), key := Value.str (Str.ofString "InvalidRecords") 488, val := Value.ref 241 }, { hash := PyData.keyHash P (Str.ofString "InvalidName"), key := Value.str (Str.ofString "InvalidName") 513, val := Value.ref 260 }, { hash := PyData.keyHash P (Str.ofString "InvalidDeeds"), key := Value.str (Str.ofString "InvalidDeeds") 538, val := Value.ref 279 }, { hash := PyData.keyHash P (Str.ofString "InvalidLine"), key := Value.str (Str.ofString "InvalidLine") 563, val := Value.ref 298 }, { hash := PyData.keyHash P (Str.ofString "FindError"), key := Value.str (Str.ofString "FindError") 581, val := Value.ref 310 }, { hash := PyData.keyHash P (Str.ofString "NoStep"), key := Value.str (Str.ofString "NoStep") 606, val := Value.ref 330 }, { hash := PyData.keyHash P (Str.ofString "UnknownName"), key := Value.str (Str.ofString "UnknownName") 631, val := Value.ref 349 }, { hash := PyData.keyHash P (Str.ofString "NameTaken"), key := Value.str (Str.ofString "NameTaken") 656, val := Value.ref 368 }, { hash := PyData.keyHash P (Str.ofString "NothingToUndo"), key := Value.str (Str.ofString "NothingToUndo") 672, val := Value.ref 380 }, { hash := PyData.keyHash P (Str.ofString "LimitError"), key := Value.str (Str.ofString "LimitError") 692, val := Value.ref 392 }, { hash := PyData.keyHash P (Str.ofString "TooManySteps"), key := Value.str (Str.ofString "TooManySteps") 717, val := Value.ref 412 }, { hash := PyData.keyHash P (Str.ofString "TooManyDeeds"), key := Value.str (Str.ofString "TooManyDeeds") 742, val := Value.ref 431 }, { hash := PyData.keyHash P (Str.ofString "is_integer"), key := Value.str (Str.ofString "is_integer") 751, val := Value.ref 440 }, { hash := PyData.keyHash P (Str.ofString "is_positive"), key := Value.str (Str.ofString "is_positive") 758, val := Value.ref 447 }, { hash := PyData.keyHash P (Str.ofString "common_divisor"), key := Value.str (Str.ofString "common_divisor") 766, val := Value.ref 454 }, { hash := PyData.keyHash P (Str.ofString "lowest_terms"), key := Value.str (Str.ofString "lowest_terms") 775, val := Value.ref 461 }, { hash := PyData.keyHash P (Str.ofString "is_fraction"), key := Value.str (Str.ofString "is_fraction") 784, val := Value.ref 468 }, { hash := PyData.keyHash P (Str.ofString "check_fractions"), key := Value.str (Str.ofString "check_fractions") 792, val := Value.ref 475 }, { hash := PyData.keyHash P (Str.ofString "fraction"), key := Value.str (Str.ofString "fraction") 802, val := Value.ref 483 }, { hash := PyData.keyHash P (Str.ofString "as_fraction"), key := Value.str (Str.ofString "as_fraction") 809, val := Value.ref 490 }, { hash := PyData.keyHash P (Str.ofString "product"), key := Value.str (Str.ofString "product") 819, val := Value.ref 497 }, { hash := PyData.keyHash P (Str.ofString "quotient"), key := Value.str (Str.ofString "quotient") 827, val := Value.ref 504 }, { hash := PyData.keyHash P (Str.ofString "order"), key := Value.str (Str.ofString "order") 835, val := Value.ref 511 }, { hash := PyData.keyHash P (Str.ofString "compare"), key := Value.str (Str.ofString "compare") 843, val := Value.ref 518 }, { hash := PyData.keyHash P (Str.ofString "format_fraction"), key := Value.str (Str.ofString "format_fraction") 852, val := Value.ref 525 }, { hash := PyData.keyHash P (Str.ofString "is_numeral"), key := Value.str (Str.ofString "is_numeral") 859, val := Value.ref 532 }, { hash := PyData.keyHash P (Str.ofString "find_fraction"), key := Value.str (Str.ofString "find_fraction") 870, val := Value.ref 539 }, { hash := PyData.keyHash P (Str.ofString "check_size"), key := Value.str (Str.ofString "check_size") 879, val := Value.ref 546 }, { hash := PyData.keyHash P (Str.ofString "Size"), key := Value.str (Str.ofString "Size") 988, val := Value.ref 623 }, { hash := PyData.keyHash P (Str.ofString "MOST_SIDE"), key := Value.str (Str.ofString "MOST_SIDE") 992, val := Value.int 1000000 991 }, { hash := PyData.keyHash P (Str.ofString "MOST_STEPS"), key := Value.str (Str.ofString "MOST_STEPS") 994, val := Value.int 60 993 }, { hash := PyData.keyHash P (Str.ofString "MOST_RECORDS"), key := Value.str (Str.ofString "MOST_RECORDS") 996, val := Value.int 40 995 }, { hash := PyData.keyHash P (Str.ofString "MOST_DEEDS"), key := Value.str (Str.ofString "MOST_DEEDS") 998, val := Value.int 400 997 }, { hash := PyData.keyHash P (Str.ofString "check_box"), key := Value.str (Str.ofString "check_box") 1009, val := Value.ref 634 }, { hash := PyData.keyHash P (Str.ofString "Step"), key := Value.str (Str.ofString "Step") 1081, val := Value.ref 682 }, { hash := PyData.keyHash P (Str.ofString "Scaling"), key := Value.str (Str.ofString "Scaling") 1130, val := Value.ref 717 }, { hash := PyData.keyHash P (Str.ofString "Shrink"), key := Value.str (Str.ofString "Shrink") 1168, val := Value.ref 744 }, { hash := PyData.keyHash P (Str.ofString "Grow"), key := Value.str (Str.ofString "Grow") 1206, val := Value.ref 771 }, { hash := PyData.keyHash P (Str.ofString "Crop"), key := Value.str (Str.ofString "Crop") 1243, val := Value.ref 797 }, { hash := PyData.keyHash P (Str.ofString "CropWidth"), key := Value.str (Str.ofString "CropWidth") 1286, val := Value.ref 825 }, { hash := PyData.keyHash P (Str.ofString "CropHeight"), key := Value.str (Str.ofString "CropHeight") 1329, val := Value.ref 853 }, { hash := PyData.keyHash P (Str.ofString "Turn"), key := Value.str (Str.ofString "Turn") 1372, val := Value.ref 887 }, { hash := PyData.keyHash P (Str.ofString "Landscape"), key := Value.str (Str.ofString "Landscape") 1398, val := Value.ref 906 }, { hash := PyData.keyHash P (Str.ofString "Portrait"), key := Value.str (Str.ofString "Portrait") 1424, val := Value.ref 925 }, { hash := PyData.keyHash P (Str.ofString "find_sides"), key := Value.str (Str.ofString "find_sides") 1436, val := Value.ref 934 }, { hash := PyData.keyHash P (Str.ofString "scaling"), key := Value.str (Str.ofString "scaling") 1446, val := Value.ref 941 }, { hash := PyData.keyHash P (Str.ofString "find_scaling"), key := Value.str (Str.ofString "find_scaling") 1455, val := Value.ref 948 }, { hash := PyData.keyHash P (Str.ofString "find_crop"), key := Value.str (Str.ofString "find_crop") 1465, val := Value.ref 955 }, { hash := PyData.keyHash P (Str.ofString "find_turn"), key := Value.str (Str.ofString "find_turn") 1473, val := Value.ref 962 }, { hash := PyData.keyHash P (Str.ofString "find_step"), key := Value.str (Str.ofString "find_step") 1484, val := Value.ref 969 }, { hash := PyData.keyHash P (Str.ofString "check_chain"), key := Value.str (Str.ofString "check_chain") 1493, val := Value.ref 976 }, { hash := PyData.keyHash P (Str.ofString "find_steps"), key := Value.str (Str.ofString "find_steps") 1499, val := Value.ref 981 }, { hash := PyData.keyHash P (Str.ofString "Chain"), key := Value.str (Str.ofString "Chain") 1649, val := Value.ref 1091 }, { hash := PyData.keyHash P (Str.ofString "_law_cell"), key := Value.str (Str.ofString "_law_cell") 1661, val := Value.ref 1102 }, { hash := PyData.keyHash P (Str.ofString "_law_pool"), key := Value.str (Str.ofString "_law_pool") 1669, val := Value.ref 1109 }, { hash := PyData.keyHash P (Str.ofString "_law_draw"), key := Value.str (Str.ofString "_law_draw") 1679, val := Value.ref 1116 }, { hash := PyData.keyHash P (Str.ofString "_law_kind"), key := Value.str (Str.ofString "_law_kind") 1690, val := Value.ref 1123 }, { hash := PyData.keyHash P (Str.ofString "_law_by_position"), key := Value.str (Str.ofString "_law_by_position") 1698, val := Value.ref 1130 }, { hash := PyData.keyHash P (Str.ofString "_law_by_name"), key := Value.str (Str.ofString "_law_by_name") 1706, val := Value.ref 1137 }, { hash := PyData.keyHash P (Str.ofString "_law_fields"), key := Value.str (Str.ofString "_law_fields") 1712, val := Value.ref 1142 }, { hash := PyData.keyHash P (Str.ofString "_law_right"), key := Value.str (Str.ofString "_law_right") 1718, val := Value.ref 1147 }, { hash := PyData.keyHash P (Str.ofString "law"), key := Value.str (Str.ofString "law") 1724, val := Value.ref 1152 }] 83 }) ::
  (nat_lit 15, { cls := Value.type "tuple", data := Data.seq #[] }) ::
  (nat_lit 17, { cls := Value.type "tuple", data := Data.seq #[Value.str (Str.ofString "k") 190] }) ::
  (nat_lit 18, { cls := Value.type "tuple", data := Data.seq #[] }) ::
  (nat_lit 20, { cls := Value.type "code", data := Data.fields #[Value.str (Str.ofString "_wall") 187, Value.str (Str.ofString "_wall") 188, Value.str (Str.ofString "/claim/cut.py") 189, Value.int 1 0, Value.int 1 0, Value.int 0 0, Value.int 0 0, Value.int 3 0, Value.ref 15, Value.bool true, Value.int 181 0, Value.ref 16, Value.none, Value.ref 17, Value.ref 18, Value.ref 19, Value.int 191 0, Value.int 1 0, Value.str (Str.ofString "/claim/cut.py") 192] }) ::
  (nat_lit 21, ⟨Value.type "function", none, Data.func (PySem.W.fnOf (Str.ofString "_wall") (Str.ofString "_wall") (L2.defArgs s__wall) (L2.defBody s__wall) (L2.defScope s__wall) (Value.none) (Value.none) (Value.none) (Value.str (Str.ofString "__main__") 164) (none) (Value.ref 20) (Value.none)), #[]⟩) ::
  (nat_lit 22, { cls := Value.type "tuple", data := Data.seq #[Value.type "ValueError"] }) ::
  (nat_lit 29, { cls := Value.type "tuple", data := Data.seq #[] }) ::
  (nat_lit 30, { cls := Value.type "dict", data := Data.dict #[{ hash := PyData.keyHash P (Str.ofString "__module__"), key := Value.str (Str.ofString "__module__") 203, val := Value.str (Str.ofString "sizechains.errors") 194 }, { hash := PyData.keyHash P (Str.ofString "__firstlineno__"), key := Value.str (Str.ofString "__firstlineno__") 207, val := Value.int 5 206 }, { hash := PyData.keyHash P (Str.ofString "__static_attributes__"), key := Value.str (Str.ofString "__static_attributes__") 208, val := Value.ref 29 }, { hash := PyData.keyHash P (Str.ofString "__weakref__"), key := Value.str (Str.ofString "__weakref__") 210, val := Value.ref 32 }, { hash := PyData.keyHash P (Str.ofString "__doc__"), key := Value.str (Str.ofString "__doc__") 211, val := Value.none }] 3 }) ::
  (nat_lit 31, { cls := Value.type "type", data := Data.cls { name := Str.ofString "PictureError", bases := [Value.type "ValueError"], mro := [Value.ref 31, Value.type "ValueError", Value.type "Exception", Value.type "BaseException", Value.type "object"], ns := 30, qualname := Str.ofString "PictureError", subclasses := [Value.ref 51, Value.ref 70, Value.ref 89, Value.ref 108, Value.ref 127, Value.ref 146, Value.ref 165, Value.ref 184, Value.ref 203, Value.ref 222, Value.ref 241, Value.ref 260, Value.ref 279, Value.ref 298] }, slots := #[some (Value.ref 22), none, some (Value.str (Str.ofString "PictureError") 196), some (Value.str (Str.ofString "PictureError") 204), some (Value.builtin "ValueError.__new__"), some (Value.bool true)] }) ::
  (nat_lit 32, { cls := Value.type "getset_descriptor", data := Data.fields #[Value.str (Str.ofString "__weakref__") 209, Value.ref 31, Value.builtin "ExceptionGroup.__weakref__", Value.none] }) ::
  (nat_lit 35, { cls := Value.type "tuple", data := Data.seq #[Value.ref 31] }) ::
  (nat_lit 42, { cls := Value.type "tuple", data := Data.seq #[] }) ::
  (nat_lit 44, { cls := Value.type "tuple", data := Data.seq #[Value.str (Str.ofString "self") 229, Value.str (Str.ofString "value") 230] }) ::
  (nat_lit 45, { cls := Value.type "tuple", data := Data.seq #[] }) ::
  (nat_lit 47, { cls := Value.type "code", data := Data.fields #[Value.str (Str.ofString "__init__") 226, Value.str (Str.ofString "InvalidFraction.__init__") 227, Value.str (Str.ofString "/claim/cut.py") 228, Value.int 9 0, Value.int 2 0, Value.int 0 0, Value.int 0 0, Value.int 3 0, Value.ref 42, Value.bool true, Value.int 181 0, Value.ref 43, Value.none, Value.ref 44, Value.ref 45, Value.ref 46, Value.int 231 0, Value.int 9 0, Value.str (Str.ofString "/claim/cut.py") 232] }) ::
  (nat_lit 48, ⟨Value.type "function", none, Data.func (PySem.W.fnOf (Str.ofString "__init__") (Str.ofString "InvalidFraction.__init__") (L2.defArgs s_InvalidFraction_init) (L2.defBody s_InvalidFraction_init) (L2.defScope s_InvalidFraction_init) (Value.none) (Value.none) (Value.none) (Value.str (Str.ofString "sizechains.errors") 194) (none) (Value.ref 47) (Value.none)), #[]⟩) ::
  (nat_lit 49, { cls := Value.type "tuple", data := Data.seq #[Value.str (Str.ofString "value") 234] }) ::
  (nat_lit 50, { cls := Value.type "dict", data := Data.dict #[{ hash := PyData.keyHash P (Str.ofString "__module__"), key := Value.str (Str.ofString "__module__") 221, val := Value.str (Str.ofString "sizechains.errors") 194 }, { hash := PyData.keyHash P (Str.ofString "__firstlineno__"), key := Value.str (Str.ofString "__firstlineno__") 225, val := Value.int 7 224 }, { hash := PyData.keyHash P (Str.ofString "__init__"), key := Value.str (Str.ofString "__init__") 233, val := Value.ref 48 }, { hash := PyData.keyHash P (Str.ofString "__static_attributes__"), key := Value.str (Str.ofString "__static_attributes__") 235, val := Value.ref 49 }, { hash := PyData.keyHash P (Str.ofString "__doc__"), key := Value.str (Str.ofString "__doc__") 236, val := Value.none }] 2 }) ::
  (nat_lit 51, { cls := Value.type "type", data := Data.cls { name := Str.ofString "InvalidFraction", bases := [Value.ref 31], mro := [Value.ref 51, Value.ref 31, Value.type "ValueError", Value.type "Exception", Value.type "BaseException", Value.type "object"], ns := 50, qualname := Str.ofString "InvalidFraction" }, slots := #[some (Value.ref 35), none, some (Value.str (Str.ofString "InvalidFraction") 214), some (Value.str (Str.ofString "InvalidFraction") 222), some (Value.builtin "ValueError.__new__"), some (Value.bool true)] }) ::
  (nat_lit 54, { cls := Value.type "tuple", data := Data.seq #[Value.ref 31] }) ::
  (nat_lit 61, { cls := Value.type "tuple", data := Data.seq #[] }) ::
  (nat_lit 63, { cls := Value.type "tuple", data := Data.seq #[Value.str (Str.ofString "self") 254, Value.str (Str.ofString "value") 255] }) ::
  (nat_lit 64, { cls := Value.type "tuple", data := Data.seq #[] }) ::
  (nat_lit 66, { cls := Value.type "code", data := Data.fields #[Value.str (Str.ofString "__init__") 251, Value.str (Str.ofString "InvalidSize.__init__") 252, Value.str (Str.ofString "/claim/cut.py") 253, Value.int 13 0, Value.int 2 0, Value.int 0 0, Value.int 0 0, Value.int 3 0, Value.ref 61, Value.bool true, Value.int 181 0, Value.ref 62, Value.none, Value.ref 63, Value.ref 64, Value.ref 65, Value.int 256 0, Value.int 13 0, Value.str (Str.ofString "/claim/cut.py") 257] }) ::
  (nat_lit 67, ⟨Value.type "function", none, Data.func (PySem.W.fnOf (Str.ofString "__init__") (Str.ofString "InvalidSize.__init__") (L2.defArgs s_InvalidSize_init) (L2.defBody s_InvalidSize_init) (L2.defScope s_InvalidSize_init) (Value.none) (Value.none) (Value.none) (Value.str (Str.ofString "sizechains.errors") 194) (none) (Value.ref 66) (Value.none)), #[]⟩) ::
  (nat_lit 68, { cls := Value.type "tuple", data := Data.seq #[Value.str (Str.ofString "value") 259] }) ::
  (nat_lit 69, { cls := Value.type "dict", data := Data.dict #[{ hash := PyData.keyHash P (Str.ofString "__module__"), key := Value.str (Str.ofString "__module__") 246, val := Value.str (Str.ofString "sizechains.errors") 194 }, { hash := PyData.keyHash P (Str.ofString "__firstlineno__"), key := Value.str (Str.ofString "__firstlineno__") 250, val := Value.int 11 249 }, { hash := PyData.keyHash P (Str.ofString "__init__"), key := Value.str (Str.ofString "__init__") 258, val := Value.ref 67 }, { hash := PyData.keyHash P (Str.ofString "__static_attributes__"), key := Value.str (Str.ofString "__static_attributes__") 260, val := Value.ref 68 }, { hash := PyData.keyHash P (Str.ofString "__doc__"), key := Value.str (Str.ofString "__doc__") 261, val := Value.none }] 2 }) ::
  (nat_lit 70, { cls := Value.type "type", data := Data.cls { name := Str.ofString "InvalidSize", bases := [Value.ref 31], mro := [Value.ref 70, Value.ref 31, Value.type "ValueError", Value.type "Exception", Value.type "BaseException", Value.type "object"], ns := 69, qualname := Str.ofString "InvalidSize" }, slots := #[some (Value.ref 54), none, some (Value.str (Str.ofString "InvalidSize") 239), some (Value.str (Str.ofString "InvalidSize") 247), some (Value.builtin "ValueError.__new__"), some (Value.bool true)] }) ::
  (nat_lit 73, { cls := Value.type "tuple", data := Data.seq #[Value.ref 31] }) ::
  (nat_lit 80, { cls := Value.type "tuple", data := Data.seq #[] }) ::
  (nat_lit 82, { cls := Value.type "tuple", data := Data.seq #[Value.str (Str.ofString "self") 279, Value.str (Str.ofString "value") 280] }) ::
  (nat_lit 83, { cls := Value.type "tuple", data := Data.seq #[] }) ::
  (nat_lit 85, { cls := Value.type "code", data := Data.fields #[Value.str (Str.ofString "__init__") 276, Value.str (Str.ofString "InvalidBox.__init__") 277, Value.str (Str.ofString "/claim/cut.py") 278, Value.int 17 0, Value.int 2 0, Value.int 0 0, Value.int 0 0, Value.int 3 0, Value.ref 80, Value.bool true, Value.int 181 0, Value.ref 81, Value.none, Value.ref 82, Value.ref 83, Value.ref 84, Value.int 281 0, Value.int 17 0, Value.str (Str.ofString "/claim/cut.py") 282] }) ::
  (nat_lit 86, ⟨Value.type "function", none, Data.func (PySem.W.fnOf (Str.ofString "__init__") (Str.ofString "InvalidBox.__init__") (L2.defArgs s_InvalidBox_init) (L2.defBody s_InvalidBox_init) (L2.defScope s_InvalidBox_init) (Value.none) (Value.none) (Value.none) (Value.str (Str.ofString "sizechains.errors") 194) (none) (Value.ref 85) (Value.none)), #[]⟩) ::
  (nat_lit 87, { cls := Value.type "tuple", data := Data.seq #[Value.str (Str.ofString "value") 284] }) ::
  (nat_lit 88, { cls := Value.type "dict", data := Data.dict #[{ hash := PyData.keyHash P (Str.ofString "__module__"), key := Value.str (Str.ofString "__module__") 271, val := Value.str (Str.ofString "sizechains.errors") 194 }, { hash := PyData.keyHash P (Str.ofString "__firstlineno__"), key := Value.str (Str.ofString "__firstlineno__") 275, val := Value.int 15 274 }, { hash := PyData.keyHash P (Str.ofString "__init__"), key := Value.str (Str.ofString "__init__") 283, val := Value.ref 86 }, { hash := PyData.keyHash P (Str.ofString "__static_attributes__"), key := Value.str (Str.ofString "__static_attributes__") 285, val := Value.ref 87 }, { hash := PyData.keyHash P (Str.ofString "__doc__"), key := Value.str (Str.ofString "__doc__") 286, val := Value.none }] 2 }) ::
  (nat_lit 89, { cls := Value.type "type", data := Data.cls { name := Str.ofString "InvalidBox", bases := [Value.ref 31], mro := [Value.ref 89, Value.ref 31, Value.type "ValueError", Value.type "Exception", Value.type "BaseException", Value.type "object"], ns := 88, qualname := Str.ofString "InvalidBox" }, slots := #[some (Value.ref 73), none, some (Value.str (Str.ofString "InvalidBox") 264), some (Value.str (Str.ofString "InvalidBox") 272), some (Value.builtin "ValueError.__new__"), some (Value.bool true)] }) ::
  (nat_lit 92, { cls := Value.type "tuple", data := Data.seq #[Value.ref 31] }) ::
  (nat_lit 99, { cls := Value.type "tuple", data := Data.seq #[] }) ::
  (nat_lit 101, { cls := Value.type "tuple", data := Data.seq #[Value.str (Str.ofString "self") 304, Value.str (Str.ofString "value") 305] }) ::
  (nat_lit 102, { cls := Value.type "tuple", data := Data.seq #[] }) ::
  (nat_lit 104, { cls := Value.type "code", data := Data.fields #[Value.str (Str.ofString "__init__") 301, Value.str (Str.ofString "InvalidKeep.__init__") 302, Value.str (Str.ofString "/claim/cut.py") 303, Value.int 21 0, Value.int 2 0, Value.int 0 0, Value.int 0 0, Value.int 3 0, Value.ref 99, Value.bool true, Value.int 181 0, Value.ref 100, Value.none, Value.ref 101, Value.ref 102, Value.ref 103, Value.int 306 0, Value.int 21 0, Value.str (Str.ofString "/claim/cut.py") 307] }) ::
  (nat_lit 105, ⟨Value.type "function", none, Data.func (PySem.W.fnOf (Str.ofString "__init__") (Str.ofString "InvalidKeep.__init__") (L2.defArgs s_InvalidKeep_init) (L2.defBody s_InvalidKeep_init) (L2.defScope s_InvalidKeep_init) (Value.none) (Value.none) (Value.none) (Value.str (Str.ofString "sizechains.errors") 194) (none) (Value.ref 104) (Value.none)), #[]⟩) ::
  (nat_lit 106, { cls := Value.type "tuple", data := Data.seq #[Value.str (Str.ofString "value") 309] }) ::
  (nat_lit 107, { cls := Value.type "dict", data := Data.dict #[{ hash := PyData.keyHash P (Str.ofString "__module__"), key := Value.str (Str.ofString "__module__") 296, val := Value.str (Str.ofString "sizechains.errors") 194 }, { hash := PyData.keyHash P (Str.ofString "__firstlineno__"), key := Value.str (Str.ofString "__firstlineno__") 300, val := Value.int 19 299 }, { hash := PyData.keyHash P (Str.ofString "__init__"), key := Value.str (Str.ofString "__init__") 308, val := Value.ref 105 }, { hash := PyData.keyHash P (Str.ofString "__static_attributes__"), key := Value.str (Str.ofString "__static_attributes__") 310, val := Value.ref 106 }, { hash := PyData.keyHash P (Str.ofString "__doc__"), key := Value.str (Str.ofString "__doc__") 311, val := Value.none }] 2 }) ::
  (nat_lit 108, { cls := Value.type "type", data := Data.cls { name := Str.ofString "InvalidKeep", bases := [Value.ref 31], mro := [Value.ref 108, Value.ref 31, Value.type "ValueError", Value.type "Exception", Value.type "BaseException", Value.type "object"], ns := 107, qualname := Str.ofString "InvalidKeep" }, slots := #[some (Value.ref 92), none, some (Value.str (Str.ofString "InvalidKeep") 289), some (Value.str (Str.ofString "InvalidKeep") 297), some (Value.builtin "ValueError.__new__"), some (Value.bool true)] }) ::
  (nat_lit 111, { cls := Value.type "tuple", data := Data.seq #[Value.ref 31] }) ::
  (nat_lit 118, { cls := Value.type "tuple", data := Data.seq #[] }) ::
  (nat_lit 120, { cls := Value.type "tuple", data := Data.seq #[Value.str (Str.ofString "self") 329, Value.str (Str.ofString "value") 330] }) ::
  (nat_lit 121, { cls := Value.type "tuple", data := Data.seq #[] }) ::
  (nat_lit 123, { cls := Value.type "code", data := Data.fields #[Value.str (Str.ofString "__init__") 326, Value.str (Str.ofString "InvalidTimes.__init__") 327, Value.str (Str.ofString "/claim/cut.py") 328, Value.int 25 0, Value.int 2 0, Value.int 0 0, Value.int 0 0, Value.int 3 0, Value.ref 118, Value.bool true, Value.int 181 0, Value.ref 119, Value.none, Value.ref 120, Value.ref 121, Value.ref 122, Value.int 331 0, Value.int 25 0, Value.str (Str.ofString "/claim/cut.py") 332] }) ::
  (nat_lit 124, ⟨Value.type "function", none, Data.func (PySem.W.fnOf (Str.ofString "__init__") (Str.ofString "InvalidTimes.__init__") (L2.defArgs s_InvalidTimes_init) (L2.defBody s_InvalidTimes_init) (L2.defScope s_InvalidTimes_init) (Value.none) (Value.none) (Value.none) (Value.str (Str.ofString "sizechains.errors") 194) (none) (Value.ref 123) (Value.none)), #[]⟩) ::
  (nat_lit 125, { cls := Value.type "tuple", data := Data.seq #[Value.str (Str.ofString "value") 334] }) ::
  (nat_lit 126, { cls := Value.type "dict", data := Data.dict #[{ hash := PyData.keyHash P (Str.ofString "__module__"), key := Value.str (Str.ofString "__module__") 321, val := Value.str (Str.ofString "sizechains.errors") 194 }, { hash := PyData.keyHash P (Str.ofString "__firstlineno__"), key := Value.str (Str.ofString "__firstlineno__") 325, val := Value.int 23 324 }, { hash := PyData.keyHash P (Str.ofString "__init__"), key := Value.str (Str.ofString "__init__") 333, val := Value.ref 124 }, { hash := PyData.keyHash P (Str.ofString "__static_attributes__"), key := Value.str (Str.ofString "__static_attributes__") 335, val := Value.ref 125 }, { hash := PyData.keyHash P (Str.ofString "__doc__"), key := Value.str (Str.ofString "__doc__") 336, val := Value.none }] 2 }) ::
  (nat_lit 127, { cls := Value.type "type", data := Data.cls { name := Str.ofString "InvalidTimes", bases := [Value.ref 31], mro := [Value.ref 127, Value.ref 31, Value.type "ValueError", Value.type "Exception", Value.type "BaseException", Value.type "object"], ns := 126, qualname := Str.ofString "InvalidTimes" }, slots := #[some (Value.ref 111), none, some (Value.str (Str.ofString "InvalidTimes") 314), some (Value.str (Str.ofString "InvalidTimes") 322), some (Value.builtin "ValueError.__new__"), some (Value.bool true)] }) ::
  (nat_lit 130, { cls := Value.type "tuple", data := Data.seq #[Value.ref 31] }) ::
  (nat_lit 137, { cls := Value.type "tuple", data := Data.seq #[] }) ::
  (nat_lit 139, { cls := Value.type "tuple", data := Data.seq #[Value.str (Str.ofString "self") 354, Value.str (Str.ofString "value") 355] }) ::
  (nat_lit 140, { cls := Value.type "tuple", data := Data.seq #[] }) ::
  (nat_lit 142, { cls := Value.type "code", data := Data.fields #[Value.str (Str.ofString "__init__") 351, Value.str (Str.ofString "InvalidStep.__init__") 352, Value.str (Str.ofString "/claim/cut.py") 353, Value.int 29 0, Value.int 2 0, Value.int 0 0, Value.int 0 0, Value.int 3 0, Value.ref 137, Value.bool true, Value.int 181 0, Value.ref 138, Value.none, Value.ref 139, Value.ref 140, Value.ref 141, Value.int 356 0, Value.int 29 0, Value.str (Str.ofString "/claim/cut.py") 357] }) ::
  (nat_lit 143, ⟨Value.type "function", none, Data.func (PySem.W.fnOf (Str.ofString "__init__") (Str.ofString "InvalidStep.__init__") (L2.defArgs s_InvalidStep_init) (L2.defBody s_InvalidStep_init) (L2.defScope s_InvalidStep_init) (Value.none) (Value.none) (Value.none) (Value.str (Str.ofString "sizechains.errors") 194) (none) (Value.ref 142) (Value.none)), #[]⟩) ::
  (nat_lit 144, { cls := Value.type "tuple", data := Data.seq #[Value.str (Str.ofString "value") 359] }) ::
  (nat_lit 145, { cls := Value.type "dict", data := Data.dict #[{ hash := PyData.keyHash P (Str.ofString "__module__"), key := Value.str (Str.ofString "__module__") 346, val := Value.str (Str.ofString "sizechains.errors") 194 }, { hash := PyData.keyHash P (Str.ofString "__firstlineno__"), key := Value.str (Str.ofString "__firstlineno__") 350, val := Value.int 27 349 }, { hash := PyData.keyHash P (Str.ofString "__init__"), key := Value.str (Str.ofString "__init__") 358, val := Value.ref 143 }, { hash := PyData.keyHash P (Str.ofString "__static_attributes__"), key := Value.str (Str.ofString "__static_attributes__") 360, val := Value.ref 144 }, { hash := PyData.keyHash P (Str.ofString "__doc__"), key := Value.str (Str.ofString "__doc__") 361, val := Value.none }] 2 }) ::
  (nat_lit 146, { cls := Value.type "type", data := Data.cls { name := Str.ofString "InvalidStep", bases := [Value.ref 31], mro := [Value.ref 146, Value.ref 31, Value.type "ValueError", Value.type "Exception", Value.type "BaseException", Value.type "object"], ns := 145, qualname := Str.ofString "InvalidStep" }, slots := #[some (Value.ref 130), none, some (Value.str (Str.ofString "InvalidStep") 339), some (Value.str (Str.ofString "InvalidStep") 347), some (Value.builtin "ValueError.__new__"), some (Value.bool true)] }) ::
  (nat_lit 149, { cls := Value.type "tuple", data := Data.seq #[Value.ref 31] }) ::
  (nat_lit 156, { cls := Value.type "tuple", data := Data.seq #[] }) ::
  (nat_lit 158, { cls := Value.type "tuple", data := Data.seq #[Value.str (Str.ofString "self") 379, Value.str (Str.ofString "index") 380] }) ::
  (nat_lit 159, { cls := Value.type "tuple", data := Data.seq #[] }) ::
  (nat_lit 161, { cls := Value.type "code", data := Data.fields #[Value.str (Str.ofString "__init__") 376, Value.str (Str.ofString "InvalidSteps.__init__") 377, Value.str (Str.ofString "/claim/cut.py") 378, Value.int 33 0, Value.int 2 0, Value.int 0 0, Value.int 0 0, Value.int 3 0, Value.ref 156, Value.bool true, Value.int 181 0, Value.ref 157, Value.none, Value.ref 158, Value.ref 159, Value.ref 160, Value.int 381 0, Value.int 33 0, Value.str (Str.ofString "/claim/cut.py") 382] }) ::
  (nat_lit 162, ⟨Value.type "function", none, Data.func (PySem.W.fnOf (Str.ofString "__init__") (Str.ofString "InvalidSteps.__init__") (L2.defArgs s_InvalidSteps_init) (L2.defBody s_InvalidSteps_init) (L2.defScope s_InvalidSteps_init) (Value.none) (Value.none) (Value.none) (Value.str (Str.ofString "sizechains.errors") 194) (none) (Value.ref 161) (Value.none)), #[]⟩) ::
  (nat_lit 163, { cls := Value.type "tuple", data := Data.seq #[Value.str (Str.ofString "index") 384] }) ::
  (nat_lit 164, { cls := Value.type "dict", data := Data.dict #[{ hash := PyData.keyHash P (Str.ofString "__module__"), key := Value.str (Str.ofString "__module__") 371, val := Value.str (Str.ofString "sizechains.errors") 194 }, { hash := PyData.keyHash P (Str.ofString "__firstlineno__"), key := Value.str (Str.ofString "__firstlineno__") 375, val := Value.int 31 374 }, { hash := PyData.keyHash P (Str.ofString "__init__"), key := Value.str (Str.ofString "__init__") 383, val := Value.ref 162 }, { hash := PyData.keyHash P (Str.ofString "__static_attributes__"), key := Value.str (Str.ofString "__static_attributes__") 385, val := Value.ref 163 }, { hash := PyData.keyHash P (Str.ofString "__doc__"), key := Value.str (Str.ofString "__doc__") 386, val := Value.none }] 2 }) ::
  (nat_lit 165, { cls := Value.type "type", data := Data.cls { name := Str.ofString "InvalidSteps", bases := [Value.ref 31], mro := [Value.ref 165, Value.ref 31, Value.type "ValueError", Value.type "Exception", Value.type "BaseException", Value.type "object"], ns := 164, qualname := Str.ofString "InvalidSteps" }, slots := #[some (Value.ref 149), none, some (Value.str (Str.ofString "InvalidSteps") 364), some (Value.str (Str.ofString "InvalidSteps") 372), some (Value.builtin "ValueError.__new__"), some (Value.bool true)] }) ::
  (nat_lit 168, { cls := Value.type "tuple", data := Data.seq #[Value.ref 31] }) ::
  (nat_lit 175, { cls := Value.type "tuple", data := Data.seq #[] }) ::
  (nat_lit 177, { cls := Value.type "tuple", data := Data.seq #[Value.str (Str.ofString "self") 404, Value.str (Str.ofString "value") 405] }) ::
  (nat_lit 178, { cls := Value.type "tuple", data := Data.seq #[] }) ::
  (nat_lit 180, { cls := Value.type "code", data := Data.fields #[Value.str (Str.ofString "__init__") 401, Value.str (Str.ofString "InvalidChain.__init__") 402, Value.str (Str.ofString "/claim/cut.py") 403, Value.int 37 0, Value.int 2 0, Value.int 0 0, Value.int 0 0, Value.int 3 0, Value.ref 175, Value.bool true, Value.int 181 0, Value.ref 176, Value.none, Value.ref 177, Value.ref 178, Value.ref 179, Value.int 406 0, Value.int 37 0, Value.str (Str.ofString "/claim/cut.py") 407] }) ::
  (nat_lit 181, ⟨Value.type "function", none, Data.func (PySem.W.fnOf (Str.ofString "__init__") (Str.ofString "InvalidChain.__init__") (L2.defArgs s_InvalidChain_init) (L2.defBody s_InvalidChain_init) (L2.defScope s_InvalidChain_init) (Value.none) (Value.none) (Value.none) (Value.str (Str.ofString "sizechains.errors") 194) (none) (Value.ref 180) (Value.none)), #[]⟩) ::
  (nat_lit 182, { cls := Value.type "tuple", data := Data.seq #[Value.str (Str.ofString "value") 409] }) ::
  (nat_lit 183, { cls := Value.type "dict", data := Data.dict #[{ hash := PyData.keyHash P (Str.ofString "__module__"), key := Value.str (Str.ofString "__module__") 396, val := Value.str (Str.ofString "sizechains.errors") 194 }, { hash := PyData.keyHash P (Str.ofString "__firstlineno__"), key := Value.str (Str.ofString "__firstlineno__") 400, val := Value.int 35 399 }, { hash := PyData.keyHash P (Str.ofString "__init__"), key := Value.str (Str.ofString "__init__") 408, val := Value.ref 181 }, { hash := PyData.keyHash P (Str.ofString "__static_attributes__"), key := Value.str (Str.ofString "__static_attributes__") 410, val := Value.ref 182 }, { hash := PyData.keyHash P (Str.ofString "__doc__"), key := Value.str (Str.ofString "__doc__") 411, val := Value.none }] 2 }) ::
  (nat_lit 184, { cls := Value.type "type", data := Data.cls { name := Str.ofString "InvalidChain", bases := [Value.ref 31], mro := [Value.ref 184, Value.ref 31, Value.type "ValueError", Value.type "Exception", Value.type "BaseException", Value.type "object"], ns := 183, qualname := Str.ofString "InvalidChain" }, slots := #[some (Value.ref 168), none, some (Value.str (Str.ofString "InvalidChain") 389), some (Value.str (Str.ofString "InvalidChain") 397), some (Value.builtin "ValueError.__new__"), some (Value.bool true)] }) ::
  (nat_lit 187, { cls := Value.type "tuple", data := Data.seq #[Value.ref 31] }) ::
  (nat_lit 194, { cls := Value.type "tuple", data := Data.seq #[] }) ::
  (nat_lit 196, { cls := Value.type "tuple", data := Data.seq #[Value.str (Str.ofString "self") 429, Value.str (Str.ofString "value") 430] }) ::
  (nat_lit 197, { cls := Value.type "tuple", data := Data.seq #[] }) ::
  (nat_lit 199, { cls := Value.type "code", data := Data.fields #[Value.str (Str.ofString "__init__") 426, Value.str (Str.ofString "InvalidText.__init__") 427, Value.str (Str.ofString "/claim/cut.py") 428, Value.int 41 0, Value.int 2 0, Value.int 0 0, Value.int 0 0, Value.int 3 0, Value.ref 194, Value.bool true, Value.int 181 0, Value.ref 195, Value.none, Value.ref 196, Value.ref 197, Value.ref 198, Value.int 431 0, Value.int 41 0, Value.str (Str.ofString "/claim/cut.py") 432] }) ::
  (nat_lit 200, ⟨Value.type "function", none, Data.func (PySem.W.fnOf (Str.ofString "__init__") (Str.ofString "InvalidText.__init__") (L2.defArgs s_InvalidText_init) (L2.defBody s_InvalidText_init) (L2.defScope s_InvalidText_init) (Value.none) (Value.none) (Value.none) (Value.str (Str.ofString "sizechains.errors") 194) (none) (Value.ref 199) (Value.none)), #[]⟩) ::
  (nat_lit 201, { cls := Value.type "tuple", data := Data.seq #[Value.str (Str.ofString "value") 434] }) ::
  (nat_lit 202, { cls := Value.type "dict", data := Data.dict #[{ hash := PyData.keyHash P (Str.ofString "__module__"), key := Value.str (Str.ofString "__module__") 421, val := Value.str (Str.ofString "sizechains.errors") 194 }, { hash := PyData.keyHash P (Str.ofString "__firstlineno__"), key := Value.str (Str.ofString "__firstlineno__") 425, val := Value.int 39 424 }, { hash := PyData.keyHash P (Str.ofString "__init__"), key := Value.str (Str.ofString "__init__") 433, val := Value.ref 200 }, { hash := PyData.keyHash P (Str.ofString "__static_attributes__"), key := Value.str (Str.ofString "__static_attributes__") 435, val := Value.ref 201 }, { hash := PyData.keyHash P (Str.ofString "__doc__"), key := Value.str (Str.ofString "__doc__") 436, val := Value.none }] 2 }) ::
  (nat_lit 203, { cls := Value.type "type", data := Data.cls { name := Str.ofString "InvalidText", bases := [Value.ref 31], mro := [Value.ref 203, Value.ref 31, Value.type "ValueError", Value.type "Exception", Value.type "BaseException", Value.type "object"], ns := 202, qualname := Str.ofString "InvalidText" }, slots := #[some (Value.ref 187), none, some (Value.str (Str.ofString "InvalidText") 414), some (Value.str (Str.ofString "InvalidText") 422), some (Value.builtin "ValueError.__new__"), some (Value.bool true)] }) ::
  (nat_lit 206, { cls := Value.type "tuple", data := Data.seq #[Value.ref 31] }) ::
  (nat_lit 213, { cls := Value.type "tuple", data := Data.seq #[] }) ::
  (nat_lit 215, { cls := Value.type "tuple", data := Data.seq #[Value.str (Str.ofString "self") 454, Value.str (Str.ofString "value") 455] }) ::
  (nat_lit 216, { cls := Value.type "tuple", data := Data.seq #[] }) ::
  (nat_lit 218, { cls := Value.type "code", data := Data.fields #[Value.str (Str.ofString "__init__") 451, Value.str (Str.ofString "InvalidKind.__init__") 452, Value.str (Str.ofString "/claim/cut.py") 453, Value.int 45 0, Value.int 2 0, Value.int 0 0, Value.int 0 0, Value.int 3 0, Value.ref 213, Value.bool true, Value.int 181 0, Value.ref 214, Value.none, Value.ref 215, Value.ref 216, Value.ref 217, Value.int 456 0, Value.int 45 0, Value.str (Str.ofString "/claim/cut.py") 457] }) ::
  (nat_lit 219, ⟨Value.type "function", none, Data.func (PySem.W.fnOf (Str.ofString "__init__") (Str.ofString "InvalidKind.__init__") (L2.defArgs s_InvalidKind_init) (L2.defBody s_InvalidKind_init) (L2.defScope s_InvalidKind_init) (Value.none) (Value.none) (Value.none) (Value.str (Str.ofString "sizechains.errors") 194) (none) (Value.ref 218) (Value.none)), #[]⟩) ::
  (nat_lit 220, { cls := Value.type "tuple", data := Data.seq #[Value.str (Str.ofString "value") 459] }) ::
  (nat_lit 221, { cls := Value.type "dict", data := Data.dict #[{ hash := PyData.keyHash P (Str.ofString "__module__"), key := Value.str (Str.ofString "__module__") 446, val := Value.str (Str.ofString "sizechains.errors") 194 }, { hash := PyData.keyHash P (Str.ofString "__firstlineno__"), key := Value.str (Str.ofString "__firstlineno__") 450, val := Value.int 43 449 }, { hash := PyData.keyHash P (Str.ofString "__init__"), key := Value.str (Str.ofString "__init__") 458, val := Value.ref 219 }, { hash := PyData.keyHash P (Str.ofString "__static_attributes__"), key := Value.str (Str.ofString "__static_attributes__") 460, val := Value.ref 220 }, { hash := PyData.keyHash P (Str.ofString "__doc__"), key := Value.str (Str.ofString "__doc__") 461, val := Value.none }] 2 }) ::
  (nat_lit 222, { cls := Value.type "type", data := Data.cls { name := Str.ofString "InvalidKind", bases := [Value.ref 31], mro := [Value.ref 222, Value.ref 31, Value.type "ValueError", Value.type "Exception", Value.type "BaseException", Value.type "object"], ns := 221, qualname := Str.ofString "InvalidKind" }, slots := #[some (Value.ref 206), none, some (Value.str (Str.ofString "InvalidKind") 439), some (Value.str (Str.ofString "InvalidKind") 447), some (Value.builtin "ValueError.__new__"), some (Value.bool true)] }) ::
  (nat_lit 225, { cls := Value.type "tuple", data := Data.seq #[Value.ref 31] }) ::
  (nat_lit 232, { cls := Value.type "tuple", data := Data.seq #[] }) ::
  (nat_lit 234, { cls := Value.type "tuple", data := Data.seq #[Value.str (Str.ofString "self") 479, Value.str (Str.ofString "index") 480] }) ::
  (nat_lit 235, { cls := Value.type "tuple", data := Data.seq #[] }) ::
  (nat_lit 237, { cls := Value.type "code", data := Data.fields #[Value.str (Str.ofString "__init__") 476, Value.str (Str.ofString "InvalidRecords.__init__") 477, Value.str (Str.ofString "/claim/cut.py") 478, Value.int 49 0, Value.int 2 0, Value.int 0 0, Value.int 0 0, Value.int 3 0, Value.ref 232, Value.bool true, Value.int 181 0, Value.ref 233, Value.none, Value.ref 234, Value.ref 235, Value.ref 236, Value.int 481 0, Value.int 49 0, Value.str (Str.ofString "/claim/cut.py") 482] }) ::
  (nat_lit 238, ⟨Value.type "function", none, Data.func (PySem.W.fnOf (Str.ofString "__init__") (Str.ofString "InvalidRecords.__init__") (L2.defArgs s_InvalidRecords_init) (L2.defBody s_InvalidRecords_init) (L2.defScope s_InvalidRecords_init) (Value.none) (Value.none) (Value.none) (Value.str (Str.ofString "sizechains.errors") 194) (none) (Value.ref 237) (Value.none)), #[]⟩) ::
  (nat_lit 239, { cls := Value.type "tuple", data := Data.seq #[Value.str (Str.ofString "index") 484] }) ::
  (nat_lit 240, { cls := Value.type "dict", data := Data.dict #[{ hash := PyData.keyHash P (Str.ofString "__module__"), key := Value.str (Str.ofString "__module__") 471, val := Value.str (Str.ofString "sizechains.errors") 194 }, { hash := PyData.keyHash P (Str.ofString "__firstlineno__"), key := Value.str (Str.ofString "__firstlineno__") 475, val := Value.int 47 474 }, { hash := PyData.keyHash P (Str.ofString "__init__"), key := Value.str (Str.ofString "__init__") 483, val := Value.ref 238 }, { hash := PyData.keyHash P (Str.ofString "__static_attributes__"), key := Value.str (Str.ofString "__static_attributes__") 485, val := Value.ref 239 }, { hash := PyData.keyHash P (Str.ofString "__doc__"), key := Value.str (Str.ofString "__doc__") 486, val := Value.none }] 2 }) ::
  (nat_lit 241, { cls := Value.type "type", data := Data.cls { name := Str.ofString "InvalidRecords", bases := [Value.ref 31], mro := [Value.ref 241, Value.ref 31, Value.type "ValueError", Value.type "Exception", Value.type "BaseException", Value.type "object"], ns := 240, qualname := Str.ofString "InvalidRecords" }, slots := #[some (Value.ref 225), none, some (Value.str (Str.ofString "InvalidRecords") 464), some (Value.str (Str.ofString "InvalidRecords") 472), some (Value.builtin "ValueError.__new__"), some (Value.bool true)] }) ::
  (nat_lit 244, { cls := Value.type "tuple", data := Data.seq #[Value.ref 31] }) ::
  (nat_lit 251, { cls := Value.type "tuple", data := Data.seq #[] }) ::
  (nat_lit 253, { cls := Value.type "tuple", data := Data.seq #[Value.str (Str.ofString "self") 504, Value.str (Str.ofString "value") 505] }) ::
  (nat_lit 254, { cls := Value.type "tuple", data := Data.seq #[] }) ::
  (nat_lit 256, { cls := Value.type "code", data := Data.fields #[Value.str (Str.ofString "__init__") 501, Value.str (Str.ofString "InvalidName.__init__") 502, Value.str (Str.ofString "/claim/cut.py") 503, Value.int 53 0, Value.int 2 0, Value.int 0 0, Value.int 0 0, Value.int 3 0, Value.ref 251, Value.bool true, Value.int 181 0, Value.ref 252, Value.none, Value.ref 253, Value.ref 254, Value.ref 255, Value.int 506 0, Value.int 53 0, Value.str (Str.ofString "/claim/cut.py") 507] }) ::
  (nat_lit 257, ⟨Value.type "function", none, Data.func (PySem.W.fnOf (Str.ofString "__init__") (Str.ofString "InvalidName.__init__") (L2.defArgs s_InvalidName_init) (L2.defBody s_InvalidName_init) (L2.defScope s_InvalidName_init) (Value.none) (Value.none) (Value.none) (Value.str (Str.ofString "sizechains.errors") 194) (none) (Value.ref 256) (Value.none)), #[]⟩) ::
  (nat_lit 258, { cls := Value.type "tuple", data := Data.seq #[Value.str (Str.ofString "value") 509] }) ::
  (nat_lit 259, { cls := Value.type "dict", data := Data.dict #[{ hash := PyData.keyHash P (Str.ofString "__module__"), key := Value.str (Str.ofString "__module__") 496, val := Value.str (Str.ofString "sizechains.errors") 194 }, { hash := PyData.keyHash P (Str.ofString "__firstlineno__"), key := Value.str (Str.ofString "__firstlineno__") 500, val := Value.int 51 499 }, { hash := PyData.keyHash P (Str.ofString "__init__"), key := Value.str (Str.ofString "__init__") 508, val := Value.ref 257 }, { hash := PyData.keyHash P (Str.ofString "__static_attributes__"), key := Value.str (Str.ofString "__static_attributes__") 510, val := Value.ref 258 }, { hash := PyData.keyHash P (Str.ofString "__doc__"), key := Value.str (Str.ofString "__doc__") 511, val := Value.none }] 2 }) ::
  (nat_lit 260, { cls := Value.type "type", data := Data.cls { name := Str.ofString "InvalidName", bases := [Value.ref 31], mro := [Value.ref 260, Value.ref 31, Value.type "ValueError", Value.type "Exception", Value.type "BaseException", Value.type "object"], ns := 259, qualname := Str.ofString "InvalidName" }, slots := #[some (Value.ref 244), none, some (Value.str (Str.ofString "InvalidName") 489), some (Value.str (Str.ofString "InvalidName") 497), some (Value.builtin "ValueError.__new__"), some (Value.bool true)] }) ::
  (nat_lit 263, { cls := Value.type "tuple", data := Data.seq #[Value.ref 31] }) ::
  (nat_lit 270, { cls := Value.type "tuple", data := Data.seq #[] }) ::
  (nat_lit 272, { cls := Value.type "tuple", data := Data.seq #[Value.str (Str.ofString "self") 529, Value.str (Str.ofString "index") 530] }) ::
  (nat_lit 273, { cls := Value.type "tuple", data := Data.seq #[] }) ::
  (nat_lit 275, { cls := Value.type "code", data := Data.fields #[Value.str (Str.ofString "__init__") 526, Value.str (Str.ofString "InvalidDeeds.__init__") 527, Value.str (Str.ofString "/claim/cut.py") 528, Value.int 57 0, Value.int 2 0, Value.int 0 0, Value.int 0 0, Value.int 3 0, Value.ref 270, Value.bool true, Value.int 181 0, Value.ref 271, Value.none, Value.ref 272, Value.ref 273, Value.ref 274, Value.int 531 0, Value.int 57 0, Value.str (Str.ofString "/claim/cut.py") 532] }) ::
  (nat_lit 276, ⟨Value.type "function", none, Data.func (PySem.W.fnOf (Str.ofString "__init__") (Str.ofString "InvalidDeeds.__init__") (L2.defArgs s_InvalidDeeds_init) (L2.defBody s_InvalidDeeds_init) (L2.defScope s_InvalidDeeds_init) (Value.none) (Value.none) (Value.none) (Value.str (Str.ofString "sizechains.errors") 194) (none) (Value.ref 275) (Value.none)), #[]⟩) ::
  (nat_lit 277, { cls := Value.type "tuple", data := Data.seq #[Value.str (Str.ofString "index") 534] }) ::
  (nat_lit 278, { cls := Value.type "dict", data := Data.dict #[{ hash := PyData.keyHash P (Str.ofString "__module__"), key := Value.str (Str.ofString "__module__") 521, val := Value.str (Str.ofString "sizechains.errors") 194 }, { hash := PyData.keyHash P (Str.ofString "__firstlineno__"), key := Value.str (Str.ofString "__firstlineno__") 525, val := Value.int 55 524 }, { hash := PyData.keyHash P (Str.ofString "__init__"), key := Value.str (Str.ofString "__init__") 533, val := Value.ref 276 }, { hash := PyData.keyHash P (Str.ofString "__static_attributes__"), key := Value.str (Str.ofString "__static_attributes__") 535, val := Value.ref 277 }, { hash := PyData.keyHash P (Str.ofString "__doc__"), key := Value.str (Str.ofString "__doc__") 536, val := Value.none }] 2 }) ::
  (nat_lit 279, { cls := Value.type "type", data := Data.cls { name := Str.ofString "InvalidDeeds", bases := [Value.ref 31], mro := [Value.ref 279, Value.ref 31, Value.type "ValueError", Value.type "Exception", Value.type "BaseException", Value.type "object"], ns := 278, qualname := Str.ofString "InvalidDeeds" }, slots := #[some (Value.ref 263), none, some (Value.str (Str.ofString "InvalidDeeds") 514), some (Value.str (Str.ofString "InvalidDeeds") 522), some (Value.builtin "ValueError.__new__"), some (Value.bool true)] }) ::
  (nat_lit 282, { cls := Value.type "tuple", data := Data.seq #[Value.ref 31] }) ::
  (nat_lit 289, { cls := Value.type "tuple", data := Data.seq #[] }) ::
  (nat_lit 291, { cls := Value.type "tuple", data := Data.seq #[Value.str (Str.ofString "self") 554, Value.str (Str.ofString "value") 555] }) ::
  (nat_lit 292, { cls := Value.type "tuple", data := Data.seq #[] }) ::
  (nat_lit 294, { cls := Value.type "code", data := Data.fields #[Value.str (Str.ofString "__init__") 551, Value.str (Str.ofString "InvalidLine.__init__") 552, Value.str (Str.ofString "/claim/cut.py") 553, Value.int 61 0, Value.int 2 0, Value.int 0 0, Value.int 0 0, Value.int 3 0, Value.ref 289, Value.bool true, Value.int 181 0, Value.ref 290, Value.none, Value.ref 291, Value.ref 292, Value.ref 293, Value.int 556 0, Value.int 61 0, Value.str (Str.ofString "/claim/cut.py") 557] }) ::
  (nat_lit 295, ⟨Value.type "function", none, Data.func (PySem.W.fnOf (Str.ofString "__init__") (Str.ofString "InvalidLine.__init__") (L2.defArgs s_InvalidLine_init) (L2.defBody s_InvalidLine_init) (L2.defScope s_InvalidLine_init) (Value.none) (Value.none) (Value.none) (Value.str (Str.ofString "sizechains.errors") 194) (none) (Value.ref 294) (Value.none)), #[]⟩) ::
  (nat_lit 296, { cls := Value.type "tuple", data := Data.seq #[Value.str (Str.ofString "value") 559] }) ::
  (nat_lit 297, { cls := Value.type "dict", data := Data.dict #[{ hash := PyData.keyHash P (Str.ofString "__module__"), key := Value.str (Str.ofString "__module__") 546, val := Value.str (Str.ofString "sizechains.errors") 194 }, { hash := PyData.keyHash P (Str.ofString "__firstlineno__"), key := Value.str (Str.ofString "__firstlineno__") 550, val := Value.int 59 549 }, { hash := PyData.keyHash P (Str.ofString "__init__"), key := Value.str (Str.ofString "__init__") 558, val := Value.ref 295 }, { hash := PyData.keyHash P (Str.ofString "__static_attributes__"), key := Value.str (Str.ofString "__static_attributes__") 560, val := Value.ref 296 }, { hash := PyData.keyHash P (Str.ofString "__doc__"), key := Value.str (Str.ofString "__doc__") 561, val := Value.none }] 2 }) ::
  (nat_lit 298, { cls := Value.type "type", data := Data.cls { name := Str.ofString "InvalidLine", bases := [Value.ref 31], mro := [Value.ref 298, Value.ref 31, Value.type "ValueError", Value.type "Exception", Value.type "BaseException", Value.type "object"], ns := 297, qualname := Str.ofString "InvalidLine" }, slots := #[some (Value.ref 282), none, some (Value.str (Str.ofString "InvalidLine") 539), some (Value.str (Str.ofString "InvalidLine") 547), some (Value.builtin "ValueError.__new__"), some (Value.bool true)] }) ::
  (nat_lit 301, { cls := Value.type "tuple", data := Data.seq #[Value.type "LookupError"] }) ::
  (nat_lit 308, { cls := Value.type "tuple", data := Data.seq #[] }) ::
  (nat_lit 309, { cls := Value.type "dict", data := Data.dict #[{ hash := PyData.keyHash P (Str.ofString "__module__"), key := Value.str (Str.ofString "__module__") 571, val := Value.str (Str.ofString "sizechains.errors") 194 }, { hash := PyData.keyHash P (Str.ofString "__firstlineno__"), key := Value.str (Str.ofString "__firstlineno__") 575, val := Value.int 63 574 }, { hash := PyData.keyHash P (Str.ofString "__static_attributes__"), key := Value.str (Str.ofString "__static_attributes__") 576, val := Value.ref 308 }, { hash := PyData.keyHash P (Str.ofString "__weakref__"), key := Value.str (Str.ofString "__weakref__") 578, val := Value.ref 311 }, { hash := PyData.keyHash P (Str.ofString "__doc__"), key := Value.str (Str.ofString "__doc__") 579, val := Value.none }] 3 }) ::
  (nat_lit 310, { cls := Value.type "type", data := Data.cls { name := Str.ofString "FindError", bases := [Value.type "LookupError"], mro := [Value.ref 310, Value.type "LookupError", Value.type "Exception", Value.type "BaseException", Value.type "object"], ns := 309, qualname := Str.ofString "FindError", subclasses := [Value.ref 330, Value.ref 349, Value.ref 368, Value.ref 380] }, slots := #[some (Value.ref 301), none, some (Value.str (Str.ofString "FindError") 564), some (Value.str (Str.ofString "FindError") 572), some (Value.builtin "LookupError.__new__"), some (Value.bool true)] }) ::
  (nat_lit 311, { cls := Value.type "getset_descriptor", data := Data.fields #[Value.str (Str.ofString "__weakref__") 577, Value.ref 310, Value.builtin "ExceptionGroup.__weakref__", Value.none] }) ::
  (nat_lit 314, { cls := Value.type "tuple", data := Data.seq #[Value.ref 310] }) ::
  (nat_lit 321, { cls := Value.type "tuple", data := Data.seq #[] }) ::
  (nat_lit 323, { cls := Value.type "tuple", data := Data.seq #[Value.str (Str.ofString "self") 597, Value.str (Str.ofString "value") 598] }) ::
  (nat_lit 324, { cls := Value.type "tuple", data := Data.seq #[] }) ::
  (nat_lit 326, { cls := Value.type "code", data := Data.fields #[Value.str (Str.ofString "__init__") 594, Value.str (Str.ofString "NoStep.__init__") 595, Value.str (Str.ofString "/claim/cut.py") 596, Value.int 67 0, Value.int 2 0, Value.int 0 0, Value.int 0 0, Value.int 3 0, Value.ref 321, Value.bool true, Value.int 181 0, Value.ref 322, Value.none, Value.ref 323, Value.ref 324, Value.ref 325, Value.int 599 0, Value.int 67 0, Value.str (Str.ofString "/claim/cut.py") 600] }) ::
  (nat_lit 327, ⟨Value.type "function", none, Data.func (PySem.W.fnOf (Str.ofString "__init__") (Str.ofString "NoStep.__init__") (L2.defArgs s_NoStep_init) (L2.defBody s_NoStep_init) (L2.defScope s_NoStep_init) (Value.none) (Value.none) (Value.none) (Value.str (Str.ofString "sizechains.errors") 194) (none) (Value.ref 326) (Value.none)), #[]⟩) ::
  (nat_lit 328, { cls := Value.type "tuple", data := Data.seq #[Value.str (Str.ofString "value") 602] }) ::
  (nat_lit 329, { cls := Value.type "dict", data := Data.dict #[{ hash := PyData.keyHash P (Str.ofString "__module__"), key := Value.str (Str.ofString "__module__") 589, val := Value.str (Str.ofString "sizechains.errors") 194 }, { hash := PyData.keyHash P (Str.ofString "__firstlineno__"), key := Value.str (Str.ofString "__firstlineno__") 593, val := Value.int 65 592 }, { hash := PyData.keyHash P (Str.ofString "__init__"), key := Value.str (Str.ofString "__init__") 601, val := Value.ref 327 }, { hash := PyData.keyHash P (Str.ofString "__static_attributes__"), key := Value.str (Str.ofString "__static_attributes__") 603, val := Value.ref 328 }, { hash := PyData.keyHash P (Str.ofString "__doc__"), key := Value.str (Str.ofString "__doc__") 604, val := Value.none }] 2 }) ::
  (nat_lit 330, { cls := Value.type "type", data := Data.cls { name := Str.ofString "NoStep", bases := [Value.ref 310], mro := [Value.ref 330, Value.ref 310, Value.type "LookupError", Value.type "Exception", Value.type "BaseException", Value.type "object"], ns := 329, qualname := Str.ofString "NoStep" }, slots := #[some (Value.ref 314), none, some (Value.str (Str.ofString "NoStep") 582), some (Value.str (Str.ofString "NoStep") 590), some (Value.builtin "LookupError.__new__"), some (Value.bool true)] }) ::
  (nat_lit 333, { cls := Value.type "tuple", data := Data.seq #[Value.ref 310] }) ::
  (nat_lit 340, { cls := Value.type "tuple", data := Data.seq #[] }) ::
  (nat_lit 342, { cls := Value.type "tuple", data := Data.seq #[Value.str (Str.ofString "self") 622, Value.str (Str.ofString "value") 623] }) ::
  (nat_lit 343, { cls := Value.type "tuple", data := Data.seq #[] }) ::
  (nat_lit 345, { cls := Value.type "code", data := Data.fields #[Value.str (Str.ofString "__init__") 619, Value.str (Str.ofString "UnknownName.__init__") 620, Value.str (Str.ofString "/claim/cut.py") 621, Value.int 71 0, Value.int 2 0, Value.int 0 0, Value.int 0 0, Value.int 3 0, Value.ref 340, Value.bool true, Value.int 181 0, Value.ref 341, Value.none, Value.ref 342, Value.ref 343, Value.ref 344, Value.int 624 0, Value.int 71 0, Value.str (Str.ofString "/claim/cut.py") 625] }) ::
  (nat_lit 346, ⟨Value.type "function", none, Data.func (PySem.W.fnOf (Str.ofString "__init__") (Str.ofString "UnknownName.__init__") (L2.defArgs s_UnknownName_init) (L2.defBody s_UnknownName_init) (L2.defScope s_UnknownName_init) (Value.none) (Value.none) (Value.none) (Value.str (Str.ofString "sizechains.errors") 194) (none) (Value.ref 345) (Value.none)), #[]⟩) ::
  (nat_lit 347, { cls := Value.type "tuple", data := Data.seq #[Value.str (Str.ofString "value") 627] }) ::
  (nat_lit 348, { cls := Value.type "dict", data := Data.dict #[{ hash := PyData.keyHash P (Str.ofString "__module__"), key := Value.str (Str.ofString "__module__") 614, val := Value.str (Str.ofString "sizechains.errors") 194 }, { hash := PyData.keyHash P (Str.ofString "__firstlineno__"), key := Value.str (Str.ofString "__firstlineno__") 618, val := Value.int 69 617 }, { hash := PyData.keyHash P (Str.ofString "__init__"), key := Value.str (Str.ofString "__init__") 626, val := Value.ref 346 }, { hash := PyData.keyHash P (Str.ofString "__static_attributes__"), key := Value.str (Str.ofString "__static_attributes__") 628, val := Value.ref 347 }, { hash := PyData.keyHash P (Str.ofString "__doc__"), key := Value.str (Str.ofString "__doc__") 629, val := Value.none }] 2 }) ::
  (nat_lit 349, { cls := Value.type "type", data := Data.cls { name := Str.ofString "UnknownName", bases := [Value.ref 310], mro := [Value.ref 349, Value.ref 310, Value.type "LookupError", Value.type "Exception", Value.type "BaseException", Value.type "object"], ns := 348, qualname := Str.ofString "UnknownName" }, slots := #[some (Value.ref 333), none, some (Value.str (Str.ofString "UnknownName") 607), some (Value.str (Str.ofString "UnknownName") 615), some (Value.builtin "LookupError.__new__"), some (Value.bool true)] }) ::
  (nat_lit 352, { cls := Value.type "tuple", data := Data.seq #[Value.ref 310] }) ::
  (nat_lit 359, { cls := Value.type "tuple", data := Data.seq #[] }) ::
  (nat_lit 361, { cls := Value.type "tuple", data := Data.seq #[Value.str (Str.ofString "self") 647, Value.str (Str.ofString "value") 648] }) ::
  (nat_lit 362, { cls := Value.type "tuple", data := Data.seq #[] }) ::
  (nat_lit 364, { cls := Value.type "code", data := Data.fields #[Value.str (Str.ofString "__init__") 644, Value.str (Str.ofString "NameTaken.__init__") 645, Value.str (Str.ofString "/claim/cut.py") 646, Value.int 75 0, Value.int 2 0, Value.int 0 0, Value.int 0 0, Value.int 3 0, Value.ref 359, Value.bool true, Value.int 181 0, Value.ref 360, Value.none, Value.ref 361, Value.ref 362, Value.ref 363, Value.int 649 0, Value.int 75 0, Value.str (Str.ofString "/claim/cut.py") 650] }) ::
  (nat_lit 365, ⟨Value.type "function", none, Data.func (PySem.W.fnOf (Str.ofString "__init__") (Str.ofString "NameTaken.__init__") (L2.defArgs s_NameTaken_init) (L2.defBody s_NameTaken_init) (L2.defScope s_NameTaken_init) (Value.none) (Value.none) (Value.none) (Value.str (Str.ofString "sizechains.errors") 194) (none) (Value.ref 364) (Value.none)), #[]⟩) ::
  (nat_lit 366, { cls := Value.type "tuple", data := Data.seq #[Value.str (Str.ofString "value") 652] }) ::
  (nat_lit 367, { cls := Value.type "dict", data := Data.dict #[{ hash := PyData.keyHash P (Str.ofString "__module__"), key := Value.str (Str.ofString "__module__") 639, val := Value.str (Str.ofString "sizechains.errors") 194 }, { hash := PyData.keyHash P (Str.ofString "__firstlineno__"), key := Value.str (Str.ofString "__firstlineno__") 643, val := Value.int 73 642 }, { hash := PyData.keyHash P (Str.ofString "__init__"), key := Value.str (Str.ofString "__init__") 651, val := Value.ref 365 }, { hash := PyData.keyHash P (Str.ofString "__static_attributes__"), key := Value.str (Str.ofString "__static_attributes__") 653, val := Value.ref 366 }, { hash := PyData.keyHash P (Str.ofString "__doc__"), key := Value.str (Str.ofString "__doc__") 654, val := Value.none }] 2 }) ::
  (nat_lit 368, { cls := Value.type "type", data := Data.cls { name := Str.ofString "NameTaken", bases := [Value.ref 310], mro := [Value.ref 368, Value.ref 310, Value.type "LookupError", Value.type "Exception", Value.type "BaseException", Value.type "object"], ns := 367, qualname := Str.ofString "NameTaken" }, slots := #[some (Value.ref 352), none, some (Value.str (Str.ofString "NameTaken") 632), some (Value.str (Str.ofString "NameTaken") 640), some (Value.builtin "LookupError.__new__"), some (Value.bool true)] }) ::
  (nat_lit 371, { cls := Value.type "tuple", data := Data.seq #[Value.ref 310] }) ::
  (nat_lit 378, { cls := Value.type "tuple", data := Data.seq #[] }) ::
  (nat_lit 379, { cls := Value.type "dict", data := Data.dict #[{ hash := PyData.keyHash P (Str.ofString "__module__"), key := Value.str (Str.ofString "__module__") 664, val := Value.str (Str.ofString "sizechains.errors") 194 }, { hash := PyData.keyHash P (Str.ofString "__firstlineno__"), key := Value.str (Str.ofString "__firstlineno__") 668, val := Value.int 77 667 }, { hash := PyData.keyHash P (Str.ofString "__static_attributes__"), key := Value.str (Str.ofString "__static_attributes__") 669, val := Value.ref 378 }, { hash := PyData.keyHash P (Str.ofString "__doc__"), key := Value.str (Str.ofString "__doc__") 670, val := Value.none }] 2 }) ::
  (nat_lit 380, { cls := Value.type "type", data := Data.cls { name := Str.ofString "NothingToUndo", bases := [Value.ref 310], mro := [Value.ref 380, Value.ref 310, Value.type "LookupError", Value.type "Exception", Value.type "BaseException", Value.type "object"], ns := 379, qualname := Str.ofString "NothingToUndo" }, slots := #[some (Value.ref 371), none, some (Value.str (Str.ofString "NothingToUndo") 657), some (Value.str (Str.ofString "NothingToUndo") 665), some (Value.builtin "LookupError.__new__"), some (Value.bool true)] }) ::
  (nat_lit 383, { cls := Value.type "tuple", data := Data.seq #[Value.type "ArithmeticError"] }) ::
  (nat_lit 390, { cls := Value.type "tuple", data := Data.seq #[] }) ::
  (nat_lit 391, { cls := Value.type "dict", data := Data.dict #[{ hash := PyData.keyHash P (Str.ofString "__module__"), key := Value.str (Str.ofString "__module__") 680, val := Value.str (Str.ofString "sizechains.errors") 194 }, { hash := PyData.keyHash P (Str.ofString "__firstlineno__"), key := Value.str (Str.ofString "__firstlineno__") 684, val := Value.int 79 683 }, { hash := PyData.keyHash P (Str.ofString "__static_attributes__"), key := Value.str (Str.ofString "__static_attributes__") 685, val := Value.ref 390 }, { hash := PyData.keyHash P (Str.ofString "__weakref__"), key := Value.str (Str.ofString "__weakref__") 687, val := Value.ref 393 }, { hash := PyData.keyHash P (Str.ofString "__doc__"), key := Value.str (Str.ofString "__doc__") 688, val := Value.none }] 3 }) ::
  (nat_lit 392, { cls := Value.type "type", data := Data.cls { name := Str.ofString "LimitError", bases := [Value.type "ArithmeticError"], mro := [Value.ref 392, Value.type "ArithmeticError", Value.type "Exception", Value.type "BaseException", Value.type "object"], ns := 391, qualname := Str.ofString "LimitError", subclasses := [Value.ref 412, Value.ref 431] }, slots := #[some (Value.ref 383), none, some (Value.str (Str.ofString "LimitError") 673), some (Value.str (Str.ofString "LimitError") 681), some (Value.builtin "ArithmeticError.__new__"), some (Value.bool true)] }) ::
  (nat_lit 393, { cls := Value.type "getset_descriptor", data := Data.fields #[Value.str (Str.ofString "__weakref__") 686, Value.ref 392, Value.builtin "ExceptionGroup.__weakref__", Value.none] }) ::
  (nat_lit 396, { cls := Value.type "tuple", data := Data.seq #[Value.ref 392] }) ::
  (nat_lit 403, { cls := Value.type "tuple", data := Data.seq #[] }) ::
  (nat_lit 405, { cls := Value.type "tuple", data := Data.seq #[Value.str (Str.ofString "self") 708, Value.str (Str.ofString "count") 709] }) ::
  (nat_lit 406, { cls := Value.type "tuple", data := Data.seq #[] }) ::
  (nat_lit 408, { cls := Value.type "code", data := Data.fields #[Value.str (Str.ofString "__init__") 705, Value.str (Str.ofString "TooManySteps.__init__") 706, Value.str (Str.ofString "/claim/cut.py") 707, Value.int 83 0, Value.int 2 0, Value.int 0 0, Value.int 0 0, Value.int 3 0, Value.ref 403, Value.bool true, Value.int 181 0, Value.ref 404, Value.none, Value.ref 405, Value.ref 406, Value.ref 407, Value.int 710 0, Value.int 83 0, Value.str (Str.ofString "/claim/cut.py") 711] }) ::
  (nat_lit 409, ⟨Value.type "function", none, Data.func (PySem.W.fnOf (Str.ofString "__init__") (Str.ofString "TooManySteps.__init__") (L2.defArgs s_TooManySteps_init) (L2.defBody s_TooManySteps_init) (L2.defScope s_TooManySteps_init) (Value.none) (Value.none) (Value.none) (Value.str (Str.ofString "sizechains.errors") 194) (none) (Value.ref 408) (Value.none)), #[]⟩) ::
  (nat_lit 410, { cls := Value.type "tuple", data := Data.seq #[Value.str (Str.ofString "count") 713] }) ::
  (nat_lit 411, { cls := Value.type "dict", data := Data.dict #[{ hash := PyData.keyHash P (Str.ofString "__module__"), key := Value.str (Str.ofString "__module__") 700, val := Value.str (Str.ofString "sizechains.errors") 194 }, { hash := PyData.keyHash P (Str.ofString "__firstlineno__"), key := Value.str (Str.ofString "__firstlineno__") 704, val := Value.int 81 703 }, { hash := PyData.keyHash P (Str.ofString "__init__"), key := Value.str (Str.ofString "__init__") 712, val := Value.ref 409 }, { hash := PyData.keyHash P (Str.ofString "__static_attributes__"), key := Value.str (Str.ofString "__static_attributes__") 714, val := Value.ref 410 }, { hash := PyData.keyHash P (Str.ofString "__doc__"), key := Value.str (Str.ofString "__doc__") 715, val := Value.none }] 2 }) ::
  (nat_lit 412, { cls := Value.type "type", data := Data.cls { name := Str.ofString "TooManySteps", bases := [Value.ref 392], mro := [Value.ref 412, Value.ref 392, Value.type "ArithmeticError", Value.type "Exception", Value.type "BaseException", Value.type "object"], ns := 411, qualname := Str.ofString "TooManySteps" }, slots := #[some (Value.ref 396), none, some (Value.str (Str.ofString "TooManySteps") 693), some (Value.str (Str.ofString "TooManySteps") 701), some (Value.builtin "ArithmeticError.__new__"), some (Value.bool true)] }) ::
  (nat_lit 415, { cls := Value.type "tuple", data := Data.seq #[Value.ref 392] }) ::
  (nat_lit 422, { cls := Value.type "tuple", data := Data.seq #[] }) ::
  (nat_lit 424, { cls := Value.type "tuple", data := Data.seq #[Value.str (Str.ofString "self") 733, Value.str (Str.ofString "count") 734] }) ::
  (nat_lit 425, { cls := Value.type "tuple", data := Data.seq #[] }) ::
  (nat_lit 427, { cls := Value.type "code", data := Data.fields #[Value.str (Str.ofString "__init__") 730, Value.str (Str.ofString "TooManyDeeds.__init__") 731, Value.str (Str.ofString "/claim/cut.py") 732, Value.int 87 0, Value.int 2 0, Value.int 0 0, Value.int 0 0, Value.int 3 0, Value.ref 422, Value.bool true, Value.int 181 0, Value.ref 423, Value.none, Value.ref 424, Value.ref 425, Value.ref 426, Value.int 735 0, Value.int 87 0, Value.str (Str.ofString "/claim/cut.py") 736] }) ::
  (nat_lit 428, ⟨Value.type "function", none, Data.func (PySem.W.fnOf (Str.ofString "__init__") (Str.ofString "TooManyDeeds.__init__") (L2.defArgs s_TooManyDeeds_init) (L2.defBody s_TooManyDeeds_init) (L2.defScope s_TooManyDeeds_init) (Value.none) (Value.none) (Value.none) (Value.str (Str.ofString "sizechains.errors") 194) (none) (Value.ref 427) (Value.none)), #[]⟩) ::
  (nat_lit 429, { cls := Value.type "tuple", data := Data.seq #[Value.str (Str.ofString "count") 738] }) ::
  (nat_lit 430, { cls := Value.type "dict", data := Data.dict #[{ hash := PyData.keyHash P (Str.ofString "__module__"), key := Value.str (Str.ofString "__module__") 725, val := Value.str (Str.ofString "sizechains.errors") 194 }, { hash := PyData.keyHash P (Str.ofString "__firstlineno__"), key := Value.str (Str.ofString "__firstlineno__") 729, val := Value.int 85 728 }, { hash := PyData.keyHash P (Str.ofString "__init__"), key := Value.str (Str.ofString "__init__") 737, val := Value.ref 428 }, { hash := PyData.keyHash P (Str.ofString "__static_attributes__"), key := Value.str (Str.ofString "__static_attributes__") 739, val := Value.ref 429 }, { hash := PyData.keyHash P (Str.ofString "__doc__"), key := Value.str (Str.ofString "__doc__") 740, val := Value.none }] 2 }) ::
  (nat_lit 431, { cls := Value.type "type", data := Data.cls { name := Str.ofString "TooManyDeeds", bases := [Value.ref 392], mro := [Value.ref 431, Value.ref 392, Value.type "ArithmeticError", Value.type "Exception", Value.type "BaseException", Value.type "object"], ns := 430, qualname := Str.ofString "TooManyDeeds" }, slots := #[some (Value.ref 415), none, some (Value.str (Str.ofString "TooManyDeeds") 718), some (Value.str (Str.ofString "TooManyDeeds") 726), some (Value.builtin "ArithmeticError.__new__"), some (Value.bool true)] }) ::
  (nat_lit 434, { cls := Value.type "tuple", data := Data.seq #[] }) ::
  (nat_lit 436, { cls := Value.type "tuple", data := Data.seq #[Value.str (Str.ofString "value") 748] }) ::
  (nat_lit 437, { cls := Value.type "tuple", data := Data.seq #[] }) ::
  (nat_lit 439, { cls := Value.type "code", data := Data.fields #[Value.str (Str.ofString "is_integer") 745, Value.str (Str.ofString "is_integer") 746, Value.str (Str.ofString "/claim/cut.py") 747, Value.int 90 0, Value.int 1 0, Value.int 0 0, Value.int 0 0, Value.int 3 0, Value.ref 434, Value.bool true, Value.int 181 0, Value.ref 435, Value.none, Value.ref 436, Value.ref 437, Value.ref 438, Value.int 749 0, Value.int 90 0, Value.str (Str.ofString "/claim/cut.py") 750] }) ::
  (nat_lit 440, ⟨Value.type "function", none, Data.func (PySem.W.fnOf (Str.ofString "is_integer") (Str.ofString "is_integer") (L2.defArgs s_is_integer) (L2.defBody s_is_integer) (L2.defScope s_is_integer) (Value.none) (Value.none) (Value.none) (Value.str (Str.ofString "sizechains.exact") 743) (none) (Value.ref 439) (Value.none)), #[]⟩) ::
  (nat_lit 441, { cls := Value.type "tuple", data := Data.seq #[] }) ::
  (nat_lit 443, { cls := Value.type "tuple", data := Data.seq #[Value.str (Str.ofString "value") 755] }) ::
  (nat_lit 444, { cls := Value.type "tuple", data := Data.seq #[] }) ::
  (nat_lit 446, { cls := Value.type "code", data := Data.fields #[Value.str (Str.ofString "is_positive") 752, Value.str (Str.ofString "is_positive") 753, Value.str (Str.ofString "/claim/cut.py") 754, Value.int 92 0, Value.int 1 0, Value.int 0 0, Value.int 0 0, Value.int 3 0, Value.ref 441, Value.bool true, Value.int 181 0, Value.ref 442, Value.none, Value.ref 443, Value.ref 444, Value.ref 445, Value.int 756 0, Value.int 92 0, Value.str (Str.ofString "/claim/cut.py") 757] }) ::
  (nat_lit 447, ⟨Value.type "function", none, Data.func (PySem.W.fnOf (Str.ofString "is_positive") (Str.ofString "is_positive") (L2.defArgs s_is_positive) (L2.defBody s_is_positive) (L2.defScope s_is_positive) (Value.none) (Value.none) (Value.none) (Value.str (Str.ofString "sizechains.exact") 743) (none) (Value.ref 446) (Value.none)), #[]⟩) ::
  (nat_lit 448, { cls := Value.type "tuple", data := Data.seq #[] }) ::
  (nat_lit 450, { cls := Value.type "tuple", data := Data.seq #[Value.str (Str.ofString "one") 762, Value.str (Str.ofString "other") 763] }) ::
  (nat_lit 451, { cls := Value.type "tuple", data := Data.seq #[] }) ::
  (nat_lit 453, { cls := Value.type "code", data := Data.fields #[Value.str (Str.ofString "common_divisor") 759, Value.str (Str.ofString "common_divisor") 760, Value.str (Str.ofString "/claim/cut.py") 761, Value.int 94 0, Value.int 2 0, Value.int 0 0, Value.int 0 0, Value.int 3 0, Value.ref 448, Value.bool true, Value.int 181 0, Value.ref 449, Value.none, Value.ref 450, Value.ref 451, Value.ref 452, Value.int 764 0, Value.int 94 0, Value.str (Str.ofString "/claim/cut.py") 765] }) ::
  (nat_lit 454, ⟨Value.type "function", none, Data.func (PySem.W.fnOf (Str.ofString "common_divisor") (Str.ofString "common_divisor") (L2.defArgs s_common_divisor) (L2.defBody s_common_divisor) (L2.defScope s_common_divisor) (Value.none) (Value.none) (Value.none) (Value.str (Str.ofString "sizechains.exact") 743) (none) (Value.ref 453) (Value.none)), #[]⟩) ::
  (nat_lit 455, { cls := Value.type "tuple", data := Data.seq #[] }) ::
  (nat_lit 457, { cls := Value.type "tuple", data := Data.seq #[Value.str (Str.ofString "top") 770, Value.str (Str.ofString "bottom") 771, Value.str (Str.ofString "divisor") 772] }) ::
  (nat_lit 458, { cls := Value.type "tuple", data := Data.seq #[] }) ::
  (nat_lit 460, { cls := Value.type "code", data := Data.fields #[Value.str (Str.ofString "lowest_terms") 767, Value.str (Str.ofString "lowest_terms") 768, Value.str (Str.ofString "/claim/cut.py") 769, Value.int 98 0, Value.int 2 0, Value.int 0 0, Value.int 0 0, Value.int 3 0, Value.ref 455, Value.bool true, Value.int 181 0, Value.ref 456, Value.none, Value.ref 457, Value.ref 458, Value.ref 459, Value.int 773 0, Value.int 98 0, Value.str (Str.ofString "/claim/cut.py") 774] }) ::
  (nat_lit 461, ⟨Value.type "function", none, Data.func (PySem.W.fnOf (Str.ofString "lowest_terms") (Str.ofString "lowest_terms") (L2.defArgs s_lowest_terms) (L2.defBody s_lowest_terms) (L2.defScope s_lowest_terms) (Value.none) (Value.none) (Value.none) (Value.str (Str.ofString "sizechains.exact") 743) (none) (Value.ref 460) (Value.none)), #[]⟩) ::
  (nat_lit 462, { cls := Value.type "tuple", data := Data.seq #[] }) ::
  (nat_lit 464, { cls := Value.type "tuple", data := Data.seq #[Value.str (Str.ofString "value") 779, Value.str (Str.ofString "top") 780, Value.str (Str.ofString "bottom") 781] }) ::
  (nat_lit 465, { cls := Value.type "tuple", data := Data.seq #[] }) ::
  (nat_lit 467, { cls := Value.type "code", data := Data.fields #[Value.str (Str.ofString "is_fraction") 776, Value.str (Str.ofString "is_fraction") 777, Value.str (Str.ofString "/claim/cut.py") 778, Value.int 101 0, Value.int 1 0, Value.int 0 0, Value.int 0 0, Value.int 3 0, Value.ref 462, Value.bool true, Value.int 181 0, Value.ref 463, Value.none, Value.ref 464, Value.ref 465, Value.ref 466, Value.int 782 0, Value.int 101 0, Value.str (Str.ofString "/claim/cut.py") 783] }) ::
  (nat_lit 468, ⟨Value.type "function", none, Data.func (PySem.W.fnOf (Str.ofString "is_fraction") (Str.ofString "is_fraction") (L2.defArgs s_is_fraction) (L2.defBody s_is_fraction) (L2.defScope s_is_fraction) (Value.none) (Value.none) (Value.none) (Value.str (Str.ofString "sizechains.exact") 743) (none) (Value.ref 467) (Value.none)), #[]⟩) ::
  (nat_lit 469, { cls := Value.type "tuple", data := Data.seq #[] }) ::
  (nat_lit 471, { cls := Value.type "tuple", data := Data.seq #[Value.str (Str.ofString "values") 788, Value.str (Str.ofString "value") 789] }) ::
  (nat_lit 472, { cls := Value.type "tuple", data := Data.seq #[] }) ::
  (nat_lit 474, { cls := Value.type "code", data := Data.fields #[Value.str (Str.ofString "check_fractions") 785, Value.str (Str.ofString "check_fractions") 786, Value.str (Str.ofString "/claim/cut.py") 787, Value.int 108 0, Value.int 1 0, Value.int 0 0, Value.int 0 0, Value.int 3 0, Value.ref 469, Value.bool true, Value.int 181 0, Value.ref 470, Value.none, Value.ref 471, Value.ref 472, Value.ref 473, Value.int 790 0, Value.int 108 0, Value.str (Str.ofString "/claim/cut.py") 791] }) ::
  (nat_lit 475, ⟨Value.type "function", none, Data.func (PySem.W.fnOf (Str.ofString "check_fractions") (Str.ofString "check_fractions") (L2.defArgs s_check_fractions) (L2.defBody s_check_fractions) (L2.defScope s_check_fractions) (Value.none) (Value.none) (Value.none) (Value.str (Str.ofString "sizechains.exact") 743) (none) (Value.ref 474) (Value.none)), #[]⟩) ::
  (nat_lit 476, { cls := Value.type "tuple", data := Data.seq #[Value.int 1 793] }) ::
  (nat_lit 477, { cls := Value.type "tuple", data := Data.seq #[] }) ::
  (nat_lit 479, { cls := Value.type "tuple", data := Data.seq #[Value.str (Str.ofString "top") 797, Value.str (Str.ofString "bottom") 798, Value.str (Str.ofString "part") 799] }) ::
  (nat_lit 480, { cls := Value.type "tuple", data := Data.seq #[] }) ::
  (nat_lit 482, { cls := Value.type "code", data := Data.fields #[Value.str (Str.ofString "fraction") 794, Value.str (Str.ofString "fraction") 795, Value.str (Str.ofString "/claim/cut.py") 796, Value.int 112 0, Value.int 2 0, Value.int 0 0, Value.int 0 0, Value.int 3 0, Value.ref 477, Value.bool true, Value.int 181 0, Value.ref 478, Value.none, Value.ref 479, Value.ref 480, Value.ref 481, Value.int 800 0, Value.int 112 0, Value.str (Str.ofString "/claim/cut.py") 801] }) ::
  (nat_lit 483, ⟨Value.type "function", none, Data.func (PySem.W.fnOf (Str.ofString "fraction") (Str.ofString "fraction") (L2.defArgs s_fraction) (L2.defBody s_fraction) (L2.defScope s_fraction) (Value.ref 476) (Value.none) (Value.none) (Value.str (Str.ofString "sizechains.exact") 743) (none) (Value.ref 482) (Value.none)), #[]⟩) ::
  (nat_lit 484, { cls := Value.type "tuple", data := Data.seq #[] }) ::
  (nat_lit 486, { cls := Value.type "tuple", data := Data.seq #[Value.str (Str.ofString "side") 806] }) ::
  (nat_lit 487, { cls := Value.type "tuple", data := Data.seq #[] }) ::
  (nat_lit 489, { cls := Value.type "code", data := Data.fields #[Value.str (Str.ofString "as_fraction") 803, Value.str (Str.ofString "as_fraction") 804, Value.str (Str.ofString "/claim/cut.py") 805, Value.int 117 0, Value.int 1 0, Value.int 0 0, Value.int 0 0, Value.int 3 0, Value.ref 484, Value.bool true, Value.int 181 0, Value.ref 485, Value.none, Value.ref 486, Value.ref 487, Value.ref 488, Value.int 807 0, Value.int 117 0, Value.str (Str.ofString "/claim/cut.py") 808] }) ::
  (nat_lit 490, ⟨Value.type "function", none, Data.func (PySem.W.fnOf (Str.ofString "as_fraction") (Str.ofString "as_fraction") (L2.defArgs s_as_fraction) (L2.defBody s_as_fraction) (L2.defScope s_as_fraction) (Value.none) (Value.none) (Value.none) (Value.str (Str.ofString "sizechains.exact") 743) (none) (Value.ref 489) (Value.none)), #[]⟩) ::
  (nat_lit 491, { cls := Value.type "tuple", data := Data.seq #[] }) ::
  (nat_lit 493, { cls := Value.type "tuple", data := Data.seq #[Value.str (Str.ofString "fractions") 813, Value.str (Str.ofString "top") 814, Value.str (Str.ofString "bottom") 815, Value.str (Str.ofString "factor") 816] }) ::
  (nat_lit 494, { cls := Value.type "tuple", data := Data.seq #[] }) ::
  (nat_lit 496, { cls := Value.type "code", data := Data.fields #[Value.str (Str.ofString "product") 810, Value.str (Str.ofString "product") 811, Value.str (Str.ofString "/claim/cut.py") 812, Value.int 122 0, Value.int 0 0, Value.int 0 0, Value.int 0 0, Value.int 7 0, Value.ref 491, Value.bool true, Value.int 181 0, Value.ref 492, Value.none, Value.ref 493, Value.ref 494, Value.ref 495, Value.int 817 0, Value.int 122 0, Value.str (Str.ofString "/claim/cut.py") 818] }) ::
  (nat_lit 497, ⟨Value.type "function", none, Data.func (PySem.W.fnOf (Str.ofString "product") (Str.ofString "product") (L2.defArgs s_product) (L2.defBody s_product) (L2.defScope s_product) (Value.none) (Value.none) (Value.none) (Value.str (Str.ofString "sizechains.exact") 743) (none) (Value.ref 496) (Value.none)), #[]⟩) ::
  (nat_lit 498, { cls := Value.type "tuple", data := Data.seq #[] }) ::
  (nat_lit 500, { cls := Value.type "tuple", data := Data.seq #[Value.str (Str.ofString "one") 823, Value.str (Str.ofString "other") 824] }) ::
  (nat_lit 501, { cls := Value.type "tuple", data := Data.seq #[] }) ::
  (nat_lit 503, { cls := Value.type "code", data := Data.fields #[Value.str (Str.ofString "quotient") 820, Value.str (Str.ofString "quotient") 821, Value.str (Str.ofString "/claim/cut.py") 822, Value.int 128 0, Value.int 2 0, Value.int 0 0, Value.int 0 0, Value.int 3 0, Value.ref 498, Value.bool true, Value.int 181 0, Value.ref 499, Value.none, Value.ref 500, Value.ref 501, Value.ref 502, Value.int 825 0, Value.int 128 0, Value.str (Str.ofString "/claim/cut.py") 826] }) ::
  (nat_lit 504, ⟨Value.type "function", none, Data.func (PySem.W.fnOf (Str.ofString "quotient") (Str.ofString "quotient") (L2.defArgs s_quotient) (L2.defBody s_quotient) (L2.defScope s_quotient) (Value.none) (Value.none) (Value.none) (Value.str (Str.ofString "sizechains.exact") 743) (none) (Value.ref 503) (Value.none)), #[]⟩) ::
  (nat_lit 505, { cls := Value.type "tuple", data := Data.seq #[] }) ::
  (nat_lit 507, { cls := Value.type "tuple", data := Data.seq #[Value.str (Str.ofString "left") 831, Value.str (Str.ofString "right") 832] }) ::
  (nat_lit 508, { cls := Value.type "tuple", data := Data.seq #[] }) ::
  (nat_lit 510, { cls := Value.type "code", data := Data.fields #[Value.str (Str.ofString "order") 828, Value.str (Str.ofString "order") 829, Value.str (Str.ofString "/claim/cut.py") 830, Value.int 131 0, Value.int 2 0, Value.int 0 0, Value.int 0 0, Value.int 3 0, Value.ref 505, Value.bool true, Value.int 181 0, Value.ref 506, Value.none, Value.ref 507, Value.ref 508, Value.ref 509, Value.int 833 0, Value.int 131 0, Value.str (Str.ofString "/claim/cut.py") 834] }) ::
  (nat_lit 511, ⟨Value.type "function", none, Data.func (PySem.W.fnOf (Str.ofString "order") (Str.ofString "order") (L2.defArgs s_order) (L2.defBody s_order) (L2.defScope s_order) (Value.none) (Value.none) (Value.none) (Value.str (Str.ofString "sizechains.exact") 743) (none) (Value.ref 510) (Value.none)), #[]⟩) ::
  (nat_lit 512, { cls := Value.type "tuple", data := Data.seq #[] }) ::
  (nat_lit 514, { cls := Value.type "tuple", data := Data.seq #[Value.str (Str.ofString "one") 839, Value.str (Str.ofString "other") 840] }) ::
  (nat_lit 515, { cls := Value.type "tuple", data := Data.seq #[] }) ::
  (nat_lit 517, { cls := Value.type "code", data := Data.fields #[Value.str (Str.ofString "compare") 836, Value.str (Str.ofString "compare") 837, Value.str (Str.ofString "/claim/cut.py") 838, Value.int 137 0, Value.int 2 0, Value.int 0 0, Value.int 0 0, Value.int 3 0, Value.ref 512, Value.bool true, Value.int 181 0, Value.ref 513, Value.none, Value.ref 514, Value.ref 515, Value.ref 516, Value.int 841 0, Value.int 137 0, Value.str (Str.ofString "/claim/cut.py") 842] }) ::
  (nat_lit 518, ⟨Value.type "function", none, Data.func (PySem.W.fnOf (Str.ofString "compare") (Str.ofString "compare") (L2.defArgs s_compare) (L2.defBody s_compare) (L2.defScope s_compare) (Value.none) (Value.none) (Value.none) (Value.str (Str.ofString "sizechains.exact") 743) (none) (Value.ref 517) (Value.none)), #[]⟩) ::
  (nat_lit 519, { cls := Value.type "tuple", data := Data.seq #[] }) ::
  (nat_lit 521, { cls := Value.type "tuple", data := Data.seq #[Value.str (Str.ofString "number") 847, Value.str (Str.ofString "top") 848, Value.str (Str.ofString "bottom") 849] }) ::
  (nat_lit 522, { cls := Value.type "tuple", data := Data.seq #[] }) ::
  (nat_lit 524, { cls := Value.type "code", data := Data.fields #[Value.str (Str.ofString "format_fraction") 844, Value.str (Str.ofString "format_fraction") 845, Value.str (Str.ofString "/claim/cut.py") 846, Value.int 140 0, Value.int 1 0, Value.int 0 0, Value.int 0 0, Value.int 3 0, Value.ref 519, Value.bool true, Value.int 181 0, Value.ref 520, Value.none, Value.ref 521, Value.ref 522, Value.ref 523, Value.int 850 0, Value.int 140 0, Value.str (Str.ofString "/claim/cut.py") 851] }) ::
  (nat_lit 525, ⟨Value.type "function", none, Data.func (PySem.W.fnOf (Str.ofString "format_fraction") (Str.ofString "format_fraction") (L2.defArgs s_format_fraction) (L2.defBody s_format_fraction) (L2.defScope s_format_fraction) (Value.none) (Value.none) (Value.none) (Value.str (Str.ofString "sizechains.exact") 743) (none) (Value.ref 524) (Value.none)), #[]⟩) ::
  (nat_lit 526, { cls := Value.type "tuple", data := Data.seq #[] }) ::
  (nat_lit 528, { cls := Value.type "tuple", data := Data.seq #[Value.str (Str.ofString "text") 856] }) ::
  (nat_lit 529, { cls := Value.type "tuple", data := Data.seq #[] }) ::
  (nat_lit 531, { cls := Value.type "code", data := Data.fields #[Value.str (Str.ofString "is_numeral") 853, Value.str (Str.ofString "is_numeral") 854, Value.str (Str.ofString "/claim/cut.py") 855, Value.int 146 0, Value.int 1 0, Value.int 0 0, Value.int 0 0, Value.int 3 0, Value.ref 526, Value.bool true, Value.int 181 0, Value.ref 527, Value.none, Value.ref 528, Value.ref 529, Value.ref 530, Value.int 857 0, Value.int 146 0, Value.str (Str.ofString "/claim/cut.py") 858] }) ::
  (nat_lit 532, ⟨Value.type "function", none, Data.func (PySem.W.fnOf (Str.ofString "is_numeral") (Str.ofString "is_numeral") (L2.defArgs s_is_numeral) (L2.defBody s_is_numeral) (L2.defScope s_is_numeral) (Value.none) (Value.none) (Value.none) (Value.str (Str.ofString "sizechains.exact") 743) (none) (Value.ref 531) (Value.none)), #[]⟩) ::
  (nat_lit 533, { cls := Value.type "tuple", data := Data.seq #[] }) ::
  (nat_lit 535, { cls := Value.type "tuple", data := Data.seq #[Value.str (Str.ofString "text") 863, Value.str (Str.ofString "top") 864, Value.str (Str.ofString "slash") 865, Value.str (Str.ofString "bottom") 866, Value.str (Str.ofString "number") 867] }) ::
  (nat_lit 536, { cls := Value.type "tuple", data := Data.seq #[] }) ::
  (nat_lit 538, { cls := Value.type "code", data := Data.fields #[Value.str (Str.ofString "find_fraction") 860, Value.str (Str.ofString "find_fraction") 861, Value.str (Str.ofString "/claim/cut.py") 862, Value.int 148 0, Value.int 1 0, Value.int 0 0, Value.int 0 0, Value.int 3 0, Value.ref 533, Value.bool true, Value.int 181 0, Value.ref 534, Value.none, Value.ref 535, Value.ref 536, Value.ref 537, Value.int 868 0, Value.int 148 0, Value.str (Str.ofString "/claim/cut.py") 869] }) ::
  (nat_lit 539, ⟨Value.type "function", none, Data.func (PySem.W.fnOf (Str.ofString "find_fraction") (Str.ofString "find_fraction") (L2.defArgs s_find_fraction) (L2.defBody s_find_fraction) (L2.defScope s_find_fraction) (Value.none) (Value.none) (Value.none) (Value.str (Str.ofString "sizechains.exact") 743) (none) (Value.ref 538) (Value.none)), #[]⟩) ::
  (nat_lit 540, { cls := Value.type "tuple", data := Data.seq #[] }) ::
  (nat_lit 542, { cls := Value.type "tuple", data := Data.seq #[Value.str (Str.ofString "size") 876] }) ::
  (nat_lit 543, { cls := Value.type "tuple", data := Data.seq #[] }) ::
  (nat_lit 545, { cls := Value.type "code", data := Data.fields #[Value.str (Str.ofString "check_size") 873, Value.str (Str.ofString "check_size") 874, Value.str (Str.ofString "/claim/cut.py") 875, Value.int 161 0, Value.int 1 0, Value.int 0 0, Value.int 0 0, Value.int 3 0, Value.ref 540, Value.bool true, Value.int 181 0, Value.ref 541, Value.none, Value.ref 542, Value.ref 543, Value.ref 544, Value.int 877 0, Value.int 161 0, Value.str (Str.ofString "/claim/cut.py") 878] }) ::
  (nat_lit 546, ⟨Value.type "function", none, Data.func (PySem.W.fnOf (Str.ofString "check_size") (Str.ofString "check_size") (L2.defArgs s_check_size) (L2.defBody s_check_size) (L2.defScope s_check_size) (Value.none) (Value.none) (Value.none) (Value.str (Str.ofString "sizechains.sizes") 871) (none) (Value.ref 545) (Value.none)), #[]⟩) ::
  (nat_lit 554, { cls := Value.type "tuple", data := Data.seq #[] }) ::
  (nat_lit 556, { cls := Value.type "tuple", data := Data.seq #[Value.str (Str.ofString "self") 895, Value.str (Str.ofString "width") 896, Value.str (Str.ofString "height") 897] }) ::
  (nat_lit 557, { cls := Value.type "tuple", data := Data.seq #[] }) ::
  (nat_lit 559, { cls := Value.type "code", data := Data.fields #[Value.str (Str.ofString "__init__") 892, Value.str (Str.ofString "Size.__init__") 893, Value.str (Str.ofString "/claim/cut.py") 894, Value.int 166 0, Value.int 3 0, Value.int 0 0, Value.int 0 0, Value.int 3 0, Value.ref 554, Value.bool true, Value.int 181 0, Value.ref 555, Value.none, Value.ref 556, Value.ref 557, Value.ref 558, Value.int 898 0, Value.int 166 0, Value.str (Str.ofString "/claim/cut.py") 899] }) ::
  (nat_lit 560, ⟨Value.type "function", none, Data.func (PySem.W.fnOf (Str.ofString "__init__") (Str.ofString "Size.__init__") (L2.defArgs s_Size_init) (L2.defBody s_Size_init) (L2.defScope s_Size_init) (Value.none) (Value.none) (Value.none) (Value.str (Str.ofString "sizechains.sizes") 871) (none) (Value.ref 559) (Value.none)), #[]⟩) ::
  (nat_lit 561, { cls := Value.type "tuple", data := Data.seq #[] }) ::
  (nat_lit 563, { cls := Value.type "tuple", data := Data.seq #[Value.str (Str.ofString "cls") 904, Value.str (Str.ofString "text") 905, Value.str (Str.ofString "parts") 906, Value.str (Str.ofString "width") 907, Value.str (Str.ofString "height") 908] }) ::
  (nat_lit 564, { cls := Value.type "tuple", data := Data.seq #[] }) ::
  (nat_lit 566, { cls := Value.type "code", data := Data.fields #[Value.str (Str.ofString "read") 901, Value.str (Str.ofString "Size.read") 902, Value.str (Str.ofString "/claim/cut.py") 903, Value.int 170 0, Value.int 2 0, Value.int 0 0, Value.int 0 0, Value.int 3 0, Value.ref 561, Value.bool true, Value.int 181 0, Value.ref 562, Value.none, Value.ref 563, Value.ref 564, Value.ref 565, Value.int 909 0, Value.int 170 0, Value.str (Str.ofString "/claim/cut.py") 910] }) ::
  (nat_lit 567, ⟨Value.type "function", none, Data.func (PySem.W.fnOf (Str.ofString "read") (Str.ofString "Size.read") (L2.defArgs s_Size_read) (L2.defBody s_Size_read) (L2.defScope s_Size_read) (Value.none) (Value.none) (Value.none) (Value.str (Str.ofString "sizechains.sizes") 871) (some 570) (Value.ref 566) (Value.none)), #[]⟩) ::
  (nat_lit 568, { cls := Value.type "dict", data := Data.dict #[{ hash := PyData.keyHash P (Str.ofString "__module__"), key := Value.str (Str.ofString "__module__") 912, val := Value.str (Str.ofString "sizechains.sizes") 871 }, { hash := PyData.keyHash P (Str.ofString "__name__"), key := Value.str (Str.ofString "__name__") 915, val := Value.str (Str.ofString "read") 914 }, { hash := PyData.keyHash P (Str.ofString "__qualname__"), key := Value.str (Str.ofString "__qualname__") 918, val := Value.str (Str.ofString "Size.read") 917 }, { hash := PyData.keyHash P (Str.ofString "__doc__"), key := Value.str (Str.ofString "__doc__") 920, val := Value.none }, { hash := PyData.keyHash P (Str.ofString "__annotations__"), key := Value.str (Str.ofString "__annotations__") 922, val := Value.ref 570 }] 5 }) ::
  (nat_lit 569, { cls := Value.type "classmethod", dict := some 568, data := Data.fields #[Value.ref 567, Value.bool false] }) ::
  (nat_lit 570, { cls := Value.type "dict", data := Data.dict #[] }) ::
  (nat_lit 571, { cls := Value.type "tuple", data := Data.seq #[] }) ::
  (nat_lit 573, { cls := Value.type "tuple", data := Data.seq #[Value.str (Str.ofString "self") 927] }) ::
  (nat_lit 574, { cls := Value.type "tuple", data := Data.seq #[] }) ::
  (nat_lit 576, { cls := Value.type "code", data := Data.fields #[Value.str (Str.ofString "ratio") 924, Value.str (Str.ofString "Size.ratio") 925, Value.str (Str.ofString "/claim/cut.py") 926, Value.int 181 0, Value.int 1 0, Value.int 0 0, Value.int 0 0, Value.int 3 0, Value.ref 571, Value.bool true, Value.int 181 0, Value.ref 572, Value.none, Value.ref 573, Value.ref 574, Value.ref 575, Value.int 928 0, Value.int 181 0, Value.str (Str.ofString "/claim/cut.py") 929] }) ::
  (nat_lit 577, ⟨Value.type "function", none, Data.func (PySem.W.fnOf (Str.ofString "ratio") (Str.ofString "Size.ratio") (L2.defArgs s_Size_ratio) (L2.defBody s_Size_ratio) (L2.defScope s_Size_ratio) (Value.none) (Value.none) (Value.none) (Value.str (Str.ofString "sizechains.sizes") 871) (none) (Value.ref 576) (Value.none)), #[]⟩) ::
  (nat_lit 578, { cls := Value.type "property", data := Data.fields #[Value.ref 577, Value.none, Value.none, Value.none, Value.str (Str.ofString "ratio") 931, Value.bool false] }) ::
  (nat_lit 579, { cls := Value.type "tuple", data := Data.seq #[] }) ::
  (nat_lit 581, { cls := Value.type "tuple", data := Data.seq #[Value.str (Str.ofString "self") 935] }) ::
  (nat_lit 582, { cls := Value.type "tuple", data := Data.seq #[] }) ::
  (nat_lit 584, { cls := Value.type "code", data := Data.fields #[Value.str (Str.ofString "turned") 932, Value.str (Str.ofString "Size.turned") 933, Value.str (Str.ofString "/claim/cut.py") 934, Value.int 185 0, Value.int 1 0, Value.int 0 0, Value.int 0 0, Value.int 3 0, Value.ref 579, Value.bool true, Value.int 181 0, Value.ref 580, Value.none, Value.ref 581, Value.ref 582, Value.ref 583, Value.int 936 0, Value.int 185 0, Value.str (Str.ofString "/claim/cut.py") 937] }) ::
  (nat_lit 585, ⟨Value.type "function", none, Data.func (PySem.W.fnOf (Str.ofString "turned") (Str.ofString "Size.turned") (L2.defArgs s_Size_turned) (L2.defBody s_Size_turned) (L2.defScope s_Size_turned) (Value.none) (Value.none) (Value.none) (Value.str (Str.ofString "sizechains.sizes") 871) (none) (Value.ref 584) (Value.none)), #[]⟩) ::
  (nat_lit 586, { cls := Value.type "tuple", data := Data.seq #[] }) ::
  (nat_lit 588, { cls := Value.type "tuple", data := Data.seq #[Value.str (Str.ofString "self") 942, Value.str (Str.ofString "other") 943] }) ::
  (nat_lit 589, { cls := Value.type "tuple", data := Data.seq #[] }) ::
  (nat_lit 591, { cls := Value.type "code", data := Data.fields #[Value.str (Str.ofString "__eq__") 939, Value.str (Str.ofString "Size.__eq__") 940, Value.str (Str.ofString "/claim/cut.py") 941, Value.int 188 0, Value.int 2 0, Value.int 0 0, Value.int 0 0, Value.int 3 0, Value.ref 586, Value.bool true, Value.int 181 0, Value.ref 587, Value.none, Value.ref 588, Value.ref 589, Value.ref 590, Value.int 944 0, Value.int 188 0, Value.str (Str.ofString "/claim/cut.py") 945] }) ::
  (nat_lit 592, ⟨Value.type "function", none, Data.func (PySem.W.fnOf (Str.ofString "__eq__") (Str.ofString "Size.__eq__") (L2.defArgs s_Size_eq) (L2.defBody s_Size_eq) (L2.defScope s_Size_eq) (Value.none) (Value.none) (Value.none) (Value.str (Str.ofString "sizechains.sizes") 871) (none) (Value.ref 591) (Value.none)), #[]⟩) ::
  (nat_lit 593, { cls := Value.type "tuple", data := Data.seq #[] }) ::
  (nat_lit 595, { cls := Value.type "tuple", data := Data.seq #[Value.str (Str.ofString "self") 950, Value.str (Str.ofString "x") 951] }) ::
  (nat_lit 596, { cls := Value.type "tuple", data := Data.seq #[] }) ::
  (nat_lit 598, { cls := Value.type "code", data := Data.fields #[Value.str (Str.ofString "__contains__") 947, Value.str (Str.ofString "Size.__contains__") 948, Value.str (Str.ofString "/claim/cut.py") 949, Value.int 191 0, Value.int 2 0, Value.int 0 0, Value.int 0 0, Value.int 3 0, Value.ref 593, Value.bool true, Value.int 181 0, Value.ref 594, Value.none, Value.ref 595, Value.ref 596, Value.ref 597, Value.int 952 0, Value.int 191 0, Value.str (Str.ofString "/claim/cut.py") 953] }) ::
  (nat_lit 599, ⟨Value.type "function", none, Data.func (PySem.W.fnOf (Str.ofString "__contains__") (Str.ofString "Size.__contains__") (L2.defArgs s_Size_contains) (L2.defBody s_Size_contains) (L2.defScope s_Size_contains) (Value.none) (Value.none) (Value.none) (Value.str (Str.ofString "sizechains.sizes") 871) (none) (Value.ref 598) (Value.none)), #[]⟩) ::
  (nat_lit 600, { cls := Value.type "tuple", data := Data.seq #[] }) ::
  (nat_lit 602, { cls := Value.type "tuple", data := Data.seq #[Value.str (Str.ofString "self") 958, Value.str (Str.ofString "other") 959, Value.str (Str.ofString "factor") 960] }) ::
  (nat_lit 603, { cls := Value.type "tuple", data := Data.seq #[] }) ::
  (nat_lit 605, { cls := Value.type "code", data := Data.fields #[Value.str (Str.ofString "__mul__") 955, Value.str (Str.ofString "Size.__mul__") 956, Value.str (Str.ofString "/claim/cut.py") 957, Value.int 196 0, Value.int 2 0, Value.int 0 0, Value.int 0 0, Value.int 3 0, Value.ref 600, Value.bool true, Value.int 181 0, Value.ref 601, Value.none, Value.ref 602, Value.ref 603, Value.ref 604, Value.int 961 0, Value.int 196 0, Value.str (Str.ofString "/claim/cut.py") 962] }) ::
  (nat_lit 606, ⟨Value.type "function", none, Data.func (PySem.W.fnOf (Str.ofString "__mul__") (Str.ofString "Size.__mul__") (L2.defArgs s_Size_mul) (L2.defBody s_Size_mul) (L2.defScope s_Size_mul) (Value.none) (Value.none) (Value.none) (Value.str (Str.ofString "sizechains.sizes") 871) (none) (Value.ref 605) (Value.none)), #[]⟩) ::
  (nat_lit 607, { cls := Value.type "tuple", data := Data.seq #[] }) ::
  (nat_lit 609, { cls := Value.type "tuple", data := Data.seq #[Value.str (Str.ofString "self") 967] }) ::
  (nat_lit 610, { cls := Value.type "tuple", data := Data.seq #[] }) ::
  (nat_lit 612, { cls := Value.type "code", data := Data.fields #[Value.str (Str.ofString "__str__") 964, Value.str (Str.ofString "Size.__str__") 965, Value.str (Str.ofString "/claim/cut.py") 966, Value.int 200 0, Value.int 1 0, Value.int 0 0, Value.int 0 0, Value.int 3 0, Value.ref 607, Value.bool true, Value.int 181 0, Value.ref 608, Value.none, Value.ref 609, Value.ref 610, Value.ref 611, Value.int 968 0, Value.int 200 0, Value.str (Str.ofString "/claim/cut.py") 969] }) ::
  (nat_lit 613, ⟨Value.type "function", none, Data.func (PySem.W.fnOf (Str.ofString "__str__") (Str.ofString "Size.__str__") (L2.defArgs s_Size_str) (L2.defBody s_Size_str) (L2.defScope s_Size_str) (Value.none) (Value.none) (Value.none) (Value.str (Str.ofString "sizechains.sizes") 871) (none) (Value.ref 612) (Value.none)), #[]⟩) ::
  (nat_lit 614, { cls := Value.type "tuple", data := Data.seq #[] }) ::
  (nat_lit 616, { cls := Value.type "tuple", data := Data.seq #[Value.str (Str.ofString "self") 974] }) ::
  (nat_lit 617, { cls := Value.type "tuple", data := Data.seq #[] }) ::
  (nat_lit 619, { cls := Value.type "code", data := Data.fields #[Value.str (Str.ofString "__repr__") 971, Value.str (Str.ofString "Size.__repr__") 972, Value.str (Str.ofString "/claim/cut.py") 973, Value.int 203 0, Value.int 1 0, Value.int 0 0, Value.int 0 0, Value.int 3 0, Value.ref 614, Value.bool true, Value.int 181 0, Value.ref 615, Value.none, Value.ref 616, Value.ref 617, Value.ref 618, Value.int 975 0, Value.int 203 0, Value.str (Str.ofString "/claim/cut.py") 976] }) ::
  (nat_lit 620, ⟨Value.type "function", none, Data.func (PySem.W.fnOf (Str.ofString "__repr__") (Str.ofString "Size.__repr__") (L2.defArgs s_Size_repr) (L2.defBody s_Size_repr) (L2.defScope s_Size_repr) (Value.none) (Value.none) (Value.none) (Value.str (Str.ofString "sizechains.sizes") 871) (none) (Value.ref 619) (Value.none)), #[]⟩) ::
  (nat_lit 621, { cls := Value.type "tuple", data := Data.seq #[Value.str (Str.ofString "height") 978, Value.str (Str.ofString "width") 979] }) ::
  (nat_lit 622, { cls := Value.type "dict", data := Data.dict #[{ hash := PyData.keyHash P (Str.ofString "__module__"), key := Value.str (Str.ofString "__module__") 887, val := Value.str (Str.ofString "sizechains.sizes") 871 }, { hash := PyData.keyHash P (Str.ofString "__firstlineno__"), key := Value.str (Str.ofString "__firstlineno__") 891, val := Value.int 164 890 }, { hash := PyData.keyHash P (Str.ofString "__init__"), key := Value.str (Str.ofString "__init__") 900, val := Value.ref 560 }, { hash := PyData.keyHash P (Str.ofString "read"), key := Value.str (Str.ofString "read") 923, val := Value.ref 569 }, { hash := PyData.keyHash P (Str.ofString "ratio"), key := Value.str (Str.ofString "ratio") 931, val := Value.ref 578 }, { hash := PyData.keyHash P (Str.ofString "turned"), key := Value.str (Str.ofString "turned") 938, val := Value.ref 585 }, { hash := PyData.keyHash P (Str.ofString "__eq__"), key := Value.str (Str.ofString "__eq__") 946, val := Value.ref 592 }, { hash := PyData.keyHash P (Str.ofString "__contains__"), key := Value.str (Str.ofString "__contains__") 954, val := Value.ref 599 }, { hash := PyData.keyHash P (Str.ofString "__mul__"), key := Value.str (Str.ofString "__mul__") 963, val := Value.ref 606 }, { hash := PyData.keyHash P (Str.ofString "__str__"), key := Value.str (Str.ofString "__str__") 970, val := Value.ref 613 }, { hash := PyData.keyHash P (Str.ofString "__repr__"), key := Value.str (Str.ofString "__repr__") 977, val := Value.ref 620 }, { hash := PyData.keyHash P (Str.ofString "__static_attributes__"), key := Value.str (Str.ofString "__static_attributes__") 980, val := Value.ref 621 }, { hash := PyData.keyHash P (Str.ofString "__dict__"), key := Value.str (Str.ofString "__dict__") 982, val := Value.ref 624 }, { hash := PyData.keyHash P (Str.ofString "__weakref__"), key := Value.str (Str.ofString "__weakref__") 984, val := Value.ref 625 }, { hash := PyData.keyHash P (Str.ofString "__doc__"), key := Value.str (Str.ofString "__doc__") 985, val := Value.none }, { hash := PyData.keyHash P (Str.ofString "__hash__"), key := Value.str (Str.ofString "__hash__") 986, val := Value.none }] 5 }) ::
  (nat_lit 623, { cls := Value.type "type", data := Data.cls { name := Str.ofString "Size", bases := [Value.type "object"], mro := [Value.ref 623, Value.type "object"], ns := 622, qualname := Str.ofString "Size" }, slots := #[none, none, some (Value.str (Str.ofString "Size") 880), some (Value.str (Str.ofString "Size") 888), some (Value.builtin "object.__new__"), some (Value.bool true)] }) ::
  (nat_lit 624, { cls := Value.type "getset_descriptor", data := Data.fields #[Value.str (Str.ofString "__dict__") 981, Value.ref 623, Value.builtin "function.__dict__", Value.builtin "function.__dict__#set"] }) ::
  (nat_lit 625, { cls := Value.type "getset_descriptor", data := Data.fields #[Value.str (Str.ofString "__weakref__") 983, Value.ref 623, Value.builtin "ExceptionGroup.__weakref__", Value.none] }) ::
  (nat_lit 628, { cls := Value.type "tuple", data := Data.seq #[] }) ::
  (nat_lit 630, { cls := Value.type "tuple", data := Data.seq #[Value.str (Str.ofString "width") 1004, Value.str (Str.ofString "height") 1005, Value.str (Str.ofString "side") 1006] }) ::
  (nat_lit 631, { cls := Value.type "tuple", data := Data.seq #[] }) ::
  (nat_lit 633, { cls := Value.type "code", data := Data.fields #[Value.str (Str.ofString "check_box") 1001, Value.str (Str.ofString "check_box") 1002, Value.str (Str.ofString "/claim/cut.py") 1003, Value.int 210 0, Value.int 2 0, Value.int 0 0, Value.int 0 0, Value.int 3 0, Value.ref 628, Value.bool true, Value.int 181 0, Value.ref 629, Value.none, Value.ref 630, Value.ref 631, Value.ref 632, Value.int 1007 0, Value.int 210 0, Value.str (Str.ofString "/claim/cut.py") 1008] }) ::
  (nat_lit 634, ⟨Value.type "function", none, Data.func (PySem.W.fnOf (Str.ofString "check_box") (Str.ofString "check_box") (L2.defArgs s_check_box) (L2.defBody s_check_box) (L2.defScope s_check_box) (Value.none) (Value.none) (Value.none) (Value.str (Str.ofString "sizechains.steps") 999) (none) (Value.ref 633) (Value.none)), #[]⟩) ::
  (nat_lit 642, { cls := Value.type "tuple", data := Data.seq #[] }) ::
  (nat_lit 644, { cls := Value.type "tuple", data := Data.seq #[Value.str (Str.ofString "text") 1027, Value.str (Str.ofString "step") 1028] }) ::
  (nat_lit 645, { cls := Value.type "tuple", data := Data.seq #[] }) ::
  (nat_lit 647, { cls := Value.type "code", data := Data.fields #[Value.str (Str.ofString "read") 1024, Value.str (Str.ofString "Step.read") 1025, Value.str (Str.ofString "/claim/cut.py") 1026, Value.int 217 0, Value.int 1 0, Value.int 0 0, Value.int 0 0, Value.int 3 0, Value.ref 642, Value.bool true, Value.int 181 0, Value.ref 643, Value.none, Value.ref 644, Value.ref 645, Value.ref 646, Value.int 1029 0, Value.int 217 0, Value.str (Str.ofString "/claim/cut.py") 1030] }) ::
  (nat_lit 648, ⟨Value.type "function", none, Data.func (PySem.W.fnOf (Str.ofString "read") (Str.ofString "Step.read") (L2.defArgs s_Step_read) (L2.defBody s_Step_read) (L2.defScope s_Step_read) (Value.none) (Value.none) (Value.none) (Value.str (Str.ofString "sizechains.steps") 999) (some 651) (Value.ref 647) (Value.none)), #[]⟩) ::
  (nat_lit 649, { cls := Value.type "dict", data := Data.dict #[{ hash := PyData.keyHash P (Str.ofString "__module__"), key := Value.str (Str.ofString "__module__") 1032, val := Value.str (Str.ofString "sizechains.steps") 999 }, { hash := PyData.keyHash P (Str.ofString "__name__"), key := Value.str (Str.ofString "__name__") 1035, val := Value.str (Str.ofString "read") 1034 }, { hash := PyData.keyHash P (Str.ofString "__qualname__"), key := Value.str (Str.ofString "__qualname__") 1038, val := Value.str (Str.ofString "Step.read") 1037 }, { hash := PyData.keyHash P (Str.ofString "__doc__"), key := Value.str (Str.ofString "__doc__") 1040, val := Value.none }, { hash := PyData.keyHash P (Str.ofString "__annotations__"), key := Value.str (Str.ofString "__annotations__") 1042, val := Value.ref 651 }] 5 }) ::
  (nat_lit 650, { cls := Value.type "staticmethod", dict := some 649, data := Data.fields #[Value.ref 648, Value.bool false] }) ::
  (nat_lit 651, { cls := Value.type "dict", data := Data.dict #[] }) ::
  (nat_lit 652, { cls := Value.type "tuple", data := Data.seq #[] }) ::
  (nat_lit 654, { cls := Value.type "tuple", data := Data.seq #[Value.str (Str.ofString "self") 1047] }) ::
  (nat_lit 655, { cls := Value.type "tuple", data := Data.seq #[] }) ::
  (nat_lit 657, { cls := Value.type "code", data := Data.fields #[Value.str (Str.ofString "details") 1044, Value.str (Str.ofString "Step.details") 1045, Value.str (Str.ofString "/claim/cut.py") 1046, Value.int 224 0, Value.int 1 0, Value.int 0 0, Value.int 0 0, Value.int 3 0, Value.ref 652, Value.bool true, Value.int 181 0, Value.ref 653, Value.none, Value.ref 654, Value.ref 655, Value.ref 656, Value.int 1048 0, Value.int 224 0, Value.str (Str.ofString "/claim/cut.py") 1049] }) ::
  (nat_lit 658, ⟨Value.type "function", none, Data.func (PySem.W.fnOf (Str.ofString "details") (Str.ofString "Step.details") (L2.defArgs s_Step_details) (L2.defBody s_Step_details) (L2.defScope s_Step_details) (Value.none) (Value.none) (Value.none) (Value.str (Str.ofString "sizechains.steps") 999) (none) (Value.ref 657) (Value.none)), #[]⟩) ::
  (nat_lit 659, { cls := Value.type "tuple", data := Data.seq #[] }) ::
  (nat_lit 661, { cls := Value.type "tuple", data := Data.seq #[Value.str (Str.ofString "self") 1054, Value.str (Str.ofString "other") 1055] }) ::
  (nat_lit 662, { cls := Value.type "tuple", data := Data.seq #[] }) ::
  (nat_lit 664, { cls := Value.type "code", data := Data.fields #[Value.str (Str.ofString "__eq__") 1051, Value.str (Str.ofString "Step.__eq__") 1052, Value.str (Str.ofString "/claim/cut.py") 1053, Value.int 227 0, Value.int 2 0, Value.int 0 0, Value.int 0 0, Value.int 3 0, Value.ref 659, Value.bool true, Value.int 181 0, Value.ref 660, Value.none, Value.ref 661, Value.ref 662, Value.ref 663, Value.int 1056 0, Value.int 227 0, Value.str (Str.ofString "/claim/cut.py") 1057] }) ::
  (nat_lit 665, ⟨Value.type "function", none, Data.func (PySem.W.fnOf (Str.ofString "__eq__") (Str.ofString "Step.__eq__") (L2.defArgs s_Step_eq) (L2.defBody s_Step_eq) (L2.defScope s_Step_eq) (Value.none) (Value.none) (Value.none) (Value.str (Str.ofString "sizechains.steps") 999) (none) (Value.ref 664) (Value.none)), #[]⟩) ::
  (nat_lit 666, { cls := Value.type "tuple", data := Data.seq #[] }) ::
  (nat_lit 668, { cls := Value.type "tuple", data := Data.seq #[Value.str (Str.ofString "self") 1062] }) ::
  (nat_lit 669, { cls := Value.type "tuple", data := Data.seq #[] }) ::
  (nat_lit 671, { cls := Value.type "code", data := Data.fields #[Value.str (Str.ofString "__str__") 1059, Value.str (Str.ofString "Step.__str__") 1060, Value.str (Str.ofString "/claim/cut.py") 1061, Value.int 230 0, Value.int 1 0, Value.int 0 0, Value.int 0 0, Value.int 3 0, Value.ref 666, Value.bool true, Value.int 181 0, Value.ref 667, Value.none, Value.ref 668, Value.ref 669, Value.ref 670, Value.int 1063 0, Value.int 230 0, Value.str (Str.ofString "/claim/cut.py") 1064] }) ::
  (nat_lit 672, ⟨Value.type "function", none, Data.func (PySem.W.fnOf (Str.ofString "__str__") (Str.ofString "Step.__str__") (L2.defArgs s_Step_str) (L2.defBody s_Step_str) (L2.defScope s_Step_str) (Value.none) (Value.none) (Value.none) (Value.str (Str.ofString "sizechains.steps") 999) (none) (Value.ref 671) (Value.none)), #[]⟩) ::
  (nat_lit 673, { cls := Value.type "tuple", data := Data.seq #[] }) ::
  (nat_lit 675, { cls := Value.type "tuple", data := Data.seq #[Value.str (Str.ofString "self") 1069] }) ::
  (nat_lit 676, { cls := Value.type "tuple", data := Data.seq #[] }) ::
  (nat_lit 678, { cls := Value.type "code", data := Data.fields #[Value.str (Str.ofString "__repr__") 1066, Value.str (Str.ofString "Step.__repr__") 1067, Value.str (Str.ofString "/claim/cut.py") 1068, Value.int 233 0, Value.int 1 0, Value.int 0 0, Value.int 0 0, Value.int 3 0, Value.ref 673, Value.bool true, Value.int 181 0, Value.ref 674, Value.none, Value.ref 675, Value.ref 676, Value.ref 677, Value.int 1070 0, Value.int 233 0, Value.str (Str.ofString "/claim/cut.py") 1071] }) ::
  (nat_lit 679, ⟨Value.type "function", none, Data.func (PySem.W.fnOf (Str.ofString "__repr__") (Str.ofString "Step.__repr__") (L2.defArgs s_Step_repr) (L2.defBody s_Step_repr) (L2.defScope s_Step_repr) (Value.none) (Value.none) (Value.none) (Value.str (Str.ofString "sizechains.steps") 999) (none) (Value.ref 678) (Value.none)), #[]⟩) ::
  (nat_lit 680, { cls := Value.type "tuple", data := Data.seq #[] }) ::
  (nat_lit 681, { cls := Value.type "dict", data := Data.dict #[{ hash := PyData.keyHash P (Str.ofString "__module__"), key := Value.str (Str.ofString "__module__") 1017, val := Value.str (Str.ofString "sizechains.steps") 999 }, { hash := PyData.keyHash P (Str.ofString "__firstlineno__"), key := Value.str (Str.ofString "__firstlineno__") 1021, val := Value.int 214 1020 }, { hash := PyData.keyHash P (Str.ofString "WORD"), key := Value.str (Str.ofString "WORD") 1023, val := Value.str (Str.ofString "") 1022 }, { hash := PyData.keyHash P (Str.ofString "read"), key := Value.str (Str.ofString "read") 1043, val := Value.ref 650 }, { hash := PyData.keyHash P (Str.ofString "details"), key := Value.str (Str.ofString "details") 1050, val := Value.ref 658 }, { hash := PyData.keyHash P (Str.ofString "__eq__"), key := Value.str (Str.ofString "__eq__") 1058, val := Value.ref 665 }, { hash := PyData.keyHash P (Str.ofString "__str__"), key := Value.str (Str.ofString "__str__") 1065, val := Value.ref 672 }, { hash := PyData.keyHash P (Str.ofString "__repr__"), key := Value.str (Str.ofString "__repr__") 1072, val := Value.ref 679 }, { hash := PyData.keyHash P (Str.ofString "__static_attributes__"), key := Value.str (Str.ofString "__static_attributes__") 1073, val := Value.ref 680 }, { hash := PyData.keyHash P (Str.ofString "__dict__"), key := Value.str (Str.ofString "__dict__") 1075, val := Value.ref 683 }, { hash := PyData.keyHash P (Str.ofString "__weakref__"), key := Value.str (Str.ofString "__weakref__") 1077, val := Value.ref 684 }, { hash := PyData.keyHash P (Str.ofString "__doc__"), key := Value.str (Str.ofString "__doc__") 1078, val := Value.none }, { hash := PyData.keyHash P (Str.ofString "__hash__"), key := Value.str (Str.ofString "__hash__") 1079, val := Value.none }] 5 }) ::
  (nat_lit 682, { cls := Value.type "type", data := Data.cls { name := Str.ofString "Step", bases := [Value.type "object"], mro := [Value.ref 682, Value.type "object"], ns := 681, qualname := Str.ofString "Step", subclasses := [Value.ref 717, Value.ref 797, Value.ref 887, Value.ref 906, Value.ref 925] }, slots := #[none, none, some (Value.str (Str.ofString "Step") 1010), some (Value.str (Str.ofString "Step") 1018), some (Value.builtin "object.__new__"), some (Value.bool true)] }) ::
  (nat_lit 683, { cls := Value.type "getset_descriptor", data := Data.fields #[Value.str (Str.ofString "__dict__") 1074, Value.ref 682, Value.builtin "function.__dict__", Value.builtin "function.__dict__#set"] }) ::
  (nat_lit 684, { cls := Value.type "getset_descriptor", data := Data.fields #[Value.str (Str.ofString "__weakref__") 1076, Value.ref 682, Value.builtin "ExceptionGroup.__weakref__", Value.none] }) ::
  (nat_lit 687, { cls := Value.type "tuple", data := Data.seq #[Value.ref 682] }) ::
  (nat_lit 694, { cls := Value.type "tuple", data := Data.seq #[] }) ::
  (nat_lit 696, { cls := Value.type "tuple", data := Data.seq #[Value.str (Str.ofString "self") 1097, Value.str (Str.ofString "width") 1098, Value.str (Str.ofString "height") 1099, Value.str (Str.ofString "cover") 1100] }) ::
  (nat_lit 697, { cls := Value.type "tuple", data := Data.seq #[] }) ::
  (nat_lit 699, { cls := Value.type "code", data := Data.fields #[Value.str (Str.ofString "__init__") 1094, Value.str (Str.ofString "Scaling.__init__") 1095, Value.str (Str.ofString "/claim/cut.py") 1096, Value.int 237 0, Value.int 4 0, Value.int 0 0, Value.int 0 0, Value.int 3 0, Value.ref 694, Value.bool true, Value.int 181 0, Value.ref 695, Value.none, Value.ref 696, Value.ref 697, Value.ref 698, Value.int 1101 0, Value.int 237 0, Value.str (Str.ofString "/claim/cut.py") 1102] }) ::
  (nat_lit 700, ⟨Value.type "function", none, Data.func (PySem.W.fnOf (Str.ofString "__init__") (Str.ofString "Scaling.__init__") (L2.defArgs s_Scaling_init) (L2.defBody s_Scaling_init) (L2.defScope s_Scaling_init) (Value.none) (Value.none) (Value.none) (Value.str (Str.ofString "sizechains.steps") 999) (none) (Value.ref 699) (Value.none)), #[]⟩) ::
  (nat_lit 701, { cls := Value.type "tuple", data := Data.seq #[] }) ::
  (nat_lit 703, { cls := Value.type "tuple", data := Data.seq #[Value.str (Str.ofString "self") 1107, Value.str (Str.ofString "ending") 1108] }) ::
  (nat_lit 704, { cls := Value.type "tuple", data := Data.seq #[] }) ::
  (nat_lit 706, { cls := Value.type "code", data := Data.fields #[Value.str (Str.ofString "details") 1104, Value.str (Str.ofString "Scaling.details") 1105, Value.str (Str.ofString "/claim/cut.py") 1106, Value.int 243 0, Value.int 1 0, Value.int 0 0, Value.int 0 0, Value.int 3 0, Value.ref 701, Value.bool true, Value.int 181 0, Value.ref 702, Value.none, Value.ref 703, Value.ref 704, Value.ref 705, Value.int 1109 0, Value.int 243 0, Value.str (Str.ofString "/claim/cut.py") 1110] }) ::
  (nat_lit 707, ⟨Value.type "function", none, Data.func (PySem.W.fnOf (Str.ofString "details") (Str.ofString "Scaling.details") (L2.defArgs s_Scaling_details) (L2.defBody s_Scaling_details) (L2.defScope s_Scaling_details) (Value.none) (Value.none) (Value.none) (Value.str (Str.ofString "sizechains.steps") 999) (none) (Value.ref 706) (Value.none)), #[]⟩) ::
  (nat_lit 708, { cls := Value.type "tuple", data := Data.seq #[] }) ::
  (nat_lit 710, { cls := Value.type "tuple", data := Data.seq #[Value.str (Str.ofString "self") 1115, Value.str (Str.ofString "size") 1116, Value.str (Str.ofString "by_width") 1117, Value.str (Str.ofString "by_height") 1118, Value.str (Str.ofString "lesser") 1119, Value.str (Str.ofString "greater") 1120] }) ::
  (nat_lit 711, { cls := Value.type "tuple", data := Data.seq #[] }) ::
  (nat_lit 713, { cls := Value.type "code", data := Data.fields #[Value.str (Str.ofString "factor") 1112, Value.str (Str.ofString "Scaling.factor") 1113, Value.str (Str.ofString "/claim/cut.py") 1114, Value.int 247 0, Value.int 2 0, Value.int 0 0, Value.int 0 0, Value.int 3 0, Value.ref 708, Value.bool true, Value.int 181 0, Value.ref 709, Value.none, Value.ref 710, Value.ref 711, Value.ref 712, Value.int 1121 0, Value.int 247 0, Value.str (Str.ofString "/claim/cut.py") 1122] }) ::
  (nat_lit 714, ⟨Value.type "function", none, Data.func (PySem.W.fnOf (Str.ofString "factor") (Str.ofString "Scaling.factor") (L2.defArgs s_Scaling_factor) (L2.defBody s_Scaling_factor) (L2.defScope s_Scaling_factor) (Value.none) (Value.none) (Value.none) (Value.str (Str.ofString "sizechains.steps") 999) (none) (Value.ref 713) (Value.none)), #[]⟩) ::
  (nat_lit 715, { cls := Value.type "tuple", data := Data.seq #[Value.str (Str.ofString "cover") 1124, Value.str (Str.ofString "height") 1125, Value.str (Str.ofString "width") 1126] }) ::
  (nat_lit 716, { cls := Value.type "dict", data := Data.dict #[{ hash := PyData.keyHash P (Str.ofString "__module__"), key := Value.str (Str.ofString "__module__") 1089, val := Value.str (Str.ofString "sizechains.steps") 999 }, { hash := PyData.keyHash P (Str.ofString "__firstlineno__"), key := Value.str (Str.ofString "__firstlineno__") 1093, val := Value.int 235 1092 }, { hash := PyData.keyHash P (Str.ofString "__init__"), key := Value.str (Str.ofString "__init__") 1103, val := Value.ref 700 }, { hash := PyData.keyHash P (Str.ofString "details"), key := Value.str (Str.ofString "details") 1111, val := Value.ref 707 }, { hash := PyData.keyHash P (Str.ofString "factor"), key := Value.str (Str.ofString "factor") 1123, val := Value.ref 714 }, { hash := PyData.keyHash P (Str.ofString "__static_attributes__"), key := Value.str (Str.ofString "__static_attributes__") 1127, val := Value.ref 715 }, { hash := PyData.keyHash P (Str.ofString "__doc__"), key := Value.str (Str.ofString "__doc__") 1128, val := Value.none }] 2 }) ::
  (nat_lit 717, { cls := Value.type "type", data := Data.cls { name := Str.ofString "Scaling", bases := [Value.ref 682], mro := [Value.ref 717, Value.ref 682, Value.type "object"], ns := 716, qualname := Str.ofString "Scaling", subclasses := [Value.ref 744, Value.ref 771] }, slots := #[some (Value.ref 687), none, some (Value.str (Str.ofString "Scaling") 1082), some (Value.str (Str.ofString "Scaling") 1090), some (Value.builtin "object.__new__"), some (Value.bool true)] }) ::
  (nat_lit 720, { cls := Value.type "tuple", data := Data.seq #[Value.ref 717] }) ::
  (nat_lit 727, { cls := Value.type "dict", data := Data.dict #[{ hash := PyData.keyHash P (Str.ofString "cover"), key := Value.str (Str.ofString "cover") 1145, val := Value.bool false }] 1 }) ::
  (nat_lit 728, { cls := Value.type "tuple", data := Data.seq #[] }) ::
  (nat_lit 730, { cls := Value.type "tuple", data := Data.seq #[Value.str (Str.ofString "self") 1149, Value.str (Str.ofString "width") 1150, Value.str (Str.ofString "height") 1151, Value.str (Str.ofString "cover") 1152] }) ::
  (nat_lit 731, { cls := Value.type "tuple", data := Data.seq #[] }) ::
  (nat_lit 733, { cls := Value.type "code", data := Data.fields #[Value.str (Str.ofString "__init__") 1146, Value.str (Str.ofString "Shrink.__init__") 1147, Value.str (Str.ofString "/claim/cut.py") 1148, Value.int 257 0, Value.int 3 0, Value.int 0 0, Value.int 1 0, Value.int 3 0, Value.ref 728, Value.bool true, Value.int 181 0, Value.ref 729, Value.none, Value.ref 730, Value.ref 731, Value.ref 732, Value.int 1153 0, Value.int 257 0, Value.str (Str.ofString "/claim/cut.py") 1154] }) ::
  (nat_lit 734, ⟨Value.type "function", none, Data.func (PySem.W.fnOf (Str.ofString "__init__") (Str.ofString "Shrink.__init__") (L2.defArgs s_Shrink_init) (L2.defBody s_Shrink_init) (L2.defScope s_Shrink_init) (Value.none) (Value.ref 727) (Value.none) (Value.str (Str.ofString "sizechains.steps") 999) (none) (Value.ref 733) (Value.none)), #[]⟩) ::
  (nat_lit 735, { cls := Value.type "tuple", data := Data.seq #[] }) ::
  (nat_lit 737, { cls := Value.type "tuple", data := Data.seq #[Value.str (Str.ofString "self") 1159, Value.str (Str.ofString "size") 1160, Value.str (Str.ofString "factor") 1161] }) ::
  (nat_lit 738, { cls := Value.type "tuple", data := Data.seq #[] }) ::
  (nat_lit 740, { cls := Value.type "code", data := Data.fields #[Value.str (Str.ofString "apply") 1156, Value.str (Str.ofString "Shrink.apply") 1157, Value.str (Str.ofString "/claim/cut.py") 1158, Value.int 260 0, Value.int 2 0, Value.int 0 0, Value.int 0 0, Value.int 3 0, Value.ref 735, Value.bool true, Value.int 181 0, Value.ref 736, Value.none, Value.ref 737, Value.ref 738, Value.ref 739, Value.int 1162 0, Value.int 260 0, Value.str (Str.ofString "/claim/cut.py") 1163] }) ::
  (nat_lit 741, ⟨Value.type "function", none, Data.func (PySem.W.fnOf (Str.ofString "apply") (Str.ofString "Shrink.apply") (L2.defArgs s_Shrink_apply) (L2.defBody s_Shrink_apply) (L2.defScope s_Shrink_apply) (Value.none) (Value.none) (Value.none) (Value.str (Str.ofString "sizechains.steps") 999) (none) (Value.ref 740) (Value.none)), #[]⟩) ::
  (nat_lit 742, { cls := Value.type "tuple", data := Data.seq #[] }) ::
  (nat_lit 743, { cls := Value.type "dict", data := Data.dict #[{ hash := PyData.keyHash P (Str.ofString "__module__"), key := Value.str (Str.ofString "__module__") 1138, val := Value.str (Str.ofString "sizechains.steps") 999 }, { hash := PyData.keyHash P (Str.ofString "__firstlineno__"), key := Value.str (Str.ofString "__firstlineno__") 1142, val := Value.int 254 1141 }, { hash := PyData.keyHash P (Str.ofString "WORD"), key := Value.str (Str.ofString "WORD") 1144, val := Value.str (Str.ofString "shrink") 1143 }, { hash := PyData.keyHash P (Str.ofString "__init__"), key := Value.str (Str.ofString "__init__") 1155, val := Value.ref 734 }, { hash := PyData.keyHash P (Str.ofString "apply"), key := Value.str (Str.ofString "apply") 1164, val := Value.ref 741 }, { hash := PyData.keyHash P (Str.ofString "__static_attributes__"), key := Value.str (Str.ofString "__static_attributes__") 1165, val := Value.ref 742 }, { hash := PyData.keyHash P (Str.ofString "__doc__"), key := Value.str (Str.ofString "__doc__") 1166, val := Value.none }] 2 }) ::
  (nat_lit 744, { cls := Value.type "type", data := Data.cls { name := Str.ofString "Shrink", bases := [Value.ref 717], mro := [Value.ref 744, Value.ref 717, Value.ref 682, Value.type "object"], ns := 743, qualname := Str.ofString "Shrink" }, slots := #[some (Value.ref 720), none, some (Value.str (Str.ofString "Shrink") 1131), some (Value.str (Str.ofString "Shrink") 1139), some (Value.builtin "object.__new__"), some (Value.bool true)] }) ::
  (nat_lit 747, { cls := Value.type "tuple", data := Data.seq #[Value.ref 717] }) ::
  (nat_lit 754, { cls := Value.type "dict", data := Data.dict #[{ hash := PyData.keyHash P (Str.ofString "cover"), key := Value.str (Str.ofString "cover") 1183, val := Value.bool false }] 1 }) ::
  (nat_lit 755, { cls := Value.type "tuple", data := Data.seq #[] }) ::
  (nat_lit 757, { cls := Value.type "tuple", data := Data.seq #[Value.str (Str.ofString "self") 1187, Value.str (Str.ofString "width") 1188, Value.str (Str.ofString "height") 1189, Value.str (Str.ofString "cover") 1190] }) ::
  (nat_lit 758, { cls := Value.type "tuple", data := Data.seq #[] }) ::
  (nat_lit 760, { cls := Value.type "code", data := Data.fields #[Value.str (Str.ofString "__init__") 1184, Value.str (Str.ofString "Grow.__init__") 1185, Value.str (Str.ofString "/claim/cut.py") 1186, Value.int 267 0, Value.int 3 0, Value.int 0 0, Value.int 1 0, Value.int 3 0, Value.ref 755, Value.bool true, Value.int 181 0, Value.ref 756, Value.none, Value.ref 757, Value.ref 758, Value.ref 759, Value.int 1191 0, Value.int 267 0, Value.str (Str.ofString "/claim/cut.py") 1192] }) ::
  (nat_lit 761, ⟨Value.type "function", none, Data.func (PySem.W.fnOf (Str.ofString "__init__") (Str.ofString "Grow.__init__") (L2.defArgs s_Grow_init) (L2.defBody s_Grow_init) (L2.defScope s_Grow_init) (Value.none) (Value.ref 754) (Value.none) (Value.str (Str.ofString "sizechains.steps") 999) (none) (Value.ref 760) (Value.none)), #[]⟩) ::
  (nat_lit 762, { cls := Value.type "tuple", data := Data.seq #[] }) ::
  (nat_lit 764, { cls := Value.type "tuple", data := Data.seq #[Value.str (Str.ofString "self") 1197, Value.str (Str.ofString "size") 1198, Value.str (Str.ofString "factor") 1199] }) ::
  (nat_lit 765, { cls := Value.type "tuple", data := Data.seq #[] }) ::
  (nat_lit 767, { cls := Value.type "code", data := Data.fields #[Value.str (Str.ofString "apply") 1194, Value.str (Str.ofString "Grow.apply") 1195, Value.str (Str.ofString "/claim/cut.py") 1196, Value.int 270 0, Value.int 2 0, Value.int 0 0, Value.int 0 0, Value.int 3 0, Value.ref 762, Value.bool true, Value.int 181 0, Value.ref 763, Value.none, Value.ref 764, Value.ref 765, Value.ref 766, Value.int 1200 0, Value.int 270 0, Value.str (Str.ofString "/claim/cut.py") 1201] }) ::
  (nat_lit 768, ⟨Value.type "function", none, Data.func (PySem.W.fnOf (Str.ofString "apply") (Str.ofString "Grow.apply") (L2.defArgs s_Grow_apply) (L2.defBody s_Grow_apply) (L2.defScope s_Grow_apply) (Value.none) (Value.none) (Value.none) (Value.str (Str.ofString "sizechains.steps") 999) (none) (Value.ref 767) (Value.none)), #[]⟩) ::
  (nat_lit 769, { cls := Value.type "tuple", data := Data.seq #[] }) ::
  (nat_lit 770, { cls := Value.type "dict", data := Data.dict #[{ hash := PyData.keyHash P (Str.ofString "__module__"), key := Value.str (Str.ofString "__module__") 1176, val := Value.str (Str.ofString "sizechains.steps") 999 }, { hash := PyData.keyHash P (Str.ofString "__firstlineno__"), key := Value.str (Str.ofString "__firstlineno__") 1180, val := Value.int 264 1179 }, { hash := PyData.keyHash P (Str.ofString "WORD"), key := Value.str (Str.ofString "WORD") 1182, val := Value.str (Str.ofString "grow") 1181 }, { hash := PyData.keyHash P (Str.ofString "__init__"), key := Value.str (Str.ofString "__init__") 1193, val := Value.ref 761 }, { hash := PyData.keyHash P (Str.ofString "apply"), key := Value.str (Str.ofString "apply") 1202, val := Value.ref 768 }, { hash := PyData.keyHash P (Str.ofString "__static_attributes__"), key := Value.str (Str.ofString "__static_attributes__") 1203, val := Value.ref 769 }, { hash := PyData.keyHash P (Str.ofString "__doc__"), key := Value.str (Str.ofString "__doc__") 1204, val := Value.none }] 2 }) ::
  (nat_lit 771, { cls := Value.type "type", data := Data.cls { name := Str.ofString "Grow", bases := [Value.ref 717], mro := [Value.ref 771, Value.ref 717, Value.ref 682, Value.type "object"], ns := 770, qualname := Str.ofString "Grow" }, slots := #[some (Value.ref 747), none, some (Value.str (Str.ofString "Grow") 1169), some (Value.str (Str.ofString "Grow") 1177), some (Value.builtin "object.__new__"), some (Value.bool true)] }) ::
  (nat_lit 774, { cls := Value.type "tuple", data := Data.seq #[Value.ref 682] }) ::
  (nat_lit 781, { cls := Value.type "tuple", data := Data.seq #[] }) ::
  (nat_lit 783, { cls := Value.type "tuple", data := Data.seq #[Value.str (Str.ofString "self") 1222, Value.str (Str.ofString "width") 1223, Value.str (Str.ofString "height") 1224, Value.str (Str.ofString "keep") 1225, Value.str (Str.ofString "words") 1226] }) ::
  (nat_lit 784, { cls := Value.type "tuple", data := Data.seq #[] }) ::
  (nat_lit 786, { cls := Value.type "code", data := Data.fields #[Value.str (Str.ofString "__init__") 1219, Value.str (Str.ofString "Crop.__init__") 1220, Value.str (Str.ofString "/claim/cut.py") 1221, Value.int 276 0, Value.int 5 0, Value.int 0 0, Value.int 0 0, Value.int 3 0, Value.ref 781, Value.bool true, Value.int 181 0, Value.ref 782, Value.none, Value.ref 783, Value.ref 784, Value.ref 785, Value.int 1227 0, Value.int 276 0, Value.str (Str.ofString "/claim/cut.py") 1228] }) ::
  (nat_lit 787, ⟨Value.type "function", none, Data.func (PySem.W.fnOf (Str.ofString "__init__") (Str.ofString "Crop.__init__") (L2.defArgs s_Crop_init) (L2.defBody s_Crop_init) (L2.defScope s_Crop_init) (Value.none) (Value.none) (Value.none) (Value.str (Str.ofString "sizechains.steps") 999) (none) (Value.ref 786) (Value.none)), #[]⟩) ::
  (nat_lit 788, { cls := Value.type "tuple", data := Data.seq #[] }) ::
  (nat_lit 790, { cls := Value.type "tuple", data := Data.seq #[Value.str (Str.ofString "self") 1233] }) ::
  (nat_lit 791, { cls := Value.type "tuple", data := Data.seq #[] }) ::
  (nat_lit 793, { cls := Value.type "code", data := Data.fields #[Value.str (Str.ofString "details") 1230, Value.str (Str.ofString "Crop.details") 1231, Value.str (Str.ofString "/claim/cut.py") 1232, Value.int 284 0, Value.int 1 0, Value.int 0 0, Value.int 0 0, Value.int 3 0, Value.ref 788, Value.bool true, Value.int 181 0, Value.ref 789, Value.none, Value.ref 790, Value.ref 791, Value.ref 792, Value.int 1234 0, Value.int 284 0, Value.str (Str.ofString "/claim/cut.py") 1235] }) ::
  (nat_lit 794, ⟨Value.type "function", none, Data.func (PySem.W.fnOf (Str.ofString "details") (Str.ofString "Crop.details") (L2.defArgs s_Crop_details) (L2.defBody s_Crop_details) (L2.defScope s_Crop_details) (Value.none) (Value.none) (Value.none) (Value.str (Str.ofString "sizechains.steps") 999) (none) (Value.ref 793) (Value.none)), #[]⟩) ::
  (nat_lit 795, { cls := Value.type "tuple", data := Data.seq #[Value.str (Str.ofString "height") 1237, Value.str (Str.ofString "keep") 1238, Value.str (Str.ofString "width") 1239] }) ::
  (nat_lit 796, { cls := Value.type "dict", data := Data.dict #[{ hash := PyData.keyHash P (Str.ofString "__module__"), key := Value.str (Str.ofString "__module__") 1214, val := Value.str (Str.ofString "sizechains.steps") 999 }, { hash := PyData.keyHash P (Str.ofString "__firstlineno__"), key := Value.str (Str.ofString "__firstlineno__") 1218, val := Value.int 274 1217 }, { hash := PyData.keyHash P (Str.ofString "__init__"), key := Value.str (Str.ofString "__init__") 1229, val := Value.ref 787 }, { hash := PyData.keyHash P (Str.ofString "details"), key := Value.str (Str.ofString "details") 1236, val := Value.ref 794 }, { hash := PyData.keyHash P (Str.ofString "__static_attributes__"), key := Value.str (Str.ofString "__static_attributes__") 1240, val := Value.ref 795 }, { hash := PyData.keyHash P (Str.ofString "__doc__"), key := Value.str (Str.ofString "__doc__") 1241, val := Value.none }] 2 }) ::
  (nat_lit 797, { cls := Value.type "type", data := Data.cls { name := Str.ofString "Crop", bases := [Value.ref 682], mro := [Value.ref 797, Value.ref 682, Value.type "object"], ns := 796, qualname := Str.ofString "Crop", subclasses := [Value.ref 825, Value.ref 853] }, slots := #[some (Value.ref 774), none, some (Value.str (Str.ofString "Crop") 1207), some (Value.str (Str.ofString "Crop") 1215), some (Value.builtin "object.__new__"), some (Value.bool true)] }) ::
  (nat_lit 800, { cls := Value.type "tuple", data := Data.seq #[Value.ref 797] }) ::
  (nat_lit 807, { cls := Value.type "tuple", data := Data.seq #[Value.str (Str.ofString "left") 1258, Value.str (Str.ofString "center") 1259, Value.str (Str.ofString "right") 1260] }) ::
  (nat_lit 808, { cls := Value.type "dict", data := Data.dict #[{ hash := PyData.keyHash P (Str.ofString "keep"), key := Value.str (Str.ofString "keep") 1263, val := Value.str (Str.ofString "center") 1262 }] 1 }) ::
  (nat_lit 809, { cls := Value.type "tuple", data := Data.seq #[] }) ::
  (nat_lit 811, { cls := Value.type "tuple", data := Data.seq #[Value.str (Str.ofString "self") 1267, Value.str (Str.ofString "width") 1268, Value.str (Str.ofString "height") 1269, Value.str (Str.ofString "keep") 1270] }) ::
  (nat_lit 812, { cls := Value.type "tuple", data := Data.seq #[] }) ::
  (nat_lit 814, { cls := Value.type "code", data := Data.fields #[Value.str (Str.ofString "__init__") 1264, Value.str (Str.ofString "CropWidth.__init__") 1265, Value.str (Str.ofString "/claim/cut.py") 1266, Value.int 290 0, Value.int 3 0, Value.int 0 0, Value.int 1 0, Value.int 3 0, Value.ref 809, Value.bool true, Value.int 181 0, Value.ref 810, Value.none, Value.ref 811, Value.ref 812, Value.ref 813, Value.int 1271 0, Value.int 290 0, Value.str (Str.ofString "/claim/cut.py") 1272] }) ::
  (nat_lit 815, ⟨Value.type "function", none, Data.func (PySem.W.fnOf (Str.ofString "__init__") (Str.ofString "CropWidth.__init__") (L2.defArgs s_CropWidth_init) (L2.defBody s_CropWidth_init) (L2.defScope s_CropWidth_init) (Value.none) (Value.ref 808) (Value.none) (Value.str (Str.ofString "sizechains.steps") 999) (none) (Value.ref 814) (Value.none)), #[]⟩) ::
  (nat_lit 816, { cls := Value.type "tuple", data := Data.seq #[] }) ::
  (nat_lit 818, { cls := Value.type "tuple", data := Data.seq #[Value.str (Str.ofString "self") 1277, Value.str (Str.ofString "size") 1278, Value.str (Str.ofString "wanted") 1279] }) ::
  (nat_lit 819, { cls := Value.type "tuple", data := Data.seq #[] }) ::
  (nat_lit 821, { cls := Value.type "code", data := Data.fields #[Value.str (Str.ofString "apply") 1274, Value.str (Str.ofString "CropWidth.apply") 1275, Value.str (Str.ofString "/claim/cut.py") 1276, Value.int 293 0, Value.int 2 0, Value.int 0 0, Value.int 0 0, Value.int 3 0, Value.ref 816, Value.bool true, Value.int 181 0, Value.ref 817, Value.none, Value.ref 818, Value.ref 819, Value.ref 820, Value.int 1280 0, Value.int 293 0, Value.str (Str.ofString "/claim/cut.py") 1281] }) ::
  (nat_lit 822, ⟨Value.type "function", none, Data.func (PySem.W.fnOf (Str.ofString "apply") (Str.ofString "CropWidth.apply") (L2.defArgs s_CropWidth_apply) (L2.defBody s_CropWidth_apply) (L2.defScope s_CropWidth_apply) (Value.none) (Value.none) (Value.none) (Value.str (Str.ofString "sizechains.steps") 999) (none) (Value.ref 821) (Value.none)), #[]⟩) ::
  (nat_lit 823, { cls := Value.type "tuple", data := Data.seq #[] }) ::
  (nat_lit 824, { cls := Value.type "dict", data := Data.dict #[{ hash := PyData.keyHash P (Str.ofString "__module__"), key := Value.str (Str.ofString "__module__") 1251, val := Value.str (Str.ofString "sizechains.steps") 999 }, { hash := PyData.keyHash P (Str.ofString "__firstlineno__"), key := Value.str (Str.ofString "__firstlineno__") 1255, val := Value.int 286 1254 }, { hash := PyData.keyHash P (Str.ofString "WORD"), key := Value.str (Str.ofString "WORD") 1257, val := Value.str (Str.ofString "width") 1256 }, { hash := PyData.keyHash P (Str.ofString "KEEPS"), key := Value.str (Str.ofString "KEEPS") 1261, val := Value.ref 807 }, { hash := PyData.keyHash P (Str.ofString "__init__"), key := Value.str (Str.ofString "__init__") 1273, val := Value.ref 815 }, { hash := PyData.keyHash P (Str.ofString "apply"), key := Value.str (Str.ofString "apply") 1282, val := Value.ref 822 }, { hash := PyData.keyHash P (Str.ofString "__static_attributes__"), key := Value.str (Str.ofString "__static_attributes__") 1283, val := Value.ref 823 }, { hash := PyData.keyHash P (Str.ofString "__doc__"), key := Value.str (Str.ofString "__doc__") 1284, val := Value.none }] 2 }) ::
  (nat_lit 825, { cls := Value.type "type", data := Data.cls { name := Str.ofString "CropWidth", bases := [Value.ref 797], mro := [Value.ref 825, Value.ref 797, Value.ref 682, Value.type "object"], ns := 824, qualname := Str.ofString "CropWidth" }, slots := #[some (Value.ref 800), none, some (Value.str (Str.ofString "CropWidth") 1244), some (Value.str (Str.ofString "CropWidth") 1252), some (Value.builtin "object.__new__"), some (Value.bool true)] }) ::
  (nat_lit 828, { cls := Value.type "tuple", data := Data.seq #[Value.ref 797] }) ::
  (nat_lit 835, { cls := Value.type "tuple", data := Data.seq #[Value.str (Str.ofString "top") 1301, Value.str (Str.ofString "center") 1302, Value.str (Str.ofString "bottom") 1303] }) ::
  (nat_lit 836, { cls := Value.type "dict", data := Data.dict #[{ hash := PyData.keyHash P (Str.ofString "keep"), key := Value.str (Str.ofString "keep") 1306, val := Value.str (Str.ofString "center") 1305 }] 1 }) ::
  (nat_lit 837, { cls := Value.type "tuple", data := Data.seq #[] }) ::
  (nat_lit 839, { cls := Value.type "tuple", data := Data.seq #[Value.str (Str.ofString "self") 1310, Value.str (Str.ofString "width") 1311, Value.str (Str.ofString "height") 1312, Value.str (Str.ofString "keep") 1313] }) ::
  (nat_lit 840, { cls := Value.type "tuple", data := Data.seq #[] }) ::
  (nat_lit 842, { cls := Value.type "code", data := Data.fields #[Value.str (Str.ofString "__init__") 1307, Value.str (Str.ofString "CropHeight.__init__") 1308, Value.str (Str.ofString "/claim/cut.py") 1309, Value.int 303 0, Value.int 3 0, Value.int 0 0, Value.int 1 0, Value.int 3 0, Value.ref 837, Value.bool true, Value.int 181 0, Value.ref 838, Value.none, Value.ref 839, Value.ref 840, Value.ref 841, Value.int 1314 0, Value.int 303 0, Value.str (Str.ofString "/claim/cut.py") 1315] }) ::
  (nat_lit 843, ⟨Value.type "function", none, Data.func (PySem.W.fnOf (Str.ofString "__init__") (Str.ofString "CropHeight.__init__") (L2.defArgs s_CropHeight_init) (L2.defBody s_CropHeight_init) (L2.defScope s_CropHeight_init) (Value.none) (Value.ref 836) (Value.none) (Value.str (Str.ofString "sizechains.steps") 999) (none) (Value.ref 842) (Value.none)), #[]⟩) ::
  (nat_lit 844, { cls := Value.type "tuple", data := Data.seq #[] }) ::
  (nat_lit 846, { cls := Value.type "tuple", data := Data.seq #[Value.str (Str.ofString "self") 1320, Value.str (Str.ofString "size") 1321, Value.str (Str.ofString "wanted") 1322] }) ::
  (nat_lit 847, { cls := Value.type "tuple", data := Data.seq #[] }) ::
  (nat_lit 849, { cls := Value.type "code", data := Data.fields #[Value.str (Str.ofString "apply") 1317, Value.str (Str.ofString "CropHeight.apply") 1318, Value.str (Str.ofString "/claim/cut.py") 1319, Value.int 306 0, Value.int 2 0, Value.int 0 0, Value.int 0 0, Value.int 3 0, Value.ref 844, Value.bool true, Value.int 181 0, Value.ref 845, Value.none, Value.ref 846, Value.ref 847, Value.ref 848, Value.int 1323 0, Value.int 306 0, Value.str (Str.ofString "/claim/cut.py") 1324] }) ::
  (nat_lit 850, ⟨Value.type "function", none, Data.func (PySem.W.fnOf (Str.ofString "apply") (Str.ofString "CropHeight.apply") (L2.defArgs s_CropHeight_apply) (L2.defBody s_CropHeight_apply) (L2.defScope s_CropHeight_apply) (Value.none) (Value.none) (Value.none) (Value.str (Str.ofString "sizechains.steps") 999) (none) (Value.ref 849) (Value.none)), #[]⟩) ::
  (nat_lit 851, { cls := Value.type "tuple", data := Data.seq #[] }) ::
  (nat_lit 852, { cls := Value.type "dict", data := Data.dict #[{ hash := PyData.keyHash P (Str.ofString "__module__"), key := Value.str (Str.ofString "__module__") 1294, val := Value.str (Str.ofString "sizechains.steps") 999 }, { hash := PyData.keyHash P (Str.ofString "__firstlineno__"), key := Value.str (Str.ofString "__firstlineno__") 1298, val := Value.int 299 1297 }, { hash := PyData.keyHash P (Str.ofString "WORD"), key := Value.str (Str.ofString "WORD") 1300, val := Value.str (Str.ofString "height") 1299 }, { hash := PyData.keyHash P (Str.ofString "KEEPS"), key := Value.str (Str.ofString "KEEPS") 1304, val := Value.ref 835 }, { hash := PyData.keyHash P (Str.ofString "__init__"), key := Value.str (Str.ofString "__init__") 1316, val := Value.ref 843 }, { hash := PyData.keyHash P (Str.ofString "apply"), key := Value.str (Str.ofString "apply") 1325, val := Value.ref 850 }, { hash := PyData.keyHash P (Str.ofString "__static_attributes__"), key := Value.str (Str.ofString "__static_attributes__") 1326, val := Value.ref 851 }, { hash := PyData.keyHash P (Str.ofString "__doc__"), key := Value.str (Str.ofString "__doc__") 1327, val := Value.none }] 2 }) ::
  (nat_lit 853, { cls := Value.type "type", data := Data.cls { name := Str.ofString "CropHeight", bases := [Value.ref 797], mro := [Value.ref 853, Value.ref 797, Value.ref 682, Value.type "object"], ns := 852, qualname := Str.ofString "CropHeight" }, slots := #[some (Value.ref 828), none, some (Value.str (Str.ofString "CropHeight") 1287), some (Value.str (Str.ofString "CropHeight") 1295), some (Value.builtin "object.__new__"), some (Value.bool true)] }) ::
  (nat_lit 856, { cls := Value.type "tuple", data := Data.seq #[Value.ref 682] }) ::
  (nat_lit 863, { cls := Value.type "tuple", data := Data.seq #[Value.int 1 1344] }) ::
  (nat_lit 864, { cls := Value.type "tuple", data := Data.seq #[] }) ::
  (nat_lit 866, { cls := Value.type "tuple", data := Data.seq #[Value.str (Str.ofString "self") 1348, Value.str (Str.ofString "times") 1349] }) ::
  (nat_lit 867, { cls := Value.type "tuple", data := Data.seq #[] }) ::
  (nat_lit 869, { cls := Value.type "code", data := Data.fields #[Value.str (Str.ofString "__init__") 1345, Value.str (Str.ofString "Turn.__init__") 1346, Value.str (Str.ofString "/claim/cut.py") 1347, Value.int 315 0, Value.int 2 0, Value.int 0 0, Value.int 0 0, Value.int 3 0, Value.ref 864, Value.bool true, Value.int 181 0, Value.ref 865, Value.none, Value.ref 866, Value.ref 867, Value.ref 868, Value.int 1350 0, Value.int 315 0, Value.str (Str.ofString "/claim/cut.py") 1351] }) ::
  (nat_lit 870, ⟨Value.type "function", none, Data.func (PySem.W.fnOf (Str.ofString "__init__") (Str.ofString "Turn.__init__") (L2.defArgs s_Turn_init) (L2.defBody s_Turn_init) (L2.defScope s_Turn_init) (Value.ref 863) (Value.none) (Value.none) (Value.str (Str.ofString "sizechains.steps") 999) (none) (Value.ref 869) (Value.none)), #[]⟩) ::
  (nat_lit 871, { cls := Value.type "tuple", data := Data.seq #[] }) ::
  (nat_lit 873, { cls := Value.type "tuple", data := Data.seq #[Value.str (Str.ofString "self") 1356] }) ::
  (nat_lit 874, { cls := Value.type "tuple", data := Data.seq #[] }) ::
  (nat_lit 876, { cls := Value.type "code", data := Data.fields #[Value.str (Str.ofString "details") 1353, Value.str (Str.ofString "Turn.details") 1354, Value.str (Str.ofString "/claim/cut.py") 1355, Value.int 320 0, Value.int 1 0, Value.int 0 0, Value.int 0 0, Value.int 3 0, Value.ref 871, Value.bool true, Value.int 181 0, Value.ref 872, Value.none, Value.ref 873, Value.ref 874, Value.ref 875, Value.int 1357 0, Value.int 320 0, Value.str (Str.ofString "/claim/cut.py") 1358] }) ::
  (nat_lit 877, ⟨Value.type "function", none, Data.func (PySem.W.fnOf (Str.ofString "details") (Str.ofString "Turn.details") (L2.defArgs s_Turn_details) (L2.defBody s_Turn_details) (L2.defScope s_Turn_details) (Value.none) (Value.none) (Value.none) (Value.str (Str.ofString "sizechains.steps") 999) (none) (Value.ref 876) (Value.none)), #[]⟩) ::
  (nat_lit 878, { cls := Value.type "tuple", data := Data.seq #[] }) ::
  (nat_lit 880, { cls := Value.type "tuple", data := Data.seq #[Value.str (Str.ofString "self") 1363, Value.str (Str.ofString "size") 1364] }) ::
  (nat_lit 881, { cls := Value.type "tuple", data := Data.seq #[] }) ::
  (nat_lit 883, { cls := Value.type "code", data := Data.fields #[Value.str (Str.ofString "apply") 1360, Value.str (Str.ofString "Turn.apply") 1361, Value.str (Str.ofString "/claim/cut.py") 1362, Value.int 323 0, Value.int 2 0, Value.int 0 0, Value.int 0 0, Value.int 3 0, Value.ref 878, Value.bool true, Value.int 181 0, Value.ref 879, Value.none, Value.ref 880, Value.ref 881, Value.ref 882, Value.int 1365 0, Value.int 323 0, Value.str (Str.ofString "/claim/cut.py") 1366] }) ::
  (nat_lit 884, ⟨Value.type "function", none, Data.func (PySem.W.fnOf (Str.ofString "apply") (Str.ofString "Turn.apply") (L2.defArgs s_Turn_apply) (L2.defBody s_Turn_apply) (L2.defScope s_Turn_apply) (Value.none) (Value.none) (Value.none) (Value.str (Str.ofString "sizechains.steps") 999) (none) (Value.ref 883) (Value.none)), #[]⟩) ::
  (nat_lit 885, { cls := Value.type "tuple", data := Data.seq #[Value.str (Str.ofString "times") 1368] }) ::
  (nat_lit 886, { cls := Value.type "dict", data := Data.dict #[{ hash := PyData.keyHash P (Str.ofString "__module__"), key := Value.str (Str.ofString "__module__") 1337, val := Value.str (Str.ofString "sizechains.steps") 999 }, { hash := PyData.keyHash P (Str.ofString "__firstlineno__"), key := Value.str (Str.ofString "__firstlineno__") 1341, val := Value.int 312 1340 }, { hash := PyData.keyHash P (Str.ofString "WORD"), key := Value.str (Str.ofString "WORD") 1343, val := Value.str (Str.ofString "turn") 1342 }, { hash := PyData.keyHash P (Str.ofString "__init__"), key := Value.str (Str.ofString "__init__") 1352, val := Value.ref 870 }, { hash := PyData.keyHash P (Str.ofString "details"), key := Value.str (Str.ofString "details") 1359, val := Value.ref 877 }, { hash := PyData.keyHash P (Str.ofString "apply"), key := Value.str (Str.ofString "apply") 1367, val := Value.ref 884 }, { hash := PyData.keyHash P (Str.ofString "__static_attributes__"), key := Value.str (Str.ofString "__static_attributes__") 1369, val := Value.ref 885 }, { hash := PyData.keyHash P (Str.ofString "__doc__"), key := Value.str (Str.ofString "__doc__") 1370, val := Value.none }] 2 }) ::
  (nat_lit 887, { cls := Value.type "type", data := Data.cls { name := Str.ofString "Turn", bases := [Value.ref 682], mro := [Value.ref 887, Value.ref 682, Value.type "object"], ns := 886, qualname := Str.ofString "Turn" }, slots := #[some (Value.ref 856), none, some (Value.str (Str.ofString "Turn") 1330), some (Value.str (Str.ofString "Turn") 1338), some (Value.builtin "object.__new__"), some (Value.bool true)] }) ::
  (nat_lit 890, { cls := Value.type "tuple", data := Data.seq #[Value.ref 682] }) ::
  (nat_lit 897, { cls := Value.type "tuple", data := Data.seq #[] }) ::
  (nat_lit 899, { cls := Value.type "tuple", data := Data.seq #[Value.str (Str.ofString "self") 1390, Value.str (Str.ofString "size") 1391] }) ::
  (nat_lit 900, { cls := Value.type "tuple", data := Data.seq #[] }) ::
  (nat_lit 902, { cls := Value.type "code", data := Data.fields #[Value.str (Str.ofString "apply") 1387, Value.str (Str.ofString "Landscape.apply") 1388, Value.str (Str.ofString "/claim/cut.py") 1389, Value.int 329 0, Value.int 2 0, Value.int 0 0, Value.int 0 0, Value.int 3 0, Value.ref 897, Value.bool true, Value.int 181 0, Value.ref 898, Value.none, Value.ref 899, Value.ref 900, Value.ref 901, Value.int 1392 0, Value.int 329 0, Value.str (Str.ofString "/claim/cut.py") 1393] }) ::
  (nat_lit 903, ⟨Value.type "function", none, Data.func (PySem.W.fnOf (Str.ofString "apply") (Str.ofString "Landscape.apply") (L2.defArgs s_Landscape_apply) (L2.defBody s_Landscape_apply) (L2.defScope s_Landscape_apply) (Value.none) (Value.none) (Value.none) (Value.str (Str.ofString "sizechains.steps") 999) (none) (Value.ref 902) (Value.none)), #[]⟩) ::
  (nat_lit 904, { cls := Value.type "tuple", data := Data.seq #[] }) ::
  (nat_lit 905, { cls := Value.type "dict", data := Data.dict #[{ hash := PyData.keyHash P (Str.ofString "__module__"), key := Value.str (Str.ofString "__module__") 1380, val := Value.str (Str.ofString "sizechains.steps") 999 }, { hash := PyData.keyHash P (Str.ofString "__firstlineno__"), key := Value.str (Str.ofString "__firstlineno__") 1384, val := Value.int 326 1383 }, { hash := PyData.keyHash P (Str.ofString "WORD"), key := Value.str (Str.ofString "WORD") 1386, val := Value.str (Str.ofString "landscape") 1385 }, { hash := PyData.keyHash P (Str.ofString "apply"), key := Value.str (Str.ofString "apply") 1394, val := Value.ref 903 }, { hash := PyData.keyHash P (Str.ofString "__static_attributes__"), key := Value.str (Str.ofString "__static_attributes__") 1395, val := Value.ref 904 }, { hash := PyData.keyHash P (Str.ofString "__doc__"), key := Value.str (Str.ofString "__doc__") 1396, val := Value.none }] 2 }) ::
  (nat_lit 906, { cls := Value.type "type", data := Data.cls { name := Str.ofString "Landscape", bases := [Value.ref 682], mro := [Value.ref 906, Value.ref 682, Value.type "object"], ns := 905, qualname := Str.ofString "Landscape" }, slots := #[some (Value.ref 890), none, some (Value.str (Str.ofString "Landscape") 1373), some (Value.str (Str.ofString "Landscape") 1381), some (Value.builtin "object.__new__"), some (Value.bool true)] }) ::
  (nat_lit 909, { cls := Value.type "tuple", data := Data.seq #[Value.ref 682] }) ::
  (nat_lit 916, { cls := Value.type "tuple", data := Data.seq #[] }) ::
  (nat_lit 918, { cls := Value.type "tuple", data := Data.seq #[Value.str (Str.ofString "self") 1416, Value.str (Str.ofString "size") 1417] }) ::
  (nat_lit 919, { cls := Value.type "tuple", data := Data.seq #[] }) ::
  (nat_lit 921, { cls := Value.type "code", data := Data.fields #[Value.str (Str.ofString "apply") 1413, Value.str (Str.ofString "Portrait.apply") 1414, Value.str (Str.ofString "/claim/cut.py") 1415, Value.int 335 0, Value.int 2 0, Value.int 0 0, Value.int 0 0, Value.int 3 0, Value.ref 916, Value.bool true, Value.int 181 0, Value.ref 917, Value.none, Value.ref 918, Value.ref 919, Value.ref 920, Value.int 1418 0, Value.int 335 0, Value.str (Str.ofString "/claim/cut.py") 1419] }) ::
  (nat_lit 922, ⟨Value.type "function", none, Data.func (PySem.W.fnOf (Str.ofString "apply") (Str.ofString "Portrait.apply") (L2.defArgs s_Portrait_apply) (L2.defBody s_Portrait_apply) (L2.defScope s_Portrait_apply) (Value.none) (Value.none) (Value.none) (Value.str (Str.ofString "sizechains.steps") 999) (none) (Value.ref 921) (Value.none)), #[]⟩) ::
  (nat_lit 923, { cls := Value.type "tuple", data := Data.seq #[] }) ::
  (nat_lit 924, { cls := Value.type "dict", data := Data.dict #[{ hash := PyData.keyHash P (Str.ofString "__module__"), key := Value.str (Str.ofString "__module__") 1406, val := Value.str (Str.ofString "sizechains.steps") 999 }, { hash := PyData.keyHash P (Str.ofString "__firstlineno__"), key := Value.str (Str.ofString "__firstlineno__") 1410, val := Value.int 332 1409 }, { hash := PyData.keyHash P (Str.ofString "WORD"), key := Value.str (Str.ofString "WORD") 1412, val := Value.str (Str.ofString "portrait") 1411 }, { hash := PyData.keyHash P (Str.ofString "apply"), key := Value.str (Str.ofString "apply") 1420, val := Value.ref 922 }, { hash := PyData.keyHash P (Str.ofString "__static_attributes__"), key := Value.str (Str.ofString "__static_attributes__") 1421, val := Value.ref 923 }, { hash := PyData.keyHash P (Str.ofString "__doc__"), key := Value.str (Str.ofString "__doc__") 1422, val := Value.none }] 2 }) ::
  (nat_lit 925, { cls := Value.type "type", data := Data.cls { name := Str.ofString "Portrait", bases := [Value.ref 682], mro := [Value.ref 925, Value.ref 682, Value.type "object"], ns := 924, qualname := Str.ofString "Portrait" }, slots := #[some (Value.ref 909), none, some (Value.str (Str.ofString "Portrait") 1399), some (Value.str (Str.ofString "Portrait") 1407), some (Value.builtin "object.__new__"), some (Value.bool true)] }) ::
  (nat_lit 928, { cls := Value.type "tuple", data := Data.seq #[] }) ::
  (nat_lit 930, { cls := Value.type "tuple", data := Data.seq #[Value.str (Str.ofString "text") 1428, Value.str (Str.ofString "sign") 1429, Value.str (Str.ofString "width") 1430, Value.str (Str.ofString "found") 1431, Value.str (Str.ofString "height") 1432, Value.str (Str.ofString "numeral") 1433] }) ::
  (nat_lit 931, { cls := Value.type "tuple", data := Data.seq #[] }) ::
  (nat_lit 933, { cls := Value.type "code", data := Data.fields #[Value.str (Str.ofString "find_sides") 1425, Value.str (Str.ofString "find_sides") 1426, Value.str (Str.ofString "/claim/cut.py") 1427, Value.int 338 0, Value.int 2 0, Value.int 0 0, Value.int 0 0, Value.int 3 0, Value.ref 928, Value.bool true, Value.int 181 0, Value.ref 929, Value.none, Value.ref 930, Value.ref 931, Value.ref 932, Value.int 1434 0, Value.int 338 0, Value.str (Str.ofString "/claim/cut.py") 1435] }) ::
  (nat_lit 934, ⟨Value.type "function", none, Data.func (PySem.W.fnOf (Str.ofString "find_sides") (Str.ofString "find_sides") (L2.defArgs s_find_sides) (L2.defBody s_find_sides) (L2.defScope s_find_sides) (Value.none) (Value.none) (Value.none) (Value.str (Str.ofString "sizechains.steps") 999) (none) (Value.ref 933) (Value.none)), #[]⟩) ::
  (nat_lit 935, { cls := Value.type "tuple", data := Data.seq #[] }) ::
  (nat_lit 937, { cls := Value.type "tuple", data := Data.seq #[Value.str (Str.ofString "word") 1440, Value.str (Str.ofString "width") 1441, Value.str (Str.ofString "height") 1442, Value.str (Str.ofString "cover") 1443] }) ::
  (nat_lit 938, { cls := Value.type "tuple", data := Data.seq #[] }) ::
  (nat_lit 940, { cls := Value.type "code", data := Data.fields #[Value.str (Str.ofString "scaling") 1437, Value.str (Str.ofString "scaling") 1438, Value.str (Str.ofString "/claim/cut.py") 1439, Value.int 344 0, Value.int 4 0, Value.int 0 0, Value.int 0 0, Value.int 3 0, Value.ref 935, Value.bool true, Value.int 181 0, Value.ref 936, Value.none, Value.ref 937, Value.ref 938, Value.ref 939, Value.int 1444 0, Value.int 344 0, Value.str (Str.ofString "/claim/cut.py") 1445] }) ::
  (nat_lit 941, ⟨Value.type "function", none, Data.func (PySem.W.fnOf (Str.ofString "scaling") (Str.ofString "scaling") (L2.defArgs s_scaling) (L2.defBody s_scaling) (L2.defScope s_scaling) (Value.none) (Value.none) (Value.none) (Value.str (Str.ofString "sizechains.steps") 999) (none) (Value.ref 940) (Value.none)), #[]⟩) ::
  (nat_lit 942, { cls := Value.type "tuple", data := Data.seq #[] }) ::
  (nat_lit 944, { cls := Value.type "tuple", data := Data.seq #[Value.str (Str.ofString "word") 1450, Value.str (Str.ofString "details") 1451, Value.str (Str.ofString "sides") 1452] }) ::
  (nat_lit 945, { cls := Value.type "tuple", data := Data.seq #[] }) ::
  (nat_lit 947, { cls := Value.type "code", data := Data.fields #[Value.str (Str.ofString "find_scaling") 1447, Value.str (Str.ofString "find_scaling") 1448, Value.str (Str.ofString "/claim/cut.py") 1449, Value.int 348 0, Value.int 2 0, Value.int 0 0, Value.int 0 0, Value.int 3 0, Value.ref 942, Value.bool true, Value.int 181 0, Value.ref 943, Value.none, Value.ref 944, Value.ref 945, Value.ref 946, Value.int 1453 0, Value.int 348 0, Value.str (Str.ofString "/claim/cut.py") 1454] }) ::
  (nat_lit 948, ⟨Value.type "function", none, Data.func (PySem.W.fnOf (Str.ofString "find_scaling") (Str.ofString "find_scaling") (L2.defArgs s_find_scaling) (L2.defBody s_find_scaling) (L2.defScope s_find_scaling) (Value.none) (Value.none) (Value.none) (Value.str (Str.ofString "sizechains.steps") 999) (none) (Value.ref 947) (Value.none)), #[]⟩) ::
  (nat_lit 949, { cls := Value.type "tuple", data := Data.seq #[] }) ::
  (nat_lit 951, { cls := Value.type "tuple", data := Data.seq #[Value.str (Str.ofString "word") 1459, Value.str (Str.ofString "details") 1460, Value.str (Str.ofString "sides") 1461, Value.str (Str.ofString "keep") 1462] }) ::
  (nat_lit 952, { cls := Value.type "tuple", data := Data.seq #[] }) ::
  (nat_lit 954, { cls := Value.type "code", data := Data.fields #[Value.str (Str.ofString "find_crop") 1456, Value.str (Str.ofString "find_crop") 1457, Value.str (Str.ofString "/claim/cut.py") 1458, Value.int 353 0, Value.int 2 0, Value.int 0 0, Value.int 0 0, Value.int 3 0, Value.ref 949, Value.bool true, Value.int 181 0, Value.ref 950, Value.none, Value.ref 951, Value.ref 952, Value.ref 953, Value.int 1463 0, Value.int 353 0, Value.str (Str.ofString "/claim/cut.py") 1464] }) ::
  (nat_lit 955, ⟨Value.type "function", none, Data.func (PySem.W.fnOf (Str.ofString "find_crop") (Str.ofString "find_crop") (L2.defArgs s_find_crop) (L2.defBody s_find_crop) (L2.defScope s_find_crop) (Value.none) (Value.none) (Value.none) (Value.str (Str.ofString "sizechains.steps") 999) (none) (Value.ref 954) (Value.none)), #[]⟩) ::
  (nat_lit 956, { cls := Value.type "tuple", data := Data.seq #[] }) ::
  (nat_lit 958, { cls := Value.type "tuple", data := Data.seq #[Value.str (Str.ofString "word") 1469, Value.str (Str.ofString "details") 1470] }) ::
  (nat_lit 959, { cls := Value.type "tuple", data := Data.seq #[] }) ::
  (nat_lit 961, { cls := Value.type "code", data := Data.fields #[Value.str (Str.ofString "find_turn") 1466, Value.str (Str.ofString "find_turn") 1467, Value.str (Str.ofString "/claim/cut.py") 1468, Value.int 363 0, Value.int 2 0, Value.int 0 0, Value.int 0 0, Value.int 3 0, Value.ref 956, Value.bool true, Value.int 181 0, Value.ref 957, Value.none, Value.ref 958, Value.ref 959, Value.ref 960, Value.int 1471 0, Value.int 363 0, Value.str (Str.ofString "/claim/cut.py") 1472] }) ::
  (nat_lit 962, ⟨Value.type "function", none, Data.func (PySem.W.fnOf (Str.ofString "find_turn") (Str.ofString "find_turn") (L2.defArgs s_find_turn) (L2.defBody s_find_turn) (L2.defScope s_find_turn) (Value.none) (Value.none) (Value.none) (Value.str (Str.ofString "sizechains.steps") 999) (none) (Value.ref 961) (Value.none)), #[]⟩) ::
  (nat_lit 963, { cls := Value.type "tuple", data := Data.seq #[] }) ::
  (nat_lit 965, { cls := Value.type "tuple", data := Data.seq #[Value.str (Str.ofString "text") 1477, Value.str (Str.ofString "words") 1478, Value.str (Str.ofString "word") 1479, Value.str (Str.ofString "details") 1480, Value.str (Str.ofString "step") 1481] }) ::
  (nat_lit 966, { cls := Value.type "tuple", data := Data.seq #[] }) ::
  (nat_lit 968, { cls := Value.type "code", data := Data.fields #[Value.str (Str.ofString "find_step") 1474, Value.str (Str.ofString "find_step") 1475, Value.str (Str.ofString "/claim/cut.py") 1476, Value.int 371 0, Value.int 1 0, Value.int 0 0, Value.int 0 0, Value.int 3 0, Value.ref 963, Value.bool true, Value.int 181 0, Value.ref 964, Value.none, Value.ref 965, Value.ref 966, Value.ref 967, Value.int 1482 0, Value.int 371 0, Value.str (Str.ofString "/claim/cut.py") 1483] }) ::
  (nat_lit 969, ⟨Value.type "function", none, Data.func (PySem.W.fnOf (Str.ofString "find_step") (Str.ofString "find_step") (L2.defArgs s_find_step) (L2.defBody s_find_step) (L2.defScope s_find_step) (Value.none) (Value.none) (Value.none) (Value.str (Str.ofString "sizechains.steps") 999) (none) (Value.ref 968) (Value.none)), #[]⟩) ::
  (nat_lit 970, { cls := Value.type "tuple", data := Data.seq #[] }) ::
  (nat_lit 972, { cls := Value.type "tuple", data := Data.seq #[Value.str (Str.ofString "chain") 1490] }) ::
  (nat_lit 973, { cls := Value.type "tuple", data := Data.seq #[] }) ::
  (nat_lit 975, { cls := Value.type "code", data := Data.fields #[Value.str (Str.ofString "check_chain") 1487, Value.str (Str.ofString "check_chain") 1488, Value.str (Str.ofString "/claim/cut.py") 1489, Value.int 386 0, Value.int 1 0, Value.int 0 0, Value.int 0 0, Value.int 3 0, Value.ref 970, Value.bool true, Value.int 181 0, Value.ref 971, Value.none, Value.ref 972, Value.ref 973, Value.ref 974, Value.int 1491 0, Value.int 386 0, Value.str (Str.ofString "/claim/cut.py") 1492] }) ::
  (nat_lit 976, ⟨Value.type "function", none, Data.func (PySem.W.fnOf (Str.ofString "check_chain") (Str.ofString "check_chain") (L2.defArgs s_check_chain) (L2.defBody s_check_chain) (L2.defScope s_check_chain) (Value.none) (Value.none) (Value.none) (Value.str (Str.ofString "sizechains.chains") 1485) (none) (Value.ref 975) (Value.none)), #[]⟩) ::
  (nat_lit 977, { cls := Value.type "tuple", data := Data.seq #[] }) ::
  (nat_lit 980, { cls := Value.type "code", data := Data.fields #[Value.str (Str.ofString "find_steps") 1494, Value.str (Str.ofString "find_steps") 1495, Value.str (Str.ofString "/claim/cut.py") 1496, Value.int 389 0, Value.int 1 0, Value.int 0 0, Value.int 0 0, Value.int 3 0, Value.ref 977, Value.bool true, Value.int 181 0, Value.ref 978, Value.none, Value.none, Value.none, Value.ref 979, Value.int 1497 0, Value.int 389 0, Value.str (Str.ofString "/claim/cut.py") 1498] }) ::
  (nat_lit 981, ⟨Value.type "function", none, Data.func (PySem.W.fnOf (Str.ofString "find_steps") (Str.ofString "find_steps") (L2.defArgs s_find_steps) (L2.defBody s_find_steps) (L2.defScope s_find_steps) (Value.none) (Value.none) (Value.none) (Value.str (Str.ofString "sizechains.chains") 1485) (none) (Value.ref 980) (Value.none)), #[]⟩) ::
  (nat_lit 989, { cls := Value.type "tuple", data := Data.seq #[] }) ::
  (nat_lit 991, { cls := Value.type "tuple", data := Data.seq #[Value.str (Str.ofString "self") 1517, Value.str (Str.ofString "steps") 1518, Value.str (Str.ofString "index") 1519, Value.str (Str.ofString "step") 1520] }) ::
  (nat_lit 992, { cls := Value.type "tuple", data := Data.seq #[] }) ::
  (nat_lit 994, { cls := Value.type "code", data := Data.fields #[Value.str (Str.ofString "__init__") 1514, Value.str (Str.ofString "Chain.__init__") 1515, Value.str (Str.ofString "/claim/cut.py") 1516, Value.int 399 0, Value.int 1 0, Value.int 0 0, Value.int 0 0, Value.int 7 0, Value.ref 989, Value.bool true, Value.int 181 0, Value.ref 990, Value.none, Value.ref 991, Value.ref 992, Value.ref 993, Value.int 1521 0, Value.int 399 0, Value.str (Str.ofString "/claim/cut.py") 1522] }) ::
  (nat_lit 995, ⟨Value.type "function", none, Data.func (PySem.W.fnOf (Str.ofString "__init__") (Str.ofString "Chain.__init__") (L2.defArgs s_Chain_init) (L2.defBody s_Chain_init) (L2.defScope s_Chain_init) (Value.none) (Value.none) (Value.none) (Value.str (Str.ofString "sizechains.chains") 1485) (none) (Value.ref 994) (Value.none)), #[]⟩) ::
  (nat_lit 996, { cls := Value.type "tuple", data := Data.seq #[] }) ::
  (nat_lit 998, { cls := Value.type "tuple", data := Data.seq #[Value.str (Str.ofString "cls") 1527, Value.str (Str.ofString "text") 1528, Value.str (Str.ofString "steps") 1529] }) ::
  (nat_lit 999, { cls := Value.type "tuple", data := Data.seq #[] }) ::
  (nat_lit 1001, { cls := Value.type "code", data := Data.fields #[Value.str (Str.ofString "read") 1524, Value.str (Str.ofString "Chain.read") 1525, Value.str (Str.ofString "/claim/cut.py") 1526, Value.int 407 0, Value.int 2 0, Value.int 0 0, Value.int 0 0, Value.int 3 0, Value.ref 996, Value.bool true, Value.int 181 0, Value.ref 997, Value.none, Value.ref 998, Value.ref 999, Value.ref 1000, Value.int 1530 0, Value.int 407 0, Value.str (Str.ofString "/claim/cut.py") 1531] }) ::
  (nat_lit 1002, ⟨Value.type "function", none, Data.func (PySem.W.fnOf (Str.ofString "read") (Str.ofString "Chain.read") (L2.defArgs s_Chain_read) (L2.defBody s_Chain_read) (L2.defScope s_Chain_read) (Value.none) (Value.none) (Value.none) (Value.str (Str.ofString "sizechains.chains") 1485) (some 1005) (Value.ref 1001) (Value.none)), #[]⟩) ::
  (nat_lit 1003, { cls := Value.type "dict", data := Data.dict #[{ hash := PyData.keyHash P (Str.ofString "__module__"), key := Value.str (Str.ofString "__module__") 1533, val := Value.str (Str.ofString "sizechains.chains") 1485 }, { hash := PyData.keyHash P (Str.ofString "__name__"), key := Value.str (Str.ofString "__name__") 1536, val := Value.str (Str.ofString "read") 1535 }, { hash := PyData.keyHash P (Str.ofString "__qualname__"), key := Value.str (Str.ofString "__qualname__") 1539, val := Value.str (Str.ofString "Chain.read") 1538 }, { hash := PyData.keyHash P (Str.ofString "__doc__"), key := Value.str (Str.ofString "__doc__") 1541, val := Value.none }, { hash := PyData.keyHash P (Str.ofString "__annotations__"), key := Value.str (Str.ofString "__annotations__") 1543, val := Value.ref 1005 }] 5 }) ::
  (nat_lit 1004, { cls := Value.type "classmethod", dict := some 1003, data := Data.fields #[Value.ref 1002, Value.bool false] }) ::
  (nat_lit 1005, { cls := Value.type "dict", data := Data.dict #[] }) ::
  (nat_lit 1006, { cls := Value.type "tuple", data := Data.seq #[] }) ::
  (nat_lit 1008, { cls := Value.type "tuple", data := Data.seq #[Value.str (Str.ofString "self") 1548] }) ::
  (nat_lit 1009, { cls := Value.type "tuple", data := Data.seq #[] }) ::
  (nat_lit 1011, { cls := Value.type "code", data := Data.fields #[Value.str (Str.ofString "steps") 1545, Value.str (Str.ofString "Chain.steps") 1546, Value.str (Str.ofString "/claim/cut.py") 1547, Value.int 414 0, Value.int 1 0, Value.int 0 0, Value.int 0 0, Value.int 3 0, Value.ref 1006, Value.bool true, Value.int 181 0, Value.ref 1007, Value.none, Value.ref 1008, Value.ref 1009, Value.ref 1010, Value.int 1549 0, Value.int 414 0, Value.str (Str.ofString "/claim/cut.py") 1550] }) ::
  (nat_lit 1012, ⟨Value.type "function", none, Data.func (PySem.W.fnOf (Str.ofString "steps") (Str.ofString "Chain.steps") (L2.defArgs s_Chain_steps) (L2.defBody s_Chain_steps) (L2.defScope s_Chain_steps) (Value.none) (Value.none) (Value.none) (Value.str (Str.ofString "sizechains.chains") 1485) (none) (Value.ref 1011) (Value.none)), #[]⟩) ::
  (nat_lit 1013, { cls := Value.type "property", data := Data.fields #[Value.ref 1012, Value.none, Value.none, Value.none, Value.str (Str.ofString "steps") 1552, Value.bool false] }) ::
  (nat_lit 1014, { cls := Value.type "tuple", data := Data.seq #[] }) ::
  (nat_lit 1016, { cls := Value.type "tuple", data := Data.seq #[Value.str (Str.ofString "self") 1556, Value.str (Str.ofString "size") 1557] }) ::
  (nat_lit 1017, { cls := Value.type "tuple", data := Data.seq #[] }) ::
  (nat_lit 1019, { cls := Value.type "code", data := Data.fields #[Value.str (Str.ofString "walk") 1553, Value.str (Str.ofString "Chain.walk") 1554, Value.str (Str.ofString "/claim/cut.py") 1555, Value.int 418 0, Value.int 2 0, Value.int 0 0, Value.int 0 0, Value.int 3 0, Value.ref 1014, Value.bool true, Value.int 181 0, Value.ref 1015, Value.none, Value.ref 1016, Value.ref 1017, Value.ref 1018, Value.int 1558 0, Value.int 418 0, Value.str (Str.ofString "/claim/cut.py") 1559] }) ::
  (nat_lit 1020, ⟨Value.type "function", none, Data.func (PySem.W.fnOf (Str.ofString "walk") (Str.ofString "Chain.walk") (L2.defArgs s_Chain_walk) (L2.defBody s_Chain_walk) (L2.defScope s_Chain_walk) (Value.none) (Value.none) (Value.none) (Value.str (Str.ofString "sizechains.chains") 1485) (none) (Value.ref 1019) (Value.none)), #[]⟩) ::
  (nat_lit 1021, { cls := Value.type "tuple", data := Data.seq #[] }) ::
  (nat_lit 1023, { cls := Value.type "tuple", data := Data.seq #[Value.str (Str.ofString "self") 1564, Value.str (Str.ofString "size") 1565, Value.str (Str.ofString "step") 1566] }) ::
  (nat_lit 1024, { cls := Value.type "tuple", data := Data.seq #[] }) ::
  (nat_lit 1026, { cls := Value.type "code", data := Data.fields #[Value.str (Str.ofString "__call__") 1561, Value.str (Str.ofString "Chain.__call__") 1562, Value.str (Str.ofString "/claim/cut.py") 1563, Value.int 421 0, Value.int 2 0, Value.int 0 0, Value.int 0 0, Value.int 3 0, Value.ref 1021, Value.bool true, Value.int 181 0, Value.ref 1022, Value.none, Value.ref 1023, Value.ref 1024, Value.ref 1025, Value.int 1567 0, Value.int 421 0, Value.str (Str.ofString "/claim/cut.py") 1568] }) ::
  (nat_lit 1027, ⟨Value.type "function", none, Data.func (PySem.W.fnOf (Str.ofString "__call__") (Str.ofString "Chain.__call__") (L2.defArgs s_Chain_call) (L2.defBody s_Chain_call) (L2.defScope s_Chain_call) (Value.none) (Value.none) (Value.none) (Value.str (Str.ofString "sizechains.chains") 1485) (none) (Value.ref 1026) (Value.none)), #[]⟩) ::
  (nat_lit 1028, { cls := Value.type "tuple", data := Data.seq #[] }) ::
  (nat_lit 1030, { cls := Value.type "tuple", data := Data.seq #[Value.str (Str.ofString "self") 1573] }) ::
  (nat_lit 1031, { cls := Value.type "tuple", data := Data.seq #[] }) ::
  (nat_lit 1033, { cls := Value.type "code", data := Data.fields #[Value.str (Str.ofString "__len__") 1570, Value.str (Str.ofString "Chain.__len__") 1571, Value.str (Str.ofString "/claim/cut.py") 1572, Value.int 427 0, Value.int 1 0, Value.int 0 0, Value.int 0 0, Value.int 3 0, Value.ref 1028, Value.bool true, Value.int 181 0, Value.ref 1029, Value.none, Value.ref 1030, Value.ref 1031, Value.ref 1032, Value.int 1574 0, Value.int 427 0, Value.str (Str.ofString "/claim/cut.py") 1575] }) ::
  (nat_lit 1034, ⟨Value.type "function", none, Data.func (PySem.W.fnOf (Str.ofString "__len__") (Str.ofString "Chain.__len__") (L2.defArgs s_Chain_len) (L2.defBody s_Chain_len) (L2.defScope s_Chain_len) (Value.none) (Value.none) (Value.none) (Value.str (Str.ofString "sizechains.chains") 1485) (none) (Value.ref 1033) (Value.none)), #[]⟩) ::
  (nat_lit 1035, { cls := Value.type "tuple", data := Data.seq #[] }) ::
  (nat_lit 1037, { cls := Value.type "tuple", data := Data.seq #[Value.str (Str.ofString "self") 1580] }) ::
  (nat_lit 1038, { cls := Value.type "tuple", data := Data.seq #[] }) ::
  (nat_lit 1040, { cls := Value.type "code", data := Data.fields #[Value.str (Str.ofString "__iter__") 1577, Value.str (Str.ofString "Chain.__iter__") 1578, Value.str (Str.ofString "/claim/cut.py") 1579, Value.int 430 0, Value.int 1 0, Value.int 0 0, Value.int 0 0, Value.int 3 0, Value.ref 1035, Value.bool true, Value.int 181 0, Value.ref 1036, Value.none, Value.ref 1037, Value.ref 1038, Value.ref 1039, Value.int 1581 0, Value.int 430 0, Value.str (Str.ofString "/claim/cut.py") 1582] }) ::
  (nat_lit 1041, ⟨Value.type "function", none, Data.func (PySem.W.fnOf (Str.ofString "__iter__") (Str.ofString "Chain.__iter__") (L2.defArgs s_Chain_iter) (L2.defBody s_Chain_iter) (L2.defScope s_Chain_iter) (Value.none) (Value.none) (Value.none) (Value.str (Str.ofString "sizechains.chains") 1485) (none) (Value.ref 1040) (Value.none)), #[]⟩) ::
  (nat_lit 1042, { cls := Value.type "tuple", data := Data.seq #[] }) ::
  (nat_lit 1044, { cls := Value.type "tuple", data := Data.seq #[Value.str (Str.ofString "self") 1587, Value.str (Str.ofString "x") 1588] }) ::
  (nat_lit 1045, { cls := Value.type "tuple", data := Data.seq #[] }) ::
  (nat_lit 1047, { cls := Value.type "code", data := Data.fields #[Value.str (Str.ofString "__contains__") 1584, Value.str (Str.ofString "Chain.__contains__") 1585, Value.str (Str.ofString "/claim/cut.py") 1586, Value.int 433 0, Value.int 2 0, Value.int 0 0, Value.int 0 0, Value.int 3 0, Value.ref 1042, Value.bool true, Value.int 181 0, Value.ref 1043, Value.none, Value.ref 1044, Value.ref 1045, Value.ref 1046, Value.int 1589 0, Value.int 433 0, Value.str (Str.ofString "/claim/cut.py") 1590] }) ::
  (nat_lit 1048, ⟨Value.type "function", none, Data.func (PySem.W.fnOf (Str.ofString "__contains__") (Str.ofString "Chain.__contains__") (L2.defArgs s_Chain_contains) (L2.defBody s_Chain_contains) (L2.defScope s_Chain_contains) (Value.none) (Value.none) (Value.none) (Value.str (Str.ofString "sizechains.chains") 1485) (none) (Value.ref 1047) (Value.none)), #[]⟩) ::
  (nat_lit 1049, { cls := Value.type "tuple", data := Data.seq #[] }) ::
  (nat_lit 1051, { cls := Value.type "tuple", data := Data.seq #[Value.str (Str.ofString "self") 1595, Value.str (Str.ofString "at") 1596] }) ::
  (nat_lit 1052, { cls := Value.type "tuple", data := Data.seq #[] }) ::
  (nat_lit 1054, { cls := Value.type "code", data := Data.fields #[Value.str (Str.ofString "__getitem__") 1592, Value.str (Str.ofString "Chain.__getitem__") 1593, Value.str (Str.ofString "/claim/cut.py") 1594, Value.int 436 0, Value.int 2 0, Value.int 0 0, Value.int 0 0, Value.int 3 0, Value.ref 1049, Value.bool true, Value.int 181 0, Value.ref 1050, Value.none, Value.ref 1051, Value.ref 1052, Value.ref 1053, Value.int 1597 0, Value.int 436 0, Value.str (Str.ofString "/claim/cut.py") 1598] }) ::
  (nat_lit 1055, ⟨Value.type "function", none, Data.func (PySem.W.fnOf (Str.ofString "__getitem__") (Str.ofString "Chain.__getitem__") (L2.defArgs s_Chain_getitem) (L2.defBody s_Chain_getitem) (L2.defScope s_Chain_getitem) (Value.none) (Value.none) (Value.none) (Value.str (Str.ofString "sizechains.chains") 1485) (none) (Value.ref 1054) (Value.none)), #[]⟩) ::
  (nat_lit 1056, { cls := Value.type "tuple", data := Data.seq #[] }) ::
  (nat_lit 1058, { cls := Value.type "tuple", data := Data.seq #[Value.str (Str.ofString "self") 1603, Value.str (Str.ofString "other") 1604, Value.str (Str.ofString "steps") 1605] }) ::
  (nat_lit 1059, { cls := Value.type "tuple", data := Data.seq #[] }) ::
  (nat_lit 1061, { cls := Value.type "code", data := Data.fields #[Value.str (Str.ofString "__add__") 1600, Value.str (Str.ofString "Chain.__add__") 1601, Value.str (Str.ofString "/claim/cut.py") 1602, Value.int 441 0, Value.int 2 0, Value.int 0 0, Value.int 0 0, Value.int 3 0, Value.ref 1056, Value.bool true, Value.int 181 0, Value.ref 1057, Value.none, Value.ref 1058, Value.ref 1059, Value.ref 1060, Value.int 1606 0, Value.int 441 0, Value.str (Str.ofString "/claim/cut.py") 1607] }) ::
  (nat_lit 1062, ⟨Value.type "function", none, Data.func (PySem.W.fnOf (Str.ofString "__add__") (Str.ofString "Chain.__add__") (L2.defArgs s_Chain_add) (L2.defBody s_Chain_add) (L2.defScope s_Chain_add) (Value.none) (Value.none) (Value.none) (Value.str (Str.ofString "sizechains.chains") 1485) (none) (Value.ref 1061) (Value.none)), #[]⟩) ::
  (nat_lit 1063, { cls := Value.type "tuple", data := Data.seq #[] }) ::
  (nat_lit 1065, { cls := Value.type "tuple", data := Data.seq #[Value.str (Str.ofString "self") 1612, Value.str (Str.ofString "other") 1613, Value.str (Str.ofString "count") 1614, Value.str (Str.ofString "steps") 1615] }) ::
  (nat_lit 1066, { cls := Value.type "tuple", data := Data.seq #[] }) ::
  (nat_lit 1068, { cls := Value.type "code", data := Data.fields #[Value.str (Str.ofString "__mul__") 1609, Value.str (Str.ofString "Chain.__mul__") 1610, Value.str (Str.ofString "/claim/cut.py") 1611, Value.int 446 0, Value.int 2 0, Value.int 0 0, Value.int 0 0, Value.int 3 0, Value.ref 1063, Value.bool true, Value.int 181 0, Value.ref 1064, Value.none, Value.ref 1065, Value.ref 1066, Value.ref 1067, Value.int 1616 0, Value.int 446 0, Value.str (Str.ofString "/claim/cut.py") 1617] }) ::
  (nat_lit 1069, ⟨Value.type "function", none, Data.func (PySem.W.fnOf (Str.ofString "__mul__") (Str.ofString "Chain.__mul__") (L2.defArgs s_Chain_mul) (L2.defBody s_Chain_mul) (L2.defScope s_Chain_mul) (Value.none) (Value.none) (Value.none) (Value.str (Str.ofString "sizechains.chains") 1485) (none) (Value.ref 1068) (Value.none)), #[]⟩) ::
  (nat_lit 1070, { cls := Value.type "tuple", data := Data.seq #[] }) ::
  (nat_lit 1072, { cls := Value.type "tuple", data := Data.seq #[Value.str (Str.ofString "self") 1622, Value.str (Str.ofString "other") 1623] }) ::
  (nat_lit 1073, { cls := Value.type "tuple", data := Data.seq #[] }) ::
  (nat_lit 1075, { cls := Value.type "code", data := Data.fields #[Value.str (Str.ofString "__eq__") 1619, Value.str (Str.ofString "Chain.__eq__") 1620, Value.str (Str.ofString "/claim/cut.py") 1621, Value.int 457 0, Value.int 2 0, Value.int 0 0, Value.int 0 0, Value.int 3 0, Value.ref 1070, Value.bool true, Value.int 181 0, Value.ref 1071, Value.none, Value.ref 1072, Value.ref 1073, Value.ref 1074, Value.int 1624 0, Value.int 457 0, Value.str (Str.ofString "/claim/cut.py") 1625] }) ::
  (nat_lit 1076, ⟨Value.type "function", none, Data.func (PySem.W.fnOf (Str.ofString "__eq__") (Str.ofString "Chain.__eq__") (L2.defArgs s_Chain_eq) (L2.defBody s_Chain_eq) (L2.defScope s_Chain_eq) (Value.none) (Value.none) (Value.none) (Value.str (Str.ofString "sizechains.chains") 1485) (none) (Value.ref 1075) (Value.none)), #[]⟩) ::
  (nat_lit 1077, { cls := Value.type "tuple", data := Data.seq #[] }) ::
  (nat_lit 1080, { cls := Value.type "code", data := Data.fields #[Value.str (Str.ofString "__str__") 1627, Value.str (Str.ofString "Chain.__str__") 1628, Value.str (Str.ofString "/claim/cut.py") 1629, Value.int 460 0, Value.int 1 0, Value.int 0 0, Value.int 0 0, Value.int 3 0, Value.ref 1077, Value.bool true, Value.int 181 0, Value.ref 1078, Value.none, Value.none, Value.none, Value.ref 1079, Value.int 1630 0, Value.int 460 0, Value.str (Str.ofString "/claim/cut.py") 1631] }) ::
  (nat_lit 1081, ⟨Value.type "function", none, Data.func (PySem.W.fnOf (Str.ofString "__str__") (Str.ofString "Chain.__str__") (L2.defArgs s_Chain_str) (L2.defBody s_Chain_str) (L2.defScope s_Chain_str) (Value.none) (Value.none) (Value.none) (Value.str (Str.ofString "sizechains.chains") 1485) (none) (Value.ref 1080) (Value.none)), #[]⟩) ::
  (nat_lit 1082, { cls := Value.type "tuple", data := Data.seq #[] }) ::
  (nat_lit 1084, { cls := Value.type "tuple", data := Data.seq #[Value.str (Str.ofString "self") 1636] }) ::
  (nat_lit 1085, { cls := Value.type "tuple", data := Data.seq #[] }) ::
  (nat_lit 1087, { cls := Value.type "code", data := Data.fields #[Value.str (Str.ofString "__repr__") 1633, Value.str (Str.ofString "Chain.__repr__") 1634, Value.str (Str.ofString "/claim/cut.py") 1635, Value.int 463 0, Value.int 1 0, Value.int 0 0, Value.int 0 0, Value.int 3 0, Value.ref 1082, Value.bool true, Value.int 181 0, Value.ref 1083, Value.none, Value.ref 1084, Value.ref 1085, Value.ref 1086, Value.int 1637 0, Value.int 463 0, Value.str (Str.ofString "/claim/cut.py") 1638] }) ::
  (nat_lit 1088, ⟨Value.type "function", none, Data.func (PySem.W.fnOf (Str.ofString "__repr__") (Str.ofString "Chain.__repr__") (L2.defArgs s_Chain_repr) (L2.defBody s_Chain_repr) (L2.defScope s_Chain_repr) (Value.none) (Value.none) (Value.none) (Value.str (Str.ofString "sizechains.chains") 1485) (none) (Value.ref 1087) (Value.none)), #[]⟩) ::
  (nat_lit 1089, { cls := Value.type "tuple", data := Data.seq #[Value.str (Str.ofString "held") 1640] }) ::
  (nat_lit 1090, { cls := Value.type "dict", data := Data.dict #[{ hash := PyData.keyHash P (Str.ofString "__module__"), key := Value.str (Str.ofString "__module__") 1507, val := Value.str (Str.ofString "sizechains.chains") 1485 }, { hash := PyData.keyHash P (Str.ofString "__firstlineno__"), key := Value.str (Str.ofString "__firstlineno__") 1511, val := Value.int 396 1510 }, { hash := PyData.keyHash P (Str.ofString "MOST"), key := Value.str (Str.ofString "MOST") 1513, val := Value.int 60 1512 }, { hash := PyData.keyHash P (Str.ofString "__init__"), key := Value.str (Str.ofString "__init__") 1523, val := Value.ref 995 }, { hash := PyData.keyHash P (Str.ofString "read"), key := Value.str (Str.ofString "read") 1544, val := Value.ref 1004 }, { hash := PyData.keyHash P (Str.ofString "steps"), key := Value.str (Str.ofString "steps") 1552, val := Value.ref 1013 }, { hash := PyData.keyHash P (Str.ofString "walk"), key := Value.str (Str.ofString "walk") 1560, val := Value.ref 1020 }, { hash := PyData.keyHash P (Str.ofString "__call__"), key := Value.str (Str.ofString "__call__") 1569, val := Value.ref 1027 }, { hash := PyData.keyHash P (Str.ofString "__len__"), key := Value.str (Str.ofString "__len__") 1576, val := Value.ref 1034 }, { hash := PyData.keyHash P (Str.ofString "__iter__"), key := Value.str (Str.ofString "__iter__") 1583, val := Value.ref 1041 }, { hash := PyData.keyHash P (Str.ofString "__contains__"), key := Value.str (Str.ofString "__contains__") 1591, val := Value.ref 1048 }, { hash := PyData.keyHash P (Str.ofString "__getitem__"), key := Value.str (Str.ofString "__getitem__") 1599, val := Value.ref 1055 }, { hash := PyData.keyHash P (Str.ofString "__add__"), key := Value.str (Str.ofString "__add__") 1608, val := Value.ref 1062 }, { hash := PyData.keyHash P (Str.ofString "__mul__"), key := Value.str (Str.ofString "__mul__") 1618, val := Value.ref 1069 }, { hash := PyData.keyHash P (Str.ofString "__eq__"), key := Value.str (Str.ofString "__eq__") 1626, val := Value.ref 1076 }, { hash := PyData.keyHash P (Str.ofString "__str__"), key := Value.str (Str.ofString "__str__") 1632, val := Value.ref 1081 }, { hash := PyData.keyHash P (Str.ofString "__repr__"), key := Value.str (Str.ofString "__repr__") 1639, val := Value.ref 1088 }, { hash := PyData.keyHash P (Str.ofString "__static_attributes__"), key := Value.str (Str.ofString "__static_attributes__") 1641, val := Value.ref 1089 }, { hash := PyData.keyHash P (Str.ofString "__dict__"), key := Value.str (Str.ofString "__dict__") 1643, val := Value.ref 1092 }, { hash := PyData.keyHash P (Str.ofString "__weakref__"), key := Value.str (Str.ofString "__weakref__") 1645, val := Value.ref 1093 }, { hash := PyData.keyHash P (Str.ofString "__doc__"), key := Value.str (Str.ofString "__doc__") 1646, val := Value.none }, { hash := PyData.keyHash P (Str.ofString "__hash__"), key := Value.str (Str.ofString "__hash__") 1647, val := Value.none }] 5 }) ::
  (nat_lit 1091, { cls := Value.type "type", data := Data.cls { name := Str.ofString "Chain", bases := [Value.type "object"], mro := [Value.ref 1091, Value.type "object"], ns := 1090, qualname := Str.ofString "Chain" }, slots := #[none, none, some (Value.str (Str.ofString "Chain") 1500), some (Value.str (Str.ofString "Chain") 1508), some (Value.builtin "object.__new__"), some (Value.bool true)] }) ::
  (nat_lit 1092, { cls := Value.type "getset_descriptor", data := Data.fields #[Value.str (Str.ofString "__dict__") 1642, Value.ref 1091, Value.builtin "function.__dict__", Value.builtin "function.__dict__#set"] }) ::
  (nat_lit 1093, { cls := Value.type "getset_descriptor", data := Data.fields #[Value.str (Str.ofString "__weakref__") 1644, Value.ref 1091, Value.builtin "ExceptionGroup.__weakref__", Value.none] }) ::
  (nat_lit 1096, { cls := Value.type "tuple", data := Data.seq #[] }) ::
  (nat_lit 1098, { cls := Value.type "tuple", data := Data.seq #[Value.str (Str.ofString "_law_script") 1655, Value.str (Str.ofString "_law_k") 1656, Value.str (Str.ofString "_law_state") 1657, Value.str (Str.ofString "_law_figure") 1658] }) ::
  (nat_lit 1099, { cls := Value.type "tuple", data := Data.seq #[] }) ::
  (nat_lit 1101, { cls := Value.type "code", data := Data.fields #[Value.str (Str.ofString "_law_cell") 1652, Value.str (Str.ofString "_law_cell") 1653, Value.str (Str.ofString "/claim/cut.py") 1654, Value.int 466 0, Value.int 2 0, Value.int 0 0, Value.int 0 0, Value.int 3 0, Value.ref 1096, Value.bool true, Value.int 181 0, Value.ref 1097, Value.none, Value.ref 1098, Value.ref 1099, Value.ref 1100, Value.int 1659 0, Value.int 466 0, Value.str (Str.ofString "/claim/cut.py") 1660] }) ::
  (nat_lit 1102, ⟨Value.type "function", none, Data.func (PySem.W.fnOf (Str.ofString "_law_cell") (Str.ofString "_law_cell") (L2.defArgs s_l_cell) (L2.defBody s_l_cell) (L2.defScope s_l_cell) (Value.none) (Value.none) (Value.none) (Value.str (Str.ofString "law_sizechains_k88_limits_and_errors_made") 1650) (none) (Value.ref 1101) (Value.none)), #[]⟩) ::
  (nat_lit 1103, { cls := Value.type "tuple", data := Data.seq #[] }) ::
  (nat_lit 1105, { cls := Value.type "tuple", data := Data.seq #[Value.str (Str.ofString "_law_figure") 1665, Value.str (Str.ofString "_law_digits") 1666] }) ::
  (nat_lit 1106, { cls := Value.type "tuple", data := Data.seq #[] }) ::
  (nat_lit 1108, { cls := Value.type "code", data := Data.fields #[Value.str (Str.ofString "_law_pool") 1662, Value.str (Str.ofString "_law_pool") 1663, Value.str (Str.ofString "/claim/cut.py") 1664, Value.int 473 0, Value.int 1 0, Value.int 0 0, Value.int 0 0, Value.int 3 0, Value.ref 1103, Value.bool true, Value.int 181 0, Value.ref 1104, Value.none, Value.ref 1105, Value.ref 1106, Value.ref 1107, Value.int 1667 0, Value.int 473 0, Value.str (Str.ofString "/claim/cut.py") 1668] }) ::
  (nat_lit 1109, ⟨Value.type "function", none, Data.func (PySem.W.fnOf (Str.ofString "_law_pool") (Str.ofString "_law_pool") (L2.defArgs s_l_pool) (L2.defBody s_l_pool) (L2.defScope s_l_pool) (Value.none) (Value.none) (Value.none) (Value.str (Str.ofString "law_sizechains_k88_limits_and_errors_made") 1650) (none) (Value.ref 1108) (Value.none)), #[]⟩) ::
  (nat_lit 1110, { cls := Value.type "tuple", data := Data.seq #[] }) ::
  (nat_lit 1112, { cls := Value.type "tuple", data := Data.seq #[Value.str (Str.ofString "_law_pool_here") 1673, Value.str (Str.ofString "_law_most") 1674, Value.str (Str.ofString "_law_state") 1675, Value.str (Str.ofString "_law_digit") 1676] }) ::
  (nat_lit 1113, { cls := Value.type "tuple", data := Data.seq #[] }) ::
  (nat_lit 1115, { cls := Value.type "code", data := Data.fields #[Value.str (Str.ofString "_law_draw") 1670, Value.str (Str.ofString "_law_draw") 1671, Value.str (Str.ofString "/claim/cut.py") 1672, Value.int 476 0, Value.int 2 0, Value.int 0 0, Value.int 0 0, Value.int 3 0, Value.ref 1110, Value.bool true, Value.int 181 0, Value.ref 1111, Value.none, Value.ref 1112, Value.ref 1113, Value.ref 1114, Value.int 1677 0, Value.int 476 0, Value.str (Str.ofString "/claim/cut.py") 1678] }) ::
  (nat_lit 1116, ⟨Value.type "function", none, Data.func (PySem.W.fnOf (Str.ofString "_law_draw") (Str.ofString "_law_draw") (L2.defArgs s_l_draw) (L2.defBody s_l_draw) (L2.defScope s_l_draw) (Value.none) (Value.none) (Value.none) (Value.str (Str.ofString "law_sizechains_k88_limits_and_errors_made") 1650) (none) (Value.ref 1115) (Value.none)), #[]⟩) ::
  (nat_lit 1117, { cls := Value.type "tuple", data := Data.seq #[] }) ::
  (nat_lit 1119, { cls := Value.type "tuple", data := Data.seq #[Value.str (Str.ofString "_law_e") 1683, Value.str (Str.ofString "_law_found") 1684, Value.str (Str.ofString "_law_bases") 1685, Value.str (Str.ofString "_law_own") 1686, Value.str (Str.ofString "_law_at") 1687] }) ::
  (nat_lit 1120, { cls := Value.type "tuple", data := Data.seq #[] }) ::
  (nat_lit 1122, { cls := Value.type "code", data := Data.fields #[Value.str (Str.ofString "_law_kind") 1680, Value.str (Str.ofString "_law_kind") 1681, Value.str (Str.ofString "/claim/cut.py") 1682, Value.int 484 0, Value.int 1 0, Value.int 0 0, Value.int 0 0, Value.int 3 0, Value.ref 1117, Value.bool true, Value.int 181 0, Value.ref 1118, Value.none, Value.ref 1119, Value.ref 1120, Value.ref 1121, Value.int 1688 0, Value.int 484 0, Value.str (Str.ofString "/claim/cut.py") 1689] }) ::
  (nat_lit 1123, ⟨Value.type "function", none, Data.func (PySem.W.fnOf (Str.ofString "_law_kind") (Str.ofString "_law_kind") (L2.defArgs s_l_kind) (L2.defBody s_l_kind) (L2.defScope s_l_kind) (Value.none) (Value.none) (Value.none) (Value.str (Str.ofString "law_sizechains_k88_limits_and_errors_made") 1650) (none) (Value.ref 1122) (Value.none)), #[]⟩) ::
  (nat_lit 1124, { cls := Value.type "tuple", data := Data.seq #[] }) ::
  (nat_lit 1126, { cls := Value.type "tuple", data := Data.seq #[Value.str (Str.ofString "_law_odd") 1694, Value.str (Str.ofString "_law_found") 1695] }) ::
  (nat_lit 1127, { cls := Value.type "tuple", data := Data.seq #[] }) ::
  (nat_lit 1129, { cls := Value.type "code", data := Data.fields #[Value.str (Str.ofString "_law_by_position") 1691, Value.str (Str.ofString "_law_by_position") 1692, Value.str (Str.ofString "/claim/cut.py") 1693, Value.int 498 0, Value.int 1 0, Value.int 0 0, Value.int 0 0, Value.int 3 0, Value.ref 1124, Value.bool true, Value.int 181 0, Value.ref 1125, Value.none, Value.ref 1126, Value.ref 1127, Value.ref 1128, Value.int 1696 0, Value.int 498 0, Value.str (Str.ofString "/claim/cut.py") 1697] }) ::
  (nat_lit 1130, ⟨Value.type "function", none, Data.func (PySem.W.fnOf (Str.ofString "_law_by_position") (Str.ofString "_law_by_position") (L2.defArgs s_l_by_position) (L2.defBody s_l_by_position) (L2.defScope s_l_by_position) (Value.none) (Value.none) (Value.none) (Value.str (Str.ofString "law_sizechains_k88_limits_and_errors_made") 1650) (none) (Value.ref 1129) (Value.none)), #[]⟩) ::
  (nat_lit 1131, { cls := Value.type "tuple", data := Data.seq #[] }) ::
  (nat_lit 1133, { cls := Value.type "tuple", data := Data.seq #[Value.str (Str.ofString "_law_odd") 1702, Value.str (Str.ofString "_law_found") 1703] }) ::
  (nat_lit 1134, { cls := Value.type "tuple", data := Data.seq #[] }) ::
  (nat_lit 1136, { cls := Value.type "code", data := Data.fields #[Value.str (Str.ofString "_law_by_name") 1699, Value.str (Str.ofString "_law_by_name") 1700, Value.str (Str.ofString "/claim/cut.py") 1701, Value.int 503 0, Value.int 1 0, Value.int 0 0, Value.int 0 0, Value.int 3 0, Value.ref 1131, Value.bool true, Value.int 181 0, Value.ref 1132, Value.none, Value.ref 1133, Value.ref 1134, Value.ref 1135, Value.int 1704 0, Value.int 503 0, Value.str (Str.ofString "/claim/cut.py") 1705] }) ::
  (nat_lit 1137, ⟨Value.type "function", none, Data.func (PySem.W.fnOf (Str.ofString "_law_by_name") (Str.ofString "_law_by_name") (L2.defArgs s_l_by_name) (L2.defBody s_l_by_name) (L2.defScope s_l_by_name) (Value.none) (Value.none) (Value.none) (Value.str (Str.ofString "law_sizechains_k88_limits_and_errors_made") 1650) (none) (Value.ref 1136) (Value.none)), #[]⟩) ::
  (nat_lit 1138, { cls := Value.type "tuple", data := Data.seq #[] }) ::
  (nat_lit 1141, { cls := Value.type "code", data := Data.fields #[Value.str (Str.ofString "_law_fields") 1707, Value.str (Str.ofString "_law_fields") 1708, Value.str (Str.ofString "/claim/cut.py") 1709, Value.int 509 0, Value.int 1 0, Value.int 0 0, Value.int 0 0, Value.int 3 0, Value.ref 1138, Value.bool true, Value.int 181 0, Value.ref 1139, Value.none, Value.none, Value.none, Value.ref 1140, Value.int 1710 0, Value.int 509 0, Value.str (Str.ofString "/claim/cut.py") 1711] }) ::
  (nat_lit 1142, ⟨Value.type "function", none, Data.func (PySem.W.fnOf (Str.ofString "_law_fields") (Str.ofString "_law_fields") (L2.defArgs s_l_fields) (L2.defBody s_l_fields) (L2.defScope s_l_fields) (Value.none) (Value.none) (Value.none) (Value.str (Str.ofString "law_sizechains_k88_limits_and_errors_made") 1650) (none) (Value.ref 1141) (Value.none)), #[]⟩) ::
  (nat_lit 1143, { cls := Value.type "tuple", data := Data.seq #[] }) ::
  (nat_lit 1146, { cls := Value.type "code", data := Data.fields #[Value.str (Str.ofString "_law_right") 1713, Value.str (Str.ofString "_law_right") 1714, Value.str (Str.ofString "/claim/cut.py") 1715, Value.int 512 0, Value.int 1 0, Value.int 0 0, Value.int 0 0, Value.int 3 0, Value.ref 1143, Value.bool true, Value.int 181 0, Value.ref 1144, Value.none, Value.none, Value.none, Value.ref 1145, Value.int 1716 0, Value.int 512 0, Value.str (Str.ofString "/claim/cut.py") 1717] }) ::
  (nat_lit 1147, ⟨Value.type "function", none, Data.func (PySem.W.fnOf (Str.ofString "_law_right") (Str.ofString "_law_right") (L2.defArgs s_l_right) (L2.defBody s_l_right) (L2.defScope s_l_right) (Value.none) (Value.none) (Value.none) (Value.str (Str.ofString "law_sizechains_k88_limits_and_errors_made") 1650) (none) (Value.ref 1146) (Value.none)), #[]⟩) ::
  (nat_lit 1148, { cls := Value.type "tuple", data := Data.seq #[] }) ::
  (nat_lit 1151, { cls := Value.type "code", data := Data.fields #[Value.str (Str.ofString "law") 1719, Value.str (Str.ofString "law") 1720, Value.str (Str.ofString "/claim/cut.py") 1721, Value.int 520 0, Value.int 1 0, Value.int 0 0, Value.int 0 0, Value.int 3 0, Value.ref 1148, Value.bool true, Value.int 181 0, Value.ref 1149, Value.none, Value.none, Value.none, Value.ref 1150, Value.int 1722 0, Value.int 520 0, Value.str (Str.ofString "/claim/cut.py") 1723] }) ::
  (nat_lit 1152, ⟨Value.type "function", none, Data.func (PySem.W.fnOf (Str.ofString "law") (Str.ofString "law") (L2.defArgs s_law) (L2.defBody s_law) (L2.defScope s_law) (Value.none) (Value.none) (Value.none) (Value.str (Str.ofString "law_sizechains_k88_limits_and_errors_made") 1650) (none) (Value.ref 1151) (Value.none)), #[]⟩) :: []
def as0 : List Nat := [2, 3, 15, 17, 18, 20, 21, 22, 29, 30, 31, 32, 35, 42, 44, 45, 47, 48, 49, 50, 51, 54, 61, 63, 64, 66, 67, 68, 69, 70, 73, 80, 82, 83, 85, 86, 87, 88, 89, 92, 99, 101, 102, 104, 105, 106, 107, 108, 111, 118, 120, 121, 123, 124, 125, 126, 127, 130, 137, 139, 140, 142, 143, 144, 145, 146, 149, 156, 158, 159, 161, 162, 163, 164, 165, 168, 175, 177, 178, 180, 181, 182, 183, 184, 187, 194, 196, 197, 199, 200, 201, 202, 203, 206, 213, 215, 216, 218, 219, 220, 221, 222, 225, 232, 234, 235, 237, 238, 239, 240, 241, 244, 251, 253, 254, 256, 257, 258, 259, 260, 263, 270, 272, 273, 275, 276, 277, 278, 279, 282, 289, 291, 292, 294, 295, 296, 297, 298, 301, 308, 309, 310, 311, 314, 321, 323, 324, 326, 327, 328, 329, 330, 333, 340, 342, 343, 345, 346, 347, 348, 349, 352, 359, 361, 362, 364, 365, 366, 367, 368, 371, 378, 379, 380, 383, 390, 391, 392, 393, 396, 403, 405, 406, 408, 409, 410, 411, 412, 415, 422, 424, 425, 427, 428, 429, 430, 431, 434, 436, 437, 439, 440, 441, 443, 444, 446, 447, 448, 450, 451, 453, 454, 455, 457, 458, 460, 461, 462, 464, 465, 467, 468, 469, 471, 472, 474, 475, 476, 477, 479, 480, 482, 483, 484, 486, 487, 489, 490, 491, 493, 494, 496, 497, 498, 500, 501, 503, 504, 505, 507, 508, 510, 511, 512, 514, 515, 517, 518, 519, 521, 522, 524, 525, 526, 528, 529, 531, 532, 533, 535, 536, 538, 539, 540, 542, 543, 545, 546, 554, 556, 557, 559, 560, 561, 563, 564, 566, 567, 568, 569, 570, 571, 573, 574, 576, 577, 578, 579, 581, 582, 584, 585, 586, 588, 589, 591, 592, 593, 595, 596, 598, 599, 600, 602, 603, 605, 606, 607, 609, 610, 612, 613, 614, 616, 617, 619, 620, 621, 622, 623, 624, 625, 628, 630, 631, 633, 634, 642, 644, 645, 647, 648, 649, 650, 651, 652, 654, 655, 657, 658, 659, 661, 662, 664, 665, 666, 668, 669, 671, 672, 673, 675, 676, 678, 679, 680, 681, 682, 683, 684, 687, 694, 696, 697, 699, 700, 701, 703, 704, 706, 707, 708, 710, 711, 713, 714, 715, 716, 717, 720, 727, 728, 730, 731, 733, 734, 735, 737, 738, 740, 741, 742, 743, 744, 747, 754, 755, 757, 758, 760, 761, 762, 764, 765, 767, 768, 769, 770, 771, 774, 781, 783, 784, 786, 787, 788, 790, 791, 793, 794, 795, 796, 797, 800, 807, 808, 809, 811, 812, 814, 815, 816, 818, 819, 821, 822, 823, 824, 825, 828, 835, 836, 837, 839, 840, 842, 843, 844, 846, 847, 849, 850, 851, 852, 853, 856, 863, 864, 866, 867, 869, 870, 871, 873, 874, 876, 877, 878, 880, 881, 883, 884, 885, 886, 887, 890, 897, 899, 900, 902, 903, 904, 905, 906, 909, 916, 918, 919, 921, 922, 923, 924, 925, 928, 930, 931, 933, 934, 935, 937, 938, 940, 941, 942, 944, 945, 947, 948, 949, 951, 952, 954, 955, 956, 958, 959, 961, 962, 963, 965, 966, 968, 969, 970, 972, 973, 975, 976, 977, 980, 981, 989, 991, 992, 994, 995, 996, 998, 999, 1001, 1002, 1003, 1004, 1005, 1006, 1008, 1009, 1011, 1012, 1013, 1014, 1016, 1017, 1019, 1020, 1021, 1023, 1024, 1026, 1027, 1028, 1030, 1031, 1033, 1034, 1035, 1037, 1038, 1040, 1041, 1042, 1044, 1045, 1047, 1048, 1049, 1051, 1052, 1054, 1055, 1056, 1058, 1059, 1061, 1062, 1063, 1065, 1066, 1068, 1069, 1070, 1072, 1073, 1075, 1076, 1077, 1080, 1081, 1082, 1084, 1085, 1087, 1088, 1089, 1090, 1091, 1092, 1093, 1096, 1098, 1099, 1101, 1102, 1103, 1105, 1106, 1108, 1109, 1110, 1112, 1113, 1115, 1116, 1117, 1119, 1120, 1122, 1123, 1124, 1126, 1127, 1129, 1130, 1131, 1133, 1134, 1136, 1137, 1138, 1141, 1142, 1143, 1146, 1147, 1148, 1151, 1152]
abbrev ts0 : List PySem.Addr := []
theorem as0_ok : ∀ P, as0 = (K0 P).map (·.1) := fun _ => by kernel_rfl
theorem left_oneKm {p q : Program} {loose : List PySem.Str} {Xt : Shared → Bool} {K : PySem.Params → PySem.W.Frag} {as ts : List PySem.Addr} {ek : ∀ P, as = (K P).map (·.1)} {N M : Nat}
    (e : PySem.W.opening p = PySem.W.plainProg p.main.scope.names) (hN : Nat.ble 600 N = true) (f : ∀ s, PySem.fenceModules? p s = some s) (le : Nat.ble M N = true)
    (run : ∀ (w : World) (os : OsState), (HeadRun.endF (HeadRun.stepQ (HeadRun.denQ HeadRun.tabQ) p w) M p w os).map (fun s => (HeadRun.looksF p (PySem.W.boot_heap w.params) s.abs, HeadRun.seenQ q loose (importedModules p.main.body) Xt s.abs, as.map (HeadRun.getT s), ts.map (HeadRun.getT s))) = some (true, PySem.W.openGood q loose, (K w.params).map fun x => some x.2, ts.map fun _ => some (PySem.W.tabObj #[]))) :
    PySem.W.LeftO p q loose Xt (PySem.W.Hook.obs (PySem.W.kmHook K as ek ts)) (PySem.W.Hook.val (PySem.W.kmHook K as ek ts)) N true :=
  HeadRun.left_one (M := M) e hN f le fun w os => by
    have z := run w os
    have eo : (fun s : PySem.W.SharedT => (HeadRun.looksF p (PySem.W.boot_heap w.params) s.abs, HeadRun.seenQ q loose (importedModules p.main.body) Xt s.abs, as.map (HeadRun.getT s), ts.map (HeadRun.getT s))) = fun s => (HeadRun.looksF p (PySem.W.boot_heap w.params) s.abs, HeadRun.seenQ q loose (importedModules p.main.body) Xt s.abs, PySem.W.Hook.obs (PySem.W.kmHook K as ek ts) s.abs) := by
      funext s
      have q1 : (as.map (HeadRun.getT s), ts.map (HeadRun.getT s)) = PySem.W.Hook.obs (PySem.W.kmHook K as ek ts) s.abs := Prod.ext (List.map_congr_left fun a _ => HeadRun.getT_eq s a) (List.map_congr_left fun a _ => HeadRun.getT_eq s a)
      rw [q1]
      rfl
    rw [eo] at z
    simp only [HeadRun.endQ_eq, HeadRun.seenQ_eq]
    exact z
set_option maxHeartbeats 0 in
theorem left0 : PySem.W.LeftO PySem.Challenge.rw_sizechains_k88_limits_and_errors_made.row.prog q0 loose0 seen0 (PySem.W.kmHook K0 as0 as0_ok ts0).obs (PySem.W.kmHook K0 as0 as0_ok ts0).val 23412 true :=
  left_oneKm (M := 22712) (by kernel_rfl) (by rfl) (fun s => by kernel_rfl) (by rfl) (fun w os => by kernel_rfl)


/-! repr of data at any depth, where no repr is running around -/
structure RRepr (K : PySem.W.Frag) (xs : List V) (H : Hp) (Q : VK) : Prop where
  ex : ∃ (v : V) (d : PyData), xs = [v] ∧ Dp K H v d ∧ isDisplay d = true ∧ d.showable = true ∧ d.hasDict = false ∧ d.depth ≤ 64 ∧ d.shown.length ≤ sizeLine ∧ Q (.str d.shown) H
/-! a def's promise where it is known that no repr is running around -/
structure FnG (P : Program) (w : World) (K : PySem.W.Frag) (mg : Str → Option Value) (base : Heap) (CX : CXT) (k : Nat) (f : Addr) (fd : FuncData) (ps : List Str) (sp : Sp) : Prop where
  len : ∀ vs H Q E, sp vs H Q E → vs.length = ps.length
  go : ∀ (A : Around) (out : List Env) (st : Shared) (H : Hp) (as : Args) (us : List Value) (vs : List V) (Q : VK) (E : XK), A.guards = some [] → Room k A → Env0 P w K mg base A out st H →
    BindsTo st fd as (ps.zip us) → Vals vs us → sp vs H Q E → codeAny (model P w) A (.call (.ref f) as) (CR CX out P w H st Q E) st
section
variable {P : Program} {w : World} {K : PySem.W.Frag} {mg : Str → Option Value} {base : Heap} {CX : CXT} {k : Nat} {f : Addr} {fd : FuncData} {ps : List Str} {sp : Sp}
theorem FnG.of (F : FnOk P w K mg base CX k f fd ps sp) : FnG P w K mg base CX k f fd ps sp :=
  ⟨F.len, fun A out st H as us vs Q E _ r e b v h => F.run A out st H as us vs Q E r e b v h⟩
theorem FnG.up {j : Nat} (F : FnG P w K mg base CX j f fd ps sp) (h : j ≤ k) : FnG P w K mg base CX k f fd ps sp :=
  ⟨F.len, fun A out st H as us vs Q E g r e b v s => F.go A out st H as us vs Q E g (r.mono h) e b v s⟩
theorem FnG.imp {sp' : Sp} (F : FnG P w K mg base CX k f fd ps sp) (h : ∀ vs H Q E, sp' vs H Q E → sp vs H Q E) : FnG P w K mg base CX k f fd ps sp' :=
  ⟨fun vs H Q E q => F.len vs H Q E (h _ _ _ _ q), fun A out st H as us vs Q E g r e b v s => F.go A out st H as us vs Q E g r e b v (h _ _ _ _ s)⟩

/-- by the body -/
theorem okG0 {name qual : Str} {params : Arguments} {body : List Stmt} {scope : Scope} {dV kV doc pm cdv ct oc : Value} {an od : Option Addr} {osl : Array (Option Value)} {N : List Str}
    (lk : K.lookup f = some ⟨oc, od, .func (PySem.W.fnOf name qual params body scope dV kV doc pm an cdv ct), osl⟩) (code : PySem.W.codeIn K cdv qual = true) (S : FnScope N ps scope)
    (len : ∀ vs H Q E, sp vs H Q E → vs.length = ps.length)
    (walk : ∀ (A : Around) (out : List Env) (st : Shared) (H : Hp) (vs : List V) (Q : VK) (E : XK), A.guards = some [] → Room k (A.deeper (envOfC qual scope st.heap.objs.size f cdv)) → sp vs H Q E →
      ∃ t, PSs (cxOf CX P w K mg base N qual scope f cdv A out st H E) body t ∧ t { nx := fun _ H' => Q .non H', rt := Q } (start N vs) H) :
    FnG P w K mg base CX (k + 1) f (PySem.W.fnOf name qual params body scope dV kV doc pm an cdv ct) ps sp := by
  refine ⟨len, ?_⟩
  intro A out st H as us vs Q E gds room env binds vals want
  have size := len _ _ _ _ want
  have lim : st.heap.NoLimit := env.mod.nolimit.keeps fun b o e => (env.bs b o e).1
  have inK : K.In st.heap := env.mod.kin.keeps fun b o e => (env.bs b o e).1
  have kinds : ∀ y ∈ ps.zip us, scope.names.lookup y.1 = some .local ∨ (scope.names.lookup y.1 = some .cell ∧ ((cellsFrom (st.heap.objs.size + 1) scope.names []).lookup y.1).isSome = true) := by
    rintro ⟨n, v⟩ mem
    have mem1 : n ∈ ps := (List.of_mem_zip mem).1
    cases S.par n mem1 with
    | inl loc => exact Or.inl loc
    | inr cel => exact Or.inr ⟨cel, PySem.W.cellsFrom_some _ _ _ (Or.inl cel)⟩
  refine codeAny_call_function room.depth (inK _ _ lk) rfl S.co S.gen rfl (PySem.W.codeRec_of inK code) (binds _ _ _ _ ?_)
  refine wpAny_newFunctionEnv_cells S.kind kinds fun en hen s1 inn => ?_
  subst hen
  refine ⟨lim.keeps inn.toInCall.keep, codeAny_func ?_⟩
  obtain ⟨t, term, read⟩ := walk A out st H vs Q E gds (room.deeper _) want
  have inv := inv_start (CX := CX) (E := E) S room.hd env size vals inn
  refine wpAny_mono (term.run [] s1 (start N vs) H _ inv read) (fun fl s' hs => ?_) fun _ _ hs => hs
  have done : ∀ {sl' : L2.St} {H' : Hp} {v : V} {u : Value}, Inv (cxOf CX P w K mg base N qual scope f cdv A out st H E) [] sl' H' s' → RelV v u → Q v H' → CE out P w H st Q u s' := by
    intro sl' H' v u J rel q
    exact ⟨v, H', J.os, J.bare, J.base, J.hok, rel, q⟩
  cases fl with
  | next =>
    obtain ⟨_, _, J, q⟩ := hs
    exact done (v := V.non) (u := Value.none) J rfl q
  | ret u =>
    obtain ⟨_, _, _, J, rel, q⟩ := hs
    exact done J rel q
  | brk => exact (hs.choose_spec.choose_spec.2).elim
  | cont => exact (hs.choose_spec.choose_spec.2).elim

end

/-! calls -/
section
variable {X : Cx} {CX : CXT} {k n : Nat} {f : Addr} {fd : FuncData} {ps ks : List Str} {sp : Sp} {dvs : List V} {ds : List Value} {E : XK} {x : Str} {p pos : Pos} {e : Expr} {es : List Expr} {kws : List Keyword} {t tk : TA} {g : List Value → List Value → List Value} {gV : List V → List V → List V}
theorem goG {pins : List (Addr × Obj)} {sl : L2.St} {H : Hp} {s : Shared} {Q : VK} {us0 us : List Value} {kw : List (Str × Value)} {vs : List V} (F : FnG X.prog X.w X.K X.mg X.base CX k f fd ps sp) (gds : X.A.guards = some []) (hr : Room k X.A) (hx : Passes CX X E)
    (inv : Inv X pins sl H s) (b : BindsTo s fd ⟨us0, kw⟩ (ps.zip us)) (r : Vals vs us) (want : sp vs H Q E) : wpAny (model X.prog X.w) X.A (call (.ref f) us0 kw) (EP X pins sl Q) X.xe s := by
  refine wpAny_call (codeAny_mono (F.go X.A X.stack s H ⟨us0, kw⟩ us vs Q E gds hr inv.env0 b r want) fun r s' got => ?_)
  cases r with
  | error e => exact hx pins sl H s e s' inv got
  | ok fl =>
    cases fl with
    | ret u => exact inv.after got
    | next => exact got.elim
    | brk => exact got.elim
    | cont => exact got.elim
theorem callG (F : FnG X.prog X.w X.K X.mg X.base CX k f fd ps sp) (gds : X.A.guards = some []) (hr : Room k X.A) (hg : Gl X x) (hm : X.mg x = some (.ref f)) (hk : PySem.W.keepIn X.K (.ref f) = true) (hb : Binds X.K fd ps ds) (hd : Vals dvs ds) (hx : Passes CX X E)
    (ha : PA X (e :: es) t) (hdb : (x == ("__debug__" : Str)) = false := by decide) (he : starEach (e :: es) X.env = (false, eval e X.env) :: starEach es X.env := by rfl) (hpl : (backTo pos (starEach es X.env)).any (·.1) = false := by rfl) :
    PE X (.Call (.Name x p) (e :: es) [] pos) (tCall sp dvs E t) := by
  constructor
  intro pins s sl H Q inv want
  refine wpAny_Call_Name_kw (ld_glob inv hg hm ?_ hdb)
  refine PySem.W.callWith_K (h₀ := X.base) inv.ok.mod.kin hk (thn (ha.run pos pins s sl H _ inv want) ?_) he hpl
  rintro us s1 ⟨vs, H1, inv1, rel, q⟩
  refine ⟨inv1.kIn, ?_⟩
  have rel2 : Vals (vs ++ dvs) (us ++ ds) := rel.append hd
  have sz : (us ++ ds).length = ps.length := rel2.length.symm.trans (F.len _ _ _ _ q)
  exact goG F gds hr hx inv1 (hb s1 us inv1.kIn sz) rel2 q
end


/-! the end: the law's promise at the heap behind the top -/
section
variable {P : Program} {w : World} {K : PySem.W.Frag} {mg mb : Str → Option Value} {k : Nat} {fa a : Addr} {fd : FuncData} {x : Str} {sp : Sp} {st : Shared} {vs : List Value} {ns : List Int}
end

/-! arguments where some parameters have defaults -/
/-! ### values as trees -/
inductive T where
  | non | bl (b : Bool) | int (i : Int) | str (z : Str) | ty (n : String) | st (a : Addr) | cell (a : Addr)
  | tup (l : List T) | lst (l : List T) | scr (l : List T) | ins (C : Addr) (l : List (Str × T)) | dct | exc (C : Addr) (l : List (Str × T))
/-- what changes: a list, an instance -/
inductive Cell where
  | lst (l : List T) | ins (C : Addr) (l : List (Str × T)) | tab (q : Str)
abbrev Store := Addr → Option Cell
def Store.put (S : Store) (a : Addr) (c : Cell) : Store := fun b => if b = a then some c else S b
def Store.drop (S : Store) (a : Addr) : Store := fun b => if b = a then none else S b
theorem put_same {S : Store} {a : Addr} {c : Cell} : S.put a c a = some c := by unfold Store.put; rw [if_pos rfl]
theorem put_ne {S : Store} {a b : Addr} {c : Cell} (h : b ≠ a) : S.put a c b = S b := by unfold Store.put; rw [if_neg h]
theorem drop_same {S : Store} {a : Addr} : S.drop a a = none := by unfold Store.drop; rw [if_pos rfl]
theorem drop_ne {S : Store} {a b : Addr} (h : b ≠ a) : S.drop a b = S b := by unfold Store.drop; rw [if_neg h]
theorem put_put {S : Store} {a : Addr} {c d : Cell} : (S.put a c).put a d = S.put a d := by
  funext b; unfold Store.put; split <;> rfl
/-- what may be hidden: a list, a dict -/
inductive Hi where
  | l (vs : List V) | d (kvs : List (Key × V))
def Hi.ho : Hi → HO
  | .l vs => .lst vs
  | .d kvs => .dK kvs
theorem Hi.nt (o : Hi) (ps) : o.ho ≠ .tbl ps := by cases o <;> exact fun e => nomatch e
section
variable (K : PySem.W.Frag) (Z : Addr → Prop) (S : Store) (H : Hp)
def TupAt (p : Addr) (vs : List V) : Prop := (Rd H p (.tup vs) ∧ S p = none ∧ ¬ Z p) ∨
  ∃ (o : Obj) (its : Array Value) (n : Nat), K.lookup p = some o ∧ o.cls = .type "tuple" ∧ o.data = .seq its n ∧ its.size ≤ sizeLine ∧ Vals vs its.toList
def LstAt (p : Addr) (vs : List V) : Prop := H p = some (.lst vs) ∧ S p = none ∧ ¬ Z p
def ScrAt (p : Addr) (vs : List V) : Prop := ((∃ o, H p = some (.frz o (.lst vs))) ∧ S p = none ∧ ¬ Z p) ∨
  ∃ (o : Obj) (its : Array Value) (n : Nat), K.lookup p = some o ∧ o.cls = .type "list" ∧ o.dict = none ∧ o.data = .seq its n ∧ its.size ≤ sizeLine ∧ Vals vs its.toList
/-- an error of a class of the program's own, with its own dict -/
def ExcAt (p C dx : Addr) : Heap → Prop := fun h => ∃ (oe : Obj) (t1 : Addr), h.get? p = some oe ∧ oe.cls = .ref C ∧ oe.dict = some dx ∧ oe.data = .fields #[.ref t1, .none, .none, .none, .bool false, .none]
/-- .. without a dict: one that was made with no field -/
def ExcAt0 (p C : Addr) : Heap → Prop := fun h => ∃ (oe : Obj) (t1 : Addr), h.get? p = some oe ∧ oe.cls = .ref C ∧ oe.dict = none ∧ oe.data = .fields #[.ref t1, .none, .none, .none, .bool false, .none]
mutual
inductive Rep : V → T → Prop
  | non : Rep .non .non
  | bl (b : Bool) : Rep (.bl b) (.bl b)
  | int (i : Int) : Rep (.int i) (.int i)
  | str (z : Str) : Rep (.str z) (.str z)
  | ty (n : String) : Rep (.ty n) (.ty n)
  | st (a : Addr) : Rep (.ref a) (.st a)
  | cell (a : Addr) : Rep (.ref a) (.cell a)
  | tup {p : Addr} {vs : List V} {ts : List T} (h : TupAt K Z S H p vs) (r : Reps vs ts) : Rep (.ref p) (.tup ts)
  | lst {p : Addr} {vs : List V} {ts : List T} (h : LstAt Z S H p vs) (r : Reps vs ts) : Rep (.ref p) (.lst ts)
  | scr {p : Addr} {vs : List V} {ts : List T} (h : ScrAt K Z S H p vs) (r : Reps vs ts) : Rep (.ref p) (.scr ts)
  | ins {p C dx : Addr} {fs : List (Str × V)} {gs : List (Str × T)} (h : H p = some (.ins C dx fs)) (n : S p = none ∧ ¬ Z p) (r : RepF fs gs) : Rep (.ref p) (.ins C gs)
  | dct {p : Addr} (h : H p = some (.dK [])) (n : S p = none ∧ ¬ Z p) : Rep (.ref p) .dct
  | exc {p C dx : Addr} {fs : List (Str × V)} {gs : List (Str × T)} (h : H p = some (.ext (ExcAt p C dx))) (n : S p = none ∧ ¬ Z p) (hd : H dx = some (.xd fs)) (nd : S dx = none ∧ ¬ Z dx) (r : RepF fs gs) : Rep (.ref p) (.exc C gs)
  | exn {p C : Addr} (h : H p = some (.ext (ExcAt0 p C))) (n : S p = none ∧ ¬ Z p) : Rep (.ref p) (.exc C [])
inductive Reps : List V → List T → Prop
  | nil : Reps [] []
  | cons {v : V} {t : T} {vs : List V} {ts : List T} (h : Rep v t) (r : Reps vs ts) : Reps (v :: vs) (t :: ts)
inductive RepF : List (Str × V) → List (Str × T) → Prop
  | nil : RepF [] []
  | cons {n : Str} {v : V} {t : T} {vs : List (Str × V)} {ts : List (Str × T)} (h : Rep v t) (r : RepF vs ts) : RepF ((n, v) :: vs) ((n, t) :: ts)
end
def CellOk (a : Addr) : Option Cell → Prop
  | none => True
  | some (.lst ts) => ∃ vs, H a = some (.lst vs) ∧ Reps K Z S H vs ts
  | some (.ins C gs) => ∃ dx fs, H a = some (.ins C dx fs) ∧ RepF K Z S H fs gs
  | some (.tab q) => LamX.TabS H a q
structure Ok : Prop where
  cl : ∀ a, CellOk K Z S H a (S a)
  hid : ∀ a, Z a → S a = none ∧ ∃ o : Hi, H a = some o.ho
end
/-- what stands, but for the cells, stands later -/
def Le (S : Store) (H : Hp) (S' : Store) (H' : Hp) : Prop := ∀ a o, H a = some o → S a = none → (∀ ps, o ≠ .tbl ps) → H' a = some o ∧ S' a = none
/-- .. and but for what is hidden -/
def LeZ (Z : Addr → Prop) (S : Store) (H : Hp) (S' : Store) (H' : Hp) : Prop := ∀ a o, H a = some o → S a = none → ¬ Z a → (∀ ps, o ≠ .tbl ps) → H' a = some o ∧ S' a = none
section
variable {K : PySem.W.Frag} {Z : Addr → Prop} {S S' S2 : Store} {H H' H2 : Hp}
theorem Le.refl : Le S H S H := fun _ _ h n _ => ⟨h, n⟩
theorem Le.z (l : Le S H S' H') : LeZ Z S H S' H' := fun a o h n _ => l a o h n
theorem Le.trans (a : Le S H S' H') (b : Le S' H' S2 H2) : Le S H S2 H2 := fun p o h n nt => b p o (a p o h n nt).1 (a p o h n nt).2 nt
theorem TupAt.lz {p : Addr} {vs : List V} (h : TupAt K Z S H p vs) (l : LeZ Z S H S' H') : TupAt K Z S' H' p vs := by
  rcases h with ⟨r, n, z⟩ | h
  · rcases r with r | ⟨o, r⟩
    · exact .inl ⟨.inl (l _ _ r n z (fun _ e => nomatch e)).1, (l _ _ r n z (fun _ e => nomatch e)).2, z⟩
    · exact .inl ⟨.inr ⟨o, (l _ _ r n z (fun _ e => nomatch e)).1⟩, (l _ _ r n z (fun _ e => nomatch e)).2, z⟩
  · exact .inr h
theorem TupAt.le {p : Addr} {vs : List V} (h : TupAt K Z S H p vs) (l : Le S H S' H') : TupAt K Z S' H' p vs := h.lz l.z
theorem LstAt.lz {p : Addr} {vs : List V} (h : LstAt Z S H p vs) (l : LeZ Z S H S' H') : LstAt Z S' H' p vs := ⟨(l _ _ h.1 h.2.1 h.2.2 (fun _ e => nomatch e)).1, (l _ _ h.1 h.2.1 h.2.2 (fun _ e => nomatch e)).2, h.2.2⟩
theorem ScrAt.lz {p : Addr} {vs : List V} (h : ScrAt K Z S H p vs) (l : LeZ Z S H S' H') : ScrAt K Z S' H' p vs := by
  rcases h with ⟨⟨o, r⟩, n, z⟩ | h
  · exact .inl ⟨⟨o, (l _ _ r n z (fun _ e => nomatch e)).1⟩, (l _ _ r n z (fun _ e => nomatch e)).2, z⟩
  · exact .inr h
theorem LstAt.le {p : Addr} {vs : List V} (h : LstAt Z S H p vs) (l : Le S H S' H') : LstAt Z S' H' p vs := h.lz l.z
theorem ScrAt.le {p : Addr} {vs : List V} (h : ScrAt K Z S H p vs) (l : Le S H S' H') : ScrAt K Z S' H' p vs := h.lz l.z
theorem TupAt.sq {p : Addr} {vs : List V} (h : TupAt K Z S H p vs) : SqT K H p vs := h.imp And.left id
theorem LstAt.sq {p : Addr} {vs : List V} (h : LstAt Z S H p vs) : SqL K H p vs := .inl (.inl h.1)
theorem ScrAt.sq {p : Addr} {vs : List V} (h : ScrAt K Z S H p vs) : SqL K H p vs := h.imp (fun a => .inr a.1) id
mutual
theorem Rep.lz (l : LeZ Z S H S' H') : ∀ {v : V} {t : T}, Rep K Z S H v t → Rep K Z S' H' v t
  | _, _, .non => .non
  | _, _, .bl b => .bl b
  | _, _, .int i => .int i
  | _, _, .str z => .str z
  | _, _, .ty n => .ty n
  | _, _, .st a => .st a
  | _, _, .cell a => .cell a
  | _, _, .tup h r => .tup (h.lz l) (Reps.lz l r)
  | _, _, .lst h r => .lst (h.lz l) (Reps.lz l r)
  | _, _, .scr h r => .scr (h.lz l) (Reps.lz l r)
  | _, _, .ins h n r => .ins (l _ _ h n.1 n.2 (fun _ e => nomatch e)).1 ⟨(l _ _ h n.1 n.2 (fun _ e => nomatch e)).2, n.2⟩ (RepF.lz l r)
  | _, _, .dct h n => .dct (l _ _ h n.1 n.2 (fun _ e => nomatch e)).1 ⟨(l _ _ h n.1 n.2 (fun _ e => nomatch e)).2, n.2⟩
  | _, _, .exc h n hd nd r => .exc (l _ _ h n.1 n.2 (fun _ e => nomatch e)).1 ⟨(l _ _ h n.1 n.2 (fun _ e => nomatch e)).2, n.2⟩ (l _ _ hd nd.1 nd.2 (fun _ e => nomatch e)).1 ⟨(l _ _ hd nd.1 nd.2 (fun _ e => nomatch e)).2, nd.2⟩ (RepF.lz l r)
  | _, _, .exn h n => .exn (l _ _ h n.1 n.2 (fun _ e => nomatch e)).1 ⟨(l _ _ h n.1 n.2 (fun _ e => nomatch e)).2, n.2⟩
theorem Reps.lz (l : LeZ Z S H S' H') : ∀ {vs : List V} {ts : List T}, Reps K Z S H vs ts → Reps K Z S' H' vs ts
  | _, _, .nil => .nil
  | _, _, .cons h r => .cons (Rep.lz l h) (Reps.lz l r)
theorem RepF.lz (l : LeZ Z S H S' H') : ∀ {vs : List (Str × V)} {ts : List (Str × T)}, RepF K Z S H vs ts → RepF K Z S' H' vs ts
  | _, _, .nil => .nil
  | _, _, .cons h r => .cons (Rep.lz l h) (RepF.lz l r)
end
theorem Rep.le {v : V} {t : T} (r : Rep K Z S H v t) (l : Le S H S' H') : Rep K Z S' H' v t := r.lz l.z
theorem Reps.le {vs : List V} {ts : List T} (r : Reps K Z S H vs ts) (l : Le S H S' H') : Reps K Z S' H' vs ts := r.lz l.z
theorem RepF.le {vs : List (Str × V)} {ts : List (Str × T)} (r : RepF K Z S H vs ts) (l : Le S H S' H') : RepF K Z S' H' vs ts := r.lz l.z
theorem Reps.length : ∀ {ts : List T} {vs : List V}, Reps K Z S H vs ts → vs.length = ts.length
  | [], _, .nil => rfl
  | _ :: _, _, .cons _ r => by simp [Reps.length r]
theorem Reps.append {vs ws : List V} {ts us : List T} (r : Reps K Z S H vs ts) (q : Reps K Z S H ws us) : Reps K Z S H (vs ++ ws) (ts ++ us) := by
  induction ts generalizing vs with
  | nil => cases r; exact q
  | cons t ts ih => cases r with | cons h r => exact .cons h (ih r)
theorem Reps.get {vs : List V} {ts : List T} {i : Nat} {t : T} (r : Reps K Z S H vs ts) (h : ts[i]? = some t) : ∃ v, vs[i]? = some v ∧ Rep K Z S H v t := by
  induction ts generalizing vs i with
  | nil => cases h
  | cons u ts ih =>
    cases r with
    | cons q r =>
      cases i with
      | zero => cases h; exact ⟨_, rfl, q⟩
      | succ i =>
        have hh : ts[i]? = some t := h
        obtain ⟨w, a, b⟩ := ih r hh
        exact ⟨w, a, b⟩
theorem Reps.take {vs : List V} {ts : List T} (n : Nat) (r : Reps K Z S H vs ts) : Reps K Z S H (vs.take n) (ts.take n) := by
  induction ts generalizing vs n with
  | nil => cases r; simp; exact .nil
  | cons t ts ih =>
    cases r with
    | cons h r =>
      cases n with
      | zero => exact .nil
      | succ n => exact .cons h (ih n r)
theorem Reps.drop {vs : List V} {ts : List T} (n : Nat) (r : Reps K Z S H vs ts) : Reps K Z S H (vs.drop n) (ts.drop n) := by
  induction ts generalizing vs n with
  | nil => cases r; simp; exact .nil
  | cons t ts ih =>
    cases r with
    | cons h r =>
      cases n with
      | zero => exact .cons h r
      | succ n => exact ih n r
theorem Reps.set {vs : List V} {ts : List T} {v : V} {t : T} (n : Nat) (r : Reps K Z S H vs ts) (h : Rep K Z S H v t) : Reps K Z S H (vs.set n v) (ts.set n t) := by
  induction ts generalizing vs n with
  | nil => cases r; exact .nil
  | cons u ts ih =>
    cases r with
    | cons q r =>
      cases n with
      | zero => exact .cons h r
      | succ n => exact .cons q (ih n r)
theorem Reps.reverse {vs : List V} {ts : List T} (r : Reps K Z S H vs ts) : Reps K Z S H vs.reverse ts.reverse := by
  induction ts generalizing vs with
  | nil => cases r; exact .nil
  | cons u ts ih =>
    cases r with
    | cons q r => rw [List.reverse_cons, List.reverse_cons]; exact (ih r).append (.cons q .nil)
theorem RepF.look {fs : List (Str × V)} {gs : List (Str × T)} {f : Str} {t : T} (r : RepF K Z S H fs gs) (h : gs.lookup f = some t) : ∃ v, fs.lookup f = some v ∧ Rep K Z S H v t := by
  induction gs generalizing fs with
  | nil => cases h
  | cons g gs ih =>
    cases r with
    | @cons n v u vs ts q r =>
      by_cases e : f = n
      · subst e
        simp only [List.lookup, beq_self_eq_true] at h ⊢
        cases h
        exact ⟨_, rfl, q⟩
      · have e' : (f == n) = false := by simpa using e
        simp only [List.lookup, e'] at h ⊢
        exact ih r h
theorem RepF.length {fs : List (Str × V)} {gs : List (Str × T)} (r : RepF K Z S H fs gs) : fs.length = gs.length := by
  induction gs generalizing fs with
  | nil => cases r; rfl
  | cons g gs ih => cases r with | cons q r => simp [ih r]
/-- a new thing is laid -/
theorem le_new {p : Addr} {o : HO} (h : H p = none) : Le S H S (upd H p o) := fun a u e n _ => ⟨by rw [upd_ne (ne_of_none e h)]; exact e, n⟩
theorem Ok.free {p : Addr} (ok : Ok K Z S H) (h : H p = none) : S p = none := by
  have := ok.cl p
  cases e : S p with
  | none => rfl
  | some c =>
    rw [e] at this
    cases c with
    | lst ts => obtain ⟨vs, q, _⟩ := this; rw [h] at q; cases q
    | ins C gs => obtain ⟨dx, fs, q, _⟩ := this; rw [h] at q; cases q
    | tab z => obtain ⟨ps, q, _⟩ := this; rw [h] at q; cases q
theorem Ok.nz {p : Addr} (ok : Ok K Z S H) (h : H p = none) : ¬ Z p := fun z => by
  obtain ⟨_, o, e⟩ := ok.hid p z
  rw [h] at e; cases e
theorem Ok.nzc {p : Addr} {c : Cell} (ok : Ok K Z S H) (h : S p = some c) : ¬ Z p := fun z => by
  obtain ⟨e, _⟩ := ok.hid p z
  rw [h] at e; cases e
theorem Ok.codeN {c : Addr} {q : Str} (ok : Ok K Z S H) (h : H c = some (LamX.CodeO c q)) : S c = none := by
  have k := ok.cl c
  cases e : S c with
  | none => rfl
  | some x =>
    rw [e] at k
    cases x with
    | lst ts => obtain ⟨vs, z, _⟩ := k; rw [h] at z; cases z
    | ins C gs => obtain ⟨dx, fs, z, _⟩ := k; rw [h] at z; cases z
    | tab w => obtain ⟨ps, z, _⟩ := k; rw [h] at z; cases z
theorem tab_le {P : Addr} {q : Str} (k : LamX.TabS H P q) (e : H' P = H P) (f : ∀ c, H c = some (LamX.CodeO c q) → H' c = some (LamX.CodeO c q)) : LamX.TabS H' P q := by
  obtain ⟨ps, h, tr, g⟩ := k
  refine ⟨ps, by rw [e]; exact h, tr, fun pos cv hc => ?_⟩
  obtain ⟨c, e1, e2⟩ := g pos cv hc
  exact ⟨c, e1, f c e2⟩
theorem CellOk.le {a : Addr} (ok : Ok K Z S H) (k : CellOk K Z S H a (S a)) (l : Le S H S' H') (c : S a ≠ none → H' a = H a) : CellOk K Z S' H' a (S a) := by
  cases e : S a with
  | none => trivial
  | some x =>
    rw [e] at k
    have ca := c (by rw [e]; exact fun z => nomatch z)
    cases x with
    | lst ts => obtain ⟨vs, q, r⟩ := k; exact ⟨vs, by rw [ca]; exact q, r.le l⟩
    | ins C gs => obtain ⟨dx, fs, q, r⟩ := k; exact ⟨dx, fs, by rw [ca]; exact q, r.le l⟩
    | tab q => exact tab_le k ca fun c h => (l c _ h (ok.codeN h) (fun _ e => nomatch e)).1
theorem Ok.le (ok : Ok K Z S H) (l : Le S H S H') (c : ∀ a, S a ≠ none → H' a = H a) : Ok K Z S H' :=
  ⟨fun a => (ok.cl a).le ok l (c a), fun a z => by
    obtain ⟨n, o, e⟩ := ok.hid a z
    exact ⟨n, o, (l a _ e n o.nt).1⟩⟩
theorem Ok.new {p : Addr} {o : HO} (ok : Ok K Z S H) (h : H p = none) : Ok K Z S (upd H p o) :=
  ok.le (le_new h) fun a n => upd_ne fun e => n (by rw [e]; exact ok.free h)
theorem Rep.tupN {p : Addr} {vs : List V} {ts : List T} (ok : Ok K Z S H) (h : H p = none) (r : Reps K Z S H vs ts) : Rep K Z S (upd H p (.tup vs)) (.ref p) (.tup ts) :=
  .tup (.inl ⟨.inl upd_same, ok.free h, ok.nz h⟩) (r.le (le_new h))
theorem Rep.lstN {p : Addr} {vs : List V} {ts : List T} (ok : Ok K Z S H) (h : H p = none) (r : Reps K Z S H vs ts) : Rep K Z S (upd H p (.lst vs)) (.ref p) (.lst ts) :=
  .lst ⟨upd_same, ok.free h, ok.nz h⟩ (r.le (le_new h))
/-- a new cell -/
theorem le_newc {p : Addr} {o : HO} {c : Cell} (h : H p = none) : Le S H (S.put p c) (upd H p o) := fun a u e n _ => by
  have ne := ne_of_none e h
  exact ⟨by rw [upd_ne ne]; exact e, by rw [put_ne ne]; exact n⟩
theorem Ok.putG {p : Addr} {c : Cell} (ok : Ok K Z S H) (l : Le S H (S.put p c) H') (nz : ¬ Z p) (st : ∀ a, a ≠ p → S a ≠ none → H' a = H a) (new : CellOk K Z (S.put p c) H' p (some c)) : Ok K Z (S.put p c) H' := by
  refine ⟨fun a => ?_, fun a z => ?_⟩
  · by_cases e : a = p
    · subst e; rw [put_same]; exact new
    · rw [put_ne e]
      exact (ok.cl a).le ok l (st a e)
  · have e : a ≠ p := fun e => nz (e ▸ z)
    obtain ⟨n, o, h⟩ := ok.hid a z
    exact ⟨by rw [put_ne e]; exact n, o, (l a _ h n o.nt).1⟩
theorem Ok.put {p : Addr} {o : HO} {c : Cell} (ok : Ok K Z S H) (l : Le S H (S.put p c) (upd H p o)) (nz : ¬ Z p) (new : CellOk K Z (S.put p c) (upd H p o) p (some c)) : Ok K Z (S.put p c) (upd H p o) :=
  ok.putG l nz (fun a e _ => upd_ne e) new
/-- a cell changes -/
theorem le_setc {p : Addr} {o : HO} {c d : Cell} (h : S p = some d) : Le S H (S.put p c) (upd H p o) := fun a u e n _ => by
  have ne : a ≠ p := fun z => by rw [z, h] at n; cases n
  exact ⟨by rw [upd_ne ne]; exact e, by rw [put_ne ne]; exact n⟩
/-- a cell ceases to change -/
theorem le_drop {p : Addr} : Le S H (S.drop p) H := fun a u e n _ => ⟨e, by
  by_cases z : a = p
  · rw [z]; exact drop_same
  · rw [drop_ne z]; exact n⟩
theorem Ok.drop {p : Addr} (ok : Ok K Z S H) : Ok K Z (S.drop p) H := by
  refine ⟨fun a => ?_, fun a z => ?_⟩
  · by_cases e : a = p
    · rw [e, drop_same]; trivial
    · rw [drop_ne e]
      exact (ok.cl a).le ok le_drop fun _ => rfl
  · obtain ⟨n, h⟩ := ok.hid a z
    refine ⟨?_, h⟩
    by_cases e : a = p
    · rw [e]; exact drop_same
    · rw [drop_ne e]; exact n
theorem Rep.frz {p : Addr} {ts : List T} (ok : Ok K Z S H) (h : S p = some (.lst ts)) : Rep K Z (S.drop p) H (.ref p) (.lst ts) := by
  have := ok.cl p
  rw [h] at this
  obtain ⟨vs, q, r⟩ := this
  exact .lst ⟨q, drop_same, ok.nzc h⟩ (r.le le_drop)
/-- p is hidden from now on; it was new -/
def hideA (Z : Addr → Prop) (p : Addr) : Addr → Prop := fun a => Z a ∨ a = p
/-- more is hidden, of what was not there -/
def Hid (H : Hp) (Z Z' : Addr → Prop) : Prop := ∀ a, Z' a → Z a ∨ H a = none
theorem hid_a {p : Addr} (h : H p = none) : Hid H Z (hideA Z p) := fun a z => z.imp id fun e => by rw [e]; exact h
theorem Hid.rd {Z' : Addr → Prop} {p : Addr} {u : HO} (x : Hid H Z Z') (n : ¬ Z p) (r : Rd H p u) : ¬ Z' p := fun z => by
  rcases x p z with z | e
  · exact n z
  · rcases r with r | ⟨_, r⟩ <;> (rw [e] at r; cases r)
theorem TupAt.hide {Z' : Addr → Prop} {p : Addr} {vs : List V} (x : Hid H Z Z') (h : TupAt K Z S H p vs) : TupAt K Z' S H p vs := h.imp (fun ⟨a, b, c⟩ => ⟨a, b, x.rd c a⟩) id
theorem LstAt.hide {Z' : Addr → Prop} {p : Addr} {vs : List V} (x : Hid H Z Z') (h : LstAt Z S H p vs) : LstAt Z' S H p vs := ⟨h.1, h.2.1, x.rd h.2.2 (.inl h.1)⟩
theorem ScrAt.hide {Z' : Addr → Prop} {p : Addr} {vs : List V} (x : Hid H Z Z') (h : ScrAt K Z S H p vs) : ScrAt K Z' S H p vs := h.imp (fun ⟨⟨o, a⟩, b, c⟩ => ⟨⟨o, a⟩, b, fun z => by
  rcases x p z with z | e
  · exact c z
  · rw [e] at a; cases a⟩) id
mutual
theorem Rep.hide {Z' : Addr → Prop} (x : Hid H Z Z') : ∀ {v : V} {t : T}, Rep K Z S H v t → Rep K Z' S H v t
  | _, _, .non => .non
  | _, _, .bl b => .bl b
  | _, _, .int i => .int i
  | _, _, .str z => .str z
  | _, _, .ty n => .ty n
  | _, _, .st a => .st a
  | _, _, .cell a => .cell a
  | _, _, .tup h r => .tup (h.hide x) (Reps.hide x r)
  | _, _, .lst h r => .lst (h.hide x) (Reps.hide x r)
  | _, _, .scr h r => .scr (h.hide x) (Reps.hide x r)
  | _, _, .ins h n r => .ins h ⟨n.1, x.rd n.2 (.inl h)⟩ (RepF.hide x r)
  | _, _, .dct h n => .dct h ⟨n.1, x.rd n.2 (.inl h)⟩
  | _, _, .exc h n hd nd r => .exc h ⟨n.1, x.rd n.2 (.inl h)⟩ hd ⟨nd.1, x.rd nd.2 (.inl hd)⟩ (RepF.hide x r)
  | _, _, .exn h n => .exn h ⟨n.1, x.rd n.2 (.inl h)⟩
theorem Reps.hide {Z' : Addr → Prop} (x : Hid H Z Z') : ∀ {vs : List V} {ts : List T}, Reps K Z S H vs ts → Reps K Z' S H vs ts
  | _, _, .nil => .nil
  | _, _, .cons h r => .cons (Rep.hide x h) (Reps.hide x r)
theorem RepF.hide {Z' : Addr → Prop} (x : Hid H Z Z') : ∀ {vs : List (Str × V)} {ts : List (Str × T)}, RepF K Z S H vs ts → RepF K Z' S H vs ts
  | _, _, .nil => .nil
  | _, _, .cons h r => .cons (Rep.hide x h) (RepF.hide x r)
end
mutual
theorem Rep.show {p : Addr} : ∀ {v : V} {t : T}, Rep K (hideA Z p) S H v t → Rep K Z S H v t
  | _, _, .non => .non
  | _, _, .bl b => .bl b
  | _, _, .int i => .int i
  | _, _, .str z => .str z
  | _, _, .ty n => .ty n
  | _, _, .st a => .st a
  | _, _, .cell a => .cell a
  | _, _, .tup h r => .tup (h.imp (fun ⟨a, b, c⟩ => ⟨a, b, fun z => c (.inl z)⟩) id) (Reps.show r)
  | _, _, .lst h r => .lst ⟨h.1, h.2.1, fun z => h.2.2 (.inl z)⟩ (Reps.show r)
  | _, _, .scr h r => .scr (h.imp (fun ⟨a, b, c⟩ => ⟨a, b, fun z => c (.inl z)⟩) id) (Reps.show r)
  | _, _, .ins h n r => .ins h ⟨n.1, fun z => n.2 (.inl z)⟩ (RepF.show r)
  | _, _, .dct h n => .dct h ⟨n.1, fun z => n.2 (.inl z)⟩
  | _, _, .exc h n hd nd r => .exc h ⟨n.1, fun z => n.2 (.inl z)⟩ hd ⟨nd.1, fun z => nd.2 (.inl z)⟩ (RepF.show r)
  | _, _, .exn h n => .exn h ⟨n.1, fun z => n.2 (.inl z)⟩
theorem Reps.show {p : Addr} : ∀ {vs : List V} {ts : List T}, Reps K (hideA Z p) S H vs ts → Reps K Z S H vs ts
  | _, _, .nil => .nil
  | _, _, .cons h r => .cons (Rep.show h) (Reps.show r)
theorem RepF.show {p : Addr} : ∀ {vs : List (Str × V)} {ts : List (Str × T)}, RepF K (hideA Z p) S H vs ts → RepF K Z S H vs ts
  | _, _, .nil => .nil
  | _, _, .cons h r => .cons (Rep.show h) (RepF.show r)
end
theorem CellOk.map {Z' : Addr → Prop} {a : Addr} {c : Option Cell} (k : CellOk K Z S H a c) (f : ∀ {vs ts}, Reps K Z S H vs ts → Reps K Z' S' H' vs ts) (g : ∀ {vs ts}, RepF K Z S H vs ts → RepF K Z' S' H' vs ts) (e : c ≠ none → H' a = H a) (hc : ∀ c q, H c = some (LamX.CodeO c q) → H' c = some (LamX.CodeO c q)) : CellOk K Z' S' H' a c := by
  cases c with
  | none => trivial
  | some x =>
    have ca := e (fun z => nomatch z)
    cases x with
    | lst ts => obtain ⟨vs, q, r⟩ := k; exact ⟨vs, by rw [ca]; exact q, f r⟩
    | ins C gs => obtain ⟨dx, fs, q, r⟩ := k; exact ⟨dx, fs, by rw [ca]; exact q, g r⟩
    | tab q => exact tab_le k ca fun c h => hc c q h
/-- a hidden thing is laid -/
theorem Ok.hideO {p : Addr} {o : Hi} (ok : Ok K Z S H) (h : H p = none) : Ok K (hideA Z p) S (upd H p o.ho) := by
  have ne : ∀ a, S a ≠ none → a ≠ p := fun a n e => n (by rw [e]; exact ok.free h)
  refine ⟨fun a => (ok.cl a).map (fun r => (r.hide (hid_a h)).le (le_new h)) (fun r => (r.hide (hid_a h)).le (le_new h)) (fun n => upd_ne (ne a n)) fun c q e => by rw [upd_ne (ne_of_none e h)]; exact e, fun a z => ?_⟩
  rcases z with z | rfl
  · obtain ⟨n, u, e⟩ := ok.hid a z
    exact ⟨n, u, ((le_new (S := S) (o := o.ho) h) a _ e n u.nt).1⟩
  · exact ⟨ok.free h, o, upd_same⟩
theorem Ok.hide {p : Addr} {us : List V} (ok : Ok K Z S H) (h : H p = none) : Ok K (hideA Z p) S (upd H p (.lst us)) := ok.hideO (o := .l us) h
/-- it changes -/
theorem lz_hid {p : Addr} {o : HO} : LeZ (hideA Z p) S H S (upd H p o) := fun a u e n z _ => ⟨by rw [upd_ne fun q => z (.inr q)]; exact e, n⟩
theorem Ok.hidSetO {p : Addr} {o : Hi} (ok : Ok K (hideA Z p) S H) : Ok K (hideA Z p) S (upd H p o.ho) := by
  have ne : ∀ a, S a ≠ none → a ≠ p := fun a n e => n (by rw [e]; exact (ok.hid p (.inr rfl)).1)
  refine ⟨fun a => (ok.cl a).map (fun r => r.lz lz_hid) (fun r => r.lz lz_hid) (fun n => upd_ne (ne a n)) fun c q e => ?_, fun a z => ?_⟩
  · have nc : c ≠ p := fun z => by
      obtain ⟨_, u, h⟩ := ok.hid p (.inr rfl)
      rw [z, h] at e
      cases u <;> cases e
    rw [upd_ne nc]; exact e
  obtain ⟨n, u, e⟩ := ok.hid a z
  by_cases q : a = p
  · subst q; exact ⟨n, o, upd_same⟩
  · exact ⟨n, u, by rw [upd_ne q]; exact e⟩
theorem Ok.hidSet {p : Addr} {us : List V} (ok : Ok K (hideA Z p) S H) : Ok K (hideA Z p) S (upd H p (.lst us)) := ok.hidSetO (o := .l us)
/-- it is shown -/
theorem Ok.show {p : Addr} (ok : Ok K (hideA Z p) S H) : Ok K Z S H :=
  ⟨fun a => (ok.cl a).map (fun r => r.show) (fun r => r.show) (fun _ => rfl) fun _ _ e => e, fun a z => ok.hid a (.inl z)⟩
end
/-! ### the names of a def -/
inductive FrR (K : PySem.W.Frag) (Z : Addr → Prop) (S : Store) (H : Hp) : List (Option V) → List (Option T) → Prop
  | nil : FrR K Z S H [] []
  | skip {x : Option V} {l : List (Option V)} {m : List (Option T)} (r : FrR K Z S H l m) : FrR K Z S H (x :: l) (none :: m)
  | cons {v : V} {t : T} {l : List (Option V)} {m : List (Option T)} (h : Rep K Z S H v t) (r : FrR K Z S H l m) : FrR K Z S H (some v :: l) (some t :: m)
section
variable {K : PySem.W.Frag} {Z : Addr → Prop} {S S' S2 : Store} {H H' H2 : Hp}
theorem FrR.le {sl : List (Option V)} {σ : List (Option T)} (f : FrR K Z S H sl σ) (l : Le S H S' H') : FrR K Z S' H' sl σ := by
  induction f with
  | nil => exact .nil
  | skip _ ih => exact .skip ih
  | cons h _ ih => exact .cons (h.le l) ih
theorem FrR.get {sl : List (Option V)} {σ : List (Option T)} {i : Nat} {t : T} (f : FrR K Z S H sl σ) (h : σ[i]? = some (some t)) : ∃ v, sl[i]? = some (some v) ∧ Rep K Z S H v t := by
  induction f generalizing i with
  | nil => cases h
  | skip _ ih =>
    cases i with
    | zero => cases h
    | succ i => exact ih h
  | cons q _ ih =>
    cases i with
    | zero => cases h; exact ⟨_, rfl, q⟩
    | succ i => exact ih h
theorem FrR.set {sl : List (Option V)} {σ : List (Option T)} {v : V} {t : T} (i : Nat) (f : FrR K Z S H sl σ) (h : Rep K Z S H v t) : FrR K Z S H (sl.set i (some v)) (σ.set i (some t)) := by
  induction f generalizing i with
  | nil => exact .nil
  | skip r ih =>
    cases i with
    | zero => exact .cons h r
    | succ i => exact .skip (ih i)
  | cons q r ih =>
    cases i with
    | zero => exact .cons h r
    | succ i => exact .cons q (ih i)
theorem FrR.hide {Z' : Addr → Prop} {sl : List (Option V)} {σ : List (Option T)} (x : Hid H Z Z') (f : FrR K Z S H sl σ) : FrR K Z' S H sl σ := by
  induction f with
  | nil => exact .nil
  | skip _ ih => exact .skip ih
  | cons h _ ih => exact .cons (h.hide x) ih
theorem FrR.lz {sl : List (Option V)} {σ : List (Option T)} (f : FrR K Z S H sl σ) (l : LeZ Z S H S' H') : FrR K Z S' H' sl σ := by
  induction f with
  | nil => exact .nil
  | skip _ ih => exact .skip ih
  | cons h _ ih => exact .cons (h.lz l) ih
theorem FrR.length {sl : List (Option V)} {σ : List (Option T)} (f : FrR K Z S H sl σ) : sl.length = σ.length := by
  induction f with
  | nil => rfl
  | skip _ ih => simp [ih]
  | cons _ _ ih => simp [ih]
def startT (N : List Str) (ts : List T) : List (Option T) := ts.map some ++ List.replicate (N.length - ts.length) none
theorem FrR.reps {vs : List V} {ts : List T} (r : Reps K Z S H vs ts) {l : List (Option V)} {m : List (Option T)} (f : FrR K Z S H l m) : FrR K Z S H (vs.map some ++ l) (ts.map some ++ m) := by
  induction ts generalizing vs with
  | nil => cases r; exact f
  | cons t ts ih => cases r with | cons h r => exact .cons h (ih r)
theorem FrR.nones (n : Nat) : FrR K Z S H (List.replicate n none) (List.replicate n none) := by
  induction n with
  | zero => exact .nil
  | succ n ih => exact .skip ih
theorem FrR.start {N : List Str} {vs : List V} {ts : List T} (r : Reps K Z S H vs ts) : FrR K Z S H (start N vs) (startT N ts) := by
  unfold L2.start startT
  rw [r.length]
  exact FrR.reps r (FrR.nones _)
end

theorem pe_weak {X : Cx} {e : Expr} {t t' : TE} (he : PE X e t) (imp : ∀ sl H Q, t' sl H Q → t sl H Q) : PE X e t' := ⟨fun pins s sl H Q inv h => he.run pins s sl H Q inv (imp sl H Q h)⟩
/-! ### what trees are to fulfil -/
abbrev Fm := List (Option T)
abbrev XT := Addr → List (Str × T) → Store → Prop
abbrev TR := Fm → Store → (T → Store → Prop) → XT → Prop
abbrev TRB := Fm → Store → (Bool → Store → Prop) → XT → Prop
abbrev TRA := Fm → Store → (List T → Store → Prop) → XT → Prop
structure EnT where
  nx : Fm → Store → Prop
  rt : T → Store → Prop
  ex : XT
  bk : Fm → Store → Prop := fun _ _ => False
  ct : Fm → Store → Prop := fun _ _ => False
abbrev TRS := EnT → Fm → Store → Prop
def XD (H : Hp) (od : Option Addr) (fs : List (Str × V)) : Prop := match od with
  | some d => H d = some (.xd fs)
  | none => fs = []
section
variable (K : PySem.W.Frag) (Z : Addr → Prop) (S : Store) (H : Hp)
def XOk (RE : XT) (E : XK) : Prop := ∀ C gs S' od fs H', RE C gs S' → Le S H S' H' → Ok K Z S' H' → XD H' od fs → RepF K Z S' H' fs gs → E (.ref C) od H'
def PO (R : T → Store → Prop) (Q : VK) : Prop := ∀ t S' v H', R t S' → Le S H S' H' → Ok K Z S' H' → Rep K Z S' H' v t → Q v H'
def POB (R : Bool → Store → Prop) (Q : Bool → Hp → Prop) : Prop := ∀ b S' H', R b S' → Le S H S' H' → Ok K Z S' H' → Q b H'
def POA (R : List T → Store → Prop) (Q : List V → Hp → Prop) : Prop := ∀ ts S' vs H', R ts S' → Le S H S' H' → Ok K Z S' H' → Reps K Z S' H' vs ts → Q vs H'
def POF (R : Fm → Store → Prop) (Q : L2.St → Hp → Prop) : Prop := ∀ σ S' sl H', R σ S' → Le S H S' H' → Ok K Z S' H' → FrR K Z S' H' sl σ → Q sl H'
end
structure UpE (K : PySem.W.Frag) (E : XK) (r : TR) (sl : L2.St) (H : Hp) (Q : VK) : Prop where
  ex : ∃ Z σ S R RE, FrR K Z S H sl σ ∧ Ok K Z S H ∧ r σ S R RE ∧ PO K Z S H R Q ∧ XOk K Z S H RE E
structure UpB (K : PySem.W.Frag) (E : XK) (r : TRB) (sl : L2.St) (H : Hp) (Q : Bool → Hp → Prop) : Prop where
  ex : ∃ Z σ S R RE, FrR K Z S H sl σ ∧ Ok K Z S H ∧ r σ S R RE ∧ POB K Z S H R Q ∧ XOk K Z S H RE E
structure UpA (K : PySem.W.Frag) (E : XK) (r : TRA) (sl : L2.St) (H : Hp) (Q : List V → Hp → Prop) : Prop where
  ex : ∃ Z σ S R RE, FrR K Z S H sl σ ∧ Ok K Z S H ∧ r σ S R RE ∧ POA K Z S H R Q ∧ XOk K Z S H RE E
structure EO (K : PySem.W.Frag) (Z : Addr → Prop) (S : Store) (H : Hp) (DT : EnT) (D : Ends) : Prop where
  nx : POF K Z S H DT.nx D.nx
  rt : PO K Z S H DT.rt D.rt
  bk : POF K Z S H DT.bk D.bk
  ct : POF K Z S H DT.ct D.ct
structure UpS (K : PySem.W.Frag) (E : XK) (r : TRS) (D : Ends) (sl : L2.St) (H : Hp) : Prop where
  ex : ∃ Z σ S DT, FrR K Z S H sl σ ∧ Ok K Z S H ∧ r DT σ S ∧ EO K Z S H DT D ∧ XOk K Z S H DT.ex E
structure ET (X : Cx) (E : XK) (e : Expr) (r : TR) : Prop where
  pe : PE X e (UpE X.K E r)
structure TT' (X : Cx) (E : XK) (e : Expr) (r : TRB) : Prop where
  pt : PT X e (UpB X.K E r)
structure TW' (X : Cx) (E : XK) (e : Expr) (r : TRB) : Prop where
  pw : PW X e (UpB X.K E r)
structure AT (X : Cx) (E : XK) (es : List Expr) (r : TRA) : Prop where
  pa : PA X es (UpA X.K E r)
structure SS (X : Cx) (E : XK) (st : Stmt) (r : TRS) : Prop where
  ps : PS X st (UpS X.K E r)
structure BS (X : Cx) (E : XK) (st : List Stmt) (r : TRS) : Prop where
  ps : PSs X st (UpS X.K E r)
section
variable {K : PySem.W.Frag} {Z : Addr → Prop} {S S1 S2 : Store} {H H1 H2 : Hp} {E : XK} {Q : VK} {sl : L2.St} {ra rb : TR}
theorem XOk.le {RE : XT} (x : XOk K Z S H RE E) (l : Le S H S1 H1) : XOk K Z S1 H1 RE E := fun C gs S' od fs H' r l' ok d rf => x C gs S' od fs H' r (l.trans l') ok d rf
theorem PO.le {R : T → Store → Prop} (x : PO K Z S H R Q) (l : Le S H S1 H1) : PO K Z S1 H1 R Q := fun t S' v H' r l' ok rep => x t S' v H' r (l.trans l') ok rep
theorem POB.le {R : Bool → Store → Prop} {Q : Bool → Hp → Prop} (x : POB K Z S H R Q) (l : Le S H S1 H1) : POB K Z S1 H1 R Q := fun t S' H' r l' ok => x t S' H' r (l.trans l') ok
theorem POA.le {R : List T → Store → Prop} {Q : List V → Hp → Prop} (x : POA K Z S H R Q) (l : Le S H S1 H1) : POA K Z S1 H1 R Q := fun t S' v H' r l' ok rep => x t S' v H' r (l.trans l') ok rep
theorem POF.le {R : Fm → Store → Prop} {Q : L2.St → Hp → Prop} (x : POF K Z S H R Q) (l : Le S H S1 H1) : POF K Z S1 H1 R Q := fun t S' v H' r l' ok rep => x t S' v H' r (l.trans l') ok rep
theorem EO.le {DT : EnT} {D : Ends} (x : EO K Z S H DT D) (l : Le S H S1 H1) : EO K Z S1 H1 DT D := ⟨x.nx.le l, x.rt.le l, x.bk.le l, x.ct.le l⟩
/-- one part, then the rest -/
theorem UpE.one {k : Fm → T → Store → (T → Store → Prop) → XT → Prop} {Q' : VK} (h : UpE K E (fun σ S R RE => ra σ S (fun x S1 => k σ x S1 R RE) RE) sl H Q)
    (step : ∀ Z σ x S1 v H1 R RE, FrR K Z S1 H1 sl σ → Ok K Z S1 H1 → Rep K Z S1 H1 v x → k σ x S1 R RE → PO K Z S1 H1 R Q → XOk K Z S1 H1 RE E → Q' v H1) : UpE K E ra sl H Q' := by
  obtain ⟨Z, σ, S, R, RE, fr, ok, w, po, xo⟩ := h.ex
  exact ⟨_, σ, S, _, RE, fr, ok, w, fun x S1 v H1 kk le ok1 rep => step Z σ x S1 v H1 R RE (fr.le le) ok1 rep kk (po.le le) (xo.le le), xo⟩
/-- two parts, then the rest -/
theorem UpE.two {k : T → T → Store → (T → Store → Prop) → XT → Prop} {Q2 : V → V → Hp → Prop} (h : UpE K E (fun σ S R RE => ra σ S (fun x S1 => rb σ S1 (fun y S2 => k x y S2 R RE) RE) RE) sl H Q)
    (step : ∀ Z x y S2 v u H2 R RE, Ok K Z S2 H2 → Rep K Z S2 H2 v x → Rep K Z S2 H2 u y → k x y S2 R RE → PO K Z S2 H2 R Q → XOk K Z S2 H2 RE E → Q2 v u H2) :
    UpE K E ra sl H (fun v H1 => UpE K E rb sl H1 (fun u H2 => Q2 v u H2)) := by
  obtain ⟨Z, σ, S, R, RE, fr, ok, w, po, xo⟩ := h.ex
  refine ⟨_, σ, S, _, RE, fr, ok, w, fun x S1 v H1 kk le ok1 rep => ?_, xo⟩
  exact ⟨_, σ, S1, _, RE, fr.le le, ok1, kk, fun y S2 u H2 k2 le2 ok2 rep2 => step Z x y S2 v u H2 R RE ok2 (rep.le le2) rep2 k2 ((po.le le).le le2) ((xo.le le).le le2), xo.le le⟩
theorem UpA.args {t : TRA} {k : List T → Store → (T → Store → Prop) → XT → Prop} {Q' : List V → Hp → Prop} (h : UpE K E (fun σ S R RE => t σ S (fun x S1 => k x S1 R RE) RE) sl H Q)
    (step : ∀ Z x S1 v H1 R RE, Ok K Z S1 H1 → Reps K Z S1 H1 v x → k x S1 R RE → PO K Z S1 H1 R Q → XOk K Z S1 H1 RE E → Q' v H1) : UpA K E t sl H Q' := by
  obtain ⟨Z, σ, S, R, RE, fr, ok, w, po, xo⟩ := h.ex
  exact ⟨_, σ, S, _, RE, fr, ok, w, fun x S1 v H1 kk le ok1 rep => step Z x S1 v H1 R RE ok1 rep kk (po.le le) (xo.le le), xo⟩
end
section
variable {X : Cx} {E : XK} {e a b c : Expr} {es : List Expr} {pos : Pos} {ra rb rc : TR}
/-! ### names, constants -/
def rVar (i : Nat) : TR := fun σ S R _ => ∃ t, σ[i]? = some (some t) ∧ R t S
theorem et_var {i : Nat} (h : PE X e (tVar i)) : ET X E e (rVar i) := ⟨pe_weak h fun sl H Q ⟨⟨Z, σ, S, R, RE, fr, ok, ⟨t, hi, r⟩, po, _⟩⟩ => by
  obtain ⟨v, hv, rep⟩ := fr.get hi
  exact ⟨v, hv, po t S v H r .refl ok rep⟩⟩
/-- a name whose list changes no more -/
def rFrz (i : Nat) : TR := fun σ S R _ => ∃ a ts, σ[i]? = some (some (.cell a)) ∧ S a = some (.lst ts) ∧ R (.lst ts) (S.drop a)
def rC (t : T) : TR := fun _ S R _ => R t S
theorem et_c {v : V} {t : T} (h : PE X e (tC v)) (rep : ∀ Z S H, Rep X.K Z S H v t) : ET X E e (rC t) := ⟨pe_weak h fun sl H Q ⟨⟨Z, σ, S, R, RE, fr, ok, r, po, _⟩⟩ => po t S v H r .refl ok (rep Z S H)⟩
theorem et_int {i : Int} {j} : ET X E (.Constant (.int i) j pos) (rC (.int i)) := et_c pe_int fun _ _ _ => .int i
theorem et_bl {i : Bool} {j} : ET X E (.Constant (.bool i) j pos) (rC (.bl i)) := et_c pe_bl fun _ _ _ => .bl i
theorem et_non {j} : ET X E (.Constant .none j pos) (rC .non) := et_c pe_non fun _ _ _ => .non
theorem et_str {z : Str} {j} : ET X E (.Constant (.str z) j pos) (rC (.str z)) := et_c pe_str fun _ _ _ => .str z
theorem et_glob {x : Str} {a : Addr} (hg : Gl X x) (hm : X.mg x = some (.ref a)) (hd : (x == ("__debug__" : Str)) = false := by decide) : ET X E (.Name x pos) (rC (.st a)) := et_c (pe_glob (v := .ref a) hg hm rfl hd) fun _ _ _ => .st a
theorem et_globI {x : Str} {i : Int} {tk : Tok} (hg : Gl X x) (hm : X.mg x = some (.int i tk)) (hd : (x == ("__debug__" : Str)) = false := by decide) : ET X E (.Name x pos) (rC (.int i)) := et_c (pe_glob (v := .int i) hg hm ⟨_, rfl⟩ hd) fun _ _ _ => .int i
theorem et_blty {x : Str} {n : String} (hg : Gl X x) (hm : X.mg x = none) (hv : bootBuiltins x = some (.type n)) (hn : x ≠ "__name__" := by decide) (hd : (x == ("__debug__" : Str)) = false := by decide) : ET X E (.Name x pos) (rC (.ty n)) :=
  et_c (pe_bltn (v := .ty n) hg hm hv rfl hn hd) fun _ _ _ => .ty n
/-! ### operators, by values -/
def rBin (k : T → T → Store → (T → Store → Prop) → XT → Prop) (ra rb : TR) : TR := fun σ S R RE => ra σ S (fun x S1 => rb σ S1 (fun y S2 => k x y S2 R RE) RE) RE
/-- an operator's rule in the layer follows from one about trees -/
def Conv (K : PySem.W.Frag) (E : XK) (k : T → T → Store → (T → Store → Prop) → XT → Prop) (r : R2) : Prop := ∀ Z x y S v u H R RE Q, Ok K Z S H → Rep K Z S H v x → Rep K Z S H u y → k x y S R RE → PO K Z S H R Q → XOk K Z S H RE E → r v u H Q
theorem et_op {op : Operator} {r : R2} {k} (ho : OpR X (binaryOp op) r) (cv : Conv X.K E k r) (ha : ET X E a ra) (hb : ET X E b rb) : ET X E (.BinOp a op b pos) (rBin k ra rb) :=
  ⟨pe_weak (pe_op ho ha.pe hb.pe) fun sl H Q h => UpE.two h fun Z x y S2 v u H2 R RE ok rx ry kk po xo => cv Z x y S2 v u H2 R RE Q ok rx ry kk po xo⟩
theorem et_cmp {op : CmpOp} {r : R2} {k} (ho : OpR X (compareOp op) r) (cv : Conv X.K E k r) (ha : ET X E a ra) (hb : ET X E b rb) (hm : behindInMarks op b = false) : ET X E (.Compare a [op] [b] pos) (rBin k ra rb) :=
  ⟨pe_weak (pe_cmpR ho ha.pe hb.pe hm) fun sl H Q h => UpE.two h fun Z x y S2 v u H2 R RE ok rx ry kk po xo => cv Z x y S2 v u H2 R RE Q ok rx ry kk po xo⟩
theorem et_ix {r : R2} {k} (ho : IxR X r) (cv : Conv X.K E k r) (ha : ET X E a ra) (hb : ET X E b rb) (hs : PlainIx b) : ET X E (.Subscript a b pos) (rBin k ra rb) :=
  ⟨pe_weak (pe_ix ho ha.pe hb.pe hs) fun sl H Q h => UpE.two h fun Z x y S2 v u H2 R RE ok rx ry kk po xo => cv Z x y S2 v u H2 R RE Q ok rx ry kk po xo⟩
/-- a bool from a value -/
def rTest (ra : TR) : TRB := fun σ S R RE => ra σ S (fun x S1 => ∃ c, x = .bl c ∧ R c S1) RE
theorem UpB.test {K : PySem.W.Frag} {sl : L2.St} {H : Hp} {Q : Bool → Hp → Prop} (h : UpB K E (rTest ra) sl H Q) : UpE K E ra sl H (fun x H1 => ∃ c, x = .bl c ∧ Q c H1) := by
  obtain ⟨Z, σ, S, R, RE, fr, ok, w, po, xo⟩ := h.ex
  refine ⟨_, σ, S, _, RE, fr, ok, w, fun x S1 v H1 kk le ok1 rep => ?_, xo⟩
  obtain ⟨c, rfl, r⟩ := kk
  cases rep
  exact ⟨c, rfl, po c S1 H1 r le ok1⟩
theorem tt_cmp {op : CmpOp} {r : R2} {k} (ho : OpR X (compareOp op) r) (cv : Conv X.K E k r) (ha : ET X E a ra) (hb : ET X E b rb) (hm : behindInMarks op b = false) : TT' X E (.Compare a [op] [b] pos) (rTest (rBin k ra rb)) :=
  ⟨⟨fun pins s sl H Q I h => (pt_cmpR ho ha.pe hb.pe hm).run pins s sl H Q I (UpE.two (k := k) h.test fun Z x y S2 v u H2 R RE ok rx ry kk po xo => cv Z x y S2 v u H2 R RE _ ok rx ry kk po xo)⟩⟩
/-! ### and, or, not -/
variable {rest : List Expr} {ta tb tc : TRB}
def bAnd (ta tb : TRB) : TRB := fun σ S R RE => ta σ S (fun c S1 => if c = true then tb σ S1 R RE else R false S1) RE
def bOr (ta tb : TRB) : TRB := fun σ S R RE => ta σ S (fun c S1 => if c = true then R true S1 else tb σ S1 R RE) RE
def bNot (ta : TRB) : TRB := fun σ S R RE => ta σ S (fun c S1 => R (!c) S1) RE
theorem tw_or1 (h : TT' X E a ta) : TW' X E (.BoolOp .Or [a] pos) ta := ⟨pw_or1 h.pt⟩
theorem tw_or (ha : TT' X E a ta) (hb : TW' X E (.BoolOp .Or (b :: rest) pos) tb) : TW' X E (.BoolOp .Or (a :: b :: rest) pos) (bOr ta tb) := by
  refine ⟨⟨fun wh pins s sl H Q I h => (pw_or ha.pt hb.pw).run wh pins s sl H Q I ?_⟩⟩
  obtain ⟨Z, σ, S, R, RE, fr, ok, w, po, xo⟩ := h.ex
  refine ⟨_, σ, S, _, RE, fr, ok, w, fun c S1 H1 kk le ok1 => ?_, xo⟩
  cases c with
  | false => exact ⟨_, σ, S1, R, RE, fr.le le, ok1, kk, po.le le, xo.le le⟩
  | true => exact po true S1 H1 kk le ok1
theorem tt_w (h : TW' X E a ta) : TT' X E a ta := ⟨h.pw.pt⟩
/-- .. as values -/
def vAnd (ra rb : TR) : TR := fun σ S R RE => ra σ S (fun x S1 => ∃ c, x = .bl c ∧ if c = true then rb σ S1 R RE else R (.bl false) S1) RE
def vOr (ra rb : TR) : TR := fun σ S R RE => ra σ S (fun x S1 => ∃ c, x = .bl c ∧ if c = true then R (.bl true) S1 else rb σ S1 R RE) RE
def vNot (ra : TR) : TR := fun σ S R RE => ra σ S (fun x S1 => ∃ c, x = .bl c ∧ R (.bl (!c)) S1) RE
def rIf (tc : TRB) (ra rb : TR) : TR := fun σ S R RE => tc σ S (fun c S1 => if c = true then ra σ S1 R RE else rb σ S1 R RE) RE
theorem et_if (hc : TT' X E c tc) (ha : ET X E a ra) (hb : ET X E b rb) : ET X E (.IfExp c a b pos) (rIf tc ra rb) := by
  refine ⟨pe_weak (pe_ifExp hc.pt ha.pe hb.pe) fun sl H Q h => ?_⟩
  obtain ⟨Z, σ, S, R, RE, fr, ok, w, po, xo⟩ := h.ex
  refine ⟨_, σ, S, _, RE, fr, ok, w, fun c S1 H1 kk le ok1 => ?_, xo⟩
  cases c with
  | true => exact ⟨_, σ, S1, R, RE, fr.le le, ok1, kk, po.le le, xo.le le⟩
  | false => exact ⟨_, σ, S1, R, RE, fr.le le, ok1, kk, po.le le, xo.le le⟩
/-! ### argument lists, displays -/
def aNil : TRA := fun _ S R _ => R [] S
def aCons (ra : TR) (t : TRA) : TRA := fun σ S R RE => ra σ S (fun x S1 => t σ S1 (fun xs S2 => R (x :: xs) S2) RE) RE
theorem at_nil : AT X E [] aNil := ⟨⟨fun pos pins s sl H Q I h => pa_nil.run pos pins s sl H Q I (by
  obtain ⟨Z, σ, S, R, RE, fr, ok, w, po, xo⟩ := h.ex
  exact po [] S [] H w .refl ok .nil)⟩⟩
theorem at_cons {t : TRA} (ha : ET X E e ra) (hr : AT X E es t) (hs : starEach (e :: es) X.env = (false, eval e X.env) :: starEach es X.env := by rfl) : AT X E (e :: es) (aCons ra t) := ⟨⟨fun pos pins s sl H Q I h => (pa_cons ha.pe hr.pa hs).run pos pins s sl H Q I (by
  obtain ⟨Z, σ, S, R, RE, fr, ok, w, po, xo⟩ := h.ex
  refine ⟨_, σ, S, _, RE, fr, ok, w, fun x S1 v H1 kk le ok1 rep => ?_, xo⟩
  exact ⟨_, σ, S1, _, RE, fr.le le, ok1, kk, fun xs S2 vs H2 k2 le2 ok2 rs => po (x :: xs) S2 (v :: vs) H2 k2 (le.trans le2) ok2 (.cons (rep.le le2) rs), xo.le le⟩)⟩⟩
def rTup (t : TRA) : TR := fun σ S R RE => t σ S (fun xs S1 => xs.length ≤ sizeLine ∧ R (.tup xs) S1) RE
def rLst (t : TRA) : TR := fun σ S R RE => t σ S (fun xs S1 => xs.length ≤ sizeLine ∧ R (.lst xs) S1) RE
def rLstC (t : TRA) : TR := fun σ S R RE => t σ S (fun xs S1 => xs.length ≤ sizeLine ∧ ∀ a, S1 a = none → R (.cell a) (S1.put a (.lst xs))) RE
variable {t : TRA}
theorem et_tup {x1} (h : AT X E es t) : ET X E (.Tuple es x1 pos) (rTup t) :=
  ⟨pe_weak (pe_tup h.pa) fun sl H Q h => UpA.args (k := fun xs S1 R RE => xs.length ≤ sizeLine ∧ R (.tup xs) S1) h fun Z xs S1 vs H1 R RE ok rs kk po xo =>
    ⟨by rw [rs.length]; exact kk.1, fun p hp => po _ S1 _ _ kk.2 (le_new hp) (ok.new hp) (.tupN ok hp rs)⟩⟩
theorem et_lst (h : AT X E es t) : ET X E (.List es pos) (rLst t) :=
  ⟨pe_weak (pe_lst h.pa) fun sl H Q h => UpA.args (k := fun xs S1 R RE => xs.length ≤ sizeLine ∧ R (.lst xs) S1) h fun Z xs S1 vs H1 R RE ok rs kk po xo =>
    ⟨by rw [rs.length]; exact kk.1, fun p hp => po _ S1 _ _ kk.2 (le_new hp) (ok.new hp) (.lstN ok hp rs)⟩⟩
theorem et_lstC (h : AT X E es t) : ET X E (.List es pos) (rLstC t) :=
  ⟨pe_weak (pe_lst h.pa) fun sl H Q h => UpA.args (k := fun xs S1 R RE => xs.length ≤ sizeLine ∧ ∀ a, S1 a = none → R (.cell a) (S1.put a (.lst xs))) h fun Z xs S1 vs H1 R RE ok rs kk po xo =>
    ⟨by rw [rs.length]; exact kk.1, fun p hp => by
      have l := le_newc (S := S1) (o := .lst vs) (c := .lst xs) hp
      exact po _ _ _ _ (kk.2 p (ok.free hp)) l (ok.put l (ok.nz hp) ⟨vs, upd_same, rs.le l⟩) (.cell p)⟩⟩
/-- a built-in called with values -/
def rArgs (k : List T → Store → (T → Store → Prop) → XT → Prop) (t : TRA) : TR := fun σ S R RE => t σ S (fun xs S1 => k xs S1 R RE) RE
def ConvA (K : PySem.W.Frag) (E : XK) (k : List T → Store → (T → Store → Prop) → XT → Prop) (r : List V → Hp → VK → Prop) : Prop := ∀ Z xs S vs H R RE Q, Ok K Z S H → Reps K Z S H vs xs → k xs S R RE → PO K Z S H R Q → XOk K Z S H RE E → r vs H Q
theorem et_blt {id : String} {x : Str} {p : Pos} {r : List V → Hp → VK → Prop} {k} (hc : CallR X (.builtin id) r) (cv : ConvA X.K E k r) (hg : Gl X x) (hm : X.mg x = none) (hv : bootBuiltins x = some (.builtin id)) (ha : AT X E (e :: es) t) (hn : x ≠ "__name__" := by decide) (hdb : (x == ("__debug__" : Str)) = false := by decide)
    (he : starEach (e :: es) X.env = (false, eval e X.env) :: starEach es X.env := by rfl) (hpl : (backTo pos (starEach es X.env)).any (·.1) = false := by rfl) : ET X E (.Call (.Name x p) (e :: es) [] pos) (rArgs k t) :=
  ⟨pe_weak (pe_callB hc hg hm hv ha.pa hn hdb he hpl) fun sl H Q h => UpA.args h fun Z xs S1 vs H1 R RE ok rs kk po xo => cv Z xs S1 vs H1 R RE Q ok rs kk po xo⟩
end

/-! ### targets -/
abbrev TRG := T → Fm → Store → (Fm → Store → Prop) → XT → Prop
abbrev TRGs := List T → Fm → Store → (Fm → Store → Prop) → XT → Prop
structure UpG (K : PySem.W.Frag) (E : XK) (r : TRG) (v : V) (sl : L2.St) (H : Hp) (Q : L2.St → Hp → Prop) : Prop where
  ex : ∃ Z σ S t R RE, FrR K Z S H sl σ ∧ Ok K Z S H ∧ Rep K Z S H v t ∧ r t σ S R RE ∧ POF K Z S H R Q ∧ XOk K Z S H RE E
structure UpGs (K : PySem.W.Frag) (E : XK) (r : TRGs) (vs : List V) (sl : L2.St) (H : Hp) (Q : L2.St → Hp → Prop) : Prop where
  ex : ∃ Z σ S ts R RE, FrR K Z S H sl σ ∧ Ok K Z S H ∧ Reps K Z S H vs ts ∧ r ts σ S R RE ∧ POF K Z S H R Q ∧ XOk K Z S H RE E
structure GT (X : Cx) (E : XK) (tg : Expr) (r : TRG) : Prop where
  pg : PG X tg (UpG X.K E r)
structure GTs (X : Cx) (E : XK) (ts : List Expr) (r : TRGs) : Prop where
  pg : PGs X ts (UpGs X.K E r)
section
variable {X : Cx} {E : XK} {e a b c : Expr} {es : List Expr} {pos : Pos} {ra rb rc : TR} {g : TRG} {gs : TRGs} {t : TRA}
def gNameT (i : Nat) : TRG := fun t σ S R _ => R (σ.set i (some t)) S
theorem pg_weak {X : Cx} {e : Expr} {t t' : TG} (he : PG X e t) (imp : ∀ v sl H Q, t' v sl H Q → t v sl H Q) : PG X e t' := ⟨fun pins s sl H v u Q inv r h => he.run pins s sl H v u Q inv r (imp v sl H Q h)⟩
theorem gt_name {i : Nat} (h : PG X e (gName i)) : GT X E e (gNameT i) := ⟨pg_weak h fun v sl H Q ⟨⟨Z, σ, S, t, R, RE, fr, ok, rep, r, po, _⟩⟩ => po _ S _ H r .refl ok (fr.set i rep)⟩
def gNilT : TRGs := fun ts σ S R _ => ts = [] ∧ R σ S
def gConsT (g : TRG) (gs : TRGs) : TRGs := fun ts σ S R RE => ∃ x r, ts = x :: r ∧ g x σ S (fun σ1 S1 => gs r σ1 S1 R RE) RE
theorem gts_nil : GTs X E [] gNilT := ⟨⟨fun pins s sl H vs us Q I r ⟨⟨Z, σ, S, ts, R, RE, fr, ok, rep, ⟨e, w⟩, po, _⟩⟩ => by
  subst e
  cases rep
  exact pgs_nil.run pins s sl H [] us Q I r ⟨rfl, po σ S sl H w .refl ok fr⟩⟩⟩
theorem gts_cons (h1 : GT X E e g) (h2 : GTs X E es gs) (hs : (assignEach (e :: es) X.env).map (·.2) = assign e X.env :: (assignEach es X.env).map (·.2) := by rfl) : GTs X E (e :: es) (gConsT g gs) :=
  ⟨⟨fun pins s sl H vs us Q I r ⟨⟨Z, σ, S, ts, R, RE, fr, ok, rep, ⟨x, xs, e, w⟩, po, xo⟩⟩ => by
    subst e
    cases rep with
    | cons rx rr =>
      refine (pgs_cons h1.pg h2.pg hs).run pins s sl H _ us Q I r ⟨_, _, rfl, _, σ, S, x, _, RE, fr, ok, rx, w, fun σ1 S1 sl1 H1 k le ok1 fr1 => ?_, xo⟩
      exact ⟨_, σ1, S1, xs, R, RE, fr1, ok1, rr.le le, k, po.le le, xo.le le⟩⟩⟩
def gTupT (n : Nat) (gs : TRGs) : TRG := fun t σ S R RE => ∃ ts, t = .tup ts ∧ ts.length = n ∧ gs ts σ S R RE
theorem gt_tup {k : Nat} {n : Nat} (hc : X.calm = true) (h : GTs X E es gs) (hn : (assignEach es X.env).length = n := by rfl) (hst : (assignEach es X.env).findIdx? (·.1) = none := by rfl) : GT X E (.Tuple es k pos) (gTupT n gs) :=
  ⟨pg_weak (pg_tup hc h.pg hn hst) fun v sl H Q ⟨⟨Z, σ, S, t, R, RE, fr, ok, rep, ⟨ts, e, l, w⟩, po, xo⟩⟩ => by
    subst e
    cases rep with
    | tup h r => exact ⟨_, _, rfl, h.sq, r.length.trans l, _, σ, S, ts, R, RE, fr, ok, r, w, po, xo⟩⟩
/-- xs[i] = .., xs a list that changes -/
def gSubT (ra rb : TR) : TRG := fun t σ S R RE => ra σ S (fun x S1 => rb σ S1 (fun y S2 => ∃ a ts i j, x = .cell a ∧ y = .int i ∧ S2 a = some (.lst ts) ∧ ixN ts.length i = some j ∧ R σ (S2.put a (.lst (ts.set j t)))) RE) RE
theorem gt_sub {o i : Expr} (ho : ET X E o ra) (hi : ET X E i rb) (ha : ∀ v, assign (.Subscript o i pos) X.env v = (do
      let ov ← holding [v] (eval o X.env)
      let iv ← holding [v, ov] (eval i X.env)
      standAt pos
      holding [v, ov, iv] (setItem ov iv v)
      release [v, ov, iv] []) := by intro _; rfl) : GT X E (.Subscript o i pos) (gSubT ra rb) :=
  ⟨pg_weak (pg_sub ho.pe hi.pe set_list ha) fun v sl H Q ⟨⟨Z, σ, S, t, R, RE, fr, ok, rep, w, po, xo⟩⟩ => by
    refine ⟨_, σ, S, _, RE, fr, ok, w, fun x S1 vx H1 k1 le1 ok1 rx => ?_, xo⟩
    refine ⟨_, σ, S1, _, RE, fr.le le1, ok1, k1, fun y S2 vy H2 k2 le2 ok2 ry => ?_, xo.le le1⟩
    obtain ⟨a, ts, i, j, rfl, rfl, hs, hj, w⟩ := k2
    cases rx; cases ry
    have ca := ok2.cl a
    rw [hs] at ca
    obtain ⟨vs, hv, rs⟩ := ca
    refine ⟨a, vs, i, j, rfl, rfl, hv, by rw [rs.length]; exact hj, ?_⟩
    have l3 : Le S2 H2 (S2.put a (.lst (ts.set j t))) (upd H2 a (.lst (vs.set j v))) := le_setc hs
    exact po _ _ _ _ w ((le1.trans le2).trans l3) (ok2.put l3 (ok2.nzc hs) ⟨_, upd_same, (rs.le l3).set j (((rep.le le1).le le2).le l3)⟩) (((fr.le le1).le le2).le l3)⟩
/-! ### statements -/
def sAsg (ra : TR) (g : TRG) : TRS := fun D σ S => ra σ S (fun x S1 => g x σ S1 D.nx D.ex) D.ex
theorem ps_weak {X : Cx} {e : Stmt} {t t' : TS} (he : PS X e t) (imp : ∀ D sl H, t' D sl H → t D sl H) : PS X e t' := ⟨fun pins s sl H D inv h => he.run pins s sl H D inv (imp D sl H h)⟩
theorem pss_weak {X : Cx} {e : List Stmt} {t t' : TS} (he : PSs X e t) (imp : ∀ D sl H, t' D sl H → t D sl H) : PSs X e t' := ⟨fun pins s sl H D inv h => he.run pins s sl H D inv (imp D sl H h)⟩
theorem ss_asg {tg : Expr} (he : ET X E e ra) (hg : GT X E tg g) (hs : swapsWithSole [tg] e pos.line X.env = pure false := by rfl) (hw : swappedStores [tg] e X.env = pure none := by rfl)
    (h1 : (assignEach [tg] X.env).map (·.2) = [assign tg X.env] := by rfl) : SS X E (.Assign [tg] e pos) (sAsg ra g) :=
  ⟨ps_weak (ps_asg he.pe hg.pg hs hw h1) fun D sl H ⟨⟨Z, σ, S, DT, fr, ok, w, eo, xo⟩⟩ =>
    ⟨_, σ, S, _, DT.ex, fr, ok, w, fun x S1 v H1 k le ok1 rep => ⟨_, σ, S1, x, DT.nx, DT.ex, fr.le le, ok1, rep, k, eo.nx.le le, xo.le le⟩, xo⟩⟩
theorem ss_set {i : Nat} {x : Str} {pos' : Pos} (hN : X.N.Nodup) (hi : X.N[i]? = some x) (hx : Loc X.env.scope x) (he : ET X E e ra) (hs : swapsWith e (some (.Name x pos')) pos.line X.env = pure false := by rfl)
    (hf : X.fn x = true ∨ X.env.scope.names.lookup x = some .local := by first | exact .inl rfl | exact .inr rfl | assumption) : SS X E (.Assign [.Name x pos'] e pos) (sAsg ra (gNameT i)) :=
  ⟨ps_weak (ps_set hN hi hx he.pe hs hf) fun D sl H ⟨⟨Z, σ, S, DT, fr, ok, w, eo, xo⟩⟩ =>
    ⟨_, σ, S, _, DT.ex, fr, ok, w, fun x S1 v H1 k le ok1 rep => eo.nx _ S1 _ H1 k le ok1 ((fr.le le).set i rep), xo⟩⟩
/-- a, b = e1, e2 -/
def sPar (i j : Nat) (t : TRA) : TRS := fun D σ S => t σ S (fun ts S1 => ∃ x y, ts = [x, y] ∧ D.nx ((σ.set i (some x)).set j (some y)) S1) D.ex
def sDrop (ra : TR) : TRS := fun D σ S => ra σ S (fun _ S1 => D.nx σ S1) D.ex
def sRet (ra : TR) : TRS := fun D σ S => ra σ S D.rt D.ex
theorem ss_ret (he : ET X E e ra) : SS X E (.Return (some e) pos) (sRet ra) := ⟨ps_weak (ps_ret he.pe) fun D sl H ⟨⟨Z, σ, S, DT, fr, ok, w, eo, xo⟩⟩ => ⟨_, σ, S, _, DT.ex, fr, ok, w, eo.rt, xo⟩⟩
def sRetN : TRS := fun D _ S => D.rt .non S
def sIf (tc : TRB) (ra rb : TRS) : TRS := fun D σ S => tc σ S (fun c S1 => if c = true then ra D σ S1 else rb D σ S1) D.ex
theorem ss_if {ta : TRB} {sa sb : TRS} {as bs : List Stmt} (hc : TT' X E c ta) (ha : BS X E as sa) (hb : BS X E bs sb) : SS X E (.If c as bs pos) (sIf ta sa sb) :=
  ⟨ps_weak (ps_if hc.pt ha.ps hb.ps) fun D sl H ⟨⟨Z, σ, S, DT, fr, ok, w, eo, xo⟩⟩ => ⟨_, σ, S, _, DT.ex, fr, ok, w, fun c S1 H1 k le ok1 => by
    cases c with
    | true => exact ⟨_, σ, S1, DT, fr.le le, ok1, k, eo.le le, xo.le le⟩
    | false => exact ⟨_, σ, S1, DT, fr.le le, ok1, k, eo.le le, xo.le le⟩, xo⟩⟩
def sNext : TRS := fun D σ S => D.nx σ S
def sSeq (ra rb : TRS) : TRS := fun D σ S => ra { D with nx := rb D } σ S
theorem bs_nil : BS X E [] sNext := ⟨pss_weak pss_nil fun D sl H ⟨⟨Z, σ, S, DT, fr, ok, w, eo, xo⟩⟩ => eo.nx σ S sl H w .refl ok fr⟩
theorem bs_cons {st : Stmt} {rest : List Stmt} {sa sb : TRS} (h1 : SS X E st sa) (h2 : BS X E rest sb) : BS X E (st :: rest) (sSeq sa sb) :=
  ⟨pss_weak (pss_cons h1.ps h2.ps) fun D sl H ⟨⟨Z, σ, S, DT, fr, ok, w, eo, xo⟩⟩ => ⟨_, σ, S, { DT with nx := sb DT }, fr, ok, w,
    ⟨fun σ1 S1 sl1 H1 k le ok1 fr1 => ⟨_, σ1, S1, DT, fr1, ok1, k, eo.le le, xo.le le⟩, eo.rt, eo.bk, eo.ct⟩, xo⟩⟩
theorem bs_one {st : Stmt} {sa : TRS} (h1 : SS X E st sa) : BS X E [st] sa :=
  ⟨pss_weak (pss_one h1.ps) fun D sl H h => h⟩
/-! ### what is walked -/
abbrev TRI := Fm → Store → (List T → Store → Prop) → XT → Prop
/-- J walks the things ts, whatever is made meanwhile -/
def SrcOk (K : PySem.W.Frag) (Z : Addr → Prop) (S0 : Store) (H0 : Hp) (J : It) (ts : List T) : Prop := ∀ Z' S H, Hid H0 Z Z' → Le S0 H0 S H → Ok K Z' S H →
  (∀ i t, ts[i]? = some t → J.go i H ∧ ∀ x H', J.yld i H x H' → Le S H S H' ∧ Ok K Z' S H' ∧ Rep K Z' S H' x t) ∧ ∀ i, ts.length ≤ i → J.stop i H
structure UpI (K : PySem.W.Frag) (E : XK) (r : TRI) (sl : L2.St) (H : Hp) (Q : It → Hp → Prop) : Prop where
  ex : ∃ Z σ S R RE, FrR K Z S H sl σ ∧ Ok K Z S H ∧ r σ S R RE ∧ (∀ ts S' J H', R ts S' → Le S H S' H' → Ok K Z S' H' → SrcOk K Z S' H' J ts → Q J H') ∧ XOk K Z S H RE E
structure IT (X : Cx) (E : XK) (tg it : Expr) (r : TRI) : Prop where
  pi : PI X tg it (UpI X.K E r)
def seqOf : T → Option (List T)
  | .lst ts => some ts
  | .scr ts => some ts
  | .tup ts => some ts
  | _ => none
def iSeq (ra : TR) : TRI := fun σ S R RE => ra σ S (fun t S1 => ∃ ts, seqOf t = some ts ∧ R ts S1) RE
theorem src_list {K : PySem.W.Frag} {Z : Addr → Prop} {S : Store} {H : Hp} {p : Addr} {vs : List V} {ts : List T} (h : LstAt Z S H p vs) (r : Reps K Z S H vs ts) : SrcOk K Z S H (Itl K p) ts := fun Z' S1 H1 hz le ok => by
  replace h := h.hide hz
  replace r := r.hide hz
  refine ⟨fun i t hi => ?_, fun i hi => ⟨vs, (h.le le).sq, by rw [r.length]; exact hi⟩⟩
  obtain ⟨v, hv, rep⟩ := r.get hi
  refine ⟨⟨vs, v, (h.le le).sq, hv⟩, fun x H' ⟨e, y⟩ => ?_⟩
  subst e
  have := y vs (h.le le).sq
  rw [hv] at this
  cases this
  exact ⟨.refl, ok, rep.le le⟩
theorem src_scr {K : PySem.W.Frag} {Z : Addr → Prop} {S : Store} {H : Hp} {p : Addr} {vs : List V} {ts : List T} (h : ScrAt K Z S H p vs) (r : Reps K Z S H vs ts) : SrcOk K Z S H (Itl K p) ts := fun Z' S1 H1 hz le ok => by
  replace h := h.hide hz
  replace r := r.hide hz
  refine ⟨fun i t hi => ?_, fun i hi => ⟨vs, (h.le le).sq, by rw [r.length]; exact hi⟩⟩
  obtain ⟨v, hv, rep⟩ := r.get hi
  refine ⟨⟨vs, v, (h.le le).sq, hv⟩, fun x H' ⟨e, y⟩ => ?_⟩
  subst e
  have := y vs (h.le le).sq
  rw [hv] at this
  cases this
  exact ⟨.refl, ok, rep.le le⟩
theorem src_tup {K : PySem.W.Frag} {Z : Addr → Prop} {S : Store} {H : Hp} {p : Addr} {vs : List V} {ts : List T} (h : TupAt K Z S H p vs) (r : Reps K Z S H vs ts) : SrcOk K Z S H (Itt K p) ts := fun Z' S1 H1 hz le ok => by
  replace h := h.hide hz
  replace r := r.hide hz
  refine ⟨fun i t hi => ?_, fun i hi => ⟨vs, (h.le le).sq, by rw [r.length]; exact hi⟩⟩
  obtain ⟨v, hv, rep⟩ := r.get hi
  refine ⟨⟨vs, v, (h.le le).sq, hv⟩, fun x H' ⟨e, y⟩ => ?_⟩
  subst e
  have := y vs (h.le le).sq
  rw [hv] at this
  cases this
  exact ⟨.refl, ok, rep.le le⟩
def iLT (K : PySem.W.Frag) (tl : TE) : TI := fun σ H R => tl σ H fun x H1 => ∃ a, x = .ref a ∧ (((∃ xs, SqL K H1 a xs) ∧ R (Itl K a) H1) ∨ ((∃ xs, SqT K H1 a xs) ∧ R (Itt K a) H1))
theorem pi_lt {tg l : Expr} {tl : TE} (hl : PE X l tl) : PI X tg l (iLT X.K tl) := by
  refine ⟨fun pins s sl H R I h => ?_⟩
  refine thn (hl.run pins s sl H _ I h) fun v s1 ⟨x, H1, I1, r1, q1⟩ => ?_
  obtain ⟨a, e, q⟩ := q1
  subst e
  cases r1
  rcases q with ⟨⟨xs, hq⟩, q⟩ | ⟨⟨xs, hq⟩, q⟩
  · obtain ⟨its, rv, p, hz⟩ := I1.list hq
    refine wpAny_pyIter_list p.isList ?_
    refine ⟨s1.heap.objs.size, [s1.heap.objs.size], _, _, H1, rfl, I1.kept (t' := s1.toks) fun b o e => Heap.get?_push_of_some _ e, turn_list a _, ⟨_, Heap.get?_push_size _ rfl, rfl, rfl⟩, fun b hb => ?_, q⟩
    have e : b = s1.heap.objs.size := by simpa using hb
    subst e
    exact I1.fpOk (Nat.le_refl _) (I1.hok.fresh (Nat.le_refl _))
  · obtain ⟨its, rv, p, hz⟩ := I1.tuple hq
    refine wpAny_pyIter_tuple (show s1.heap.IsTuple a its.toArray from p) ?_
    refine ⟨s1.heap.objs.size, [s1.heap.objs.size], _, _, H1, rfl, I1.kept (t' := s1.toks) fun b o e => Heap.get?_push_of_some _ e, turn_tuple a _, ⟨_, Heap.get?_push_size _ rfl, rfl, rfl⟩, fun b hb => ?_, q⟩
    have e : b = s1.heap.objs.size := by simpa using hb
    subst e
    exact I1.fpOk (Nat.le_refl _) (I1.hok.fresh (Nat.le_refl _))
theorem pi_weak {X : Cx} {tg e : Expr} {t t' : TI} (he : PI X tg e t) (imp : ∀ sl H Q, t' sl H Q → t sl H Q) : PI X tg e t' := ⟨fun pins s sl H R inv h => he.run pins s sl H R inv (imp sl H R h)⟩
theorem it_seq {tg : Expr} (ha : ET X E a ra) : IT X E tg a (iSeq ra) := ⟨pi_weak (pi_lt ha.pe) fun sl H Q ⟨⟨Z, σ, S, R, RE, fr, ok, w, po, xo⟩⟩ => by
  refine ⟨_, σ, S, _, RE, fr, ok, w, fun t S1 v H1 k le ok1 rep => ?_, xo⟩
  obtain ⟨ts, e, k⟩ := k
  cases rep <;> try (cases e; done)
  · cases e
    rename_i h r
    exact ⟨_, rfl, .inr ⟨⟨_, h.sq⟩, po ts S1 _ H1 k le ok1 (src_tup h r)⟩⟩
  · cases e
    rename_i h r
    exact ⟨_, rfl, .inl ⟨⟨_, h.sq⟩, po ts S1 _ H1 k le ok1 (src_list h r)⟩⟩
  · cases e
    rename_i h r
    exact ⟨_, rfl, .inl ⟨⟨_, h.sq⟩, po ts S1 _ H1 k le ok1 (src_scr h r)⟩⟩⟩
def rangeT (lo hi : Int) : List T := (List.range (hi - lo).toNat).map fun (i : Nat) => T.int (lo + i)
theorem src_range {K : PySem.W.Frag} {Z : Addr → Prop} {S : Store} {H : Hp} {lo : Int} {n : Nat} : SrcOk K Z S H (Itr lo n) ((List.range n).map fun (i : Nat) => T.int (lo + i)) := fun Z' S1 H1 hz le ok => by
  refine ⟨fun i t hi => ?_, fun i hi => by rw [List.length_map, List.length_range] at hi; exact hi⟩
  rw [List.getElem?_map] at hi
  obtain ⟨j, hj, e⟩ := Option.map_eq_some_iff.mp hi
  obtain ⟨l, ej⟩ := List.getElem?_eq_some_iff.mp hj
  rw [List.getElem_range] at ej
  subst ej e
  rw [List.length_range] at l
  refine ⟨l, fun x H' ⟨e1, e2⟩ => ?_⟩
  subst e1 e2
  exact ⟨.refl, ok, .int _⟩
def iRng1T (t : TRA) : TRI := fun σ S R RE => t σ S (fun xs S1 => ∃ j : Int, xs = [.int j] ∧ -(2 ^ 62) ≤ j ∧ j < 2 ^ 62 ∧ R (rangeT 0 j) S1) RE
def iRng2T (t : TRA) : TRI := fun σ S R RE => t σ S (fun xs S1 => ∃ i j : Int, xs = [.int i, .int j] ∧ (-(2 ^ 62) ≤ i ∧ i < 2 ^ 62 ∧ -(2 ^ 62) ≤ j ∧ j < 2 ^ 62) ∧ R (rangeT i j) S1) RE
theorem it_range1 {tg : Expr} {p : Pos} (hg : Gl X "range") (hm : X.mg "range" = none) (ha : AT X E [a] t) (hs : starEach [a] X.env = [(false, eval a X.env)] := by rfl) : IT X E tg (.Call (.Name "range" p) [a] [] pos) (iRng1T t) :=
  ⟨pi_weak (pi_range1 hg hm ha.pa hs) fun sl H Q ⟨⟨Z, σ, S, R, RE, fr, ok, w, po, xo⟩⟩ => ⟨_, σ, S, _, RE, fr, ok, w, fun xs S1 vs H1 k le ok1 rep => by
    obtain ⟨j, rfl, h1, h2, k⟩ := k
    cases rep with
    | cons r rr =>
      cases r; cases rr
      refine ⟨j, rfl, h1, h2, po _ S1 _ H1 k le ok1 ?_⟩
      have := src_range (K := X.K) (Z := Z) (S := S1) (H := H1) (lo := 0) (n := j.toNat)
      unfold rangeT
      rw [Int.sub_zero]
      exact this, xo⟩⟩
/-! ### for -/
def rLoop (g : TRG) (rb : TRS) (D : EnT) : List T → Fm → Store → Prop
  | [], σ, S => D.nx σ S
  | t :: ts, σ, S => g t σ S (fun σ1 S1 => rb { D with nx := rLoop g rb D ts, ct := rLoop g rb D ts, bk := D.nx } σ1 S1) D.ex
def sFor (ri : TRI) (g : TRG) (rb : TRS) : TRS := fun D σ S => ri σ S (fun ts S1 => rLoop g rb D ts σ S1) D.ex
theorem ss_for {iter tg : Expr} {body : List Stmt} {ri : TRI} {rb : TRS} (hp : PassesOwn (model X.prog X.w) X.A X.env X.xe) (hc : X.calm = true) (hi : IT X E tg iter ri) (hg : GT X E tg g) (hb : BS X E body rb)
    (hs : ∀ x, foldedSetIterable iter X.env x = pure x := by intro _; rfl) : SS X E (.For tg iter body [] pos) (sFor ri g rb) :=
  ⟨ps_weak (ps_for hp hc hi.pi hg.pg hb.ps hs) fun D sl H ⟨⟨Z, σ, S, DT, fr, ok, w, eo, xo⟩⟩ => by
    refine ⟨_, σ, S, _, DT.ex, fr, ok, w, fun ts S1 J H1 k le ok1 src => ?_, xo⟩
    refine ⟨fun i m sl' H' => m = ts.length - i ∧ i ≤ ts.length ∧ ∃ σ' S', FrR X.K Z S' H' sl' σ' ∧ Ok X.K Z S' H' ∧ Le S1 H1 S' H' ∧ rLoop g rb DT (ts.drop i) σ' S', ⟨_, rfl, Nat.zero_le _, σ, S1, fr.le le, ok1, .refl, k⟩, ?_⟩
    rintro i m sl' H' ⟨rfl, hi, σ', S', fr', ok', le', k'⟩
    obtain ⟨go, stop⟩ := src Z S' H' (fun _ z => .inl z) le' ok'
    by_cases hlt : i < ts.length
    · refine .inr ?_
      have hd : ts.drop i = ts[i] :: ts.drop (i + 1) := (List.drop_eq_getElem_cons hlt)
      rw [hd] at k'
      obtain ⟨g1, g2⟩ := go i ts[i] (List.getElem?_eq_getElem hlt)
      refine ⟨g1, fun sl2 H2 => ∃ σ2 S2, FrR X.K Z S2 H2 sl2 σ2 ∧ Ok X.K Z S2 H2 ∧ Le S1 H1 S2 H2 ∧ rLoop g rb DT (ts.drop (i + 1)) σ2 S2, ?_, ?_⟩
      · rintro sl2 H2 ⟨σ2, S2, f2, o2, l2, k2⟩
        exact ⟨_, by omega, rfl, hlt, σ2, S2, f2, o2, l2, k2⟩
      · intro x H2 y
        obtain ⟨l2, o2, rep⟩ := g2 x H2 y
        refine ⟨_, σ', S', ts[i], _, DT.ex, fr'.le l2, o2, rep, k', fun σ3 S3 sl3 H3 k3 l3 o3 f3 => ?_, (xo.le (le.trans le')).le l2⟩
        have lt := (le'.trans l2).trans l3
        refine ⟨_, σ3, S3, _, f3, o3, k3, ⟨fun σ4 S4 sl4 H4 k4 l4 o4 f4 => ⟨σ4, S4, f4, o4, lt.trans l4, k4⟩, (eo.rt.le (le.trans lt)), (eo.nx.le (le.trans lt)), fun σ4 S4 sl4 H4 k4 l4 o4 f4 => ⟨σ4, S4, f4, o4, lt.trans l4, k4⟩⟩, (xo.le (le.trans lt))⟩
    · have e : i = ts.length := by omega
      subst e
      rw [List.drop_length] at k'
      exact .inl ⟨stop _ (Nat.le_refl _), eo.nx σ' S' sl' H' k' (le.trans le') ok' fr'⟩⟩
/-- with an invariant -/
theorem rLoop_inv {rb : TRS} {D : EnT} {ts : List T} {σ : Fm} {S : Store} (P : Nat → Fm → Store → Prop) (h0 : P 0 σ S)
    (hs : ∀ i t σ S, ts[i]? = some t → P i σ S → ∀ N : Fm → Store → Prop, (∀ σ' S', P (i + 1) σ' S' → N σ' S') → g t σ S (fun σ1 S1 => rb { D with nx := N, ct := N, bk := D.nx } σ1 S1) D.ex)
    (hd : ∀ σ S, P ts.length σ S → D.nx σ S) : rLoop g rb D ts σ S := by
  suffices h : ∀ (us : List T) (i : Nat) σ S, ts.drop i = us → i ≤ ts.length → P i σ S → rLoop g rb D us σ S from h ts 0 σ S rfl (Nat.zero_le _) h0
  intro us
  induction us with
  | nil =>
    intro i σ S e hi p
    have : i = ts.length := by
      have := congrArg List.length e
      simp at this
      omega
    subst this
    exact hd σ S p
  | cons u us ih =>
    intro i σ S e hi p
    have hlt : i < ts.length := by
      have := congrArg List.length e
      simp at this
      omega
    rw [List.drop_eq_getElem_cons hlt] at e
    injection e with e1 e2
    exact hs i u σ S (by rw [← e1]; exact List.getElem?_eq_getElem hlt) p _ fun σ' S' p' => ih (i + 1) σ' S' e2 hlt p'
/-! ### while -/
def sWhile (tc : TRB) (rb : TRS) : TRS := fun D σ S => ∃ W : Nat → Fm → Store → Prop, (∃ m, W m σ S) ∧ ∀ m σ S, W m σ S →
  tc σ S (fun c S1 => if c = true then rb { D with nx := fun σ' S' => ∃ m', m' < m ∧ W m' σ' S', ct := fun σ' S' => ∃ m', m' < m ∧ W m' σ' S', bk := D.nx } σ S1 else D.nx σ S1) D.ex
end

/-! ### comprehensions -/
def XF : XT := fun _ _ _ => False
def EF : XK := fun _ _ _ => False
theorem XOk.f {K : PySem.W.Frag} {Z : Addr → Prop} {S : Store} {H : Hp} : XOk K Z S H XF EF := fun _ _ _ _ _ _ z => z.elim
structure TTs (X : Cx) (E : XK) (es : List Expr) (r : TRB) : Prop where
  pt : PTs X es (UpB X.K E r)
def bYes : TRB := fun _ S R _ => R true S
def rComp (fr : T → Fm) (tt : TRB) (re : TR) : List T → List T → Store → (List T → Store → Prop) → Prop
  | [], acc, S, R => R acc S
  | t :: ts, acc, S, R => tt (fr t) S (fun b S1 => if b = true then re (fr t) S1 (fun y S2 => acc.length < sizeLine ∧ rComp fr tt re ts (acc ++ [y]) S2 R) XF else rComp fr tt re ts acc S1 R) XF
section
variable {X : Cx} {E : XK} {e a b c : Expr} {es : List Expr} {pos : Pos} {ra rb rc : TR} {g : TRG} {gs : TRGs} {t : TRA}
theorem tts_nil : TTs X E [] bYes := ⟨⟨fun pins s sl H Q I h => pts_nil.run pins s sl H Q I (by
  obtain ⟨Z, σ, S, R, RE, fr, ok, w, po, xo⟩ := h.ex
  exact po true S H w .refl ok)⟩⟩
def rLc (ri : TRI) (j : Nat) (tt : TRB) (re : TR) : TR := fun σ S R RE => ri σ S (fun ts S1 => rComp (fun t => σ.set j (some t)) tt re ts [] S1 (fun ys S2 => R (.lst ys) S2)) RE
theorem lc_turns {K : PySem.W.Frag} {Z : Addr → Prop} {S1 : Store} {H1 : Hp} {J : It} {ts : List T} {sl : L2.St} {σ : Fm} {g : TG} {vs : List Nat} {fr : T → Fm} {tt : TRB} {re : TR} {Q : VK} {R : List T → Store → Prop}
    (ok1 : Ok K Z S1 H1) (fr1 : FrR K Z S1 H1 sl σ) (src : SrcOk K Z S1 H1 J ts) (k : rComp fr tt re ts [] S1 R)
    (hg : ∀ Z' S H x t (Q' : L2.St → Hp → Prop), FrR K Z' S H sl σ → Rep K Z' S H x t → (∀ sl2, FrR K Z' S H sl2 (fr t) → wipe sl2 vs = wipe sl vs → Q' sl2 H) → g x (wipe sl vs) H Q')
    (po : ∀ ys S' v H', R ys S' → Le S1 H1 S' H' → Ok K Z S' H' → Rep K Z S' H' v (.lst ys) → Q v H') :
    ∀ D, H1 D = none → ∃ W : Nat → Nat → Hp → Prop, (∃ m, W 0 m (upd H1 D (.lst []))) ∧ ∀ i m H, W i m H →
  (J.stop i H ∧ Q (.ref D) H) ∨ (J.go i H ∧ ∃ Nx : Hp → Prop, (∀ H', Nx H' → ∃ m', m' < m ∧ W (i + 1) m' H') ∧ ∀ x H', J.yld i H x H' → g x (wipe sl vs) H' fun σ2 H2 => wipe σ2 vs = wipe sl vs ∧ UpB K EF tt σ2 H2 fun b H3 =>
    if b = true then UpE K EF re σ2 H3 fun y H4 => ∃ acc, H4 D = some (.lst acc) ∧ acc.length < sizeLine ∧ Nx (upd H4 D (.lst (acc ++ [y]))) else Nx H3) := by
  intro D hD
  have hz := hid_a (Z := Z) hD
  -- what holds at each turn
  let In : Nat → Hp → Prop := fun i H' => ∃ S' acc accV, Ok K (hideA Z D) S' H' ∧ FrR K (hideA Z D) S' H' sl σ ∧ Le S1 H1 S' H' ∧ H' D = some (.lst accV) ∧ Reps K (hideA Z D) S' H' accV acc ∧ rComp fr tt re (ts.drop i) acc S' R
  refine ⟨fun i m H' => m = ts.length - i ∧ i ≤ ts.length ∧ In i H', ⟨_, rfl, Nat.zero_le _, S1, [], [], ok1.hide hD, (fr1.hide hz).le (le_new hD), le_new hD, upd_same, .nil, k⟩, ?_⟩
  rintro i m H' ⟨rfl, hi, S', acc, accV, ok', fr', le', hd, rs, k'⟩
  obtain ⟨go, stop⟩ := src _ S' H' hz le' ok'
  by_cases hlt : i < ts.length
  · refine .inr ?_
    obtain ⟨g1, g2⟩ := go i ts[i] (List.getElem?_eq_getElem hlt)
    rw [List.drop_eq_getElem_cons hlt] at k'
    refine ⟨g1, In (i + 1), fun H2 h2 => ⟨_, by omega, rfl, hlt, h2⟩, fun x H2 y => ?_⟩
    obtain ⟨l2, o2, rep⟩ := g2 x H2 y
    refine hg _ S' H2 x ts[i] _ (fr'.le l2) rep fun sl2 f2 we => ⟨we, ?_⟩
    have hd2 := (l2 D _ hd (ok'.hid D (.inr rfl)).1 (fun _ e => nomatch e)).1
    refine ⟨_, fr ts[i], S', _, XF, f2, o2, k', fun b S3 H3 k3 l3 o3 => ?_, .f⟩
    have hd3 := (l3 D _ hd2 (o2.hid D (.inr rfl)).1 (fun _ e => nomatch e)).1
    cases b with
    | true =>
      refine ⟨_, fr ts[i], S3, _, XF, f2.le l3, o3, k3, fun y S4 vy H4 k4 l4 o4 ry => ?_, .f⟩
      obtain ⟨z, k4⟩ := k4
      have hd4 := (l4 D _ hd3 (o3.hid D (.inr rfl)).1 (fun _ e => nomatch e)).1
      have ll := ((l2.trans l3).trans l4)
      have lz : LeZ (hideA Z D) S4 H4 S4 (upd H4 D (.lst (accV ++ [vy]))) := lz_hid
      refine ⟨accV, hd4, by rw [rs.length]; exact z, S4, _, _, o4.hidSet, ((fr'.le ll).lz lz), fun a o h n nt => ?_, upd_same, ((rs.le ll).append (.cons ry .nil)).lz lz, k4⟩
      have := (le'.trans ll) a o h n nt
      rw [upd_ne (ne_of_none h hD)]
      exact this
    | false => exact ⟨S3, acc, accV, o3, fr'.le (l2.trans l3), (le'.trans l2).trans l3, hd3, rs.le (l2.trans l3), k3⟩
  · have e : i = ts.length := by omega
    subst e
    rw [List.drop_length] at k'
    refine .inl ⟨stop _ (Nat.le_refl _), po acc S' _ H' k' le' ok'.show ?_⟩
    exact .lst ⟨hd, (ok'.hid D (.inr rfl)).1, fun z => by
      obtain ⟨_, o, e⟩ := ok1.hid D z
      rw [hD] at e; cases e⟩ rs.show
theorem et_lc {elt tg iter : Expr} {ifs : List Expr} {scope : Scope} {x : Str} {j : Nat} {ri : TRI} {tt : TRB} {re : TR} (hc : X.calm = true) (hN : X.N.Nodup) (hi : IT X E tg iter ri) (ok : BlkOk X.N X.env.scope scope [(x, j)])
    (hg : ∀ (s : Shared) (H : Hp) (C : Addr) (cl : List (Str × Addr)) (fp : List Addr), PG (X.blk s H scope (compEnvC scope cl C X.env) fp) tg (gName j)) (ht : ∀ (s : Shared) (H : Hp) (C : Addr) (cl : List (Str × Addr)) (fp : List Addr), TTs (X.blk s H scope (compEnvC scope cl C X.env) fp) EF ifs tt)
    (he : ∀ (s : Shared) (H : Hp) (C : Addr) (cl : List (Str × Addr)) (fp : List Addr), ET (X.blk s H scope (compEnvC scope cl C X.env) fp) EF elt re) (hs : ∀ x, foldedSetIterable iter X.env x = pure x := by intro _; rfl) :
    ET X E (.ListComp elt [⟨tg, iter, ifs, 0⟩] scope pos) (rLc ri j tt re) :=
  ⟨pe_weak (pe_lc hc hN hi.pi ok hg (fun s H C cl fp => (ht s H C cl fp).pt) (fun s H C cl fp => (he s H C cl fp).pe) hs) fun sl H Q h => by
    obtain ⟨Z, σ, S, R, RE, fr, ok, w, po, xo⟩ := h.ex
    refine ⟨Z, σ, S, _, RE, fr, ok, w, fun ts S1 J H1 k le ok1 src => ?_, xo⟩
    refine lc_turns (fr := fun t => σ.set j (some t)) ok1 (fr.le le) src k (fun Z' S' H' x t Q' f r q => q _ ?_ ?_) fun ys S' v H' r l o rep => po _ S' v H' r (le.trans l) o rep
    · show FrR X.K Z' S' H' (((wipe sl []).set j none).set j (some x)) (σ.set j (some t))
      rw [List.set_set]
      exact f.set j r
    · show (((wipe sl []).set j none).set j (some x)).set j none = (wipe sl []).set j none
      rw [List.set_set, List.set_set]⟩
/-- y = [..] -/
theorem ss_setLc {i : Nat} {y : Str} {py spos : Pos} {elt tg iter : Expr} {ifs : List Expr} {scope : Scope} {x : Str} {j : Nat} {ri : TRI} {tt : TRB} {re : TR} (hc : X.calm = true) (hN : X.N.Nodup) (hy : X.N[i]? = some y) (hyl : X.env.scope.names.lookup y = some .local)
    (hsw : swapsWith (.ListComp elt [⟨tg, iter, ifs, 0⟩] scope pos) (some (.Name y py)) spos.line X.env = pure true) (hi : IT X E tg iter ri) (ok : BlkOk X.N X.env.scope scope [(x, j)])
    (hg : ∀ (s : Shared) (H : Hp) (C : Addr) (cl : List (Str × Addr)) (fp : List Addr), PG (X.blk s H scope (compEnvC scope cl C X.env) fp) tg (gName j)) (ht : ∀ (s : Shared) (H : Hp) (C : Addr) (cl : List (Str × Addr)) (fp : List Addr), TTs (X.blk s H scope (compEnvC scope cl C X.env) fp) EF ifs tt)
    (he : ∀ (s : Shared) (H : Hp) (C : Addr) (cl : List (Str × Addr)) (fp : List Addr), ET (X.blk s H scope (compEnvC scope cl C X.env) fp) EF elt re) (hs : ∀ x, foldedSetIterable iter X.env x = pure x := by intro _; rfl) :
    SS X E (.Assign [.Name y py] (.ListComp elt [⟨tg, iter, ifs, 0⟩] scope pos) spos) (sAsg (rLc ri j tt re) (gNameT i)) :=
  ⟨ps_weak (ps_setLc hc hN hy hyl hsw hi.pi ok hg (fun s H C cl fp => (ht s H C cl fp).pt) (fun s H C cl fp => (he s H C cl fp).pe) hs) fun D sl H h => by
    obtain ⟨Z, σ, S, DT, fr, ok, w, eo, xo⟩ := h.ex
    refine ⟨Z, σ, S, _, DT.ex, fr, ok, w, fun ts S1 J H1 k le ok1 src => ?_, xo⟩
    refine lc_turns (fr := fun t => σ.set j (some t)) ok1 (fr.le le) src k (fun Z' S' H' x t Q' f r q => q _ ?_ ?_) fun ys S' v H' r l o rep => eo.nx _ S' _ H' r (le.trans l) o ((fr.le (le.trans l)).set i rep)
    · show FrR X.K Z' S' H' (((wipe sl []).set j none).set j (some x)) (σ.set j (some t))
      rw [List.set_set]
      exact f.set j r
    · show (((wipe sl []).set j none).set j (some x)).set j none = (wipe sl []).set j none
      rw [List.set_set, List.set_set]⟩
/-- by an invariant: all items kept -/
theorem rComp_all {fr : T → Fm} {re : TR} {ts : List T} {S : Store} {R : List T → Store → Prop} (P : Nat → Store → Prop) (F : Nat → T → T → Prop) (h0 : P 0 S) (hl : ts.length ≤ sizeLine)
    (hs : ∀ i t S, ts[i]? = some t → P i S → ∀ N : T → Store → Prop, (∀ y S', F i t y → P (i + 1) S' → N y S') → re (fr t) S N XF)
    (hd : ∀ ys S, ys.length = ts.length → (∀ (i : Nat) t y, ts[i]? = some t → ys[i]? = some y → F i t y) → P ts.length S → R ys S) : rComp fr bYes re ts [] S R := by
  suffices h : ∀ (us : List T) (i : Nat) acc S, ts.drop i = us → i ≤ ts.length → acc.length = i → (∀ (j : Nat) t y, ts[j]? = some t → acc[j]? = some y → F j t y) → P i S → rComp fr bYes re us acc S R from
    h ts 0 [] S rfl (Nat.zero_le _) rfl (fun j t y _ e => by simp at e) h0
  intro us
  induction us with
  | nil =>
    intro i acc S e hi la fa p
    have : i = ts.length := by
      have := congrArg List.length e
      simp at this
      omega
    subst this
    exact hd acc S la fa p
  | cons u us ih =>
    intro i acc S e hi la fa p
    have hlt : i < ts.length := by
      have := congrArg List.length e
      simp at this
      omega
    rw [List.drop_eq_getElem_cons hlt] at e
    injection e with e1 e2
    have hu : ts[i]? = some u := by rw [← e1]; exact List.getElem?_eq_getElem hlt
    refine hs i u S hu p _ fun y S' f p' => ⟨by omega, ih (i + 1) (acc ++ [y]) S' e2 hlt (by simp [la]) (fun j t z ht hz => ?_) p'⟩
    by_cases hj : j < acc.length
    · rw [List.getElem?_append_left hj] at hz
      exact fa j t z ht hz
    · rw [List.getElem?_append_right (by omega)] at hz
      by_cases hj2 : j = acc.length
      · subst hj2
        simp at hz
        subst hz
        rw [la] at ht ⊢
        rw [hu] at ht
        cases ht
        exact f
      · rw [List.getElem?_eq_none (by simp; omega)] at hz
        cases hz
end
/-! ### defs -/
/-- a def's promise: arguments, what changes, what is wanted of the answer, of an error -/
abbrev SpT := List T → Store → (T → Store → Prop) → XT → Prop
structure UpF (K : PySem.W.Frag) (sp : SpT) (vs : List V) (H : Hp) (Q : VK) (E : XK) : Prop where
  ex : ∃ Z ts S R RE, Reps K Z S H vs ts ∧ Ok K Z S H ∧ sp ts S R RE ∧ PO K Z S H R Q ∧ XOk K Z S H RE E
theorem passN {X : Cx} : Passes (L2N.CX X.prog X.w) X EF := fun _ _ _ _ _ _ _ h => by
  obtain ⟨_, _, _, _, _, _, _, _, _, _, _, _, z⟩ := h
  exact z.elim
theorem passL2N {X : Cx} {E : XK} (tk : L2N.Takes X (fun cls d _ H => E cls d H)) : Passes (L2N.CX X.prog X.w) X E := L2N.passes_call tk fun _ _ _ _ h => h
structure FnT (P : Program) (w : World) (K : PySem.W.Frag) (mg : Str → Option Value) (base : Heap) (k : Nat) (f : Addr) (fd : FuncData) (ps : List Str) (sp : SpT) : Prop where
  fn : FnG P w K mg base (L2N.CX P w) k f fd ps (UpF K sp)
section
variable {P : Program} {w : World} {K : PySem.W.Frag} {mg : Str → Option Value} {base : Heap} {k : Nat} {f : Addr} {fd : FuncData} {ps : List Str} {sp : SpT}
theorem FnT.up {j : Nat} (F : FnT P w K mg base j f fd ps sp) (h : j ≤ k) : FnT P w K mg base k f fd ps sp := ⟨F.fn.up h⟩
theorem FnT.imp {sp' : SpT} (F : FnT P w K mg base k f fd ps sp) (h : ∀ ts S R RE, sp' ts S R RE → sp ts S R RE) : FnT P w K mg base k f fd ps sp' :=
  ⟨F.fn.imp fun vs H Q E q => let ⟨Z, ts, S, R, RE, rs, ok, s, po, xo⟩ := q.ex; ⟨Z, ts, S, R, RE, rs, ok, h _ _ _ _ s, po, xo⟩⟩
/-- the context of a def's body -/
abbrev cxT (P : Program) (w : World) (K : PySem.W.Frag) (mg : Str → Option Value) (base : Heap) (N : List Str) (qual : Str) (sc : Scope) (f : Addr) (cdv : Value) (A : Around) (out : List Env) (s : Shared) (H : Hp) (E : XK) : Cx := cxOf (L2N.CX P w) P w K mg base N qual sc f cdv A out s H E
theorem up_body {N : List Str} {X : Cx} {E : XK} {body : List Stmt} {r : TRS} {vs : List V} {H : Hp} {Q : VK} (bs : BS X E body r) (hsp : ∀ ts S R RE, sp ts S R RE → r { nx := fun _ S' => R .non S', rt := R, ex := RE } (startT N ts) S) (q : UpF X.K sp vs H Q E) :
    ∃ t, PSs X body t ∧ t { nx := fun _ H' => Q .non H', rt := Q } (start N vs) H := by
  obtain ⟨Z, ts, S, R, RE, rs, ok, s, po, xo⟩ := q.ex
  refine ⟨_, bs.ps, Z, startT N ts, S, _, FrR.start rs, ok, hsp ts S R RE s, ⟨fun σ' S' sl' H' r' le' ok' _ => po _ S' _ H' r' le' ok' .non, po, fun _ _ _ _ z => z.elim, fun _ _ _ _ z => z.elim⟩, xo⟩
theorem okT {x qual : Str} {st : Stmt} {N : List Str} {r : TRS} (F : Fun K x qual st f fd) (S : FnScope N ps (defScope st)) (len : ∀ ts S R RE, sp ts S R RE → ts.length = ps.length)
    (bs : ∀ (cdv : Value) (A : Around) (out : List Env) (s : Shared) (H : Hp) (E : XK), A.guards = some [] → Room k (A.deeper (envOfC qual (defScope st) s.heap.objs.size f cdv)) → BS (cxT P w K mg base N qual (defScope st) f cdv A out s H E) E (defBody st) r)
    (hsp : ∀ ts S R RE, sp ts S R RE → r { nx := fun _ S' => R .non S', rt := R, ex := RE } (startT N ts) S) : FnT P w K mg base (k + 1) f fd ps sp := by
  obtain ⟨_, _, _, _, _, _, cdv, _, _, e, lk, code⟩ := F.ex
  subst e
  refine ⟨okG0 lk code S (fun vs H Q E q => ?_) fun A out s H vs Q E g rm q => up_body (bs cdv A out s H E g rm) hsp q⟩
  obtain ⟨Z, ts, S, R, RE, rs, ok, s, po, xo⟩ := q.ex
  exact rs.length.trans (len _ _ _ _ s)
end
section
variable {X : Cx} {E : XK} {k n : Nat} {f : Addr} {fd : FuncData} {ps ks : List Str} {sp : SpT} {dvs : List V} {dts : List T} {ds : List Value} {x : Str} {p pos : Pos} {e : Expr} {es : List Expr} {kws : List Keyword} {t : TRA}
def rCall (sp : SpT) (dts : List T) (t : TRA) : TR := fun σ S R RE => t σ S (fun xs S1 => sp (xs ++ dts) S1 R RE) RE
/-- values that are the same whatever the heap -/
def DefT (K : PySem.W.Frag) (dvs : List V) (dts : List T) : Prop := ∀ Z S H, Reps K Z S H dvs dts
theorem DefT.nil {K : PySem.W.Frag} : DefT K [] [] := fun _ _ _ => .nil
theorem DefT.int {K : PySem.W.Frag} {i : Int} {vs ts} (r : DefT K vs ts) : DefT K (.int i :: vs) (.int i :: ts) := fun Z S H => .cons (.int i) (r Z S H)
theorem DefT.non {K : PySem.W.Frag} {vs ts} (r : DefT K vs ts) : DefT K (.non :: vs) (.non :: ts) := fun Z S H => .cons .non (r Z S H)
theorem DefT.bl {K : PySem.W.Frag} {b : Bool} {vs ts} (r : DefT K vs ts) : DefT K (.bl b :: vs) (.bl b :: ts) := fun Z S H => .cons (.bl b) (r Z S H)
theorem DefT.str {K : PySem.W.Frag} {z : Str} {vs ts} (r : DefT K vs ts) : DefT K (.str z :: vs) (.str z :: ts) := fun Z S H => .cons (.str z) (r Z S H)
theorem et_call (F : FnT X.prog X.w X.K X.mg X.base k f fd ps sp) (gds : X.A.guards = some []) (hr : Room k X.A) (hg : Gl X x) (hm : X.mg x = some (.ref f)) (hk : PySem.W.keepIn X.K (.ref f) = true) (hb : Binds X.K fd ps ds) (hd : Vals dvs ds) (hdt : DefT X.K dvs dts) (hx : Passes (L2N.CX X.prog X.w) X E)
    (ha : AT X E (e :: es) t) (hdb : (x == ("__debug__" : Str)) = false := by decide) (he : starEach (e :: es) X.env = (false, eval e X.env) :: starEach es X.env := by rfl) (hpl : (backTo pos (starEach es X.env)).any (·.1) = false := by rfl) :
    ET X E (.Call (.Name x p) (e :: es) [] pos) (rCall sp dts t) :=
  ⟨pe_weak (callG F.fn gds hr hg hm hk hb hd hx ha.pa hdb he hpl) fun sl H Q h => UpA.args (k := fun xs S1 R RE => sp (xs ++ dts) S1 R RE) h fun Z xs S1 vs H1 R RE ok rs kk po xo =>
    ⟨Z, _, S1, R, RE, rs.append (hdt Z S1 H1), ok, kk, po, xo⟩⟩
/-! keywords -/
structure KT (X : Cx) (E : XK) (kws : List Keyword) (r : TRA) : Prop where
  pk : PK X kws (UpA X.K E r)
/-- an order of the arguments, the same for trees and values -/
def OrdT (K : PySem.W.Frag) (gV : List V → List V → List V) (gT : List T → List T → List T) : Prop := ∀ Z S H vs ts us ws, Reps K Z S H vs ts → Reps K Z S H us ws → Reps K Z S H (gV vs us) (gT ts ws)
def rCallN (n m : Nat) (sp : SpT) (gT : List T → List T → List T) (t tk : TRA) : TR := fun σ S R RE => t σ S (fun xs S1 => tk σ S1 (fun zs S2 => xs.length = n ∧ zs.length = m ∧ sp (gT xs zs) S2 R RE) RE) RE
variable {g : List Value → List Value → List Value} {gV : List V → List V → List V} {gT : List T → List T → List T} {tk : TRA}
end

/-! ### data -/
mutual
def T.dat : T → Option PyData
  | .non => some .none
  | .bl b => some (.bool b)
  | .int i => some (.int i)
  | .str z => some (.str z)
  | .lst l => (T.datL l).map .list
  | .tup l => (T.datL l).map .tuple
  | _ => none
def T.datL : List T → Option (List PyData)
  | [] => some []
  | t :: ts => match t.dat, T.datL ts with
    | some d, some ds => some (d :: ds)
    | _, _ => none
end
section
variable {K : PySem.W.Frag} {Z : Addr → Prop} {S : Store} {H : Hp}
mutual
theorem Rep.dp : ∀ {v : V} {t : T}, Rep K Z S H v t → ∀ {d}, t.dat = some d → Dp K H v d
  | _, _, .non, d, e => by rw [T.dat] at e; cases e; exact .non
  | _, _, .bl b, d, e => by rw [T.dat] at e; cases e; exact .bl b
  | _, _, .int i, d, e => by rw [T.dat] at e; cases e; exact .int i
  | _, _, .str z, d, e => by rw [T.dat] at e; cases e; exact .str z
  | _, _, .ty n, d, e => by rw [T.dat] at e <;> first | cases e | (intros; rename_i h; cases h)
  | _, _, .st a, d, e => by rw [T.dat] at e <;> first | cases e | (intros; rename_i h; cases h)
  | _, _, .cell a, d, e => by rw [T.dat] at e <;> first | cases e | (intros; rename_i h; cases h)
  | _, _, .scr h r, d, e => by rw [T.dat] at e <;> first | cases e | (intros; rename_i h; cases h)
  | _, _, .ins h n r, d, e => by rw [T.dat] at e <;> first | cases e | (intros; rename_i h; cases h)
  | _, _, .dct h n, d, e => by rw [T.dat] at e <;> first | cases e | (intros; rename_i h; cases h)
  | _, _, .exc h n hd nd r, d, e => by rw [T.dat] at e <;> first | cases e | (intros; rename_i h; cases h)
  | _, _, .exn h n, d, e => by rw [T.dat] at e <;> first | cases e | (intros; rename_i h; cases h)
  | _, _, .tup h r, d, e => by
    rw [T.dat] at e
    obtain ⟨ds, e1, rfl⟩ := Option.map_eq_some_iff.mp e
    exact .tup h.sq (Reps.dp r e1)
  | _, _, .lst h r, d, e => by
    rw [T.dat] at e
    obtain ⟨ds, e1, rfl⟩ := Option.map_eq_some_iff.mp e
    exact .lst h.sq (Reps.dp r e1)
theorem Reps.dp : ∀ {vs : List V} {ts : List T}, Reps K Z S H vs ts → ∀ {ds}, T.datL ts = some ds → DpAll K H vs ds
  | _, _, .nil, ds, e => by rw [T.datL] at e; cases e; exact .nil
  | _, _, .cons h r, ds, e => by
    rw [T.datL] at e
    split at e
    · rename_i d1 ds1 e1 e2
      cases e
      exact .cons (Rep.dp h e1) (Reps.dp r e2)
    · cases e
end
end
/-! ### operators of trees -/
section
variable {X : Cx} {E : XK}
theorem OpR.or {f : Value → Value → Sem Value} {r r' : R2} (h : OpR X f r) (h' : OpR X f r') : OpR X f (fun x y H Q => r x y H Q ∨ r' x y H Q) := fun pins s σ H x y v u Q I rx ry w =>
  w.elim (h pins s σ H x y v u Q I rx ry) (h' pins s σ H x y v u Q I rx ry)
abbrev KB := T → T → Store → (T → Store → Prop) → XT → Prop
def kAdd : KB := fun x y S R _ => match x, y with
  | .int i, .int j => R (.int (i + j)) S
  | .str a, .str b => a.length + b.length ≤ sizeLine ∧ R (.str (a ++ b)) S
  | .lst a, .lst b => a.length + b.length ≤ sizeLine ∧ R (.lst (a ++ b)) S
  | .tup a, .tup b => a ≠ [] ∧ a.length + b.length ≤ sizeLine ∧ R (.tup (a ++ b)) S
  | _, _ => False
def rStrAdd : R2 := fun x y H Q => ∃ i j, x = .str i ∧ y = .str j ∧ i.length + j.length ≤ sizeLine ∧ Q (.str (i ++ j)) H
theorem cv_add : Conv X.K E kAdd (fun x y H Q => (rI0 fun i j => .int (i + j)) x y H Q ∨ (rStrAdd x y H Q ∨ (rCat x y H Q ∨ rCatT X.K x y H Q))) := by
  intro Z x y S v u H R RE Q ok rx ry kk po xo
  unfold kAdd at kk
  split at kk
  · cases rx; cases ry
    exact .inl ⟨_, _, rfl, rfl, po _ _ _ _ kk .refl ok (.int _)⟩
  · cases rx; cases ry
    exact .inr (.inl ⟨_, _, rfl, rfl, kk.1, po _ _ _ _ kk.2 .refl ok (.str _)⟩)
  · cases rx with
    | lst h1 r1 =>
      cases ry with
      | lst h2 r2 => exact .inr (.inr (.inl ⟨_, _, _, _, rfl, rfl, h1.1, h2.1, by rw [r1.length, r2.length]; exact kk.1, fun p hp => po _ _ _ _ kk.2 (le_new hp) (ok.new hp) (.lstN ok hp (r1.append r2))⟩))
  · cases rx with
    | tup h1 r1 =>
      cases ry with
      | @tup p2 vs2 ts2 h2 r2 =>
        refine .inr (.inr (.inr ⟨_, _, _, _, rfl, rfl, h1.sq, h2.sq, fun e => ?_, by rw [r1.length, r2.length]; exact kk.2.1, fun e => ?_, fun _ p hp => po _ _ _ _ kk.2.2 (le_new hp) (ok.new hp) (.tupN ok hp (r1.append r2))⟩))
        · subst e
          cases r1
          exact kk.1 rfl
        · subst e
          cases r2
          have q := kk.2.2
          rw [List.append_nil] at q
          exact po _ _ _ _ q .refl ok (.tup h1 r1)
  · exact kk.elim
theorem op_addG : OpR X (binaryOp .Add) (fun x y H Q => (rI0 fun i j => .int (i + j)) x y H Q ∨ (rStrAdd x y H Q ∨ (rCat x y H Q ∨ rCatT X.K x y H Q))) := op_add.or (OpR.or op_add_str (op_cat.or op_catT))
def kI2 (C : Int → Int → Prop) (g : Int → Int → T) : KB := fun x y S R _ => match x, y with
  | .int i, .int j => C i j ∧ R (g i j) S
  | _, _ => False
theorem cv_I2 {C : Int → Int → Prop} {g : Int → Int → Int} : Conv X.K E (kI2 C fun i j => .int (g i j)) (rI C fun i j => .int (g i j)) := by
  intro Z x y S v u H R RE Q ok rx ry kk po xo
  unfold kI2 at kk
  split at kk
  · cases rx; cases ry
    exact ⟨_, _, rfl, rfl, kk.1, po _ _ _ _ kk.2 .refl ok (.int _)⟩
  · exact kk.elim
def kI2n (g : Int → Int → T) : KB := fun x y S R _ => match x, y with
  | .int i, .int j => R (g i j) S
  | _, _ => False
theorem cv_I2n {g : Int → Int → Int} : Conv X.K E (kI2n fun i j => .int (g i j)) (rI0 fun i j => .int (g i j)) := by
  intro Z x y S v u H R RE Q ok rx ry kk po xo
  unfold kI2n at kk
  split at kk
  · cases rx; cases ry
    exact ⟨_, _, rfl, rfl, po _ _ _ _ kk .refl ok (.int _)⟩
  · exact kk.elim
theorem cv_B2n {g : Int → Int → Bool} : Conv X.K E (kI2n fun i j => .bl (g i j)) (rI0 fun i j => .bl (g i j)) := by
  intro Z x y S v u H R RE Q ok rx ry kk po xo
  unfold kI2n at kk
  split at kk
  · cases rx; cases ry
    exact ⟨_, _, rfl, rfl, po _ _ _ _ kk .refl ok (.bl _)⟩
  · exact kk.elim
def kMul : KB := fun x y S R _ => match x, y with
  | .int i, .int j => IntMulOk i j ∧ R (.int (i * j)) S
  | .lst a, .int k => (-(2 ^ 63) ≤ k ∧ k < 2 ^ 63) ∧ a.length * k.toNat ≤ sizeLine ∧ R (.lst (List.replicate k.toNat a).flatten) S
  | .tup a, .int k => a ≠ [] ∧ 2 ≤ k ∧ k ≤ 1000 ∧ a.length ≤ 1000 ∧ R (.tup (List.replicate k.toNat a).flatten) S
  | _, _ => False
theorem Reps.rep {K : PySem.W.Frag} {Z : Addr → Prop} {S : Store} {H : Hp} {vs : List V} {ts : List T} (r : Reps K Z S H vs ts) : ∀ n : Nat, Reps K Z S H (List.replicate n vs).flatten (List.replicate n ts).flatten
  | 0 => .nil
  | n + 1 => by
    rw [List.replicate_succ, List.replicate_succ, List.flatten_cons, List.flatten_cons]
    exact r.append (Reps.rep r n)
theorem cv_mul : Conv X.K E kMul (fun x y H Q => (rI IntMulOk fun i j => .int (i * j)) x y H Q ∨ (rRep x y H Q ∨ rRepT X.K x y H Q)) := by
  intro Z x y S v u H R RE Q ok rx ry kk po xo
  unfold kMul at kk
  split at kk
  · cases rx; cases ry
    exact .inl ⟨_, _, rfl, rfl, kk.1, po _ _ _ _ kk.2 .refl ok (.int _)⟩
  · cases ry
    cases rx with
    | lst h1 r1 => exact .inr (.inl ⟨_, _, _, rfl, rfl, h1.1, kk.1.1, kk.1.2, by rw [r1.length]; exact kk.2.1, fun p hp => po _ _ _ _ kk.2.2 (le_new hp) (ok.new hp) (.lstN ok hp (r1.rep _))⟩)
  · cases ry
    cases rx with
    | tup h1 r1 => exact .inr (.inr ⟨_, _, _, rfl, rfl, h1.sq, fun e => by subst e; cases r1; exact kk.1 rfl, kk.2.1, kk.2.2.1, by rw [r1.length]; exact kk.2.2.2.1, fun p hp => po _ _ _ _ kk.2.2.2.2 (le_new hp) (ok.new hp) (.tupN ok hp (r1.rep _))⟩)
  · exact kk.elim
theorem op_mulP : OpR X (binaryOp .Mult) (rI IntMulOk fun i j => .int (i * j)) := opI fun _ _ _ _ _ _ _ hc q => mul_int q hc
theorem op_mulG : OpR X (binaryOp .Mult) (fun x y H Q => (rI IntMulOk fun i j => .int (i * j)) x y H Q ∨ (rRep x y H Q ∨ rRepT X.K x y H Q)) := op_mulP.or (op_rep.or op_repT)
/-! comparisons -/
def scalT : T → T → Bool
  | .non, .non => true | .non, .int _ => true | .int _, .non => true | .non, .bl _ => true | .bl _, .non => true | .non, .str _ => true | .str _, .non => true
  | .int _, .int _ => true | .bl _, .bl _ => true | .str _, .str _ => true
  | .int _, .str _ => true | .str _, .int _ => true | .bl _, .str _ => true | .str _, .bl _ => true
  | _, _ => false
def eqS : T → T → Bool
  | .non, .non => true
  | .int i, .int j => decide (i = j)
  | .bl i, .bl j => decide (i = j)
  | .str i, .str j => decide (i = j)
  | _, _ => false
def kEqG (ng : Bool) : KB := fun x y S R _ => (scalT x y = true ∧ R (.bl (ng ^^ eqS x y)) S) ∨ ∃ d e, x.dat = some d ∧ y.dat = some e ∧ SeqAt.shaped d = true ∧ SeqAt.shaped e = true ∧ R (.bl (ng ^^ PyData.eqv d e)) S
theorem scal_rep {K : PySem.W.Frag} {Z : Addr → Prop} {S : Store} {H : Hp} {v u : V} {x y : T} (rx : Rep K Z S H v x) (ry : Rep K Z S H u y) (h : scalT x y = true) : scal v u = true ∧ decide (v = u) = eqS x y := by
  cases rx <;> cases ry <;> first | (cases h; done) | exact ⟨rfl, by simp [eqS]⟩
theorem cv_eq : Conv X.K E (kEqG false) (fun x y H Q => rEq x y H Q ∨ rEqD X.K x y H Q) := by
  intro Z x y S v u H R RE Q ok rx ry kk po xo
  rcases kk with ⟨h, k⟩ | ⟨d, e, hd, he, sd, se, k⟩
  · obtain ⟨h1, h2⟩ := scal_rep rx ry h
    refine .inl ⟨h1, ?_⟩
    rw [h2]
    exact po _ _ _ _ (by simpa using k) .refl ok (.bl _)
  · exact .inr ⟨d, e, rx.dp hd, ry.dp he, sd, se, po _ _ _ _ (by simpa using k) .refl ok (.bl _)⟩
theorem cv_ne : Conv X.K E (kEqG true) (fun x y H Q => rNe x y H Q ∨ rNeD X.K x y H Q) := by
  intro Z x y S v u H R RE Q ok rx ry kk po xo
  rcases kk with ⟨h, k⟩ | ⟨d, e, hd, he, sd, se, k⟩
  · obtain ⟨h1, h2⟩ := scal_rep rx ry h
    refine .inl ⟨h1, ?_⟩
    rw [h2]
    exact po _ _ _ _ (by simpa using k) .refl ok (.bl _)
  · exact .inr ⟨d, e, rx.dp hd, ry.dp he, sd, se, po _ _ _ _ (by simpa using k) .refl ok (.bl _)⟩
theorem op_eqG (hu : X.A.units + 64 < cLine) : OpR X (compareOp .Eq) (fun x y H Q => rEq x y H Q ∨ rEqD X.K x y H Q) := op_eq.or (op_eqD hu)
theorem op_neG (hu : X.A.units + 64 < cLine) : OpR X (compareOp .NotEq) (fun x y H Q => rNe x y H Q ∨ rNeD X.K x y H Q) := op_ne.or (op_neD hu)
def isNon : T → Bool
  | .non => true
  | _ => false
def kIsN (ng : Bool) : KB := fun x y S R _ => y = .non ∧ R (.bl (ng ^^ isNon x)) S
/-! a[i] -/
def kIx : KB := fun x y S R _ => match x, y with
  | .lst l, .int i => ∃ t, atI l i = some t ∧ R t S
  | .tup l, .int i => ∃ t, atI l i = some t ∧ R t S
  | .scr l, .int i => ∃ t, atI l i = some t ∧ R t S
  | .str z, .int i => z.length ≤ sizeLine ∧ ∃ c, atI z.cps.toList i = some c ∧ R (.str ⟨#[c]⟩) S
  | .cell a, .int i => ∃ l t, S a = some (.lst l) ∧ atI l i = some t ∧ R t S
  | _, _ => False
theorem Reps.at {K : PySem.W.Frag} {Z : Addr → Prop} {S : Store} {H : Hp} {vs : List V} {ts : List T} {i : Int} {t : T} (r : Reps K Z S H vs ts) (h : atI ts i = some t) : ∃ v, atI vs i = some v ∧ Rep K Z S H v t := by
  unfold atI at h ⊢
  rw [r.length]
  cases e : ixN ts.length i with
  | none => rw [e] at h; cases h
  | some j => rw [e] at h; exact r.get h
theorem cv_ix : Conv X.K E kIx (rIx X.K) := by
  intro Z x y S v u H R RE Q ok rx ry kk po xo
  unfold kIx at kk
  split at kk
  · obtain ⟨t, h, k⟩ := kk
    cases ry
    cases rx with
    | lst h1 r1 =>
      obtain ⟨w, hw, rw'⟩ := r1.at h
      exact .inl ⟨_, _, _, _, rfl, rfl, h1.sq, hw, po _ _ _ _ k .refl ok rw'⟩
  · obtain ⟨t, h, k⟩ := kk
    cases ry
    cases rx with
    | tup h1 r1 =>
      obtain ⟨w, hw, rw'⟩ := r1.at h
      exact .inr (.inl ⟨_, _, _, _, rfl, rfl, h1.sq, hw, po _ _ _ _ k .refl ok rw'⟩)
  · obtain ⟨t, h, k⟩ := kk
    cases ry
    cases rx with
    | scr h1 r1 =>
      obtain ⟨w, hw, rw'⟩ := r1.at h
      exact .inl ⟨_, _, _, _, rfl, rfl, h1.sq, hw, po _ _ _ _ k .refl ok rw'⟩
  · obtain ⟨z, c, h, k⟩ := kk
    cases ry; cases rx
    exact .inr (.inr ⟨_, _, _, rfl, rfl, z, h, po _ _ _ _ k .refl ok (.str _)⟩)
  · obtain ⟨l, t, hs, h, k⟩ := kk
    cases ry; cases rx
    rename_i a i
    have c := ok.cl a
    rw [hs] at c
    obtain ⟨vs, hv, r1⟩ := c
    obtain ⟨w, hw, rw'⟩ := r1.at h
    exact .inl ⟨_, _, _, _, rfl, rfl, .of hv, hw, po _ _ _ _ k .refl ok rw'⟩
  · exact kk.elim
/-! len, truth, built-ins -/
abbrev KA := List T → Store → (T → Store → Prop) → XT → Prop
def lenT : T → Store → Option Nat
  | .lst l, _ => some l.length
  | .tup l, _ => some l.length
  | .scr l, _ => some l.length
  | .str z, _ => if z.length ≤ sizeLine then some z.length else none
  | .cell a, S => match S a with
    | some (.lst l) => some l.length
    | _ => none
  | _, _ => none
def kLen : KA := fun xs S R _ => ∃ x n, xs = [x] ∧ lenT x S = some n ∧ R (.int (n : Nat)) S
theorem len_rep {K : PySem.W.Frag} {Z : Addr → Prop} {S : Store} {H : Hp} {v : V} {x : T} {n : Nat} (ok : Ok K Z S H) (rx : Rep K Z S H v x) (h : lenT x S = some n) : LenV K v H n := by
  cases rx with
  | str z =>
    simp only [lenT] at h
    split at h
    · cases h; exact ⟨by assumption, rfl⟩
    · cases h
  | tup h1 r1 => cases h; exact .inr ⟨_, h1.sq, r1.length.symm⟩
  | lst h1 r1 => cases h; exact .inl ⟨_, h1.sq, r1.length.symm⟩
  | scr h1 r1 => cases h; exact .inl ⟨_, h1.sq, r1.length.symm⟩
  | cell a =>
    simp only [lenT] at h
    have c := ok.cl a
    split at h
    · rename_i l e
      rw [e] at c
      obtain ⟨vs, hv, r⟩ := c
      cases h
      exact .inl ⟨_, .of hv, r.length.symm⟩
    · cases h
  | _ => cases h
theorem cv_len : ConvA X.K E kLen (fun xs H Q => ∃ x n, xs = [x] ∧ LenV X.K x H n ∧ Q (.int n) H) := by
  intro Z xs S vs H R RE Q ok rs ⟨x, n, e, h, k⟩ po xo
  subst e
  cases rs with
  | cons r rr =>
    cases rr
    exact ⟨_, n, rfl, len_rep ok r h, po _ _ _ _ k .refl ok (.int _)⟩
def kU (g : Int → T) : KA := fun xs S R _ => ∃ i, xs = [.int i] ∧ R (g i) S
theorem cv_U {g : Int → Int} : ConvA X.K E (kU fun i => .int (g i)) (fun xs H Q => ∃ i, xs = [.int i] ∧ Q (.int (g i)) H) := by
  intro Z xs S vs H R RE Q ok rs ⟨i, e, k⟩ po xo
  subst e
  cases rs with
  | cons r rr =>
    cases rr; cases r
    exact ⟨_, rfl, po _ _ _ _ k .refl ok (.int _)⟩
def kA2 (g : Int → Int → T) : KA := fun xs S R _ => ∃ i j, xs = [.int i, .int j] ∧ R (g i j) S
theorem cv_A2 {g : Int → Int → Int} : ConvA X.K E (kA2 fun i j => .int (g i j)) (fun xs H Q => ∃ i j, xs = [.int i, .int j] ∧ Q (.int (g i j)) H) := by
  intro Z xs S vs H R RE Q ok rs ⟨i, j, e, k⟩ po xo
  subst e
  cases rs with
  | cons r rr =>
    cases r
    cases rr with
    | cons r rr =>
      cases r; cases rr
      exact ⟨_, _, rfl, po _ _ _ _ k .refl ok (.int _)⟩
def kDm : KA := fun xs S R _ => ∃ i j, xs = [.int i, .int j] ∧ CDivP i j ∧ R (.tup [.int (i / j), .int (i % j)]) S
theorem cv_dm : ConvA X.K E kDm (fun xs H Q => ∃ i j, xs = [.int i, .int j] ∧ CDivP i j ∧ ∀ p, H p = none → Q (.ref p) (upd H p (.tup [.int (i / j), .int (i % j)]))) := by
  intro Z xs S vs H R RE Q ok rs ⟨i, j, e, c, k⟩ po xo
  subst e
  cases rs with
  | cons r rr =>
    cases r
    cases rr with
    | cons r rr =>
      cases r; cases rr
      exact ⟨_, _, rfl, c, fun p hp => po _ _ _ _ k (le_new hp) (ok.new hp) (.tupN ok hp (.cons (.int _) (.cons (.int _) .nil)))⟩
def kStrI : KA := fun xs S R _ => ∃ i, xs = [.int i] ∧ i.natAbs.log2 < 1920 ∧ R (.str (toString i)) S
/-- all, any of a list of truths -/
def kAll (f : List Bool → Bool) : KA := fun xs S R _ => ∃ bs : List Bool, xs = [.lst (bs.map .bl)] ∧ R (.bl (f bs)) S
theorem reps_bl {K : PySem.W.Frag} {Z : Addr → Prop} {S : Store} {H : Hp} : ∀ {bs : List Bool} {vs : List V}, Reps K Z S H vs (bs.map .bl) → vs = bs.map .bl
  | [], _, .nil => rfl
  | b :: bs, _, .cons h r => by cases h; rw [reps_bl r]; rfl
theorem cv_all {f : List Bool → Bool} : ConvA X.K E (kAll f) (fun vs H Q => ∃ (a : Addr) (bs : List Bool), vs = [V.ref a] ∧ SqL X.K H a (bs.map V.bl) ∧ Q (.bl (f bs)) H) := by
  intro Z xs S vs H R RE Q ok rs ⟨bs, e, k⟩ po xo
  subst e
  cases rs with
  | cons r rr =>
    cases rr
    cases r with
    | lst h1 r1 =>
      rw [reps_bl r1] at h1
      exact ⟨_, bs, rfl, h1.sq, po _ _ _ _ k .refl ok (.bl _)⟩
end

/-! ### slices -/
abbrev TRO := Fm → Store → (Option Int → Store → Prop) → XT → Prop
structure UpO (K : PySem.W.Frag) (E : XK) (r : TRO) (sl : L2.St) (H : Hp) (Q : Option Int → Hp → Prop) : Prop where
  ex : ∃ Z σ S R RE, FrR K Z S H sl σ ∧ Ok K Z S H ∧ r σ S R RE ∧ (∀ o S' H', R o S' → Le S H S' H' → Ok K Z S' H' → Q o H') ∧ XOk K Z S H RE E
structure OT (X : Cx) (E : XK) (e : Option Expr) (r : TRO) : Prop where
  po : L2.PO X e (UpO X.K E r)
theorem po_weak {X : Cx} {e : Option Expr} {t t' : TO} (he : L2.PO X e t) (imp : ∀ sl H Q, t' sl H Q → t sl H Q) : L2.PO X e t' := ⟨fun pins s sl H Q inv h => he.run pins s sl H Q inv (imp sl H Q h)⟩
def oNone : TRO := fun _ S R _ => R none S
def oSome (ra : TR) : TRO := fun σ S R RE => ra σ S (fun x S1 => ∃ i, x = .int i ∧ R (some i) S1) RE
def cutT (l : List T) (lo hi : Option Int) : List T := (l.drop (HT.sIx l.length 0 lo)).take (HT.sIx l.length l.length hi - HT.sIx l.length 0 lo)
section
variable {X : Cx} {E : XK} {e a b c : Expr} {es : List Expr} {pos p2 : Pos} {ra rb rc : TR} {t : TRA} {lo hi : Option Expr} {rl rh : TRO}
theorem ot_none : OT X E none oNone := ⟨po_weak po_none fun sl H Q ⟨⟨Z, σ, S, R, RE, fr, ok, w, po, xo⟩⟩ => po none S H w .refl ok⟩
theorem ot_some (h : ET X E a ra) : OT X E (some a) (oSome ra) := ⟨po_weak (po_some h.pe) fun sl H Q ⟨⟨Z, σ, S, R, RE, fr, ok, w, po, xo⟩⟩ => ⟨Z, σ, S, _, RE, fr, ok, w, fun x S1 v H1 k le ok1 rep => by
  obtain ⟨i, rfl, k⟩ := k
  cases rep
  exact ⟨i, rfl, po _ S1 H1 k le ok1⟩, xo⟩⟩
def kSl : T → Option Int → Option Int → Store → (T → Store → Prop) → Prop := fun x lo hi S R => match x with
  | .lst l => R (.lst (cutT l lo hi)) S
  | .scr l => R (.lst (cutT l lo hi)) S
  | .tup l => ¬ (HT.sIx l.length 0 lo = 0 ∧ HT.sIx l.length l.length hi = l.length) ∧ R (.tup (cutT l lo hi)) S
  | .str z => z.length ≤ sizeLine ∧ R (.str (cutS z lo hi)) S
  | _ => False
def rSl (ra : TR) (rl rh : TRO) : TR := fun σ S R RE => ra σ S (fun x S1 => rl σ S1 (fun l S2 => rh σ S2 (fun h S3 => kSl x l h S3 R) RE) RE) RE
theorem Reps.cut {K : PySem.W.Frag} {Z : Addr → Prop} {S : Store} {H : Hp} {vs : List V} {ts : List T} {l h : Option Int} (r : Reps K Z S H vs ts) : Reps K Z S H (cutV vs l h) (cutT ts l h) := by
  unfold cutV cutT
  rw [r.length]
  exact (r.drop _).take _
theorem et_slice (ha : ET X E a ra) (hl : OT X E lo rl) (hh : OT X E hi rh) : ET X E (.Subscript a (.Slice lo hi none p2) pos) (rSl ra rl rh) :=
  ⟨pe_weak (pe_slice (SlR.or sl_list (SlR.or sl_tup sl_str)) ha.pe hl.po hh.po) fun sl H Q ⟨⟨Z, σ, S, R, RE, fr, ok, w, po, xo⟩⟩ => by
    refine ⟨Z, σ, S, _, RE, fr, ok, w, fun x S1 v H1 k1 le1 ok1 rep => ?_, xo⟩
    refine ⟨Z, σ, S1, _, RE, fr.le le1, ok1, k1, fun l S2 H2 k2 le2 ok2 => ?_, xo.le le1⟩
    refine ⟨Z, σ, S2, _, RE, (fr.le le1).le le2, ok2, k2, fun h S3 H3 k3 le3 ok3 => ?_, (xo.le le1).le le2⟩
    have po3 := ((po.le le1).le le2).le le3
    have rep3 := (rep.le le2).le le3
    unfold kSl at k3
    split at k3
    · cases rep3 with
      | lst h1 r1 => exact .inl ⟨_, _, rfl, h1.sq, fun p hp => po3 _ _ _ _ k3 (le_new hp) (ok3.new hp) (.lstN ok3 hp r1.cut)⟩
    · cases rep3 with
      | scr h1 r1 => exact .inl ⟨_, _, rfl, h1.sq, fun p hp => po3 _ _ _ _ k3 (le_new hp) (ok3.new hp) (.lstN ok3 hp r1.cut)⟩
    · cases rep3 with
      | tup h1 r1 => exact .inr (.inl ⟨_, _, rfl, h1.sq, by rw [r1.length]; exact k3.1, fun p hp => po3 _ _ _ _ k3.2 (le_new hp) (ok3.new hp) (.tupN ok3 hp r1.cut)⟩)
    · cases rep3
      exact .inr (.inr ⟨_, rfl, k3.1, po3 _ _ _ _ k3.2 .refl ok3 (.str _)⟩)
    · exact k3.elim⟩
/-! ### xs.append(e) and the like: methods of a list that changes -/
def rMut (k : Addr → List T → List T → Store → (T → Store → Prop) → Prop) (ra : TR) (t : TRA) : TR := fun σ S R RE => ra σ S (fun x S1 => ∃ a, x = .cell a ∧ (∃ l, S1 a = some (.lst l)) ∧ t σ S1 (fun xs S2 => ∃ l, S2 a = some (.lst l) ∧ k a l xs S2 R) RE) RE
def kAppend : Addr → List T → List T → Store → (T → Store → Prop) → Prop := fun a l xs S R => ∃ x, xs = [x] ∧ l.length < sizeLine ∧ R .non (S.put a (.lst (l ++ [x])))
def kExtend : Addr → List T → List T → Store → (T → Store → Prop) → Prop := fun a l xs S R => ∃ m, xs = [.lst m] ∧ l.length + m.length ≤ sizeLine ∧ R .non (S.put a (.lst (l ++ m)))
/-! ### repr of data -/
structure SmT (k n : Nat) (t : T) : Prop where
  ex : ∃ d, t.dat = some d ∧ d.showable = true ∧ d.hasDict = false ∧ d.depth ≤ k ∧ d.shown.length ≤ n
def shownT (t : T) : Str := match t.dat with
  | some d => d.shown
  | none => Str.empty
def isDispT : T → Bool
  | .lst _ => true
  | .tup _ => true
  | _ => false
def kRepr : KA := fun xs S R _ => ∃ x k n, xs = [x] ∧ isDispT x = true ∧ SmT k n x ∧ k ≤ 64 ∧ n ≤ 16777216 ∧ R (.str (shownT x)) S
/-! ### tuple(..), list(..) -/
def kTuple : KA := fun xs S R _ => ∃ x l, xs = [x] ∧ (x = .lst l ∨ x = .tup l) ∧ R (.tup l) S
def kList : KA := fun xs S R _ => ∃ x l, xs = [x] ∧ seqOf x = some l ∧ R (.lst l) S
end
/-! keywords -/
section
variable {X : Cx} {E : XK} {e : Expr} {ra : TR} {tk : TRA}
theorem kt_nil : KT X E [] aNil := ⟨⟨fun pos pins s sl H Q I h => pk_nil.run pos pins s sl H Q I (by
  obtain ⟨Z, σ, S, R, RE, fr, ok, w, po, xo⟩ := h.ex
  exact po [] S [] H w .refl ok .nil)⟩⟩
theorem kt_cons {nm : Option Str} {kpos : Pos} {kws : List Keyword} (ha : ET X E e ra) (hr : KT X E kws tk) : KT X E (⟨nm, e, kpos⟩ :: kws) (aCons ra tk) := ⟨⟨fun pos pins s sl H Q I h => (pk_cons ha.pe hr.pk).run pos pins s sl H Q I (by
  obtain ⟨Z, σ, S, R, RE, fr, ok, w, po, xo⟩ := h.ex
  refine ⟨Z, σ, S, _, RE, fr, ok, w, fun x S1 v H1 kk le ok1 rep => ?_, xo⟩
  exact ⟨Z, σ, S1, _, RE, fr.le le, ok1, kk, fun xs S2 vs H2 k2 le2 ok2 rs => po (x :: xs) S2 (v :: vs) H2 k2 (le.trans le2) ok2 (.cons (rep.le le2) rs), xo.le le⟩)⟩⟩
end
/-! ### isinstance -/
/-- what isinstance asks of a class of one's own -/
structure InsC (K : PySem.W.Frag) (C : Addr) : Prop where
  cl : Cls K C
  c1 : PySem.W.findIn K (.ref C) "__class__" = some (some (.builtin "object.__class__"))
  c2 : PySem.W.specialIn K (.builtin "object.__class__") "__get__" = some (some (.builtin "getset_descriptor.__get__"))
  c3 : PySem.W.takesIn K (.builtin "object.__class__") = some true
  c4 : PySem.W.mroIn K C (.type "object") = some true
/-- what isinstance asks of an error's class of one's own -/
structure ExcC (K : PySem.W.Frag) (C : Addr) : Prop where
  cl : (PySem.W.clsIn K C).isSome = true
  ga : PySem.W.findIn K (.ref C) "__getattribute__" = some (some (.builtin "BaseException.__getattribute__"))
  gg : PySem.W.findIn K (.ref C) "__getattr__" = some none
  exC : PySem.W.subIn K (.ref C) (.type "BaseException") = some true
  hd : PySem.W.hasDictIn K C = true
  c1 : PySem.W.findIn K (.ref C) "__class__" = some (some (.builtin "object.__class__"))
  c2 : PySem.W.specialIn K (.builtin "object.__class__") "__get__" = some (some (.builtin "getset_descriptor.__get__"))
  c3 : PySem.W.takesIn K (.builtin "object.__class__") = some true
  c4 : PySem.W.mroIn K C (.type "object") = some true
inductive TyT (K : PySem.W.Frag) (S : Store) : T → Value → Prop
  | non : TyT K S .non (.type "NoneType")
  | bl (x : Bool) : TyT K S (.bl x) (.type "bool")
  | int (i : Int) : TyT K S (.int i) (.type "int")
  | str (x : Str) : TyT K S (.str x) (.type "str")
  | lst (l : List T) : TyT K S (.lst l) (.type "list")
  | scr (l : List T) : TyT K S (.scr l) (.type "list")
  | tup (l : List T) : TyT K S (.tup l) (.type "tuple")
  | dct : TyT K S .dct (.type "dict")
  | cell {a : Addr} {l : List T} (h : S a = some (.lst l)) : TyT K S (.cell a) (.type "list")
  | ins {C : Addr} {gs : List (Str × T)} (h : InsC K C) : TyT K S (.ins C gs) (.ref C)
  | cins {a C : Addr} {gs : List (Str × T)} (h : InsC K C) (e : S a = some (.ins C gs)) : TyT K S (.cell a) (.ref C)
  | exc {C : Addr} {gs : List (Str × T)} (h : ExcC K C) : TyT K S (.exc C gs) (.ref C)
inductive ClT : T → Value → Prop
  | ty (n : String) : ClT (.ty n) (.type n)
  | st (a : Addr) : ClT (.st a) (.ref a)
section
variable {X : Cx} {E : XK}
theorem ty_repX {K : PySem.W.Frag} {Z : Addr → Prop} {S : Store} {H : Hp} {v : V} {x : T} {t : Value} (ok : Ok K Z S H) (rx : Rep K Z S H v x) (h : TyT K S x t) (hx : ∀ C gs, x ≠ .exc C gs) : TyX K H v t := by
  cases h with
  | exc h => exact absurd rfl (hx _ _)
  | non => cases rx; exact .base .non
  | bl b => cases rx; exact .base (.bl b)
  | int i => cases rx; exact .base (.int i)
  | str z => cases rx; exact .base (.str z)
  | dct => cases rx with | dct h n => exact .base (.dK h)
  | lst l => cases rx with | lst h r => exact .base (.lst h.1)
  | scr l =>
    cases rx with
    | scr h r =>
      rcases h with ⟨⟨o, h⟩, _⟩ | ⟨o, its, n, h, c, _⟩
      · exact .base (.frz h)
      · exact .kList h c
  | tup l =>
    cases rx with
    | tup h r =>
      rcases h with ⟨h | ⟨o, h⟩, _⟩ | ⟨o, its, n, h, c, _⟩
      · exact .base (.tup h)
      · exact .fTuple h
      · exact .kTuple h c
  | @cell a l h =>
    cases rx
    have c := ok.cl a
    rw [h] at c
    obtain ⟨vs, hv, _⟩ := c
    exact .base (.lst hv)
  | ins h => cases rx with | ins h2 n r => exact .base (.ins h2 h.cl h.c1 h.c2 h.c3 h.c4)
  | @cins a C gs h e =>
    cases rx
    have c := ok.cl a
    rw [e] at c
    obtain ⟨dx, fs, hv, _⟩ := c
    exact .base (.ins hv h.cl h.c1 h.c2 h.c3 h.c4)
/-- a type that is known: of what the layer knows, or of an error -/
def ExcV (H : Hp) (v : V) (C : Addr) : Prop := (∃ (p dx : Addr) (fs : List (Str × V)), v = .ref p ∧ H p = some (.ext (ExcAt p C dx)) ∧ H dx = some (.xd fs)) ∨ ∃ p : Addr, v = .ref p ∧ H p = some (.ext (ExcAt0 p C))
def TyY (K : PySem.W.Frag) (H : Hp) (v : V) (t : Value) : Prop := TyX K H v t ∨ ∃ C : Addr, t = .ref C ∧ ExcV H v C ∧ ExcC K C
theorem exc_rep {K : PySem.W.Frag} {Z : Addr → Prop} {S : Store} {H : Hp} {v : V} {C : Addr} {gs : List (Str × T)} (r : Rep K Z S H v (.exc C gs)) : ExcV H v C := by
  cases r with
  | exc h1 n hd nd r => exact .inl ⟨_, _, _, rfl, h1, hd⟩
  | exn h1 n => exact .inr ⟨_, rfl, h1⟩
theorem ty_rep {K : PySem.W.Frag} {Z : Addr → Prop} {S : Store} {H : Hp} {v : V} {x : T} {t : Value} (ok : Ok K Z S H) (rx : Rep K Z S H v x) (h : TyT K S x t) : TyY K H v t := by
  by_cases e : ∃ C gs, x = .exc C gs
  · obtain ⟨C, gs, rfl⟩ := e
    cases h with
    | exc h => exact .inr ⟨_, rfl, exc_rep rx, h⟩
  · exact .inl (ty_repX ok rx h fun C gs z => e ⟨C, gs, z⟩)
/-- an error as it stands: the object, its dict -/
theorem exc_inst {pins : List (Addr × Obj)} {σ : L2.St} {H : Hp} {s : Shared} {p C dx : Addr} {fs : List (Str × V)} (I : Inv X pins σ H s) (h : H p = some (.ext (ExcAt p C dx))) (hd : H dx = some (.xd fs)) :
    ∃ (oe od : Obj) (mA : Str → Option Value), PySem.W.InstAt s.heap p oe C (some od) ∧ s.heap.Ns1 dx mA ∧ (∀ f, RelO (fs.lookup f) (mA f)) ∧ (∀ y, PySem.W.lookIn y od = some (mA y)) := by
  obtain ⟨⟨oe, t1, e1, e2, e3, e4⟩, _⟩ := (show ObjOk X.prog X.w H s.heap p (.ext (ExcAt p C dx)) from I.hok p _ h)
  obtain ⟨mA, hns, hr⟩ := (show ObjOk X.prog X.w H s.heap dx (.xd fs) from I.hok dx _ hd)
  obtain ⟨od, ho, hl⟩ := lookIn_ns hns
  exact ⟨oe, od, mA, ⟨e1, e2, by unfold PySem.W.notCls; rw [e4], by rw [e3]; exact ho⟩, hns, hr, hl⟩
theorem excV_inst {pins : List (Addr × Obj)} {σ : L2.St} {H : Hp} {s : Shared} {v : V} {C : Addr} (I : Inv X pins σ H s) (h : ExcV H v C) : ∃ (p : Addr) (φ : Heap → Prop) (oe : Obj) (od : Option Obj), v = .ref p ∧ H p = some (.ext φ) ∧ PySem.W.InstAt s.heap p oe C od := by
  rcases h with ⟨p, dx, fs, rfl, h, hd⟩ | ⟨p, rfl, h⟩
  · obtain ⟨oe, od, mA, J, _⟩ := exc_inst I h hd
    exact ⟨p, _, oe, some od, rfl, h, J⟩
  · obtain ⟨⟨oe, t1, e1, e2, e3, e4⟩, _⟩ := (show ObjOk X.prog X.w H s.heap p (.ext (ExcAt0 p C)) from I.hok p _ h)
    exact ⟨p, _, oe, none, rfl, h, e1, e2, by unfold PySem.W.notCls; rw [e4], by rw [e3]; trivial⟩
theorem kit_ofY {pins : List (Addr × Obj)} {σ : L2.St} {H : Hp} {s : Shared} {x : V} {u t : Value} (I : Inv X pins σ H s) (rx : RelV x u) (ty : TyY X.K H x t) : ∃ P : Heap → Prop, PySem.W.KitX X.K u t P ∧ P s.heap ∧ u ≠ .builtin "__main__.__loader__#opaque" := by
  rcases ty with ty | ⟨C, rfl, hv, c⟩
  · exact kit_of I rx ty
  · obtain ⟨p, φ, oe, od, rfl, _, J⟩ := excV_inst I hv
    obtain rfl : u = Value.ref p := rx
    exact ⟨_, PySem.W.kitx_exc c.cl c.ga c.gg c.exC c.c1 c.c2 c.c3 c.c4, J, fun z => nomatch z⟩
def rIsiY (K : PySem.W.Frag) : List V → Hp → VK → Prop := fun xs H Q => ∃ (x c : V) (t u : Value) (b : Bool), xs = [x, c] ∧ ClsV c u ∧ TyY K H x t ∧ PySem.W.kitOne K t u = some b ∧ Q (.bl b) H
theorem call_isiY : CallR X (.builtin "isinstance") (rIsiY X.K) := by
  intro pins s σ H xs us Q I r h
  obtain ⟨x, c, t, u, b, rfl, k, ty, e, q⟩ := h
  obtain ⟨u1, u2, rfl, r1, r2⟩ := vals2 r
  have e2 := k.eq r2
  subst e2
  obtain ⟨P, Z, p, hx⟩ := kit_ofY I r1 ty
  exact PySem.W.kia_one Z I.kIn p e hx fun tk => ⟨.bl b, H, I.tok tk, rfl, q⟩
def kIsi (K : PySem.W.Frag) : KA := fun xs S R _ => ∃ x c t u b, xs = [x, c] ∧ ClT c u ∧ TyT K S x t ∧ PySem.W.kitOne K t u = some b ∧ R (.bl b) S
theorem cv_isi {K : PySem.W.Frag} : ConvA K E (kIsi K) (rIsiY K) := by
  intro Z xs S vs H R RE Q ok rs ⟨x, c, t, u, b, e, hc, ht, hk, k⟩ po xo
  subst e
  cases rs with
  | cons r rr =>
    cases rr with
    | cons r2 rr =>
      cases rr
      refine ⟨_, _, t, u, b, rfl, ?_, ty_rep ok r ht, hk, po _ _ _ _ k .refl ok (.bl b)⟩
      cases hc with
      | ty n => cases r2; exact .ty n
      | st a => cases r2; exact .own a
end

/-! an own error with one field, made and raised: the class's text, C(e) for L2N, raise C(e) -/
section
open PySem.W PySem.Calls PyProof.Rows PySem.HandSPX
def evArgs (p1 p2 : Pos) : Arguments := { posonlyargs := [], args := [{ arg := "self", annotation := none, pos := p1 }, { arg := "value", annotation := none, pos := p2 }], vararg := none, kwonlyargs := [], kw_defaults := [], kwarg := none, defaults := [] }
def evBody (q1 q2 q3 q4 : Pos) : List Stmt := [.Assign [.Attribute (.Name "self" q1) "value" q2] (.Name "value" q3) q4]
def evScope : Scope := { kind := .function, names := [(PySem.Str.ofString "self", .local), (PySem.Str.ofString "value", .local)], isGenerator := false, isCoroutine := false, more := [] }
/-- what the top says of the class at C and of its __init__ at fI -/
structure EvTxt (K : Frag) (C fI : Addr) (qi : Str) : Prop where
  cls : ∃ nm q N bs bm sn sub ab col dd k0 k1 k2 k3 k5, K.lookup C = some (excClassObj nm q C N bs bm true sn sub ab col dd k0 k1 k2 k3 k5 "ValueError.__new__") ∧ refsVE bm = true
  sa : findIn K (.ref C) "__setattr__" = some (some (.builtin "object.__setattr__"))
  ga : findIn K (.ref C) "__getattribute__" = some (some (.builtin "BaseException.__getattribute__"))
  gg : findIn K (.ref C) "__getattr__" = some none
  noN : findIn K (.ref C) "value" = some none
  iC : findIn K (.ref C) "__init__" = some (some (.ref fI))
  tC : typeIn K (.ref fI) = some (.type "function")
  kC : keepIn K (.ref C) = true
  exC : subIn K (.ref C) (.type "BaseException") = some true
  tyC : typeIn K (.ref C) = some (.type "type")
  hdC : hasDictIn K C = true
  fn : ∃ (oc : Value) (od : Option Addr) (doc pm : Value) (an : Option Addr) (cdv ct : Value) (osl : Array (Option Value)) (p1 p2 q1 q2 q3 q4 : Pos),
    K.lookup fI = some ⟨oc, od, .func (fnOf "__init__" qi (evArgs p1 p2) (evBody q1 q2 q3 q4) evScope .none .none doc pm an cdv ct), osl⟩ ∧ codeIn K cdv qi = true
theorem one_fits (u : Value) : [u].length ≤ sizeLine := by
  show 1 ≤ sizeLine
  rw [sizeLine_eq]
  decide
theorem ev_name {M : Model} {s0 : Shared} {nm : Str} {sc : Scope} {fr a : Addr} {cd : Value} {m : Str → Option Value} {y : Str} {ps : Pos} {u : Value} {Q : Value → Shared → Prop} {A : Around} {E : Value → Shared → Prop} (hns : s0.heap.Ns fr m) (hu : m y = some u) (fin : Q u s0)
    (isf : sc.kind = .function := by rfl) (isl : (envOfC nm sc fr a cd).kindOf y = some .local := by rfl) (dbg : (y == ("__debug__" : Str)) = false := by decide) :
    wpAny M A (eval (.Name y ps) (envOfC nm sc fr a cd)) Q E s0 := wpAny_Name (wpAny_loadName_local isf isl hns hu fin) dbg
/-- what __init__ leaves of the new error at x -/
structure EvEnd (h h' : Heap) (x C dx t1 : Addr) (u : Value) : Prop where
  keep : ∀ b o, b ≠ x → h.get? b = some o → h'.get? b = some o
  obj : h'.get? x = some { cls := .ref C, dict := some dx, data := .fields #[.ref t1, .none, .none, .none, .bool false, .none] }
  dbig : h.objs.size ≤ dx
  dne : dx ≠ x
  ns : h'.Ns1 dx (fun y => if y = "value" then some u else none)
structure EvMade (h h' : Heap) (e C d : Addr) (u : Value) : Prop where
  keep : ∀ b o, h.get? b = some o → h'.get? b = some o
  new : h.objs.size ≤ e
  obj : ∃ oe t1, h'.get? e = some oe ∧ oe.cls = .ref C ∧ oe.dict = some d ∧ oe.data = .fields #[.ref t1, .none, .none, .none, .bool false, .none]
  dbig : h.objs.size ≤ d
  dne : d ≠ e
  ns : h'.Ns1 d (fun y => if y = "value" then some u else none)
section
variable {prog : Program} {w : World} {A : Around} {E : Value → Shared → Prop} {R : Result → Shared → Prop} {s0 : Shared} {K : Frag} {C fI : Addr} {qi : Str}
end
end
section
variable {X : Cx} {C fI : Addr} {qi : Str}
/-- C(e): the error's own dict is new -/
def tEv (C : Addr) (ta : TA) : L2.St → Hp → XK → Prop := fun sl H Q => ta sl H fun vs H1 => ∃ v, vs = [v] ∧ ∀ d, H1 d = none → Q (.ref C) (some d) (upd H1 d (.xd [(("value" : Str), v)]))
end


/-! ### places of written sequences -/
section
variable {α : Type} {a0 a1 a2 a3 a4 a5 a6 a7 : α} {l : List α}
theorem at_0 : atI (a0 :: l) 0 = some a0 := by
  unfold atI ixN
  have h : (0 : Int) < (((a0 :: l).length : Nat) : Int) := by simp only [List.length_cons]; omega
  simp [h]
theorem atI_ofNat {xs : List α} {j : Nat} {v : α} (h : xs[j]? = some v) : atI xs (j : Int) = some v := by
  have hl : j < xs.length := (List.getElem?_eq_some_iff.mp h).1
  unfold atI ixN
  have h1 : ((j : Int) < ((xs.length : Nat) : Int)) := by omega
  simp [h1, h]
theorem at_1 : atI (a0 :: a1 :: l) 1 = some a1 := atI_ofNat (j := 1) rfl
theorem at_2 : atI (a0 :: a1 :: a2 :: l) 2 = some a2 := atI_ofNat (j := 2) rfl
theorem at_3 : atI (a0 :: a1 :: a2 :: a3 :: l) 3 = some a3 := atI_ofNat (j := 3) rfl
theorem at_4 : atI (a0 :: a1 :: a2 :: a3 :: a4 :: l) 4 = some a4 := atI_ofNat (j := 4) rfl
theorem at_5 : atI (a0 :: a1 :: a2 :: a3 :: a4 :: a5 :: l) 5 = some a5 := atI_ofNat (j := 5) rfl
theorem at_6 : atI (a0 :: a1 :: a2 :: a3 :: a4 :: a5 :: a6 :: l) 6 = some a6 := atI_ofNat (j := 6) rfl
theorem at_7 : atI (a0 :: a1 :: a2 :: a3 :: a4 :: a5 :: a6 :: a7 :: l) 7 = some a7 := atI_ofNat (j := 7) rfl
end
theorem ix_1_0 : ixN 1 0 = some 0 := by decide
theorem ix_2_0 : ixN 2 0 = some 0 := by decide
theorem ix_2_1 : ixN 2 1 = some 1 := by decide
theorem ix_3_0 : ixN 3 0 = some 0 := by decide
theorem ix_3_1 : ixN 3 1 = some 1 := by decide
theorem ix_3_2 : ixN 3 2 = some 2 := by decide
theorem ix_4_0 : ixN 4 0 = some 0 := by decide
theorem ix_4_1 : ixN 4 1 = some 1 := by decide
theorem ix_4_2 : ixN 4 2 = some 2 := by decide
theorem ix_4_3 : ixN 4 3 = some 3 := by decide
/-! ### the rest of the operators -/
section
variable {X : Cx} {E : XK} {e a b c : Expr} {es : List Expr} {pos : Pos} {ra rb rc : TR} {t : TRA}
theorem op_fdivP : OpR X (binaryOp .FloorDiv) (rI CDivP fun i j => .int (i / j)) := opI fun i j _ _ _ _ _ hc q => by
  have h1 : (0 : Int) < j := hc.1
  refine floordiv_int (by omega) ?_ (.inl hc.2)
  rw [Int.fdiv_eq_ediv_of_nonneg i (by omega)]
  exact q
def rNeg (ra : TR) : TR := fun σ S R RE => ra σ S (fun x S1 => ∃ i, x = .int i ∧ R (.int (-i)) S1) RE
/-! in, not in -/
def flatT : T → Bool
  | .non => true
  | .bl _ => true
  | .int _ => true
  | .str _ => true
  | _ => false
def eqT : T → T → Bool
  | .non, .non => true
  | .bl a, .bl b => a == b
  | .bl a, .int b => (if a then 1 else 0) == b
  | .int a, .bl b => a == (if b then 1 else 0)
  | .int a, .int b => a == b
  | .str a, .str b => a == b
  | _, _ => false
def inT (x : T) (l : List T) : Bool := l.any fun y => eqT y x
theorem flat_rep {K : PySem.W.Frag} {Z : Addr → Prop} {S : Store} {H : Hp} {v : V} {x : T} (r : Rep K Z S H v x) : flatT x = true → flatV v = true := by
  cases r <;> intro h <;> first | rfl | (cases h; done)
theorem eq_rep {K : PySem.W.Frag} {Z : Addr → Prop} {S : Store} {H : Hp} {v u : V} {x y : T} (r : Rep K Z S H v x) (q : Rep K Z S H u y) (fx : flatT x = true) (fy : flatT y = true) : eqV v u = eqT x y := by
  cases r <;> cases q <;> first | rfl | (cases fx; done) | (cases fy; done)
def kIn (ng : Bool) : KB := fun x y S R _ => ∃ l, seqOf y = some l ∧ flatT x = true ∧ l.all flatT = true ∧ R (.bl (ng ^^ inT x l)) S
/-! raise C(e) -/
def sRaise (C : Addr) (t : TRA) : TRS := fun D σ S => t σ S (fun xs S1 => ∃ x, xs = [x] ∧ D.ex C [("value", x)] S1) D.ex
end
/-! ### how arguments come -/
structure CallD (K : PySem.W.Frag) (fd : FuncData) (ps : List Str) (dts : List T) : Prop where
  ex : ∃ (ds : List Value) (dvs : List V), Binds K fd ps ds ∧ Vals dvs ds ∧ DefT K dvs dts
theorem CallD.all {K : PySem.W.Frag} {fd : FuncData} {ps : List Str} (b : Binds K fd ps []) : CallD K fd ps [] := ⟨[], [], b, .nil, .nil⟩
/-- k keywords behind n values -/
structure CallB (K : PySem.W.Frag) (fd : FuncData) (ps : List Str) (n : Nat) (ks : List Str) (gT : List T → List T → List T) : Prop where
  ex : ∃ (g : List Value → List Value → List Value) (gV : List V → List V → List V), KBn K fd ps n ks g gV ∧ OrdT K gV gT
def selG {α : Type} (w : Nat) (us its ws : List α) : List α := match w with
  | 0 => us
  | 1 => its
  | _ => ws
def pickG {α : Type} : List (Nat × Nat) → List α → List α → List α → List α
  | [], _, _, _ => []
  | (w, i) :: pk, us, its, ws => match (selG w us its ws)[i]? with
    | some x => x :: pickG pk us its ws
    | none => pickG pk us its ws
theorem valsAt {vs : List V} {us : List Value} (r : Vals vs us) (i : Nat) : (vs[i]? = none ∧ us[i]? = none) ∨ ∃ v u, vs[i]? = some v ∧ us[i]? = some u ∧ RelV v u := by
  induction r generalizing i with
  | nil => exact .inl ⟨rfl, rfl⟩
  | cons a r ih =>
    cases i with
    | zero => exact .inr ⟨_, _, rfl, rfl, a⟩
    | succ i => exact ih i
theorem repsAt {K : PySem.W.Frag} {Z : Addr → Prop} {S : Store} {H : Hp} {vs : List V} {us : List T} (r : Reps K Z S H vs us) (i : Nat) : (vs[i]? = none ∧ us[i]? = none) ∨ ∃ v u, vs[i]? = some v ∧ us[i]? = some u ∧ Rep K Z S H v u := by
  induction us generalizing vs i with
  | nil => cases r; exact .inl ⟨rfl, rfl⟩
  | cons u us ih =>
    cases r with
    | cons a r =>
      cases i with
      | zero => exact .inr ⟨_, _, rfl, rfl, a⟩
      | succ i => exact ih r i
theorem pick_vals {vs ds zs : List V} {us its ws : List Value} (r1 : Vals vs us) (r2 : Vals ds its) (r3 : Vals zs ws) : ∀ pk, Vals (pickG pk vs ds zs) (pickG pk us its ws)
  | [] => .nil
  | (w, i) :: pk => by
    have ih := pick_vals r1 r2 r3 pk
    have r : Vals (selG w vs ds zs) (selG w us its ws) := by
      match w with
      | 0 => exact r1
      | 1 => exact r2
      | _ + 2 => exact r3
    unfold pickG
    rcases valsAt r i with ⟨h1, h2⟩ | ⟨v, u, h1, h2, rv⟩
    · rw [h1, h2]; exact ih
    · rw [h1, h2]; exact .cons rv ih
theorem pick_reps {K : PySem.W.Frag} {Z : Addr → Prop} {S : Store} {H : Hp} {vs ds zs : List V} {us its ws : List T} (r1 : Reps K Z S H vs us) (r2 : Reps K Z S H ds its) (r3 : Reps K Z S H zs ws) : ∀ pk, Reps K Z S H (pickG pk vs ds zs) (pickG pk us its ws)
  | [] => .nil
  | (w, i) :: pk => by
    have ih := pick_reps r1 r2 r3 pk
    have r : Reps K Z S H (selG w vs ds zs) (selG w us its ws) := by
      match w with
      | 0 => exact r1
      | 1 => exact r2
      | _ + 2 => exact r3
    unfold pickG
    rcases repsAt r i with ⟨h1, h2⟩ | ⟨v, u, h1, h2, rv⟩
    · rw [h1, h2]; exact ih
    · rw [h1, h2]; exact .cons rv ih
theorem pick_ord {K : PySem.W.Frag} {dvs : List V} {dts : List T} (d : DefT K dvs dts) (pk : List (Nat × Nat)) : OrdT K (fun vs zs => pickG pk vs dvs zs) (fun ts zs => pickG pk ts dts zs) :=
  fun Z S H _ _ _ _ r1 r3 => pick_reps r1 (d Z S H) r3 pk
section
variable {X : Cx} {E : XK} {k n : Nat} {f : Addr} {fd : FuncData} {ps ks : List Str} {sp : SpT} {dts : List T} {x : Str} {p pos : Pos} {e : Expr} {es : List Expr} {kws : List Keyword} {t tk : TRA} {gT : List T → List T → List T}
theorem et_callD (F : FnT X.prog X.w X.K X.mg X.base k f fd ps sp) (gds : X.A.guards = some []) (hr : Room k X.A) (hg : Gl X x) (hm : X.mg x = some (.ref f)) (hk : PySem.W.keepIn X.K (.ref f) = true) (cd : CallD X.K fd ps dts) (hx : Passes (L2N.CX X.prog X.w) X E)
    (ha : AT X E (e :: es) t) (hdb : (x == ("__debug__" : Str)) = false := by decide) (he : starEach (e :: es) X.env = (false, eval e X.env) :: starEach es X.env := by rfl) (hpl : (backTo pos (starEach es X.env)).any (·.1) = false := by rfl) :
    ET X E (.Call (.Name x p) (e :: es) [] pos) (rCall sp dts t) := by
  obtain ⟨ds, dvs, hb, hd, hdt⟩ := cd.ex
  exact et_call F gds hr hg hm hk hb hd hdt hx ha hdb he hpl
end

/-! ### instances -/
def insOf : T → Store → Option (Addr × List (Str × T))
  | .ins C gs, _ => some (C, gs)
  | .cell a, S => match S a with
    | some (.ins C gs) => some (C, gs)
    | _ => none
  | _, _ => none
def putT (f : Str) (t : T) : List (Str × T) → List (Str × T)
  | [] => [(f, t)]
  | (g, x) :: r => if g = f then (g, t) :: r else (g, x) :: putT f t r
section
variable {K : PySem.W.Frag} {Z : Addr → Prop} {S S1 : Store} {H H1 : Hp}
theorem RepF.put {fs : List (Str × V)} {gs : List (Str × T)} {f : Str} {v : V} {t : T} (r : RepF K Z S H fs gs) (h : Rep K Z S H v t) : RepF K Z S H (putF f v fs) (putT f t gs) := by
  induction gs generalizing fs with
  | nil => cases r; exact .cons h .nil
  | cons g gs ih =>
    cases r with
    | @cons n w u vs ts q r =>
      unfold putF putT
      by_cases e : n = f
      · rw [if_pos e, if_pos e]; exact .cons h r
      · rw [if_neg e, if_neg e]; exact .cons q (ih r)
end
/-- what the class at C says of an attribute of its instances -/
structure InF (K : PySem.W.Frag) (C : Addr) (f : Str) : Prop where
  cl : Cls K C
  na : NoAttr K C f
/-- .. of a constant of its own -/
structure InC (K : PySem.W.Frag) (C : Addr) (f : Str) (t : T) : Prop where
  cl : Cls K C
  ex : ∃ v u, Con K C f v u ∧ ∀ Z S H, Rep K Z S H v t
section
variable {X : Cx} {E : XK} {a e o : Expr} {es : List Expr} {pos apos cpos : Pos} {ra rb : TR} {t tk : TRA} {f m : Str} {C : Addr}
def rFld (K : PySem.W.Frag) (f : Str) (ra : TR) : TR := fun σ S R RE => ra σ S (fun x S1 => ∃ C gs t, insOf x S1 = some (C, gs) ∧ InF K C f ∧ gs.lookup f = some t ∧ R t S1) RE
def rCon (K : PySem.W.Frag) (f : Str) (ra : TR) : TR := fun σ S R RE => ra σ S (fun x S1 => ∃ C gs t, insOf x S1 = some (C, gs) ∧ InC K C f t ∧ gs.lookup f = none ∧ R t S1) RE
/-- C.f, f a constant of the class -/
theorem et_cval {mc u : Value} {v : V} {x : Str} {p : Pos} {tt : T} (r : ClX.CRead X.K C mc) (k : ClX.CVal X.K C mc f v u) (rep : ∀ Z S H, Rep X.K Z S H v tt) (hg : Gl X x) (hm : X.mg x = some (.ref C)) (hd : (x == ("__debug__" : Str)) = false := by decide)
    (hb : attributeBase (.Name x p) f X.env (eval (.Name x p) X.env) = eval (.Name x p) X.env := by rfl) : ET X E (.Attribute (.Name x p) f pos) (rC tt) :=
  ⟨pe_weak (ClX.pe_cval (pe_glob (v := .ref C) hg hm rfl hd) hb) fun sl H Q ⟨⟨Z, σ, S, R, RE, fr, ok, w, po, xo⟩⟩ => ⟨C, mc, v, u, rfl, r, k, po _ _ _ _ w .refl ok (rep _ _ _)⟩⟩
/-- o.f = e -/
def sFldT (K : PySem.W.Frag) (f : Str) (rv ra : TR) : TRS := fun D σ S => rv σ S (fun y S1 => ra σ S1 (fun x S2 => ∃ a C gs, x = .cell a ∧ S2 a = some (.ins C gs) ∧ InF K C f ∧ gs.length < 1000 ∧ D.nx σ (S2.put a (.ins C (putT f y gs)))) D.ex) D.ex
end
/-! ### calls -/
section
variable {X : Cx} {E : XK} {k n : Nat} {f C : Addr} {fd : FuncData} {ps ks : List Str} {sp : SpT} {dts : List T} {x m : Str} {p pos apos : Pos} {e o : Expr} {es : List Expr} {kws : List Keyword} {t tk : TRA} {ra : TR} {gT : List T → List T → List T}
def rMake (C : Addr) (sp : SpT) (dts : List T) (t : TRA) : TR := fun σ S R RE => t σ S (fun xs S1 => ∀ u, S1 u = none → sp (.cell u :: (xs ++ dts)) (S1.put u (.ins C [])) (fun z S2 => z = .non ∧ ∃ gs, S2 u = some (.ins C gs) ∧ R (.ins C gs) (S2.drop u)) RE) RE
/-- with keywords; gT puts the new one and the values in order -/
def rMakeN (C : Addr) (n m : Nat) (sp : SpT) (gT : List T → List T → List T) (t tk : TRA) : TR := fun σ S R RE => t σ S (fun xs S1 => tk σ S1 (fun zs S2 => xs.length = n ∧ zs.length = m ∧
  ∀ u, S2 u = none → sp (gT (.cell u :: xs) zs) (S2.put u (.ins C [])) (fun z S3 => z = .non ∧ ∃ gs, S3 u = some (.ins C gs) ∧ R (.ins C gs) (S3.drop u)) RE) RE) RE
/-! methods; D tells which promise the method has at which class -/
structure MetD (X : Cx) (m : Str) (dts : List T) (D : Addr → SpT → Prop) : Prop where
  at_ : ∀ C sp, D C sp → ∃ k f fd ps, Cls X.K C ∧ Meth X.K C m f ∧ FnT X.prog X.w X.K X.mg X.base k f fd ps sp ∧ Room k X.A ∧ CallD X.K fd ps dts
/-- just one class -/
def one (C : Addr) (sp : SpT) : Addr → SpT → Prop := fun C' sp' => C' = C ∧ sp' = sp
theorem MetD.one (c : Cls X.K C) (hm : Meth X.K C m f) (F : FnT X.prog X.w X.K X.mg X.base k f fd ps sp) (hr : Room k X.A) (cd : CallD X.K fd ps dts) : MetD X m dts (one C sp) := ⟨fun C' sp' ⟨e1, e2⟩ => by
  subst e1 e2
  exact ⟨k, f, fd, ps, c, hm, F, hr, cd⟩⟩
def rMeth (D : Addr → SpT → Prop) (m : Str) (dts : List T) (ra : TR) (t : TRA) : TR := fun σ S R RE => ra σ S (fun x S1 => ∃ C gs sp, insOf x S1 = some (C, gs) ∧ D C sp ∧ gs.lookup m = none ∧ t σ S1 (fun xs S2 => sp (x :: (xs ++ dts)) S2 R RE) RE) RE
variable {D : Addr → SpT → Prop}
/-- .. with keywords alone -/
structure MetB (X : Cx) (m : Str) (ks : List Str) (gT : List T → List T → List T) (D : Addr → SpT → Prop) : Prop where
  at_ : ∀ C sp, D C sp → ∃ k f fd ps, Cls X.K C ∧ Meth X.K C m f ∧ FnT X.prog X.w X.K X.mg X.base k f fd ps sp ∧ Room k X.A ∧ CallB X.K fd ps 1 ks gT
def rMethK (D : Addr → SpT → Prop) (m : Str) (n : Nat) (gT : List T → List T → List T) (ra : TR) (tk : TRA) : TR := fun σ S R RE => ra σ S (fun x S1 => ∃ C gs sp, insOf x S1 = some (C, gs) ∧ D C sp ∧ gs.lookup m = none ∧ tk σ S1 (fun zs S2 => zs.length = n ∧ sp (gT [x] zs) S2 R RE) RE) RE
end

section
variable {X : Cx} {E : XK} {k n : Nat} {f g C q : Addr} {fd : FuncData} {ps ks : List Str} {sp : SpT} {dts : List T} {x m : Str} {p pos apos : Pos} {e o a b : Expr} {es : List Expr} {kws : List Keyword} {t tk : TRA} {ra rb : TR}
/-! ### properties -/
structure PrpD (X : Cx) (m : Str) (D : Addr → SpT → Prop) : Prop where
  at_ : ∀ C sp, D C sp → ∃ k p g fd ps, Cls X.K C ∧ PropOf X.K C m p g ∧ FnT X.prog X.w X.K X.mg X.base k g fd ps sp ∧ Room (k + 1) X.A ∧ Binds X.K fd ps []
theorem PrpD.one (c : Cls X.K C) (hp : PropOf X.K C m q g) (F : FnT X.prog X.w X.K X.mg X.base k g fd ps sp) (hr : Room (k + 1) X.A) (hb : Binds X.K fd ps []) : PrpD X m (one C sp) := ⟨fun C' sp' ⟨e1, e2⟩ => by
  subst e1 e2
  exact ⟨k, q, g, fd, ps, c, hp, F, hr, hb⟩⟩
def rProp (D : Addr → SpT → Prop) (ra : TR) : TR := fun σ S R RE => ra σ S (fun x S1 => ∃ C gs sp, insOf x S1 = some (C, gs) ∧ D C sp ∧ sp [x] S1 R XF) RE
variable {D : Addr → SpT → Prop}
/-! ### C.f(..), f a plain def of the class; C.m(..), m a classmethod -/
def rClsFn (sp : SpT) (dts : List T) (t : TRA) : TR := fun σ S R RE => t σ S (fun xs S1 => sp (xs ++ dts) S1 R RE) RE
end

/-! ### defs with *args alone -/
structure FnS (P : Program) (w : World) (K : PySem.W.Frag) (mg : Str → Option Value) (base : Heap) (k : Nat) (f : Addr) (sp : SpT) : Prop where
  go : ∀ (A : Around) (out : List Env) (s : Shared) (H : Hp) (us : List Value) (vs : List V) (Q : VK) (E : XK), A.guards = some [] → Room k A → Env0 P w K mg base A out s H → Vals vs us → UpF K sp vs H Q E →
    codeAny (model P w) A (.call (.ref f) ⟨us, []⟩) (CR (L2N.CX P w) out P w H s Q E) s
section
variable {P : Program} {w : World} {K : PySem.W.Frag} {mg : Str → Option Value} {base : Heap} {k : Nat} {f : Addr} {fd : FuncData} {sp : SpT}
end
section
variable {X : Cx} {E : XK} {k : Nat} {f : Addr} {sp : SpT} {x : Str} {p pos : Pos} {e : Expr} {es : List Expr} {t : TRA}
def rCallS (sp : SpT) (t : TRA) : TR := fun σ S R RE => t σ S (fun xs S1 => sp xs S1 R RE) RE
end
/-! x * y where x's class has the def and y is of a built-in type, or of that class too -/
section
open PySem.W PySem.Calls PyProof.Rows
variable {prog : Program} {w : World} {A : Around} {E : Value → Shared → Prop} {s : Shared} {K : Frag} {x C L f : Addr} {h₀ : Heap} {m : Str → Option Value} {ox : Obj} {od : Option Obj} {T : String}
end
/-- what the class at C says of its operator -/
structure BinOwn (K : PySem.W.Frag) (C f : Addr) (op : Operator) : Prop where
  first_ : PySem.W.selfFirst K C = true
  at_ : PySem.W.findIn K (.ref C) (PySem.dunder op.info.2) = some (some (.ref f))
  fn : PySem.W.isFn K (.ref f) = true
  right_ : ∃ rc, PySem.W.findIn K (.ref C) (PySem.dunderR op.info.2) = some rc ∧ (rc = none ∨ ∃ g : Addr, rc = some (.ref g))
/-- what a built-in type says of it -/
structure BinTy (K : PySem.W.Frag) (C : Addr) (op : Operator) (T : String) : Prop where
  l : ∃ fo, PySem.W.findIn K (.type T) (PySem.dunder op.info.2) = some fo
  r : ∃ ro, PySem.W.findIn K (.type T) (PySem.dunderR op.info.2) = some ro
  no : PySem.W.subIn K (.type T) (.ref C) = some false
/-- what may stand right of it -/
def BinArg (K : PySem.W.Frag) (C : Addr) (op : Operator) (H : Hp) (y : V) : Prop := (∃ T, TyX K H y (.type T) ∧ BinTy K C op T) ∨ ∃ b dx fs, y = .ref b ∧ H b = some (.ins C dx fs)

/-! ### x * y by the class's own def -/
structure BinT (K : PySem.W.Frag) (C : Addr) (op : Operator) (y : T) (S : Store) : Prop where
  ok : (∃ ty, TyT K S y (.type ty) ∧ BinTy K C op ty) ∨ ∃ gs, insOf y S = some (C, gs)
def rOpOwn (K : PySem.W.Frag) (C : Addr) (op : Operator) (sp : SpT) : KB := fun x y S R RE => (∃ gs, insOf x S = some (C, gs)) ∧ BinT K C op y S ∧ sp [x, y] S (fun z S' => (∃ C' gs', z = .ins C' gs') ∧ R z S') RE
section
variable {X : Cx} {E : XK} {k : Nat} {f C : Addr} {fd : FuncData} {ps ks : List Str} {sp : SpT} {dts : List T} {m : Str} {p pos : Pos} {e a b c : Expr} {gT : List T → List T → List T} {D1 D2 : Addr → SpT → Prop} {ra : TR}
/-! what is never reached -/
def rNo : TR := fun _ _ _ _ => False
def sNo : TRS := fun _ _ _ => False
theorem MetD.or (h1 : MetD X m dts D1) (h2 : MetD X m dts D2) : MetD X m dts (fun C sp => D1 C sp ∨ D2 C sp) := ⟨fun C sp d => d.elim (h1.at_ C sp) (h2.at_ C sp)⟩
theorem MetB.one (c : Cls X.K C) (hm : Meth X.K C m f) (F : FnT X.prog X.w X.K X.mg X.base k f fd ps sp) (hr : Room k X.A) (cb : CallB X.K fd ps 1 ks gT) : MetB X m ks gT (one C sp) := ⟨fun C' sp' ⟨e1, e2⟩ => by
  subst e1 e2
  exact ⟨k, f, fd, ps, c, hm, F, hr, cb⟩⟩
theorem MetB.or (h1 : MetB X m ks gT D1) (h2 : MetB X m ks gT D2) : MetB X m ks gT (fun C sp => D1 C sp ∨ D2 C sp) := ⟨fun C sp d => d.elim (h1.at_ C sp) (h2.at_ C sp)⟩
/-- C.f is the constant t -/
structure CValT (K : PySem.W.Frag) (C : Addr) (f : Str) (t : T) : Prop where
  ex : ∃ v u, ClX.CVal K C (.type "type") f v u ∧ ∀ Z S H, Rep K Z S H v t
theorem et_cvalT {x : Str} {tt : T} (r : ClX.CRead X.K C (.type "type")) (k : CValT X.K C m tt) (hg : Gl X x) (hm : X.mg x = some (.ref C)) (hd : (x == ("__debug__" : Str)) = false := by decide)
    (hb : attributeBase (.Name x p) m X.env (eval (.Name x p) X.env) = eval (.Name x p) X.env := by rfl) : ET X E (.Attribute (.Name x p) m pos) (rC tt) := by
  obtain ⟨v, u, cv, rep⟩ := k.ex
  exact et_cval r cv rep hg hm hd hb
/-! the same, the written part named -/
/-! a test that is a conditional expression -/
def bIf (tc ta tb : TRB) : TRB := fun σ S R RE => tc σ S (fun c S1 => if c = true then ta σ S1 R RE else tb σ S1 R RE) RE
end
/-! ### the end -/
section
variable {P : Program} {w : World} {K : PySem.W.Frag} {mg : Str → Option Value} {base : Heap} {k : Nat} {f : Addr} {fd : FuncData} {ps : List Str} {sp : SpT}
/-- a def that lets nothing out, as the end wants it -/
theorem FnT.cx0 (F : FnT P w K mg base k f fd ps sp) : FnG P w K mg base CX0 k f fd ps (fun vs H Q _ => UpF K sp vs H Q EF) := by
  refine ⟨fun vs H Q E h => F.fn.len _ _ _ _ h, fun A out st H as us vs Q E gds hr e0 b r h => ?_⟩
  refine codeAny_mono (F.fn.go A out st H as us vs Q EF gds hr e0 b r h) fun z s' got => ?_
  cases z with
  | error er =>
    obtain ⟨_, _, _, _, _, _, _, _, _, _, _, _, q⟩ := got
    exact q.elim
  | ok fl =>
    cases fl with
    | ret u => exact got
    | next => exact got
    | brk => exact got
    | cont => exact got
end
/-- what a law promises -/
def sp_law : SpT := fun ts S R _ => match ts with
  | [.scr l] => (∃ ns : List Int, l = ns.map T.int ∧ ns.length ≤ 63) ∧ ∀ S', R (.bl true) S'
  | _ => False
theorem reps_ints {K : PySem.W.Frag} {Z : Addr → Prop} {S : Store} {H : Hp} : ∀ ns : List Int, Reps K Z S H (ns.map V.int) (ns.map T.int)
  | [] => .nil
  | n :: ns => .cons (.int n) (reps_ints ns)
theorem roomR {k : Nat} {A : Around} (r : Room k A) : A.units + 70 < cLine := by have := r.un; omega
section
variable {P : Program} {w : World} {K : PySem.W.Frag} {mg : Str → Option Value} {base : Heap} {k : Nat} {f : Addr} {fd : FuncData} {ps : List Str} {sp : SpT}
end
section
variable {K : PySem.W.Frag} {x qual : Str} {st : Stmt} {f : Addr} {fd : FuncData} {ps : List Str} {dvs : List V} {dts : List T} {kws : List (Str × V)}
theorem Fun.cb (F : Fun K x qual st f fd) (n : Nat) (ks : List Str) (pk : List (Nat × Nat))
    (h : ∀ (kV doc pm : Value) (an : Option Addr) (cdv ct : Value) (us ws : List Value), us.length = n → ws.length = ks.length → bindArgs (PySem.W.fnOf x qual (defArgs st) (defBody st) (defScope st) .none kV doc pm an cdv ct) ⟨us, ks.zip ws⟩ = pure (ps.zip (pickG pk us [] ws))) :
    CallB K fd ps n ks (fun ts zs => pickG pk ts [] zs) := by
  obtain ⟨oc, od, kV, doc, pm, an, cdv, ct, osl, e, lk, hcd⟩ := F.ex
  subst e
  exact ⟨fun us ws => pickG pk us [] ws, fun vs zs => pickG pk vs [] zs, ⟨fun s us ws _ l1 l2 => .of_eq (h kV doc pm an cdv ct us ws l1 l2), fun r1 r2 => pick_vals r1 .nil r2 pk⟩, pick_ord DefT.nil pk⟩
theorem FunK.cb (F : FunD K x qual (defArgs st) (defBody st) (defScope st) [] kws f fd) (n : Nat) (ks : List Str) (pk : List (Nat × Nat))
    (h : ∀ (kV doc pm : Value) (an : Option Addr) (cdv ct : Value) (us ws : List Value), us.length = n → ws.length = ks.length → bindArgs (PySem.W.fnOf x qual (defArgs st) (defBody st) (defScope st) .none kV doc pm an cdv ct) ⟨us, ks.zip ws⟩ = pure (ps.zip (pickG pk us [] ws))) :
    CallB K fd ps n ks (fun ts zs => pickG pk ts [] zs) := by
  obtain ⟨oc, od, dV, kV, doc, pm, an, cdv, ct, osl, e, lk, hcd, hD, hK⟩ := F.ex
  subst e
  rcases hD with ⟨_, e⟩ | ⟨e, _⟩
  · subst e
    exact ⟨fun us ws => pickG pk us [] ws, fun vs zs => pickG pk vs [] zs, ⟨fun s us ws _ l1 l2 => .of_eq (h kV doc pm an cdv ct us ws l1 l2), fun r1 r2 => pick_vals r1 .nil r2 pk⟩, pick_ord DefT.nil pk⟩
  · exact absurd rfl e
theorem FunK.cd (F : FunD K x qual (defArgs st) (defBody st) (defScope st) [] kws f fd) (n : Nat) (hk : kws ≠ []) (hn : n + kws.length = ps.length) (d : DefT K (kws.map (·.2)) dts)
    (h : ∀ (D : Addr) (doc pm : Value) (an : Option Addr) (cdv ct : Value) (us ks : List Value), us.length = n → ks.length = kws.length →
      KwChain D ((kws.map (·.1)).zip ks) (bindArgs (PySem.W.fnOf x qual (defArgs st) (defBody st) (defScope st) .none (.ref D) doc pm an cdv ct) ⟨us, []⟩) (ps.zip (us ++ ks))) : CallD K fd ps dts := by
  obtain ⟨ds, r, b⟩ := F.binds0 n hk hn h
  exact ⟨ds, _, b, r, d⟩
theorem FunP.cd (F : FunD K x qual (defArgs st) (defBody st) (defScope st) dvs [] f fd) (n j : Nat) (hd : dvs ≠ []) (hn : n + (dvs.length - j) = ps.length) (d : DefT K (dvs.drop j) dts)
    (h : ∀ (T : Addr) (kV doc pm : Value) (an : Option Addr) (cdv ct : Value) (us its : List Value), us.length = n → its.length = dvs.length →
      ∃ k, bindArgs (PySem.W.fnOf x qual (defArgs st) (defBody st) (defScope st) (.ref T) kV doc pm an cdv ct) ⟨us, []⟩ = seqItems? (.ref T) >>= k ∧ k (some its.toArray) = pure (ps.zip (us ++ its.drop j))) : CallD K fd ps dts := by
  obtain ⟨ds, r, b⟩ := F.binds1 n j hd hn h
  exact ⟨ds, _, b, r, d⟩
theorem FunP.cb (F : FunD K x qual (defArgs st) (defBody st) (defScope st) dvs [] f fd) (n : Nat) (ks : List Str) (pk : List (Nat × Nat)) (hd : dvs ≠ []) (d : DefT K dvs dts)
    (h : ∀ (T : Addr) (kV doc pm : Value) (an : Option Addr) (cdv ct : Value) (us its ws : List Value), us.length = n → its.length = dvs.length → ws.length = ks.length →
      ∃ k, bindArgs (PySem.W.fnOf x qual (defArgs st) (defBody st) (defScope st) (.ref T) kV doc pm an cdv ct) ⟨us, ks.zip ws⟩ = seqItems? (.ref T) >>= k ∧ k (some its.toArray) = pure (ps.zip (pickG pk us its ws))) :
    CallB K fd ps n ks (fun ts zs => pickG pk ts dts zs) := by
  obtain ⟨oc, od, dV, kV, doc, pm, an, cdv, ct, osl, e, lk, hcd, hD, hK⟩ := F.ex
  subst e
  rcases hD with ⟨e, _⟩ | ⟨_, A, o, its, m, e, lT, oT, rT⟩
  · exact absurd e hd
  · subst e
    refine ⟨fun us ws => pickG pk us its ws, fun vs zs => pickG pk vs dvs zs, ⟨fun s us ws inK l1 l2 => ?_, fun r1 r2 => pick_vals r1 rT r2 pk⟩, pick_ord d pk⟩
    obtain ⟨k, e1, e2⟩ := h A kV doc pm an cdv ct us its ws l1 rT.length.symm l2
    refine BindsTo.of_looks fun M => ?_
    rw [e1]
    exact looks_items inK lT oT (.of_pure e2)
end

/-! a != b where the class has an own __eq__ and no own __ne__ -/
namespace NeOwn
open PySem PySem.Calls PyProof.Rows
section
variable {prog : Program} {w : World} {A : Around} {E : Value → Shared → Prop} {s : Shared} {K : PySem.W.Frag} {x C f : Addr} {ox : Obj} {od : Option Obj} {b tb : Value}
/-- the answer of __eq__, turned about -/
def Neg (Q : Value → Shared → Prop) (r : Value) (s' : Shared) : Prop := ∃ c, r = .bool c ∧ Q (.bool (!c)) s'
theorem body {Q : Fin → Shared → Prop} (inK : K.In s.heap) (I : PySem.W.InstAt s.heap x ox C od) (hu : A.units < cLine) (he : PySem.W.findIn K (.ref C) "__eq__" = some (some (.ref f))) (hf : PySem.W.isFn K (.ref f) = true)
    (hc : wpAny (model prog w) A (call (.ref f) [.ref x, b]) (Neg fun r s' => Q (.done (.ret r)) s') E s) : wpAny (model prog w) A (Builtin.«object.__ne__» ⟨[.ref x, b], []⟩) Q E s := by
  unfold Builtin.«object.__ne__»
  repeat (first
    | with_reducible refine wpAny_cRoomFor hu ?_
    | (refine wpAny_bind (m := callSpecialIfBound? (.ref x) (Str.ofString "__eq__") [b]) (PySem.W.ifBound_K inK I he hf (wpAny_mono hc (fun r s' got => by
          obtain ⟨c, rfl, hq⟩ := got
          repeat (first | exact hq | exact wpAny_pure hq | exact wpAny_truthy_bool hq | (refine wpAny_bind (m := truthy (.bool _)) (wpAny_truthy_bool ?_)) | wp_step)) fun _ _ z => z)))
    | wp_step)
theorem slot {args : List Value} {Q : Option Value → Shared → Prop} (inK : K.In s.heap) (I : PySem.W.InstAt s.heap x ox C od) (hs : PySem.W.findIn K (.ref C) "__ne__" = some (some (.builtin "object.__ne__")))
    (hc : wpAny (model prog w) A (call (.builtin "object.__ne__") (.ref x :: args)) (fun r => Q (some r)) E s) : wpAny (model prog w) A (callSpecialIfBound? (.ref x) "__ne__" args) Q E s := by
  simp only [callSpecialIfBound?, bindSpecialIfBound?]
  have last : wpAny (model prog w) A (call (.builtin "object.__ne__") ([.ref x] ++ args) >>= fun r => pure (some r)) Q E s := wpAny_bind (wpAny_mono hc (fun r s' z => wpAny_pure z) fun _ _ z => z)
  have bd := PySem.F.cmp_object.ne.bind (Value.ref x)
  refine wpAny_holding (wpAny_bind (wpAny_bind (wpAny_bind (I.type.here ((PySem.W.looks_findIn inK hs).here (wpAny_bind (wpAny_askSetting (wpAny_ite ?_))))))))
  split
  · exact wpAny_bind (wpAny_of_eq bd (wpAny_pure (by exact last)))
  · exact wpAny_tryCatch (wpAny_bind (wpAny_of_eq bd (wpAny_pure (by exact last))))
end
end NeOwn
/-- an operator's rule told of trees -/
def RK (K : PySem.W.Frag) (E : XK) (k : KB) : R2 := fun v u H Q => ∃ Z x y S R RE, Ok K Z S H ∧ Rep K Z S H v x ∧ Rep K Z S H u y ∧ k x y S R RE ∧ PO K Z S H R Q ∧ XOk K Z S H RE E
/-- what the class at C says of == and != -/
structure EqO (K : PySem.W.Frag) (C f : Addr) : Prop where
  eq : PySem.W.findIn K (.ref C) "__eq__" = some (some (.ref f))
  fn : PySem.W.isFn K (.ref f) = true
  ne : PySem.W.findIn K (.ref C) "__ne__" = some (some (.builtin "object.__ne__"))
  mro : PySem.W.mroIn K C (.type "object") = some true
def kEqOwn (C : Addr) (sp : SpT) (ng : Bool) : KB := fun x y S R RE => (∃ gs, insOf x S = some (C, gs)) ∧ (∃ gs, insOf y S = some (C, gs)) ∧ sp [x, y] S (fun z S' => ∃ c, z = .bl c ∧ R (.bl (ng ^^ c)) S') RE
section
variable {X : Cx} {E : XK} {C f : Addr} {fd : FuncData} {k : Nat} {ps : List Str} {sp : SpT}
end
section
variable {X : Cx} {E : XK} {C : Addr} {x : Str} {p pos : Pos}
/-- a class that is made without an __init__ -/
structure MkP (K : PySem.W.Frag) (D : Addr) : Prop where
  mks : PySem.W.makesIn K D = true
  kp : PySem.W.keepIn K (.ref D) = true
  hi : PySem.W.findIn K (.ref D) "__init__" = some (some (.builtin "object.__init__"))
  mr : PySem.W.mroIn K D (.type "object") = some true
def rMakeP (C : Addr) : TR := fun _ S R _ => R (.ins C []) S
end
section
variable {K : PySem.W.Frag} {x qual : Str} {st : Stmt} {f : Addr} {fd : FuncData} {ps : List Str} {dvs : List V}
/-- a def with defaults, every parameter written -/
theorem FunP.b (F : FunD K x qual (defArgs st) (defBody st) (defScope st) dvs [] f fd) (hd : dvs ≠ [])
    (h : ∀ (T : Addr) (kV doc pm : Value) (an : Option Addr) (cdv ct : Value) (us its : List Value), us.length = ps.length → its.length = dvs.length →
      ∃ k, bindArgs (PySem.W.fnOf x qual (defArgs st) (defBody st) (defScope st) (.ref T) kV doc pm an cdv ct) ⟨us, []⟩ = seqItems? (.ref T) >>= k ∧ k (some its.toArray) = pure (ps.zip us)) : Binds K fd ps [] := by
  obtain ⟨ds, r, b⟩ := F.binds1 (ps := ps) ps.length dvs.length hd (by omega) fun T kV doc pm an cdv ct us its l1 l2 => by
    obtain ⟨k, e1, e2⟩ := h T kV doc pm an cdv ct us its l1 l2
    exact ⟨k, e1, by rw [e2, ← l2, List.drop_length, List.append_nil]⟩
  rw [List.drop_length] at r
  cases r
  exact b
end

/-! a in (b, c), by the class's own __eq__ -/
namespace InOwn
open PySem PySem.Calls PyProof.Rows
section
variable {prog : Program} {w : World} {A : Around} {E : Value → Shared → Prop} {s : Shared} {l x : Addr} {items : Array Value}
theorem body {Q : Fin → Shared → Prop} (hl : IsTup s.heap l items) (I : List Value → Shared → Prop)
    (turn : ∀ y rest s, I (y :: rest) s → wpAny (model prog w) A (eqBool y (.ref x)) (fun r s' => if r = true then Q (.done (.ret (.bool true))) s' else I rest s') E s)
    (fin : ∀ s, I [] s → Q (.done (.ret (.bool false))) s) (h : I items.toList s) : wpAny (model prog w) A (Builtin.«tuple.__contains__» ⟨[.ref l, .ref x], []⟩) Q E s := by
  show wpAny _ _ (Builtin.Tuple.tupleItemsOf (.ref l) >>= _) _ _ s
  refine wpAny_bind (tupleItemsOf_ hl ?_)
  refine wpAny_bind (forIn_array_ _ (fun rest b s' => b.1 = none ∧ I rest s') _ ?_ ?_ items _ ⟨rfl, h⟩)
  · rintro y rest b s' ⟨hb, hI⟩
    refine wpAny_bind (wpAny_mono (turn y rest s' hI) (fun r s2 got => ?_) fun _ _ z => z)
    cases r with
    | true => exact wpAny_bind (wpAny_pure (wpAny_pure (wpAny_pure (by simpa using got))))
    | false => exact wpAny_pure ⟨rfl, by simpa using got⟩
  · rintro ⟨b1, b2⟩ s' ⟨hb, hI⟩
    simp only at hb
    subst hb
    exact wpAny_pure (fin s' hI)
theorem has {Q : Bool → Shared → Prop} (hl : IsTup s.heap l items) (I : List Value → Shared → Prop)
    (turn : ∀ y rest s, I (y :: rest) s → wpAny (model prog w) A.in1 (eqBool y (.ref x)) (fun r s' => if r = true then Q true s' else I rest s') E s)
    (fin : ∀ s, I [] s → Q false s) (h : I items.toList s) : wpAny (model prog w) A (contains (.ref l) (.ref x)) Q E s := by
  unfold contains
  refine wpAny_holding ?_
  refine wpAny_bind (wpAny_specialOf hl.typeIs slot_tuple_contains.lookup ?_)
  rw [if_neg (by decide)]
  exact wpAny_bind (wpAny_callSpecialUnlessNone?_slot (name := Str.ofString "__contains__") hl.typeIs slot_tuple_contains
    (wpAny_call_entry slot_tuple_contains hl.typeIs entry_tuple_contains (body hl I (fun y rest s' z => wpAny_mono (turn y rest s' z) (fun r s2 q => by
      cases r with
      | true => exact ⟨_, rfl, wpAny_truthy_bool (by simpa using q)⟩
      | false => simpa using q) fun _ _ z => z) (fun s' z => ⟨_, rfl, wpAny_truthy_bool (fin s' z)⟩) h) (args_tuple_contains _ _)))
end
end InOwn
/-! x in o by the class's own __contains__ -/
structure InO (K : PySem.W.Frag) (C f : Addr) : Prop where
  at_ : PySem.W.findIn K (.ref C) "__contains__" = some (some (.ref f))
  fn : PySem.W.isFn K (.ref f) = true
def kInOwn (C : Addr) (sp : SpT) (ng : Bool) : KB := fun x y S R RE => (∃ gs, insOf y S = some (C, gs)) ∧ sp [y, x] S (fun z S' => ∃ c, z = .bl c ∧ R (.bl (ng ^^ c)) S') RE
section
variable {X : Cx} {E : XK} {C f : Addr} {fd : FuncData} {k : Nat} {ps : List Str} {sp : SpT}
end
/-! x in (a, b, ..) by the elements' own __eq__; one thing is itself, whatever __eq__ says -/
def inOwnL (C : Addr) (sp : SpT) (x : T) (R : Bool → Store → Prop) (RE : XT) : List T → Store → Prop
  | [], S => R false S
  | y :: ys, S => R true S ∧ (∃ gs, insOf y S = some (C, gs)) ∧ sp [y, x] S (fun z S' => ∃ c, z = .bl c ∧ if c = true then R true S' else inOwnL C sp x R RE ys S') RE
def kInTup (C : Addr) (sp : SpT) : KB := fun x y S R RE => ∃ l, y = .tup l ∧ (∃ gs, x = .ins C gs) ∧ inOwnL C sp x (fun b S' => R (.bl b) S') RE l S
section
variable {X : Cx} {E : XK} {C f : Addr} {fd : FuncData} {k : Nat} {ps : List Str} {sp : SpT}
end

section
variable {X : Cx} {E : XK} {a b c : Expr} {pos : Pos} {t : TRA}
/-! a, b, c = .. -/
def sPar3 (i j l : Nat) (t : TRA) : TRS := fun D σ S => t σ S (fun ts S1 => ∃ x y z, ts = [x, y, z] ∧ D.nx (((σ.set i (some x)).set j (some y)).set l (some z)) S1) D.ex
end

/-! ### f-strings of texts and ints -/
def kFmt : T → Store → (T → Store → Prop) → Prop := fun x S R => match x with
  | .str y => y.length ≤ sizeLine ∧ R (.str y) S
  | .int i => i.natAbs.log2 < 1920 ∧ R (.str (toString i)) S
  | _ => False
def rFmt (ra : TR) : TR := fun σ S R RE => ra σ S (fun x S1 => kFmt x S1 R) RE
section
variable {X : Cx} {E : XK} {e v1 v2 : Expr} {rest : List Expr} {pos : Pos} {ra : TR}
inductive EJ (X : Cx) (E : XK) : List Expr → List TR → Prop where
  | nil : EJ X E [] []
  | cons {e : Expr} {t : TR} {es : List Expr} {ts : List TR} (h : ET X E e t) (r : EJ X E es ts) : EJ X E (e :: es) (t :: ts)
def rJs : List TR → Str → TR
  | [], acc => fun _ S R _ => R (.str acc) S
  | r :: rs, acc => fun σ S R RE => r σ S (fun x S1 => ∃ y : Str, x = .str y ∧ (acc ++ y).length ≤ sizeLine ∧ rJs rs (acc ++ y) σ S1 R RE) RE
end
/-! ### str(x), repr(x) of an instance whose class has the def -/
structure OwnDef (K : PySem.W.Frag) (C : Addr) (m : Str) (f : Addr) : Prop where
  at_ : PySem.W.findIn K (.ref C) m = some (some (.ref f))
  fn : PySem.W.isFn K (.ref f) = true
structure StrD (X : Cx) (m : Str) (D : Addr → SpT → Prop) : Prop where
  at_ : ∀ C sp, D C sp → ∃ k f fd ps, OwnDef X.K C m f ∧ FnT X.prog X.w X.K X.mg X.base k f fd ps sp ∧ Room (k + 2) X.A ∧ Binds X.K fd ps []
theorem StrD.one {X : Cx} {m : Str} {C f : Addr} {k : Nat} {fd : FuncData} {ps : List Str} {sp : SpT} (o : OwnDef X.K C m f) (F : FnT X.prog X.w X.K X.mg X.base k f fd ps sp) (hr : Room (k + 2) X.A) (hb : Binds X.K fd ps []) : StrD X m (one C sp) := ⟨fun C' sp' ⟨e1, e2⟩ => by
  subst e1 e2
  exact ⟨k, f, fd, ps, o, F, hr, hb⟩⟩
theorem StrD.or {X : Cx} {m : Str} {D1 D2 : Addr → SpT → Prop} (h1 : StrD X m D1) (h2 : StrD X m D2) : StrD X m (fun C sp => D1 C sp ∨ D2 C sp) := ⟨fun C sp d => d.elim (h1.at_ C sp) (h2.at_ C sp)⟩
def RStrD (K : PySem.W.Frag) (D : Addr → SpT → Prop) : List V → Hp → VK → Prop := fun vs H Q => ∃ C sp a dx fs, vs = [.ref a] ∧ H a = some (.ins C dx fs) ∧ D C sp ∧ UpF K sp [.ref a] H (fun v H' => (∃ y, v = .str y) ∧ Q v H') EF
def kStrOwn (D : Addr → SpT → Prop) : KA := fun xs S R _ => ∃ x C gs sp, xs = [x] ∧ insOf x S = some (C, gs) ∧ D C sp ∧ sp [x] S (fun z S' => (∃ y, z = .str y) ∧ R z S') XF
section
variable {X : Cx} {D : Addr → SpT → Prop}
end
/-! ### [..].index(x), flat things -/
def idxT (y : T) : List T → Option Nat
  | [] => none
  | z :: l => if eqT z y = true then some 0 else (idxT y l).map (· + 1)
theorem idx_rep {K : PySem.W.Frag} {Z : Addr → Prop} {S : Store} {H : Hp} {v : V} {y : T} (ry : Rep K Z S H v y) (fy : flatT y = true) : ∀ {vs : List V} {l : List T} {j : Nat}, Reps K Z S H vs l → l.all flatT = true → idxT y l = some j →
    vs.all flatV = true ∧ ∃ z, vs[j]? = some z ∧ eqV z v = true ∧ ∀ (m : Nat) (z' : V), m < j → vs[m]? = some z' → eqV z' v = false
  | _, _, j, .nil, _, e => by cases e
  | _, _, j, .cons (v := u) (t := z) (vs := vs) (ts := l) r rr, f, e => by
    rw [List.all_cons, Bool.and_eq_true] at f
    have q := eq_rep r ry f.1 fy
    have fl : ∀ {vs : List V} {l : List T}, Reps K Z S H vs l → l.all flatT = true → vs.all flatV = true := fun {vs l} => by
      intro r
      induction l generalizing vs with
      | nil => cases r; intro _; rfl
      | cons a l ih =>
        cases r with
        | cons r1 r2 =>
          intro h
          rw [List.all_cons, Bool.and_eq_true] at h
          rw [List.all_cons, flat_rep r1 h.1, ih r2 h.2]; rfl
    refine ⟨by rw [List.all_cons, flat_rep r f.1, fl rr f.2]; rfl, ?_⟩
    unfold idxT at e
    by_cases c : eqT z y = true
    · rw [if_pos c] at e
      cases e
      exact ⟨u, rfl, by rw [q]; exact c, fun m z' h => absurd h (Nat.not_lt_zero m)⟩
    · rw [if_neg c] at e
      obtain ⟨i, ei, rfl⟩ := Option.map_eq_some_iff.mp e
      obtain ⟨_, w, hw, ew, no⟩ := idx_rep ry fy rr f.2 ei
      refine ⟨w, hw, ew, fun m z' hm hz => ?_⟩
      cases m with
      | zero =>
        cases hz
        rw [q]
        exact Bool.eq_false_iff.mpr c
      | succ m => exact no m z' (by omega) hz
def rLidx (ra : TR) (t : TRA) : TR := fun σ S R RE => ra σ S (fun x S1 => ∃ l, x = .lst l ∧ t σ S1 (fun xs S2 => ∃ y j, xs = [y] ∧ flatT y = true ∧ l.all flatT = true ∧ idxT y l = some j ∧ R (.int (j : Nat)) S2) RE) RE
section
variable {X : Cx} {E : XK}
theorem et_lidx {apos cpos : Pos} {o e : Expr} {es : List Expr} {ra : TR} {t : TRA} (ho : ET X E o ra) (ha : AT X E (e :: es) t)
    (hbase : attributeBase o "index" X.env (eval o X.env) = eval o X.env := by rfl)
    (hfew : ((backTo cpos (starEach (e :: es) X.env)).all (fun x => !x.1) && (backToKw cpos (keywordEach [] X.env)).all (fun x => x.1.isSome)
      && decide ((e :: es).length + ([] : List Keyword).length + (if ([] : List Keyword).isEmpty then 0 else 1) < 30)) = true := by rfl)
    (hline : (apos.endLine == cpos.line) = true := by rfl) (hs : starEach (e :: es) X.env = (false, eval e X.env) :: starEach es X.env := by rfl) (hplain : (backTo cpos (starEach es X.env)).any (·.1) = false := by rfl) :
    ET X E (.Call (.Attribute o "index" apos) (e :: es) [] cpos) (rLidx ra t) :=
  ⟨pe_weak (pe_bm PySem.F.plainAttrs_list PySem.F.slot_list_index PySem.F.type_list_index mt_index ho.pe ha.pa hbase hfew hline hs hplain) fun sl H Q ⟨⟨Z, σ, S, R, RE, fr, ok, w, po, xo⟩⟩ => by
    refine ⟨Z, σ, S, _, RE, fr, ok, w, fun x S1 v H1 k1 le1 ok1 rep => ?_, xo⟩
    obtain ⟨l, rfl, k1⟩ := k1
    cases rep with
    | lst h1 r1 =>
      refine ⟨.inl ⟨rfl, _, h1.sq⟩, Z, σ, S1, _, RE, fr.le le1, ok1, k1, fun xs S2 ws H2 k2 le2 ok2 rs => ?_, xo.le le1⟩
      obtain ⟨y, j, rfl, fy, fl, ij, k2⟩ := k2
      cases rs with
      | @cons vy _ _ _ ry rr =>
        cases rr
        obtain ⟨fv, z, hz, ez, no⟩ := idx_rep ry fy (r1.le le2) fl ij
        exact ⟨_, _, vy, j, z, rfl, rfl, (h1.le le2).sq, flat_rep ry fy, fv, hz, ez, no, (po.le le1).le le2 _ _ _ _ k2 .refl ok2 (.int _)⟩⟩
end
/-! a + b, a new list that is to change -/
def kAddC : KB := fun x y S R _ => match x, y with
  | .lst a, .lst b => a.length + b.length ≤ sizeLine ∧ ∀ p, S p = none → R (.cell p) (S.put p (.lst (a ++ b)))
  | _, _ => False
/-! ### texts: methods, int(text) -/
def rStr0 (g : Str → T) (ra : TR) : TR := fun σ S R RE => ra σ S (fun x S1 => ∃ a, x = .str a ∧ R (g a) S1) RE
def rPart (ra rb : TR) : TR := fun σ S R RE => ra σ S (fun x S1 => ∃ a, x = .str a ∧ rb σ S1 (fun y S2 => ∃ b, y = .str b ∧ (b.length == 0) = false ∧ a.length ≤ sizeLine ∧ R (.tup [.str (Txt.partition a b).1, .str (Txt.partition a b).2.1, .str (Txt.partition a b).2.2]) S2) RE) RE
def rSplit (ra rb : TR) : TR := fun σ S R RE => ra σ S (fun x S1 => ∃ a, x = .str a ∧ rb σ S1 (fun y S2 => ∃ b, y = .str b ∧ (b.length == 0) = false ∧ a.length + 2 ≤ sizeLine ∧ R (.lst ((Txt.split a b).map .str)) S2) RE) RE
def kIntS : KA := fun xs S R _ => ∃ a n, xs = [.str a] ∧ PySem.intText? a = some n ∧ a.length ≤ 640 ∧ R (.int n) S
section
variable {X : Cx} {E : XK} {o e : Expr} {apos pos : Pos} {ra rb : TR}
end
/-! ### x, *xs = a list -/
namespace StarU
open PySem PySem.Spec PySem.Calls PyProof.Rows PySem.W
end StarU
def gStarV (K : PySem.W.Frag) (t : TGs) : TG := fun v σ H Q => ∃ a x xs, v = .ref a ∧ SqL K H a (x :: xs) ∧ xs.length < 16384 ∧ ∀ D, H D = none → t [x, .ref D] σ (upd H D (.lst xs)) Q
section
variable {X : Cx} {E : XK} {pos p1 p2 p3 : Pos} {x y : Str}
def gStarT (gs : TRGs) : TRG := fun t σ S R RE => ∃ a l, t = .lst (a :: l) ∧ l.length < 16384 ∧ gs [a, .lst l] σ S R RE
end
/-! ### a op b op c; the truth of a list -/
section
variable {X : Cx} {E : XK} {a b c : Expr} {pos : Pos} {ra rb rc : TR}
def rChain (k1 k2 : KB) (ra rb rc : TR) : TR := fun σ S R RE => ra σ S (fun x S1 => rb σ S1 (fun y S2 => k1 x y S2 (fun z S3 => ∃ d, z = .bl d ∧ (if d = true then rc σ S3 (fun w S4 => k2 y w S4 R RE) RE else R (.bl false) S3)) RE) RE) RE
theorem chain_up {K : PySem.W.Frag} {r1 r2 : R2} {k1 k2 : KB} (cv1 : Conv K E k1 r1) (cv2 : Conv K E k2 r2) {sl : L2.St} {H : Hp} {Q : VK} (h : UpE K E (rChain k1 k2 ra rb rc) sl H Q) : tChain r1 r2 (UpE K E ra) (UpE K E rb) (UpE K E rc) sl H Q := by
  obtain ⟨Z, σ, S, R, RE, fr, ok, w, po, xo⟩ := h.ex
  refine ⟨Z, σ, S, _, RE, fr, ok, w, fun x S1 v H1 k l1 ok1 rx => ?_, xo⟩
  refine ⟨Z, σ, S1, _, RE, fr.le l1, ok1, k, fun y S2 u H2 k l2 ok2 ry => ?_, xo.le l1⟩
  refine cv1 Z x y S2 v u H2 _ RE _ ok2 (rx.le l2) ry k (fun z S3 zv H3 k3 l3 ok3 rz => ?_) ((xo.le l1).le l2)
  obtain ⟨d, rfl, k3⟩ := k3
  cases rz
  refine ⟨d, rfl, ?_⟩
  cases d with
  | false =>
    rw [if_neg Bool.false_ne_true] at k3 ⊢
    exact ((po.le l1).le l2).le l3 _ _ _ _ k3 .refl ok3 (.bl false)
  | true =>
    rw [if_pos rfl] at k3 ⊢
    exact ⟨Z, σ, S3, _, RE, ((fr.le l1).le l2).le l3, ok3, k3, fun w' S4 wv H4 k4 l4 ok4 rw' => cv2 Z y w' S4 u wv H4 R RE Q ok4 ((ry.le l3).le l4) rw' k4 ((((po.le l1).le l2).le l3).le l4) ((((xo.le l1).le l2).le l3).le l4), ((xo.le l1).le l2).le l3⟩
theorem et_chain {op op' : CmpOp} {r1 r2 : R2} {k1 k2 : KB} (ho : OpR X (compareOp op) r1) (cv1 : Conv X.K E k1 r1) (ho' : OpR X (compareOp op') r2) (cv2 : Conv X.K E k2 r2) (ha : ET X E a ra) (hb : ET X E b rb) (hc : ET X E c rc)
    (hm : lastMarks [op, op'] [b, c] = false := by with_unfolding_all rfl) : ET X E (.Compare a [op, op'] [b, c] pos) (rChain k1 k2 ra rb rc) :=
  ⟨pe_weak (pe_chain ho ho' ha.pe hb.pe hc.pe hm) fun sl H Q h => chain_up cv1 cv2 h⟩
def truT : T → Option Bool
  | .bl b => some b
  | .lst l => some (!l.isEmpty)
  | .tup l => some (!l.isEmpty)
  | .non => some false
  | _ => none
def rTru (ra : TR) : TRB := fun σ S R RE => ra σ S (fun x S1 => ∃ d, truT x = some d ∧ R d S1) RE
end

/-! a != b, any type on the right that is no subclass of the left's -/
namespace NeOwn
open PySem PySem.Calls PyProof.Rows
section
variable {prog : Program} {w : World} {A : Around} {E : Value → Shared → Prop} {s : Shared} {K : PySem.W.Frag} {x C f : Addr} {ox : Obj} {od : Option Obj} {b tb : Value}
end
end NeOwn
/-! ### a == b where both sides' classes are of one family, each with an own __eq__ -/
def nfAll (K : PySem.W.Frag) (l : List Addr) : Bool := l.all fun a => l.all fun b => PySem.W.notFirst K a (.ref b)
theorem nfAll.at_ {K : PySem.W.Frag} {l : List Addr} (h : nfAll K l = true) {a b : Addr} (ha : a ∈ l) (hb : b ∈ l) : PySem.W.notFirst K a (.ref b) = true :=
  List.all_eq_true.mp (List.all_eq_true.mp h a ha) b hb
structure EqD (X : Cx) (D : Addr → SpT → Prop) : Prop where
  at_ : ∀ C sp, D C sp → ∃ k f fd ps, EqO X.K C f ∧ FnT X.prog X.w X.K X.mg X.base k f fd ps sp ∧ Room (k + 1) X.A ∧ Binds X.K fd ps []
theorem EqD.one {X : Cx} {C f : Addr} {k : Nat} {fd : FuncData} {ps : List Str} {sp : SpT} (o : EqO X.K C f) (F : FnT X.prog X.w X.K X.mg X.base k f fd ps sp) (hr : Room (k + 1) X.A) (hb : Binds X.K fd ps []) : EqD X (one C sp) := ⟨fun C' sp' ⟨e1, e2⟩ => by
  subst e1 e2
  exact ⟨k, f, fd, ps, o, F, hr, hb⟩⟩
theorem EqD.or {X : Cx} {D1 D2 : Addr → SpT → Prop} (h1 : EqD X D1) (h2 : EqD X D2) : EqD X (fun C sp => D1 C sp ∨ D2 C sp) := ⟨fun C sp d => d.elim (h1.at_ C sp) (h2.at_ C sp)⟩
def kEqOwnD (K : PySem.W.Frag) (D : Addr → SpT → Prop) (l : List Addr) : KB := fun x y S R RE => ∃ C gs sp C' gs', insOf x S = some (C, gs) ∧ insOf y S = some (C', gs') ∧ D C sp ∧ C ∈ l ∧ C' ∈ l ∧ sp [x, y] S (fun z S' => ∃ c, z = .bl c ∧ R (.bl c) S') RE
section
variable {X : Cx} {E : XK} {D : Addr → SpT → Prop} {l : List Addr}
def kNeOwnD (K : PySem.W.Frag) (D : Addr → SpT → Prop) (l : List Addr) : KB := fun x y S R RE => ∃ C gs sp C' gs', insOf x S = some (C, gs) ∧ insOf y S = some (C', gs') ∧ D C sp ∧ C ∈ l ∧ C' ∈ l ∧ sp [x, y] S (fun z S' => ∃ c, z = .bl c ∧ R (.bl (!c)) S') RE
end

/-! for i, x in enumerate(tuple) -/
namespace EnT
open PySem
section
variable {prog : Program} {w : World} {A : Around} {E : Value → Shared → Prop} {s : Shared}
end
end EnT
/-- the tuple at a, each item in a new pair -/
def IteT (K : PySem.W.Frag) (a : Addr) : It :=
  ⟨fun i H => ∃ (xs : List V) (x : V), SqT K H a xs ∧ xs[i]? = some x, fun i H v H' => ∃ T x, v = .ref T ∧ H T = none ∧ H' = upd H T (.tup [.int (i : Nat), x]) ∧ ∀ xs, SqT K H a xs → xs[i]? = some x, fun i H => ∃ xs : List V, SqT K H a xs ∧ xs.length ≤ i⟩
def iEnumV (K : PySem.W.Frag) (ta : TA) : TI := fun σ H R => ta σ H fun vs H1 => ∃ a xs, vs = [.ref a] ∧ SqT K H1 a xs ∧ R (IteT K a) H1
def enumT (ts : List T) : List T := ts.zipIdx.map fun p => T.tup [.int (p.2 : Nat), p.1]
def iEnumT (t : TRA) : TRI := fun σ S R RE => t σ S (fun xs S1 => ∃ ts, xs = [.tup ts] ∧ R (enumT ts) S1) RE
/-! a == b, a != b where the left side's type is built in and declines, and the right side's class has an own __eq__ -/
namespace Refl
open PySem PySem.Calls PyProof.Rows PySem.SeqAt
section
variable {prog : Program} {w : World} {A : Around} {E : Value → Shared → Prop} {s : Shared} {l x : Addr}
end

section
variable {prog : Program} {w : World} {A : Around} {E : Value → Shared → Prop} {s : Shared} {K : PySem.W.Frag} {x C f dx : Addr} {ox : Obj} {od : Option Obj} {v : Value} {T : String}
end
/-! who declines -/
section
variable {prog : Program} {w : World} {A : Around} {E : Value → Shared → Prop} {s : Shared} {x C dx l : Addr} {Q : Option Value → Shared → Prop}
end
end Refl

/-! ### a == b, a != b where one of the two is of a family of classes with own __eq__, the other of the family or of a built-in type -/
def tysR : List String := ["NoneType", "bool", "int", "str", "list", "tuple", "dict"]
def nfF (K : PySem.W.Frag) (l : List Addr) : Bool := (l.all fun a => l.all fun b => PySem.W.notFirst K a (.ref b)) && l.all fun a => tysR.all fun T => PySem.W.notFirst K a (.type T) && (PySem.W.subIn K (.ref a) (.type T) == some false) && (PySem.W.mroIn K a (.type T) == some false)
def InFam (l : List Addr) (tb : Value) : Prop := (∃ C, tb = .ref C ∧ C ∈ l) ∨ ∃ T, tb = .type T ∧ T ∈ tysR
theorem nfF.first {K : PySem.W.Frag} {l : List Addr} {a : Addr} {tb : Value} (h : nfF K l = true) (ha : a ∈ l) (hb : InFam l tb) : PySem.W.notFirst K a tb = true := by
  obtain ⟨h1, h2⟩ := Bool.and_eq_true_iff.mp h
  rcases hb with ⟨b, rfl, hb⟩ | ⟨T, rfl, hT⟩
  · exact List.all_eq_true.mp (List.all_eq_true.mp h1 a ha) b hb
  · exact (Bool.and_eq_true_iff.mp (Bool.and_eq_true_iff.mp (List.all_eq_true.mp (List.all_eq_true.mp h2 a ha) T hT)).1).1
theorem nfF.ty {K : PySem.W.Frag} {l : List Addr} {a : Addr} {T : String} (h : nfF K l = true) (ha : a ∈ l) (hT : T ∈ tysR) : PySem.W.subIn K (.ref a) (.type T) = some false ∧ PySem.W.mroIn K a (.type T) = some false := by
  obtain ⟨h1, h2⟩ := Bool.and_eq_true_iff.mp h
  have q := Bool.and_eq_true_iff.mp (List.all_eq_true.mp (List.all_eq_true.mp h2 a ha) T hT)
  exact ⟨beq_iff_eq.mp (Bool.and_eq_true_iff.mp q.1).2, beq_iff_eq.mp q.2⟩
def kEqFam (K : PySem.W.Frag) (D : Addr → SpT → Prop) (l : List Addr) (ng : Bool) : KB := fun x y S R RE =>
  (∃ C gs sp tb, insOf x S = some (C, gs) ∧ D C sp ∧ C ∈ l ∧ TyT K S y tb ∧ InFam l tb ∧ sp [x, y] S (fun z S' => ∃ c, z = .bl c ∧ R (.bl (ng ^^ c)) S') RE) ∨
  (∃ C gs sp T, insOf y S = some (C, gs) ∧ D C sp ∧ C ∈ l ∧ TyT K S x (.type T) ∧ T ∈ tysR ∧ sp [y, x] S (fun z S' => ∃ c, z = .bl c ∧ R (.bl (ng ^^ c)) S') RE)
section
variable {X : Cx} {E : XK} {D : Addr → SpT → Prop} {l : List Addr}
/-! ### an empty dict -/
def rDct : TR := fun _ S R _ => R .dct S
theorem et_dct {pos : Pos} : ET X E (.Dict [] [] pos) rDct := ⟨pe_weak pe_dnewK fun sl H Q h => by
  obtain ⟨Z, σ, S, R, RE, fr, ok, w, po, xo⟩ := h.ex
  exact fun p hp => po _ S _ _ w (le_new hp) (ok.new hp) (.dct upd_same ⟨ok.free hp, ok.nz hp⟩)⟩
end
/-! ### defs with self and *args -/
section
variable {P : Program} {w : World} {K : PySem.W.Frag} {mg : Str → Option Value} {base : Heap} {k : Nat} {f : Addr} {fd : FuncData} {sp : SpT}
end
section
variable {X : Cx} {E : XK} {k : Nat} {f C : Addr} {sp : SpT} {x : Str} {p pos : Pos} {e : Expr} {es : List Expr} {t : TRA}
end
/-! ### int(bool), int(int) -/
def kInt1 : KA := fun xs S R _ => match xs with
  | [.int i] => R (.int i) S
  | [.bl b] => R (.int (if b then 1 else 0)) S
  | _ => False
/-! ### C(*xs) -/
section
variable {X : Cx} {E : XK} {k : Nat} {f C : Addr} {sp : SpT} {x : Str} {p p2 pos : Pos} {e a b : Expr} {ra rb : TR}
def rMakeStar (C : Addr) (sp : SpT) (ra : TR) : TR := fun σ S R RE => ra σ S (fun y S1 => ∃ ts, seqOf y = some ts ∧ ∀ u, S1 u = none → sp (.cell u :: ts) (S1.put u (.ins C [])) (fun z S2 => z = .non ∧ ∃ gs, S2 u = some (.ins C gs) ∧ R (.ins C gs) (S2.drop u)) RE) RE
/-! ### t + u, empty ones too -/
def kAddT : KB := fun x y S R _ => ∃ a b, x = .tup a ∧ y = .tup b ∧ a.length + b.length ≤ sizeLine ∧ R (.tup (a ++ b)) S
/-! ### data in a list of data -/
def kInD (ng : Bool) : KB := fun x y S R _ => ∃ d ds, x.dat = some d ∧ y.dat = some (.list ds) ∧ SeqAt.shaped d = true ∧ SeqAt.shaped (.list ds) = true ∧ R (.bl (ng ^^ ds.any fun z => PyData.eqv z d)) S
end
/-! ### x in (a, b, ..), all of a family of classes with own __eq__, whose fields are flat -/
def flatF (gs : List (Str × T)) : Bool := gs.all fun p => flatT p.2
section
variable {K : PySem.W.Frag} {Z : Addr → Prop} {S : Store} {H : Hp}
end
def inFamL (D : Addr → SpT → Prop) (l : List Addr) (x : T) (R : Bool → Store → Prop) (RE : XT) : List T → Store → Prop
  | [], S => R false S
  | y :: ys, S => ∃ C gs sp, y = .ins C gs ∧ flatF gs = true ∧ (y = x → R true S) ∧ D C sp ∧ C ∈ l ∧ sp [y, x] S (fun z S' => ∃ c, z = .bl c ∧ if c = true then R true S' else inFamL D l x R RE ys S') RE
def kInFam (D : Addr → SpT → Prop) (l : List Addr) : KB := fun x y S R RE => ∃ ls C' gx, y = .tup ls ∧ x = .ins C' gx ∧ flatF gx = true ∧ C' ∈ l ∧ inFamL D l x (fun b S' => R (.bl b) S') RE ls S
section
variable {X : Cx} {E : XK} {D : Addr → SpT → Prop} {l : List Addr}
end
/-! ### o[i] by the class's own __getitem__ -/
structure GetO (K : PySem.W.Frag) (C f : Addr) : Prop where
  at_ : PySem.W.findIn K (.ref C) "__getitem__" = some (some (.ref f))
  fn : PySem.W.isFn K (.ref f) = true
  fi : PySem.W.fnIn K f = true
def kIxOwn (C : Addr) (sp : SpT) : KB := fun x y S R RE => (∃ gs, insOf x S = some (C, gs)) ∧ sp [x, y] S R RE
section
variable {X : Cx} {E : XK} {C f : Addr} {fd : FuncData} {k : Nat} {ps : List Str} {sp : SpT} {a b : Expr} {pos : Pos} {ra rb : TR}
end
/-! ### C.f(..), f a static def of the class -/
structure StF (K : PySem.W.Frag) (C f : Addr) (m : Str) : Prop where
  ex : ∃ q rest, PySem.W.findCls K (.ref C) (.type "type") m = some (.get (.builtin "staticmethod.__get__") (.ref q) .none (.ref C)) ∧ PySem.W.recIn K q "staticmethod" = some (.ref f :: rest)
section
variable {X : Cx} {E : XK} {k : Nat} {f C : Addr} {fd : FuncData} {ps : List Str} {sp : SpT} {dts : List T} {x m : Str} {p pos apos : Pos} {e : Expr} {es : List Expr} {t : TRA}
end

/-! t * 1 -/
namespace Mul1
open PySem PySem.Spec PyProof.Rows
def rRep1 (K : PySem.W.Frag) : L2.R2 := fun x y H Q => ∃ l xs, x = .ref l ∧ y = .int 1 ∧ L2.SqT K H l xs ∧ Q (.ref l) H
end Mul1
/-! ### len(o) by the class's own __len__ -/
def RLenOwn (K : PySem.W.Frag) (C : Addr) (sp : SpT) : List V → Hp → VK → Prop := fun vs H Q => ∃ a dx fs, vs = [.ref a] ∧ H a = some (.ins C dx fs) ∧ UpF K sp [.ref a] H (fun v H' => ∃ i, v = .int i ∧ 0 ≤ i ∧ i < 2 ^ 63 ∧ Q (.int i) H') EF
def kLenOwn (C : Addr) (sp : SpT) : KA := fun xs S R _ => ∃ x gs, xs = [x] ∧ insOf x S = some (C, gs) ∧ sp [x] S (fun z S' => ∃ i, z = .int i ∧ 0 ≤ i ∧ i < 2 ^ 63 ∧ R z S') XF
section
variable {X : Cx} {E : XK} {C f : Addr} {fd : FuncData} {k : Nat} {ps : List Str} {sp : SpT}
/-! ### sep.join(texts) -/
def rJoin (ra rb : TR) : TR := fun σ S R RE => ra σ S (fun x S1 => ∃ a, x = .str a ∧ rb σ S1 (fun y S2 => ∃ ys : List Str, seqOf y = some (ys.map T.str) ∧ (ys.map (·.length)).sum + ys.length * a.length ≤ 16777216 ∧ R (.str (Txt.join a ys)) S2) RE) RE
/-! ### t * k, t not empty, k > 0 -/
def kMulT : KB := fun x y S R _ => ∃ a k, x = .tup a ∧ y = .int k ∧ a ≠ [] ∧ 1 ≤ k ∧ k ≤ 1000 ∧ a.length ≤ 1000 ∧ R (.tup (List.replicate k.toNat a).flatten) S
end
/-! ### [.. for a, b in ..] -/
def prF (σ : Fm) (i j : Nat) : T → Fm
  | .tup [a, b] => (σ.set i (some a)).set j (some b)
  | _ => σ
def rLcP (ri : TRI) (i j : Nat) (tt : TRB) (re : TR) : TR := fun σ S R RE => ri σ S (fun ts S1 => (∀ t ∈ ts, ∃ a b, t = .tup [a, b]) ∧ rComp (prF σ i j) tt re ts [] S1 (fun ys S2 => R (.lst ys) S2)) RE
def gPair (K : PySem.W.Frag) (i j : Nat) : TG := gTup K 2 (gCons (gName i) (gCons (gName j) gNil))
/-! zip(tuple, list) -/
namespace ZipM
open PySem
section
variable {prog : Program} {w : World} {A : Around} {E : Value → Shared → Prop} {s : Shared}
end
abbrev mH1 (h : Heap) (l1 : Addr) : Heap := h.push { cls := .type "tuple_iterator", data := .fields #[.ref l1, .int 0 0] }
abbrev mH2 (h : Heap) (l1 l2 : Addr) : Heap := (mH1 h l1).push { cls := .type "list_iterator", data := .fields #[.ref l2, .int 0 0] }
abbrev mH3 (h : Heap) (l1 l2 : Addr) : Heap := (mH2 h l1 l2).push { cls := .type "tuple", data := .seq #[.ref h.objs.size, .ref (mH1 h l1).objs.size] }
abbrev mH4 (h : Heap) (l1 l2 : Addr) : Heap := (mH3 h l1 l2).push { cls := .type "tuple", data := .seq #[.none, .none] }
abbrev mH5 (h : Heap) (l1 l2 : Addr) : Heap := (mH4 h l1 l2).push { cls := .type "zip", data := .fields #[.none, .bool false, .bool false, .ref (mH2 h l1 l2).objs.size, .ref (mH3 h l1 l2).objs.size] }
section
variable {prog : Program} {w : World} {A : Around} {E : Value → Shared → Prop} {s : Shared}
end
end ZipM
/-- the tuple at a and the list at b as they stand at each turn, the items in new pairs -/
def ItzM (K : PySem.W.Frag) (a b : Addr) : It :=
  ⟨fun i H => ∃ (xs ys : List V) (x y : V), SqT K H a xs ∧ SqL K H b ys ∧ xs[i]? = some x ∧ ys[i]? = some y,
    fun i H v H' => ∃ T x y, v = .ref T ∧ H T = none ∧ H' = upd H T (.tup [x, y]) ∧ (∀ xs, SqT K H a xs → xs[i]? = some x) ∧ ∀ ys, SqL K H b ys → ys[i]? = some y,
    fun i H => ∃ xs ys : List V, SqT K H a xs ∧ SqL K H b ys ∧ (xs.length ≤ i ∨ ys.length ≤ i)⟩
def iZipV (K : PySem.W.Frag) (ta : TA) : TI := fun σ H R => ta σ H fun vs H1 => ∃ a b xs ys, vs = [.ref a, .ref b] ∧ SqT K H1 a xs ∧ SqL K H1 b ys ∧ R (ItzM K a b) H1
def zipT : List T → List T → List T
  | a :: as, b :: bs => .tup [a, b] :: zipT as bs
  | _, _ => []
def iZipM (t : TRA) : TRI := fun σ S R RE => t σ S (fun xs S1 => ∃ ts us y, xs = [.tup ts, y] ∧ ((y = .lst us) ∨ y = .scr us) ∧ R (zipT ts us) S1) RE
/-! ### C.m(..), m a classmethod; cls(..), cls a local that holds the class -/
section
variable {X : Cx} {E : XK} {k i : Nat} {f C g p0 : Addr} {fd : FuncData} {ps : List Str} {sp : SpT} {dts : List T} {x m : Str} {p p2 pos apos : Pos} {e o : Expr} {es : List Expr} {t : TRA} {ra : TR}
def rCMeth (C : Addr) (sp : SpT) (t : TRA) : TR := fun σ S R RE => t σ S (fun xs S1 => sp (.st C :: xs) S1 R RE) RE
/-- cls(*xs) -/
def rClsStar (i : Nat) (C : Addr) (sp : SpT) (ra : TR) : TR := fun σ S R RE => σ[i]? = some (some (.st C)) ∧ rMakeStar C sp ra σ S R RE
end

/-! x in a list, element by element; at each turn the list is read anew -/
namespace InLst
open PySem PySem.SeqAt MeetsSeq MeetsSeq2 MeetsSeq3 SeqRoads2 PyProof.Rows
section
variable {prog : Program} {w : World} {A : Around} {R : Result → Shared → Prop}
def Turns (prog : Program) (w : World) (A : Around) (R : Result → Shared → Prop) (l : Addr) (x : Value) (N : Nat) (I : Nat → Shared → Prop) : Prop :=
  ∀ i s, I i s → ∃ (items : Array Value) (n : Nat), s.heap.get? l = some { cls := .type "list", data := .seq items n } ∧ items.size = N ∧
    ∀ h : i < items.size, wpAny (model prog w) A.in1 (eqBool items[i] x) (fun r s' => if r = true then R (.ok (.ret (.bool true))) s' else I (i + 1) s') (fun e s' => R (.error e) s') s
theorem loop (l : Addr) (x : Value) (N : Nat) (I : Nat → Shared → Prop) (hl : Turns prog w A R l x N I) (fin : ∀ s, I N s → R (.ok (.ret (.bool false))) s) (k : Nat) :
    ∀ i : Nat, N - i = k → i ≤ N → ∀ s, I i s → wpAny (model prog w) A.in1 (Builtin.«list.__contains__.loop» ⟨[.ref l, x, rawInt i], []⟩) (GQ.FinOf prog w A R) (fun e s' => R (.error e) s') s := by
  induction k with
  | zero =>
    intro i hk hi s h
    obtain ⟨items, n, h1, hs, _⟩ := hl _ _ h
    have ei : i = N := by omega
    have hR : R (.ok (.ret (.bool false))) s := fin s (ei ▸ h)
    obtain ⟨hp, g, d, tk, os⟩ := s
    wp_walk using PySem.AutoSeq1.wpAny_loadPart' h1
    have hn : items[((i : Nat) : Int).toNat]? = none := by simp; omega
    rw [hn]
    wp_walk
    exact hR
  | succ k ih =>
    intro i hk hi s h
    obtain ⟨items, n, h1, hs, turn⟩ := hl _ _ h
    have hlt : i < items.size := by omega
    have ht := turn hlt
    obtain ⟨hp, g, d, tk, os⟩ := s
    wp_walk using PySem.AutoSeq1.wpAny_loadPart' h1
    have hn : items[((i : Nat) : Int).toNat]? = some items[i] := by simp [hlt]
    rw [hn]
    refine wpAny_bind (wpAny_mono ht (fun r s2 h2 => ?_) fun _ _ q => q)
    cases r with
    | true =>
      rw [if_pos rfl] at h2
      obtain ⟨hp2, g2, d2, tk2, os2⟩ := s2
      wp_walk
      exact h2
    | false =>
      rw [if_neg Bool.false_ne_true] at h2
      have hrec := ih (i + 1) (by omega) (by omega) s2 h2
      have hc : ((i : Int) + 1) = ((i + 1 : Nat) : Int) := by omega
      obtain ⟨hp2, g2, d2, tk2, os2⟩ := s2
      wp_walk
      rw [hc]
      exact ⟨plainId_quiet plain_contains_loop _, codeAny_builtin entry_contains_loop (by
        rw [Around.under_plainId plain_contains_loop _]
        exact hrec)⟩
theorem body (l : Addr) (x : Value) (N : Nat) (I : Nat → Shared → Prop) (hl : Turns prog w A R l x N I) (fin : ∀ s, I N s → R (.ok (.ret (.bool false))) s) {s : Shared} (h : I 0 s) :
    wpAny (model prog w) A.in1 (Builtin.«list.__contains__» ⟨[.ref l, x], []⟩) (GQ.FinOf prog w A R) (fun e s' => R (.error e) s') s := by
  have hrec := loop (A := A) (R := R) l x N I hl fin _ 0 rfl (Nat.zero_le _) s h
  obtain ⟨hp, g, d, tk, os⟩ := s
  wp_walk
  exact ⟨plainId_quiet plain_contains_loop _, codeAny_builtin entry_contains_loop (by
    rw [Around.under_plainId plain_contains_loop _]
    exact hrec)⟩
end
section
variable {prog : Program} {w : World} {A : Around} {E : Value → Shared → Prop} {s : Shared} {l : Addr} {x : Value}
theorem has {N : Nat} {Q : Bool → Shared → Prop} (I : Nat → Shared → Prop) (hl : Turns prog w A (wants (fun r s' => ∃ b, r = .bool b ∧ Q b s') E) l x N I) (fin : ∀ s, I N s → Q false s) (h : I 0 s) : wpAny (model prog w) A (contains (.ref l) x) Q E s := by
  obtain ⟨items, n, h1, _, _⟩ := hl _ _ h
  have hT : s.TypeIs (.ref l) "list" := ⟨_, h1, rfl⟩
  unfold contains
  refine wpAny_holding ?_
  refine wpAny_bind (wpAny_specialOf hT slot_list_contains.lookup ?_)
  rw [if_neg (by decide)]
  refine wpAny_bind (wpAny_callSpecialUnlessNone?_slot (name := Str.ofString "__contains__") hT slot_list_contains ?_)
  refine wpAny_mono (GQ.call_here (Q := fun r s' => ∃ b, r = .bool b ∧ Q b s') slot_list_contains hT entry_list_contains (args_list_contains _ _) ?_) (fun r s' ⟨b, e, q⟩ => ?_) fun _ _ q => q
  · exact body (R := wants (fun r s' => ∃ b, r = .bool b ∧ Q b s') E) l x N I hl (fun s q => ⟨false, rfl, fin s q⟩) h
  · subst e
    exact wpAny_truthy_bool q
end
end InLst
/-! ### None in a list of instances of a family with own __eq__ -/
def nonL (D : Addr → SpT → Prop) (l : List Addr) (R : Bool → Store → Prop) (RE : XT) : List T → Store → Prop
  | [], S => R false S
  | y :: ys, S => ∃ C gs sp, y = .ins C gs ∧ D C sp ∧ C ∈ l ∧ sp [y, .non] S (fun z S' => ∃ c, z = .bl c ∧ if c = true then R true S' else nonL D l R RE ys S') RE
def kNonIn (D : Addr → SpT → Prop) (l : List Addr) : KB := fun x y S R RE => ∃ ls, x = .non ∧ y = .lst ls ∧ nonL D l (fun b S' => R (.bl b) S') RE ls S
section
variable {X : Cx} {E : XK} {D : Addr → SpT → Prop} {l : List Addr}
end

section
variable {X : Cx} {E : XK} {k i : Nat} {f C : Addr} {fd : FuncData} {ps : List Str} {sp : SpT} {dts : List T} {x : Str} {p pos : Pos} {e : Expr} {es : List Expr} {t : TRA}
/-- cls(a, ..) -/
def rClsMake (i : Nat) (C : Addr) (sp : SpT) (dts : List T) (t : TRA) : TR := fun σ S R RE => σ[i]? = some (some (.st C)) ∧ rMake C sp dts t σ S R RE
end
set_option maxHeartbeats 2000000
/-! bool(o) where o's class has a __len__ and no __bool__ -/
namespace TruO
open PySem PySem.Calls PySem.Sem PyProof.Rows Builtin PySem.W
section
variable {prog : Program} {w : World} {A : Around} {E : Value → Shared → Prop} {s : Shared} {K : Frag} {x C L f : Addr} {h₀ : Heap} {m : Str → Option Value} {ox : Obj} {od : Option Obj}
end
end TruO
/-! ### bool(o) by the class's own __len__ -/
def RBoolOwn (K : PySem.W.Frag) (C : Addr) (sp : SpT) : List V → Hp → VK → Prop := fun vs H Q => ∃ a dx fs, vs = [.ref a] ∧ H a = some (.ins C dx fs) ∧ UpF K sp [.ref a] H (fun v H' => ∃ i, v = .int i ∧ 0 ≤ i ∧ i < 2 ^ 63 ∧ Q (.bl (i != 0)) H') EF
def kBoolOwn (C : Addr) (sp : SpT) : KA := fun xs S R _ => ∃ x gs, xs = [x] ∧ insOf x S = some (C, gs) ∧ sp [x] S (fun z S' => ∃ i, z = .int i ∧ 0 ≤ i ∧ i < 2 ^ 63 ∧ R (.bl (i != 0)) S') XF
section
variable {X : Cx} {E : XK} {C f : Addr} {fd : FuncData} {k : Nat} {ps : List Str} {sp : SpT}
end

/-! list(zip(tuple, list)) -/
namespace ZipL
open PySem PySem.Spec PyProof.Rows
section
variable {prog : Program} {w : World} {A : Around} {E : Value → Shared → Prop} {s : Shared}
end
/-- how the zip stands at turn i; S: the list that is filled -/
def Zst (z TI TO i1 i2 a b S : Addr) (i : Nat) (h : Heap) : Prop :=
  IsPair h TI (.ref i1) (.ref i2) ∧ h.IsTupleIter i1 a i ∧ h.IsListIter i2 b i ∧ (∃ o, h.get? TO = some o) ∧
    ((IsZip h z TI TO .none ∧ ∃ x y, IsPair h TO x y) ∨ ∃ T f oT, IsZipHeld h z TI TO T f ∧ h.get? T = some oT ∧ T ≠ z ∧ T ≠ i1 ∧ T ≠ i2 ∧ T ≠ S)
structure ZOff (z TI TO i1 i2 S : Addr) : Prop where
  z : S ≠ z
  TI : S ≠ TI
  TO : S ≠ TO
  i1 : S ≠ i1
  i2 : S ≠ i2
theorem Zst.keep {z TI TO i1 i2 a b S : Addr} {i : Nat} {h h' : Heap} (O : ZOff z TI TO i1 i2 S) (st : Zst z TI TO i1 i2 a b S i h) (k : ∀ c o, c ≠ S → h.get? c = some o → h'.get? c = some o) : Zst z TI TO i1 i2 a b S i h' := by
  obtain ⟨hTI, h1, h2, ⟨oo, ho⟩, hz⟩ := st
  refine ⟨k _ _ O.TI.symm hTI, h1.at fun o e => k _ o O.i1.symm e, h2.at fun o e => k _ o O.i2.symm e, ⟨oo, k _ _ O.TO.symm ho⟩, ?_⟩
  rcases hz with ⟨hz, x, y, hTO⟩ | ⟨T, f, oT, hz, hT, r1, r2, r3, r4⟩
  · exact .inl ⟨k _ _ O.z.symm hz, x, y, k _ _ O.TO.symm hTO⟩
  · exact .inr ⟨T, f, oT, k _ _ O.z.symm hz, k _ _ r4 hT, r1, r2, r3, r4⟩
end ZipL
open ZipL
section
variable {X : Cx} {pins : List (Addr × Obj)} {σ : L2.St} {z TI TO i1 i2 a b S : Addr} {res : Value} {W : Nat → Nat → Hp → Prop} {Q : V → Hp → Prop}
def WStep (K : PySem.W.Frag) (a b S : Addr) (W : Nat → Nat → Hp → Prop) (Q : V → Hp → Prop) : Prop :=
  ∀ i m H, W i m H → ((ItzM K a b).stop i H ∧ Q (.ref S) H) ∨ ((ItzM K a b).go i H ∧ ∃ Nx : Hp → Prop, (∀ H', Nx H' → ∃ m', m' < m ∧ W (i + 1) m' H') ∧
    ∀ x H', (ItzM K a b).yld i H x H' → ∃ acc, H' S = some (.lst acc) ∧ acc.length < sizeLine ∧ Nx (upd H' S (.lst (acc ++ [x]))))
end
def rLzV (K : PySem.W.Frag) (ta : TA) : TE := fun σ H Q => ta σ H fun vs H1 => ∃ a b, vs = [.ref a, .ref b] ∧ (∃ xs, SqT K H1 a xs) ∧ (∃ ys, SqL K H1 b ys) ∧ ∀ D, H1 D = none → ∃ W : Nat → Nat → Hp → Prop, (∃ m, W 0 m (upd H1 D (.lst []))) ∧ WStep K a b D W Q
def rLz (t : TRA) : TR := fun σ S R RE => t σ S (fun xs S1 => ∃ ts us y, xs = [.tup ts, y] ∧ ((y = .lst us) ∨ y = .scr us) ∧ (zipT ts us).length ≤ sizeLine ∧ R (.lst (zipT ts us)) S1) RE
/-! ### repr of None, a bool, an int, a text, or of data -/
inductive ShV : V → T → Str → Prop where
  | non : ShV .non .non "None"
  | bl (b : Bool) : ShV (.bl b) (.bl b) (if b = true then Str.ofString "True" else Str.ofString "False")
  | int {i : Int} (h : i.natAbs < 2 ^ 1900) : ShV (.int i) (.int i) (toString i : String)
  | str {x : Str} (h : (reprText x).length ≤ 16777216) : ShV (.str x) (.str x) (reprText x)
def RReprA (K : PySem.W.Frag) (xs : List V) (H : Hp) (Q : VK) : Prop := RRepr K xs H Q ∨ ∃ (v : V) (x : T) (t : Str), xs = [v] ∧ ShV v x t ∧ Q (.str t) H
def kReprA : KA := fun xs S R RE => kRepr xs S R RE ∨ ∃ (v : V) (x : T) (t : Str), xs = [x] ∧ ShV v x t ∧ R (.str t) S
/-! (a, ..) == (b, ..), the items instances of a family of classes with own __eq__ -/
namespace TupEq
open PySem PySem.SeqAt
open MeetsSeq MeetsSeq2 MeetsSeq3 SeqRoads2
section
variable {prog : Program} {w : World} {A : Around} {R : Result → Shared → Prop}
theorem body (l b : Addr) (items items2 : Array Value) (n n2 : Nat) (dd dd2 : Option Addr) (sl sl2 : Array (Option Value)) (I : List (Value × Value) → Shared → Prop)
    (turn : ∀ x y rest s, I ((x, y) :: rest) s → wpAny (model prog w) A.in1 (eqBool x y) (fun r s' => if r = true then I rest s' else R (.ok (.ret (.bool false))) s') (fun e s' => R (.error e) s') s)
    (fin : ∀ s, I [] s → R (.ok (.ret (.bool (items.size == items2.size)))) s) {s : Shared} (hl1 : s.heap.get? l = some { cls := .type "tuple", dict := dd, data := .seq items n, slots := sl }) (hb1 : s.heap.get? b = some { cls := .type "tuple", dict := dd2, data := .seq items2 n2, slots := sl2 })
    (h : I (items.toList.zip items2.toList) s) :
    wpAny (model prog w) A.in1 (Builtin.«tuple.__eq__» ⟨[.ref l, .ref b], []⟩) (GQ.FinOf prog w A R) (fun e s' => R (.error e) s') s := by
  have f2 := PySem.AutoSeq1.sub_tuple_tuple
  have h0 := h
  obtain ⟨hp, g, d, tk, os⟩ := s
  wp_walk using PySem.AutoSeq1.wpAny_loadPart' hl1, PySem.AutoSeq1.wpAny_loadPart' hb1, wpAny_forIn_list _ (fun rest b s' => b.1 = none ∧ I rest s') _
  case turn =>
    rintro ⟨y, x⟩ rest b s' ⟨hb', hI⟩
    refine wpAny_bind (wpAny_mono (turn y x rest s' hI) (fun r s2 q2 => ?_) fun _ _ x => x)
    cases r with
    | true =>
      rw [if_pos rfl] at q2
      wp_walk
      exact ⟨rfl, q2⟩
    | false =>
      rw [if_neg Bool.false_ne_true] at q2
      wp_walk
      exact q2
  case fin =>
    rintro ⟨b1, b2⟩ s' ⟨hb', hI⟩
    simp only at hb'
    subst hb'
    have hR : R (.ok (.ret (.bool (items.size == items2.size)))) s' := fin s' hI
    wp_walk
    simpa [Builtin.Tuple.tupleCompareSizes] using hR
  case h =>
    exact ⟨rfl, h0⟩
end
section
variable {prog : Program} {w : World} {A : Around} {E : Value → Shared → Prop} {s : Shared}
theorem rc {l b : Addr} {items items2 : Array Value} {Q : Value → Shared → Prop} (hu : A.units < cLine) (I : List (Value × Value) → Shared → Prop)
    (hl : s.heap.IsTuple l items) (hb : s.heap.IsTuple b items2)
    (turn : ∀ x y rest s, I ((x, y) :: rest) s → wpAny (model prog w) A.in1 (eqBool x y) (fun r s' => if r = true then I rest s' else Q (.bool false) s') E s)
    (fin : ∀ s, I [] s → Q (.bool (items.size == items2.size)) s) (h : I (items.toList.zip items2.toList) s) : wpAny (model prog w) A (richCompare .Eq (.ref l) (.ref b)) Q E s := by
  obtain ⟨⟨cls, dd, data, sl⟩, ho, hc, n, hd⟩ := id hl
  obtain ⟨⟨cls2, dd2, data2, sl2⟩, ho2, hc2, n2, hd2⟩ := id hb
  simp only at hc hd hc2 hd2
  subst hc hd hc2 hd2
  refine wpAny_richCompare_same_room (op := .Eq) ⟨_, ho, rfl⟩ ⟨_, ho2, rfl⟩ F.slot_tuple_eq (GQ.call_here F.slot_tuple_eq ⟨_, ho, rfl⟩ F.entry_tuple_eq (F.args_tuple_eq_2 _ _) ?_) hu
  exact body (R := wants (fun v s' => v ≠ .notImplemented ∧ Q v s') E) l b items items2 n n2 dd dd2 sl sl2 I (fun x y rest s z => wpAny_mono (turn x y rest s z) (fun r s' q => by
    cases r with
    | true => simpa using q
    | false => exact ⟨(fun x => nomatch x), by simpa using q⟩) fun _ _ z => z) (fun s' q => ⟨(fun x => nomatch x), fin s' q⟩) ho ho2 h
end
end TupEq
def eqTupL (D : Addr → SpT → Prop) (l : List Addr) (R : Bool → Store → Prop) (RE : XT) (len : Bool) : List T → List T → Store → Prop
  | x :: xs, y :: ys, S => ∃ C gs sp C' hs, x = .ins C gs ∧ y = .ins C' hs ∧ flatF gs = true ∧ flatF hs = true ∧ D C sp ∧ C ∈ l ∧ C' ∈ l ∧ (x = y → eqTupL D l R RE len xs ys S) ∧
      sp [x, y] S (fun z S' => ∃ c, z = .bl c ∧ if c = true then eqTupL D l R RE len xs ys S' else R false S') RE
  | _, _, S => R len S
def kEqTup (D : Addr → SpT → Prop) (l : List Addr) : KB := fun x y S R RE => ∃ xs ys, x = .tup xs ∧ y = .tup ys ∧ eqTupL D l (fun b S' => R (.bl b) S') RE (xs.length == ys.length) xs ys S
section
variable {X : Cx} {E : XK} {D : Addr → SpT → Prop} {l : List Addr}
end

/-! ### xs[::-1] of a list -/
def rRevL (ra : TR) : TR := fun σ S R RE => ra σ S (fun x S1 => ∃ l, (x = .lst l ∨ x = .scr l) ∧ R (.lst l.reverse) S1) RE
namespace KwM
open PySem PySem.Calls PyProof.Rows PySem.W
end KwM
/-! ### C.m(k=..), m a classmethod -/
section
variable {X : Cx} {E : XK} {k : Nat} {C g p0 : Addr} {fd : FuncData} {ps : List Str} {sp : SpT} {ks : List Str} {gT : List T → List T → List T} {x m : Str} {p pos apos : Pos} {kws : List Keyword} {tk : TRA}
def rCMethK (C : Addr) (sp : SpT) (n : Nat) (gT : List T → List T → List T) (tk : TRA) : TR := fun σ S R RE => tk σ S (fun zs S1 => zs.length = n ∧ sp (gT [.st C] zs) S1 R RE) RE
end

/-! ### an error as a value: C(e) of an error's class -/
section
variable {P : Program} {w : World} {H : Hp} {h : Heap} {b : Addr} {u : HO}
theorem hok_more (x : HOk P w H h) (hb : H b = none) (new : ObjOk P w (upd H b u) h b u) : HOk P w (upd H b u) h := fun c q e => by
  by_cases hc : c = b
  · subst hc; rw [upd_same] at e; cases e; exact new
  · rw [upd_ne hc] at e
    exact (x c q e).stay (fun _ _ _ z => z) (fun _ z => by rw [upd_ne (ne_of_none z hb)]; exact z) fun _ _ z => by rw [upd_ne (ne_of_none z hb)]; exact z
end
section
variable {X : Cx} {pins : List (Addr × Obj)} {σ : L2.St} {H : Hp} {s : Shared}
theorem inv_laid2 {a b : Addr} {o u : HO} {h' : Heap} {t' : Nat} (I : Inv X pins σ H s) (k : ∀ c q, s.heap.get? c = some q → h'.get? c = some q) (ha : s.heap.objs.size ≤ a) (hb : s.heap.objs.size ≤ b) (ne : b ≠ a)
    (na : ObjOk X.prog X.w (upd H a o) h' a o) (nb : ObjOk X.prog X.w (upd (upd H a o) b u) h' b u) : Inv X pins σ (upd (upd H a o) b u) { s with heap := h', toks := t' } := by
  have fa : H a = none := I.hok.fresh ha
  have fb : H b = none := I.hok.fresh hb
  have fb2 : (upd H a o) b = none := by rw [upd_ne ne]; exact fb
  have up : ∀ c q, H c = some q → (upd (upd H a o) b u) c = some q := fun c q e => by rw [upd_ne (ne_of_none e fb), upd_ne (ne_of_none e fa)]; exact e
  refine I.un (t' := t') ?_ (hok_more (I.hok.laid k ha na) fb2 nb)
  exact {
    keep := fun c q e _ _ _ => k c q e
    slot := fun c q e _ _ _ => ⟨q.slots, k c q e⟩
    free := fun c q e n _ => by
      have l := Heap.lt_size e
      rw [upd_ne (Nat.ne_of_lt (Nat.lt_of_lt_of_le l hb)), upd_ne (Nat.ne_of_lt (Nat.lt_of_lt_of_le l ha))]
      exact n
    there := fun c q e _ => ⟨q, k c q e⟩
    tups := fun c xs e => up c _ e
    frzs := fun c q v e => up c _ e
    tbls := fun c ps e => ⟨#[], by rw [up c _ e]; simp⟩ }
end
section
variable {X : Cx} {E : XK} {C fI : Addr} {qi : Str}
def tExcV (C : Addr) (ta : TA) : TE := fun σ H Q => ta σ H fun vs H1 => ∃ v, vs = [v] ∧ ∀ p d, H1 p = none → H1 d = none → p ≠ d → Q (.ref p) (upd (upd H1 d (.xd [(("value" : Str), v)])) p (.ext (ExcAt p C d)))
def rExcV (C : Addr) (ra : TR) : TR := fun σ S R RE => ra σ S (fun x S1 => ∃ y, [x] = [y] ∧ R (.exc C [(("value" : Str), y)]) S1) RE
end

/-! e == o, e != o: e an error, which knows of no other; o an instance with its own __eq__ -/
namespace ExcEq
open PySem PySem.Calls PyProof.Rows
section
variable {prog : Program} {w : World} {A : Around} {E : Value → Shared → Prop} {s : Shared} {K : PySem.W.Frag} {x e C Ce f : Addr} {ox oe : Obj} {od ode : Option Obj}
end
end ExcEq
/-- what an error's class says of == and != -/
structure ExcQ (K : PySem.W.Frag) (C : Addr) : Prop where
  eq : PySem.W.findIn K (.ref C) "__eq__" = some (some (.builtin "object.__eq__"))
  ne : PySem.W.findIn K (.ref C) "__ne__" = some (some (.builtin "object.__ne__"))
  mro : PySem.W.mroIn K C (.type "object") = some true
def excL (K : PySem.W.Frag) (l : List Addr) (Ce : Addr) : Bool := l.all fun C => (Ce != C) && (PySem.W.subIn K (.ref C) (.ref Ce) == some false)
theorem excL.at_ {K : PySem.W.Frag} {l : List Addr} {Ce C : Addr} (h : excL K l Ce = true) (m : C ∈ l) : Ce ≠ C ∧ PySem.W.subIn K (.ref C) (.ref Ce) = some false := by
  obtain ⟨h1, h2⟩ := Bool.and_eq_true_iff.mp (List.all_eq_true.mp h C m)
  exact ⟨by simpa using h1, beq_iff_eq.mp h2⟩
/-- one of the two of the family; the other of it, of a built-in type, or an error of the class Ce -/
def kEqFamX (K : PySem.W.Frag) (D : Addr → SpT → Prop) (l : List Addr) (Ce : Addr) (ng : Bool) : KB := fun x y S R RE => kEqFam K D (l ++ [Ce]) ng x y S R RE ∨
  ∃ gx C gs sp, x = .exc Ce gx ∧ insOf y S = some (C, gs) ∧ D C sp ∧ C ∈ l ∧ sp [y, x] S (fun z S' => ∃ c, z = .bl c ∧ R (.bl (ng ^^ c)) S') RE
section
variable {X : Cx} {E : XK} {D : Addr → SpT → Prop} {l : List Addr} {Ce : Addr}
end

/-! ### what is known of error classes, asked as one bool each -/
section
variable {K : PySem.W.Frag}
def evB (K : PySem.W.Frag) (C fI : Addr) : Bool := decide (PySem.W.findIn K (.ref C) "__setattr__" = some (some (.builtin "object.__setattr__"))) && decide (PySem.W.findIn K (.ref C) "__getattribute__" = some (some (.builtin "BaseException.__getattribute__"))) && decide (PySem.W.findIn K (.ref C) "__getattr__" = some none) && decide (PySem.W.findIn K (.ref C) "value" = some none)
  && decide (PySem.W.findIn K (.ref C) "__init__" = some (some (.ref fI))) && decide (PySem.W.typeIn K (.ref fI) = some (.type "function")) && PySem.W.keepIn K (.ref C) && decide (PySem.W.subIn K (.ref C) (.type "BaseException") = some true) && decide (PySem.W.typeIn K (.ref C) = some (.type "type")) && PySem.W.hasDictIn K C
section
open PySem.W PySem.Calls PyProof.Rows PySem.HandSPX
/-- the class object of an error, whatever else it says -/
def ExcObj (K : Frag) (C : Addr) : Prop := ∃ nm q N bs bm sn sub ab col dd k0 k1 k2 k3 k5, K.lookup C = some (excClassObj nm q C N bs bm true sn sub ab col dd k0 k1 k2 k3 k5 "ValueError.__new__") ∧ refsVE bm = true
end
def excB (K : PySem.W.Frag) (D : Addr) : Bool := (PySem.W.clsIn K D).isSome && decide (PySem.W.findIn K (.ref D) "__getattribute__" = some (some (.builtin "BaseException.__getattribute__"))) && decide (PySem.W.findIn K (.ref D) "__getattr__" = some none) && decide (PySem.W.subIn K (.ref D) (.type "BaseException") = some true) && PySem.W.hasDictIn K D
  && decide (PySem.W.findIn K (.ref D) "__class__" = some (some (.builtin "object.__class__"))) && decide (PySem.W.specialIn K (.builtin "object.__class__") "__get__" = some (some (.builtin "getset_descriptor.__get__"))) && decide (PySem.W.takesIn K (.builtin "object.__class__") = some true) && decide (PySem.W.mroIn K D (.type "object") = some true)
theorem excC_of {D : Addr} (h : excB K D = true) : ExcC K D := by
  unfold excB at h
  simp only [Bool.and_eq_true, decide_eq_true_eq] at h
  obtain ⟨⟨⟨⟨⟨⟨⟨⟨h1, h2⟩, h3⟩, h4⟩, h5⟩, h6⟩, h7⟩, h8⟩, h9⟩ := h
  exact ⟨h1, h2, h3, h4, h5, h6, h7, h8, h9⟩
def excQB (K : PySem.W.Frag) (C : Addr) : Bool := decide (PySem.W.findIn K (.ref C) "__eq__" = some (some (.builtin "object.__eq__"))) && decide (PySem.W.findIn K (.ref C) "__ne__" = some (some (.builtin "object.__ne__"))) && decide (PySem.W.mroIn K C (.type "object") = some true)
end

/-! ### t[::-1] of a pair -/

section
variable {prog : Program} {w : World} {A : Around} {E : Value → Shared → Prop} {s : Shared}
end
structure RRev2 (K : PySem.W.Frag) (x : V) (H : Hp) (Q : VK) : Prop where
  ex : ∃ a v w, x = .ref a ∧ SqT K H a [v, w] ∧ ∀ p, H p = none → Q (.ref p) (upd H p (.tup [w, v]))
def tRev2 (K : PySem.W.Frag) (te : TE) : TE := fun σ H Q => te σ H fun x H1 => RRev2 K x H1 Q
/-- t[::-1] of a pair -/
def rRev2 (ra : TR) : TR := fun σ S R RE => ra σ S (fun x S1 => ∃ a b, x = .tup [a, b] ∧ R (.tup [b, a]) S1) RE
/-! data with empty dicts in it: what repr shows of it -/
mutual
inductive Dq (K : PySem.W.Frag) (H : Hp) : V → PyData → Prop where
  | non : Dq K H .non .none
  | bl (b : Bool) : Dq K H (.bl b) (.bool b)
  | int (i : Int) : Dq K H (.int i) (.int i)
  | str (x : Str) : Dq K H (.str x) (.str x)
  | dic {a : Addr} (h : H a = some (.dK [])) : Dq K H (.ref a) (.dict [])
  | lst {a : Addr} {xs : List V} {ds : List PyData} (h : H a = some (.lst xs)) (t : DqAll K H xs ds) : Dq K H (.ref a) (.list ds)
  | tup {a : Addr} {xs : List V} {ds : List PyData} (h : SqT K H a xs) (t : DqAll K H xs ds) : Dq K H (.ref a) (.tuple ds)
inductive DqAll (K : PySem.W.Frag) (H : Hp) : List V → List PyData → Prop where
  | nil : DqAll K H [] []
  | cons {v : V} {vs : List V} {d : PyData} {ds : List PyData} (h : Dq K H v d) (t : DqAll K H vs ds) : DqAll K H (v :: vs) (d :: ds)
end
section
variable {X : Cx} {pins : List (Addr × Obj)} {sl : L2.St} {H : Hp} {s : Shared}
theorem reads_dic (inv : Inv X pins sl H s) {a : Addr} (h : H a = some (.dK [])) : Reads s.heap (.ref a) (.dict []) [a] := by
  obtain ⟨_, ns, vs, kv, o, es, ep, h1, h2, h3, h4, h5, h6⟩ := (show ObjOk X.prog X.w H s.heap a (.dK []) from inv.hok a _ h)
  cases kv
  have e0 : es.toList = [] := by
    generalize es.toList = l at h5
    cases h5
    rfl
  have := Reads.dict (h := s.heap) (kvs := []) h1 h2.1 h3 (by rw [e0]; exact .nil) (by rw [e0]; exact .nil)
  simpa using this
mutual
theorem Dq.reads (inv : Inv X pins sl H s) (free : H sysModules = none) : ∀ (d : PyData) (v : V) (u : Value), Dq X.K H v d → RelV v u → ∃ as, Reads s.heap u d as ∧ sysModules ∉ as
  | .none, _, _, h, r => by
    cases h
    cases r
    exact ⟨[], .none, List.not_mem_nil⟩
  | .bool b, _, _, h, r => by
    cases h
    cases r
    exact ⟨[], .bool b, List.not_mem_nil⟩
  | .int i, _, _, h, r => by
    cases h
    obtain ⟨t, rfl⟩ := r
    exact ⟨[], .int i t, List.not_mem_nil⟩
  | .str x, _, _, h, r => by
    cases h
    obtain ⟨t, rfl⟩ := r
    exact ⟨[], .str x t, List.not_mem_nil⟩
  | .list ds, _, _, h, r => by
    cases h with
    | lst a b =>
      cases r
      obtain ⟨its, rv, ⟨o, n, ho, hc, _, hd⟩, _⟩ := inv.list (show SqL X.K H _ _ from SqL.of a)
      obtain ⟨as, rd, no⟩ := DqAll.reads inv free ds _ its b rv
      refine ⟨_, .list ho hc hd rd, fun m => ?_⟩
      rcases List.mem_cons.mp m with e | m
      · rw [← e, free] at a
        cases a
      · exact no m
  | .tuple ds, _, _, h, r => by
    cases h with
    | tup a b =>
      cases r
      obtain ⟨its, rv, ⟨o, ho, hc, n, hd⟩, _⟩ := inv.tuple (show SqT X.K H _ _ from a)
      obtain ⟨as, rd, no⟩ := DqAll.reads inv free ds _ its b rv
      exact ⟨_, .tuple ho hc hd rd, no⟩
  | .dict kvs, _, _, h, r => by
    cases h with
    | dic a =>
      cases r
      refine ⟨_, reads_dic inv a, fun m => ?_⟩
      rw [← List.mem_singleton.mp m, free] at a
      cases a
theorem DqAll.reads (inv : Inv X pins sl H s) (free : H sysModules = none) : ∀ (ds : List PyData) (vs : List V) (us : List Value), DqAll X.K H vs ds → Vals vs us → ∃ as, ReadsAll s.heap us ds as ∧ sysModules ∉ as
  | [], _, _, h, r => by
    cases h
    cases r
    exact ⟨[], .nil, List.not_mem_nil⟩
  | d :: ds, _, _, h, r => by
    cases h with
    | cons a b =>
      cases r with
      | cons r1 r2 =>
        obtain ⟨as, rd, no⟩ := Dq.reads inv free d _ _ a r1
        obtain ⟨bs, rds, nos⟩ := DqAll.reads inv free ds _ _ b r2
        exact ⟨_, .cons rd rds, fun m => (List.mem_append.mp m).elim no nos⟩
end
end
/-- short enough -/
structure Sq (k n : Nat) (d : PyData) : Prop where
  sh : d.showable = true
  dp : d.depth ≤ k
  ln : d.shown.length ≤ n
structure SqA (k n : Nat) (ds : List PyData) : Prop where
  sh : PyData.showableAll ds = true
  dp : PyData.depthAll ds ≤ k
  ln : ((PyData.shownAll ds).map (·.length)).sum + 2 * ds.length ≤ n
theorem Sq.up {j k n m : Nat} {d : PyData} (h : Sq j n d) (le2 : j ≤ k) (le : n ≤ m) : Sq k m d := ⟨h.sh, Nat.le_trans h.dp le2, Nat.le_trans h.ln le⟩
theorem SqA.nil {k : Nat} : SqA k 0 [] := ⟨by simp only [PyData.showableAll], by simp only [PyData.depthAll]; omega, by rw [PyData.shownAll_nil]; exact Nat.le_refl _⟩
theorem SqA.cons {k n m : Nat} {d : PyData} {ds : List PyData} (h : Sq k n d) (t : SqA k m ds) : SqA k (n + m + 2) (d :: ds) := by
  refine ⟨by simp only [PyData.showableAll, h.sh, t.sh, Bool.and_self], ?_, ?_⟩
  · have h1 := h.dp
    have h2 := t.dp
    simp only [PyData.depthAll]
    omega
  · have h1 := h.ln
    have h2 := t.ln
    rw [PyData.shownAll_cons]
    simp only [List.map_cons, List.sum_cons, List.length_cons]
    omega
theorem Sq.lst {k n : Nat} {ds : List PyData} (h : SqA k n ds) : Sq (k + 1) (n + 3) (.list ds) := by
  refine ⟨by simp only [PyData.showable, h.sh], ?_, ?_⟩
  · have := h.dp
    simp only [PyData.depth]
    omega
  · have h1 := h.ln
    have h2 := listText_len_le (PyData.shownAll ds)
    rw [PyData.shownAll_length] at h2
    simp only [PyData.shown]
    omega
theorem Sq.tup {k n : Nat} {ds : List PyData} (h : SqA k n ds) : Sq (k + 1) (n + 3) (.tuple ds) := by
  refine ⟨by simp only [PyData.showable, h.sh], ?_, ?_⟩
  · have := h.dp
    simp only [PyData.depth]
    omega
  · have h1 := h.ln
    have h2 := tupleText_len_le (PyData.shownAll ds)
    rw [PyData.shownAll_length] at h2
    simp only [PyData.shown]
    omega
theorem Sq.dic : Sq 1 2 (.dict []) := ⟨by simp only [PyData.showable, PyData.showableKv], by simp only [PyData.depth, PyData.depthKv]; omega, by decide +kernel⟩
theorem Sq.non : Sq 1 10 .none := ⟨by simp only [PyData.showable], by simp only [PyData.depth]; omega, by decide +kernel⟩
theorem Sq.str {x : Str} {n : Nat} (h : (reprText x).length ≤ n) : Sq 1 n (.str x) := ⟨by simp only [PyData.showable], by simp only [PyData.depth]; omega, by rw [PyData.shown_str]; exact h⟩
/-- what repr shows of such data -/
structure RD (K : PySem.W.Frag) (xs : List V) (H : Hp) (Q : VK) : Prop where
  ex : ∃ (v : V) (d : PyData), xs = [v] ∧ Dq K H v d ∧ Sq 64 16777216 d ∧ Q (.str d.shown) H
theorem RD.mono {K : PySem.W.Frag} (xs : List V) (H : Hp) (Q Q' : VK) (imp : ∀ v H', Q v H' → Q' v H') (h : RD K xs H Q) : RD K xs H Q' := by
  obtain ⟨v, d, e, dq, sq, q⟩ := h.ex
  exact ⟨v, d, e, dq, sq, imp _ _ q⟩
theorem reprD {X : Cx} (sys : ∃ o, X.base.get? sysModules = some o) (gds : X.A.guards = some []) (room : X.A.units + 70 < cLine) : CallR X (.builtin "repr") (RD X.K) := by
  intro pins st sl H xs us Q inv vals want
  obtain ⟨v, d, e, dq, sq, q⟩ := want.ex
  subst e
  obtain ⟨u, eu, rel⟩ := vals1 vals
  subst eu
  obtain ⟨ob, hb⟩ := sys
  have free := (inv.bs _ _ hb).2
  have len : d.shown.length ≤ sizeLine := by rw [sizeLine_eq]; exact sq.ln
  have deep : X.A.units + (d.depth + 1) < cLine := by have := sq.dp; omega
  obtain ⟨as, rd, no⟩ := Dq.reads inv free d v u dq rel
  cases dq with
  | non =>
    cases rel
    exact PySem.P.repr_of_none ⟨.str _, H, inv.tok _, ⟨_, rfl⟩, q⟩
  | bl b =>
    cases rel
    exact PySem.P.repr_of_bool ⟨.str _, H, inv.tok _, ⟨_, rfl⟩, by rw [PyData.shown_bool] at q; exact q⟩
  | int i =>
    obtain ⟨tk, rfl⟩ := rel
    have small : i.natAbs.log2 < 1920 := by
      have := sq.sh
      simpa only [PyData.showable, decide_eq_true_eq] using this
    exact PySem.P.repr_of_int small ⟨.str _, H, inv.tok _, ⟨_, rfl⟩, by rw [PyData.shown_int] at q; exact q⟩
  | str x =>
    obtain ⟨tk, rfl⟩ := rel
    rw [PyData.shown_str] at q len
    exact PySem.P.repr_of_str ⟨.str _, H, inv.tok _, ⟨_, rfl⟩, q⟩ len
  | dic h =>
    cases rel
    exact repr_of_reads' rd sq.sh (fun _ => no) gds deep (fun _ _ z => z) (fun h' u' tk kp => ⟨.str _, H, inv.kept kp, ⟨_, rfl⟩, q⟩) len
  | lst h t =>
    cases rel
    exact repr_of_reads' rd sq.sh (fun _ => no) gds deep (fun _ _ z => z) (fun h' u' tk kp => ⟨.str _, H, inv.kept kp, ⟨_, rfl⟩, q⟩) len
  | tup h t =>
    cases rel
    exact repr_of_reads' rd sq.sh (fun _ => no) gds deep (fun _ _ z => z) (fun h' u' tk kp => ⟨.str _, H, inv.kept kp, ⟨_, rfl⟩, q⟩) len
/-! over trees -/
mutual
def T.datD : T → Option PyData
  | .non => some .none
  | .bl b => some (.bool b)
  | .int i => some (.int i)
  | .str z => some (.str z)
  | .dct => some (.dict [])
  | .lst l => (T.datDL l).map .list
  | .tup l => (T.datDL l).map .tuple
  | _ => none
def T.datDL : List T → Option (List PyData)
  | [] => some []
  | t :: ts => match t.datD, T.datDL ts with
    | some d, some ds => some (d :: ds)
    | _, _ => none
end
section
variable {K : PySem.W.Frag} {Z : Addr → Prop} {S : Store} {H : Hp}
mutual
theorem rep_dq : ∀ {v : V} {t : T} {d : PyData}, Rep K Z S H v t → t.datD = some d → Dq K H v d
  | _, _, _, .non, e => by rw [T.datD] at e; cases e; exact .non
  | _, _, _, .bl b, e => by rw [T.datD] at e; cases e; exact .bl b
  | _, _, _, .int i, e => by rw [T.datD] at e; cases e; exact .int i
  | _, _, _, .str z, e => by rw [T.datD] at e; cases e; exact .str z
  | _, _, _, .ty n, e => by simp [T.datD] at e
  | _, _, _, .st a, e => by simp [T.datD] at e
  | _, _, _, .cell a, e => by simp [T.datD] at e
  | _, _, _, .tup h r, e => by
    rw [T.datD] at e
    obtain ⟨ds, e1, rfl⟩ := Option.map_eq_some_iff.mp e
    exact .tup h.sq (reps_dq r e1)
  | _, _, _, .lst h r, e => by
    rw [T.datD] at e
    obtain ⟨ds, e1, rfl⟩ := Option.map_eq_some_iff.mp e
    exact .lst h.1 (reps_dq r e1)
  | _, _, _, .scr h r, e => by simp [T.datD] at e
  | _, _, _, .ins h n r, e => by simp [T.datD] at e
  | _, _, _, .dct h n, e => by rw [T.datD] at e; cases e; exact .dic h
  | _, _, _, .exc h n hd nd r, e => by simp [T.datD] at e
  | _, _, _, .exn h n, e => by simp [T.datD] at e
theorem reps_dq : ∀ {vs : List V} {ts : List T} {ds : List PyData}, Reps K Z S H vs ts → T.datDL ts = some ds → DqAll K H vs ds
  | _, _, _, .nil, e => by rw [T.datDL] at e; cases e; exact .nil
  | _, _, _, .cons h r, e => by
    rw [T.datDL] at e
    split at e
    · rename_i d ds e1 e2
      cases e
      exact .cons (rep_dq h e1) (reps_dq r e2)
    · cases e
end
end
def kReprD : List T → Store → (T → Store → Prop) → XT → Prop := fun xs S R _ => ∃ x d, xs = [x] ∧ x.datD = some d ∧ Sq 64 16777216 d ∧ R (.str d.shown) S
theorem cv_reprD {K : PySem.W.Frag} {E : XK} : ConvA K E kReprD (RD K) := by
  intro Z xs S vs H R RE Q ok rs k po xo
  obtain ⟨x, d, rfl, e, sq, q⟩ := k
  cases rs with
  | cons r rr =>
    cases rr
    exact ⟨_, d, rfl, rep_dq r e, sq, po _ _ _ _ q .refl ok (.str _)⟩

/-! calls while an error is handled: p, the error's address and object, stands in the context -/
structure FnP (P : Program) (w : World) (K : PySem.W.Frag) (mg : Str → Option Value) (base : Heap) (CX : CXT) (k : Nat) (f : Addr) (fd : FuncData) (ps : List Str) (sp : Addr × Obj → Sp) : Prop where
  len : ∀ p vs H Q E, sp p vs H Q E → vs.length = ps.length
  go : ∀ (A : Around) (out : List Env) (st : Shared) (H : Hp) (as : Args) (us : List Value) (vs : List V) (Q : VK) (E : XK) (p : Addr × Obj), A.guards = some [] → L2H.RoomH k A → L2H.Hot1 A p → L2H.PinOk out H st p → Env0 P w K mg base A out st H →
    BindsTo st fd as (ps.zip us) → Vals vs us → sp p vs H Q E → codeAny (model P w) A (.call (.ref f) as) (CR CX out P w H st Q E) st
section
variable {P : Program} {w : World} {K : PySem.W.Frag} {mg : Str → Option Value} {base : Heap} {CX : CXT} {k : Nat} {f : Addr} {fd : FuncData} {ps : List Str} {sp : Addr × Obj → Sp}
end
section
variable {X : Cx} {k : Nat} {f : Addr} {fd : FuncData} {ps : List Str} {sp : Addr × Obj → Sp} {x : Str} {p : Addr × Obj} {ep pos : Pos} {e : Expr} {es : List Expr} {t : TA}
end
/-! tuples walked and unpacked while an error is handled -/
section
open HotX
variable {prog : Program} {w : World} {A : Around} {E : Value → Shared → Prop} {s : Shared}
theorem HotAt.ext {x1 b : Addr} {h h' : Heap} (hot : HotAt A x1 h) (e : Heap.ExtBut b h h') (n : x1 ≠ b) : HotAt A x1 h' := by
  obtain ⟨hh, o1, vs1, h1, d1, c1⟩ := hot
  exact ⟨hh, o1, vs1, e x1 o1 n h1, d1, c1⟩
theorem HotAt.lt {x1 : Addr} {h : Heap} (hot : HotAt A x1 h) : x1 < h.objs.size := by
  obtain ⟨_, _, _, h1, _⟩ := hot
  exact Heap.lt_size h1
end
section
open HotX
variable {X : Cx}
end
section
open HotX
variable {X : Cx}
end
/-! ### the tree layer while an error is handled -/
theorem _root_.L2H.RoomH.units {k : Nat} {A : Around} (r : L2H.RoomH k A) : A.units + 64 < cLine := by have := r.un; omega
structure FnPT (P : Program) (w : World) (K : PySem.W.Frag) (mg : Str → Option Value) (base : Heap) (k : Nat) (f : Addr) (fd : FuncData) (ps : List Str) (sp : SpT) : Prop where
  fn : FnP P w K mg base CX0 k f fd ps (fun _ vs H Q _ => UpF K sp vs H Q EF)
section
variable {P : Program} {w : World} {K : PySem.W.Frag} {mg : Str → Option Value} {base : Heap} {k : Nat} {f : Addr} {fd : FuncData} {ps : List Str} {sp : SpT}
end
section
variable {X : Cx} {E : XK} {k : Nat} {f : Addr} {fd : FuncData} {ps : List Str} {sp : SpT} {x : Str} {p : Addr × Obj} {ep pos : Pos} {e a : Expr} {es : List Expr} {t : TRA} {ra : TR}
/-- a walk over a tuple -/
structure IHT (X : Cx) (E : XK) (tg it : Expr) (r : TRI) : Prop where
  pi : L2H.PIH X tg it (UpI X.K E r)
def iSeqH (ra : TR) : TRI := fun σ S R RE => ra σ S (fun t S1 => ∃ ts, t = .tup ts ∧ R ts S1) RE
/-- o.m() by the own def -/
structure MetDH (X : Cx) (m : Str) (D : Addr → SpT → Prop) : Prop where
  at_ : ∀ C sp, D C sp → ∃ k f fd ps, Cls X.K C ∧ Meth X.K C m f ∧ FnPT X.prog X.w X.K X.mg X.base k f fd ps sp ∧ L2H.RoomH k X.A ∧ Binds X.K fd ps []
theorem MetDH.one {C : Addr} {m : Str} (c : Cls X.K C) (hm : Meth X.K C m f) (F : FnPT X.prog X.w X.K X.mg X.base k f fd ps sp) (hr : L2H.RoomH k X.A) (cd : Binds X.K fd ps []) : MetDH X m (one C sp) := ⟨fun C' sp' ⟨e1, e2⟩ => by
  subst e1 e2
  exact ⟨k, f, fd, ps, c, hm, F, hr, cd⟩⟩
theorem MetDH.or {m : Str} {D1 D2 : Addr → SpT → Prop} (h1 : MetDH X m D1) (h2 : MetDH X m D2) : MetDH X m (fun C sp => D1 C sp ∨ D2 C sp) := ⟨fun C sp d => d.elim (h1.at_ C sp) (h2.at_ C sp)⟩
/-- str and repr by the own def -/
structure StrDH (P : Program) (w : World) (K : PySem.W.Frag) (mg : Str → Option Value) (base : Heap) (m : Str) (j : Nat) (D : Addr → SpT → Prop) : Prop where
  at_ : ∀ C sp, D C sp → ∃ k f fd ps, OwnDef K C m f ∧ FnPT P w K mg base k f fd ps sp ∧ k + 2 ≤ j ∧ Binds K fd ps []
theorem StrDH.one {P : Program} {w : World} {K : PySem.W.Frag} {mg : Str → Option Value} {base : Heap} {m : Str} {j : Nat} {C : Addr} (o : OwnDef K C m f) (F : FnPT P w K mg base k f fd ps sp) (hk : k + 2 ≤ j) (hb : Binds K fd ps []) : StrDH P w K mg base m j (one C sp) := ⟨fun C' sp' ⟨e1, e2⟩ => by
  subst e1 e2
  exact ⟨k, f, fd, ps, o, F, hk, hb⟩⟩
theorem StrDH.or {P : Program} {w : World} {K : PySem.W.Frag} {mg : Str → Option Value} {base : Heap} {m : Str} {j : Nat} {D1 D2 : Addr → SpT → Prop} (h1 : StrDH P w K mg base m j D1) (h2 : StrDH P w K mg base m j D2) : StrDH P w K mg base m j (fun C sp => D1 C sp ∨ D2 C sp) := ⟨fun C sp d => d.elim (h1.at_ C sp) (h2.at_ C sp)⟩
theorem StrDH.none {P : Program} {w : World} {K : PySem.W.Frag} {mg : Str → Option Value} {base : Heap} {m : Str} {j : Nat} : StrDH P w K mg base m j (fun _ _ => False) := ⟨fun _ _ d => d.elim⟩
end

/-! the end where defs make lambdas: their tables of code objects are tracked from the start -/
section
variable {P : Program} {w : World} {K : PySem.W.Frag} {mg mb : Str → Option Value} {k : Nat} {fa a : Addr} {fd : FuncData} {x : Str} {sp : Sp} {st : Shared} {vs : List Value} {ns : List Int} {cs : List (Addr × Addr)}
/-- what is known of the heap behind the top -/
structure Rear (K : PySem.W.Frag) (mg mb : Str → Option Value) (cs : List (Addr × Addr)) (h : Heap) : Prop where
  inK : K.In h
  g : h.Ns mainGlobals mg
  b : h.Ns builtinsNs mb
  boot : ∀ x : Str, x ≠ "__name__" → mb x = bootBuiltins x
  lim : h.NoLimit
  mods : ∃ mm, h.Ns sysModules mm
  main : ∃ bm ob, mg "__builtins__" = some (.ref bm) ∧ bm ≠ builtinsNs ∧ h.get? bm = some ob ∧ ob.cls = .type "module" ∧ ob.dict = some builtinsNs ∧ ob.data = .plain
  tab : ∀ p ∈ cs, h.get? p.2 = some { cls := .none, data := .fields #[] }
  head : ∀ p ∈ cs, PySem.W.CodeHd h p.1 p.2
  free : ∀ p ∈ cs, K.lookup p.2 = none
end
/-- the tables that stand -/
def TabsIn (T0 : List (Addr × Str)) (S : Store) : Prop := ∀ a q, S a = some (.tab q) ↔ (a, q) ∈ T0
section
variable {K : PySem.W.Frag} {Z : Addr → Prop} {S S' : Store} {H H1 : Hp} {T0 : List (Addr × Str)}
theorem le_ext (x : LamX.ExtN H H1) : Le S H S H1 := fun a o e n nt => ⟨x a o e nt, n⟩
theorem Ok.ext (ok : Ok K Z S H) (t : TabsIn T0 S) (x : LamX.ExtN H H1) (tb : LamX.Tabs T0 H1) : Ok K Z S H1 := by
  refine ⟨fun a => ?_, fun a z => ?_⟩
  · have k := ok.cl a
    cases e : S a with
    | none => trivial
    | some c =>
      rw [e] at k
      cases c with
      | lst ts => obtain ⟨vs, q, r⟩ := k; exact ⟨vs, x _ _ q (fun _ e => nomatch e), r.le (le_ext x)⟩
      | ins C gs => obtain ⟨dx, fs, q, r⟩ := k; exact ⟨dx, fs, x _ _ q (fun _ e => nomatch e), r.le (le_ext x)⟩
      | tab q => exact tb (a, q) ((t a q).mp e)
  · obtain ⟨n, vs, e⟩ := ok.hid a z
    exact ⟨n, vs, x _ _ e vs.nt⟩
theorem le_same (x : Same H H1) : Le S H S H1 := fun a o e n _ => ⟨x a o e, n⟩
theorem Ok.same (ok : Ok K Z S H) (x : Same H H1) : Ok K Z S H1 := ok.le (le_same x) fun a n => by
  have k := ok.cl a
  cases e : S a with
  | none => exact absurd e n
  | some c =>
    rw [e] at k
    cases c with
    | lst ts => obtain ⟨vs, q, _⟩ := k; rw [q, x _ _ q]
    | ins C gs => obtain ⟨dx, fs, q, _⟩ := k; rw [q, x _ _ q]
    | tab w => obtain ⟨ps, q, _⟩ := k; rw [q, x _ _ q]
end
/-! a def that makes lambdas: its code object is known -/
/-- what a lambda of the def q is called -/
abbrev lamQ (q : Str) : Str := (q ++ (".<locals>." : Str)) ++ ("<lambda>" : Str)
/-! the law, with tables from the start -/
def sp_lawT (T0 : List (Addr × Str)) : SpT := fun ts S R _ => match ts with
  | [.scr l] => (∃ ns : List Int, l = ns.map T.int ∧ ns.length ≤ 63) ∧ TabsIn T0 S ∧ ∀ S', R (.bl true) S'
  | _ => False
def tabS (T0 : List (Addr × Str)) : Store := fun a => (T0.lookup a).map Cell.tab
theorem lookup_mem : ∀ {T0 : List (Addr × Str)} {a : Addr} {q : Str}, T0.lookup a = some q → (a, q) ∈ T0
  | [], _, _, h => nomatch h
  | (b, r) :: l, a, q, h => by
    by_cases e : a = b
    · subst e
      simp only [List.lookup, beq_self_eq_true, Option.some.injEq] at h
      subst h
      exact List.mem_cons_self
    · have ne : (a == b) = false := beq_eq_false_iff_ne.mpr e
      simp only [List.lookup, ne] at h
      exact List.mem_cons_of_mem _ (lookup_mem h)
theorem mem_lookup : ∀ {T0 : List (Addr × Str)} {a : Addr} {q : Str}, (T0.map (·.1)).Nodup → (a, q) ∈ T0 → T0.lookup a = some q
  | [], _, _, _, m => nomatch m
  | (b, r) :: l, a, q, nd, m => by
    rw [List.map_cons, List.nodup_cons] at nd
    rcases List.mem_cons.mp m with e | m
    · cases e
      simp [List.lookup]
    · have ne : (a == b) = false := by
        refine beq_eq_false_iff_ne.mpr fun e => nd.1 ?_
        rw [← e]
        exact List.mem_map.mpr ⟨_, m, rfl⟩
      simp only [List.lookup, ne]
      exact mem_lookup nd.2 m
theorem tabS_in {T0 : List (Addr × Str)} (nd : (T0.map (·.1)).Nodup) : TabsIn T0 (tabS T0) := fun a q => by
  unfold tabS
  constructor
  · intro h
    obtain ⟨r, e, z⟩ := Option.map_eq_some_iff.mp h
    cases z
    exact lookup_mem e
  · intro m
    rw [mem_lookup nd m]
    rfl
theorem law_wantT {K : PySem.W.Frag} {H : Hp} {a : Addr} {ns : List Int} {cs : List (Addr × Addr)} {T0 : List (Addr × Str)} (hl : ns.length ≤ 63) (nd : (T0.map (·.1)).Nodup) (hT : ∀ p ∈ T0, ∃ c, (c, p.1) ∈ cs) (hC : ∀ p ∈ cs, ∃ q, (p.2, q) ∈ T0)
    (tb : ∀ p ∈ cs, H p.2 = some (.tbl #[])) (only : ∀ b, H b = none ∨ (∃ p ∈ cs, p.2 = b) ∨ ∃ o xs, H b = some (.frz o (.lst xs))) (hS : SqL K H a (ns.map V.int)) : UpF K (sp_lawT T0) [.ref a] H (fun v _ => v = .bl true) EF := by
  have tin := tabS_in nd
  have none_of : ∀ {u : HO}, H a = some u → (∀ ps, u ≠ .tbl ps) → tabS T0 a = none := by
    intro u e nt
    cases h : tabS T0 a with
    | none => rfl
    | some c =>
      obtain ⟨q, e2, z⟩ := Option.map_eq_some_iff.mp h
      obtain ⟨c, m⟩ := hT _ (lookup_mem e2)
      have := tb _ m
      rw [e] at this
      cases this
      exact absurd rfl (nt _)
  have sc : ScrAt K (fun _ => False) (tabS T0) H a (ns.map V.int) := by
    rcases hS with h | h
    · rcases h with h | ⟨o, h⟩
      · rcases only a with z | ⟨p, hp, z⟩ | ⟨o, xs, z⟩
        · rw [h] at z; cases z
        · have := tb p hp; rw [z, h] at this; cases this
        · rw [h] at z; cases z
      · exact .inl ⟨⟨o, h⟩, none_of h (fun _ e => nomatch e), id⟩
    · exact .inr h
  refine ⟨fun _ => False, [.scr (ns.map T.int)], tabS T0, fun t _ => t = .bl true, XF, .cons (.scr sc (reps_ints ns)) .nil, ⟨fun b => ?_, fun _ z => z.elim⟩, ⟨⟨ns, rfl, hl⟩, tin, fun _ => rfl⟩, ?_, fun _ _ _ _ _ _ z => z.elim⟩
  · cases h : tabS T0 b with
    | none => trivial
    | some c =>
      obtain ⟨q, e2, z⟩ := Option.map_eq_some_iff.mp h
      subst z
      obtain ⟨c, m⟩ := hT _ (lookup_mem e2)
      exact LamX.TabS.nil (tb _ m)
  · intro t S' v H' e _ _ rep
    subst e
    cases rep
    rfl
/-! == and != of data, whatever texts are in it -/
mutual
theorem dat_plain : ∀ (x : T) {d : PyData}, x.dat = some d → d.plain = true
  | .non, d, h => by rw [T.dat] at h; cases h; rfl
  | .bl _, d, h => by rw [T.dat] at h; cases h; rfl
  | .int _, d, h => by rw [T.dat] at h; cases h; rfl
  | .str _, d, h => by rw [T.dat] at h; cases h; rfl
  | .lst l, d, h => by
    rw [T.dat] at h
    obtain ⟨ds, e, rfl⟩ := Option.map_eq_some_iff.mp h
    rw [PyData.plain]
    exact datL_plain l e
  | .tup l, d, h => by
    rw [T.dat] at h
    obtain ⟨ds, e, rfl⟩ := Option.map_eq_some_iff.mp h
    rw [PyData.plain]
    exact datL_plain l e
  | .ty _, d, h => by rw [T.dat] at h <;> first | cases h | (intros; nofun)
  | .st _, d, h => by rw [T.dat] at h <;> first | cases h | (intros; nofun)
  | .cell _, d, h => by rw [T.dat] at h <;> first | cases h | (intros; nofun)
  | .scr _, d, h => by rw [T.dat] at h <;> first | cases h | (intros; nofun)
  | .ins _ _, d, h => by rw [T.dat] at h <;> first | cases h | (intros; nofun)
  | .dct, d, h => by rw [T.dat] at h <;> first | cases h | (intros; nofun)
  | .exc _ _, d, h => by rw [T.dat] at h <;> first | cases h | (intros; nofun)
theorem datL_plain : ∀ (l : List T) {ds : List PyData}, T.datL l = some ds → PyData.plainAll ds = true
  | [], ds, h => by rw [T.datL] at h; cases h; rfl
  | t :: ts, ds, h => by
    rw [T.datL] at h
    split at h
    · rename_i d ds' e1 e2
      cases h
      rw [PyData.plainAll, dat_plain t e1, datL_plain ts e2]
      rfl
    · cases h
end
section
variable {X : Cx} {E : XK}
def rEqP (K : PySem.W.Frag) (ng : Bool) : R2 := fun x y H Q => ∃ d e, Dp K H x d ∧ Dp K H y e ∧ d.plain = true ∧ e.plain = true ∧ d.depth ≤ 64 ∧ Q (.bl (ng ^^ PyData.eqv d e)) H
theorem op_neP (hu : X.A.units + 64 < cLine) : OpR X (compareOp .NotEq) (rEqP X.K true) := by
  intro pins s σ H x y v u Q I rx ry h
  obtain ⟨d, e, hd, he, sd, se, dp, q⟩ := h
  obtain ⟨as, r1⟩ := Dp.reads I d x v hd rx
  obtain ⟨bs, r2⟩ := Dp.reads I e y u he ry
  rw [Bool.true_xor] at q
  exact PySem.SeqAt.ne_plain r1 r2 sd se (by have := Nat.min_le_left d.depth e.depth; omega) ⟨.bl _, H, I, rfl, q⟩
def kEqP (ng : Bool) : KB := fun x y S R _ => ∃ d e, x.dat = some d ∧ y.dat = some e ∧ d.depth ≤ 64 ∧ R (.bl (ng ^^ PyData.eqv d e)) S
theorem cv_eqP {ng : Bool} : Conv X.K E (kEqP ng) (rEqP X.K ng) := by
  intro Z x y S v u H R RE Q ok rx ry kk po xo
  obtain ⟨d, e, hd, he, dp, k⟩ := kk
  exact ⟨d, e, rx.dp hd, ry.dp he, dat_plain x hd, dat_plain y he, dp, po _ _ _ _ k .refl ok (.bl _)⟩
/-- the same data -/
theorem eqP_same {ng : Bool} {x : T} {d : PyData} {S : Store} {R : T → Store → Prop} {RE : XT} (h : x.dat = some d) (dp : d.depth ≤ 64) (q : R (.bl (!ng)) S) : kEqP ng x x S R RE := by
  refine ⟨d, d, h, h, dp, ?_⟩
  rw [PySem.SeqAt.eqv_refl_plain d (dat_plain x h), Bool.xor_true]
  exact q
end

/-! [e for x in xs for y in ys] -/
def rComp2 (fr : T → Fm) (ri1 : TRI) (fr1 : T → T → Fm) (tt : TRB) (re : TR) : List T → List T → Store → (List T → Store → Prop) → Prop
  | [], acc, S, R => R acc S
  | t :: ts, acc, S, R => ri1 (fr t) S (fun us S1 => rComp (fr1 t) tt re us acc S1 (fun acc2 S2 => rComp2 fr ri1 fr1 tt re ts acc2 S2 R)) XF
def rLc2 (ri : TRI) (i : Nat) (ri1 : TRI) (j : Nat) (tt : TRB) (re : TR) : TR := fun σ S R RE => ri σ S (fun ts S1 => rComp2 (fun t => (σ.set j none).set i (some t)) ri1 (fun t u => ((σ.set j none).set i (some t)).set j (some u)) tt re ts [] S1 (fun ys S2 => R (.lst ys) S2)) RE
/-- J walks ts, whatever becomes of what is hidden -/
def SrcOkZ (K : PySem.W.Frag) (Z : Addr → Prop) (S0 : Store) (H0 : Hp) (J : It) (ts : List T) : Prop := ∀ S H, LeZ Z S0 H0 S H → Ok K Z S H →
  (∀ i t, ts[i]? = some t → J.go i H ∧ ∀ x H', J.yld i H x H' → Le S H S H' ∧ Ok K Z S H' ∧ Rep K Z S H' x t) ∧ ∀ i, ts.length ≤ i → J.stop i H
structure UpIZ (K : PySem.W.Frag) (E : XK) (r : TRI) (sl : L2.St) (H : Hp) (Q : It → Hp → Prop) : Prop where
  ex : ∃ Z σ S R RE, FrR K Z S H sl σ ∧ Ok K Z S H ∧ r σ S R RE ∧ (∀ ts S' J H', R ts S' → Le S H S' H' → Ok K Z S' H' → SrcOkZ K Z S' H' J ts → Q J H') ∧ XOk K Z S H RE E
structure ITZ (X : Cx) (E : XK) (tg it : Expr) (r : TRI) : Prop where
  pi : PI X tg it (UpIZ X.K E r)
theorem LeZ.trans {Z : Addr → Prop} {S S1 S2 : Store} {H H1 H2 : Hp} (a : LeZ Z S H S1 H1) (b : LeZ Z S1 H1 S2 H2) : LeZ Z S H S2 H2 := fun p o h n z nt => b p o (a p o h n z nt).1 (a p o h n z nt).2 z nt
/-! two fors: as a value, given to a name -/
section
variable {X : Cx} {E : XK}
/-! a name of the text that is a written tuple -/
structure GTup (K : PySem.W.Frag) (mg : Str → Option Value) (x : Str) (t : T) : Prop where
  ex : ∃ (v : V) (u : Value), mg x = some u ∧ RelV v u ∧ ∀ Z S H, Rep K Z S H v t
/-! for i, x in enumerate(a list) -/
def iEnumL (t : TRA) : TRI := fun σ S R RE => t σ S (fun xs S1 => ∃ ts, xs = [.lst ts] ∧ R (enumT ts) S1) RE
end

/-! the truth of a list that changes -/
def rTruC (ra : TR) : TRB := fun σ S R RE => ra σ S (fun x S1 => ∃ a l, x = .cell a ∧ S1 a = some (.lst l) ∧ R (!l.isEmpty) S1) RE
section
variable {X : Cx} {E : XK}
/-! {"k1": e1, "k2": e2}.get(x, d), truths -/
def rDget2 (k1 k2 : Str) (t1 t2 tx td : TR) : TR := fun σ S R _ => t1 σ S (fun y1 S1 => t2 σ S1 (fun y2 S2 => tx σ S2 (fun x S3 => td σ S3 (fun d S4 =>
  ∃ b1 b2 bd z, y1 = .bl b1 ∧ y2 = .bl b2 ∧ d = .bl bd ∧ x = .str z ∧ R (.bl (if z = k1 then b1 else if z = k2 then b2 else bd)) S4) XF) XF) XF) XF
/-! x in y, x data of any depth, y a tuple or a list of data -/
def rInP (K : PySem.W.Frag) (ng : Bool) : R2 := fun x y H Q => ∃ d ds, Dp K H x d ∧ (Dp K H y (.tuple ds) ∨ Dp K H y (.list ds)) ∧ d.plain = true ∧ PyData.plainAll ds = true ∧ d.depth ≤ 64 ∧ Q (.bl (ng ^^ ds.any fun z => PyData.eqv z d)) H
def kInP (ng : Bool) : KB := fun x y S R _ => ∃ d ds, x.dat = some d ∧ (y.dat = some (.tuple ds) ∨ y.dat = some (.list ds)) ∧ d.depth ≤ 64 ∧ R (.bl (ng ^^ ds.any fun z => PyData.eqv z d)) S
end

section
variable {X : Cx} {E : XK} {ra : TR} {rl rh : TRO} {a : Expr} {lo hi : Option Expr} {p2 pos : Pos}
/-! a slice of a list that changes -/
def rSlC (ra : TR) (rl rh : TRO) : TR := fun σ S R RE => ra σ S (fun x S1 => rl σ S1 (fun lo S2 => rh σ S2 (fun hi S3 => ∃ a l, x = .cell a ∧ S3 a = some (.lst l) ∧ R (.lst (cutT l lo hi)) S3) RE) RE) RE
end

section
variable {X : Cx} {E : XK} {st : Stmt} {r : TRS} {K : PySem.W.Frag} {Z : Addr → Prop} {S : Store} {H : Hp}
/-- the same value, read as another tree -/
theorem FrR.as {sl : List (Option V)} {σ : List (Option T)} {v : V} {t t' : T} {i : Nat} (f : FrR K Z S H sl σ) (hs : sl[i]? = some (some v)) (rep : Rep K Z S H v t') : FrR K Z S H sl (σ.set i (some t')) := by
  have := f.set i rep
  have e : sl.set i (some v) = sl := by
    obtain ⟨h1, h2⟩ := List.getElem?_eq_some_iff.mp hs
    rw [← h2, List.set_getElem_self]
  rw [e] at this
  exact this
/-- from this statement on a list that changes changes no more -/
def sFrzV (i : Nat) (r : TRS) : TRS := fun D σ S => ∃ a ts, σ[i]? = some (some (.cell a)) ∧ S a = some (.lst ts) ∧ r D (σ.set i (some (.lst ts))) (S.drop a)
/-- behind this statement the list that the name had before is not read -/
def sDrp (i : Nat) (r : TRS) : TRS := fun D σ S => ∃ a, σ[i]? = some (some (.cell a)) ∧ r { D with nx := fun σ' S' => D.nx σ' (S'.drop a) } σ S
end

/-! ### t[::-1] of a tuple -/
section
variable {prog : Program} {w : World} {A : Around} {E : Value → Shared → Prop} {s : Shared}
end
structure RRevT (K : PySem.W.Frag) (x : V) (H : Hp) (Q : VK) : Prop where
  ex : ∃ a xs, x = .ref a ∧ SqT K H a xs ∧ xs ≠ [] ∧ ∀ p, H p = none → Q (.ref p) (upd H p (.tup xs.reverse))
def tRevT (K : PySem.W.Frag) (te : TE) : TE := fun σ H Q => te σ H fun x H1 => RRevT K x H1 Q
/-- t[::-1] -/
def rRevT (ra : TR) : TR := fun σ S R RE => ra σ S (fun x S1 => ∃ l, x = .tup l ∧ l ≠ [] ∧ R (.tup l.reverse) S1) RE
/-! {"k1": "v1", "k2": "v2"}[x] -/
section
variable {X : Cx} {E : XK}
def rDix2 (k1 k2 : Str) (t1 t2 tx : TR) : TR := fun σ S R _ => t1 σ S (fun y1 S1 => t2 σ S1 (fun y2 S2 => tx σ S2 (fun x S3 =>
  ∃ b1 b2 z, y1 = .str b1 ∧ y2 = .str b2 ∧ x = .str z ∧ ((z = k1 ∧ R (.str b1) S3) ∨ (z = k2 ∧ R (.str b2) S3))) XF) XF) XF
end

/-! zip(tuple, tuple) -/
section
open RZ
def iZipT (t : TRA) : TRI := fun σ S R RE => t σ S (fun xs S1 => ∃ ts us, xs = [.tup ts, .tup us] ∧ R (zipT ts us) S1) RE
end

/-! max of a tuple of whole numbers -/
def maxN (n : Int) (ns : List Int) : Int := ns.foldl (fun a y => if a < y then y else a) n
def rMaxT (K : PySem.W.Frag) : List V → Hp → VK → Prop := fun vs H Q => ∃ (a : Addr) (n : Int) (ns : List Int), vs = [V.ref a] ∧ SqT K H a ((n :: ns).map V.int) ∧ Q (.int (maxN n ns)) H
def kMaxT : KA := fun xs S R _ => ∃ (n : Int) (ns : List Int), xs = [.tup ((n :: ns).map T.int)] ∧ R (.int (maxN n ns)) S
/-! o(e, ..): an instance is called -/
section
variable {X : Cx} {E : XK} {C f : Addr} {fd : FuncData} {k : Nat} {ps : List Str} {sp : SpT} {fe e : Expr} {es : List Expr} {pos : Pos} {rf : TR} {t : TRA}
def rCallOwn (C : Addr) (sp : SpT) (rf : TR) (t : TRA) : TR := fun σ S R RE => rf σ S (fun x S1 => ∃ gs, x = .ins C gs ∧ t σ S1 (fun xs S2 => sp (x :: xs) S2 R RE) RE) RE
end

/-! ### x, *xs = a tuple, the list changes -/
namespace StarU
open PySem PySem.Spec PySem.Calls PyProof.Rows PySem.W
end StarU
def gStarVT (K : PySem.W.Frag) (t : TGs) : TG := fun v σ H Q => ∃ a x xs, v = .ref a ∧ SqT K H a (x :: xs) ∧ xs.length < 16384 ∧ ∀ D, H D = none → t [x, .ref D] σ (upd H D (.lst xs)) Q
section
variable {X : Cx} {E : XK} {pos p1 p2 p3 : Pos} {x y : Str}
def gStarTC (gs : TRGs) : TRG := fun t σ S R RE => ∃ a l, t = .tup (a :: l) ∧ l.length < 16384 ∧ ∀ D, S D = none → gs [a, .cell D] σ (S.put D (.lst l)) R RE
end
/-! ### *x in a written tuple or list, x a list that changes, a list or a tuple -/
section
variable {X : Cx} {E : XK} {e : Expr} {es : List Expr} {p : Pos} {ra : TR} {t : TRA}
def itemsT : T → Store → Option (List T)
  | .cell a, S => match S a with
    | some (.lst l) => some l
    | _ => none
  | .lst l, _ => some l
  | .tup l, _ => some l
  | _, _ => none
def rStarA (ra : TR) (t : TRA) : TRA := fun σ S R RE => ra σ S (fun x S1 => ∃ l, itemsT x S1 = some l ∧ t σ S1 (fun ys S2 => R (l ++ ys) S2) RE) RE
end
/-! ### list(x), the new list changes -/
section
variable {X : Cx} {E : XK}
def kListC : KA := fun xs S R _ => ∃ x l, xs = [x] ∧ seqOf x = some l ∧ ∀ a, S a = none → R (.cell a) (S.put a (.lst l))
end
/-! ### NAME.index(z), a written tuple of texts -/
structure GStrs (K : PySem.W.Frag) (mg : Str → Option Value) (x : Str) (ys : List Str) : Prop where
  ex : ∃ (A : Addr) (its : Array Value) (n : Nat) (sl : Array (Option Value)), mg x = some (.ref A) ∧ K.lookup A = some ⟨.type "tuple", none, .seq its n, sl⟩ ∧ its.size ≤ sizeLine ∧ Vals (ys.map V.str) its.toList
section
variable {X : Cx} {E : XK}
def rTidx (ys : List Str) (t : TRA) : TR := fun σ S R RE => t σ S (fun xs S2 => ∃ z j, xs = [.str z] ∧ ys[j]? = some z ∧ (∀ m, m < j → ys[m]? ≠ some z) ∧ R (.int (j : Nat)) S2) RE
end

/-! ### a comprehension whose list changes -/
section
variable {X : Cx} {E : XK} {pos : Pos}
def rLcC (ri : TRI) (j : Nat) (tt : TRB) (re : TR) : TR := fun σ S R RE => ri σ S (fun ts S1 => rComp (fun t => σ.set j (some t)) tt re ts [] S1 (fun ys S2 => ∀ a, S2 a = none → R (.cell a) (S2.put a (.lst ys)))) RE
end

/-! ### t[a:b] of a tuple, the whole of it too -/
def rSlW (ra : TR) (rl rh : TRO) : TR := fun σ S R RE => ra σ S (fun x S1 => rl σ S1 (fun l S2 => rh σ S2 (fun h S3 => ∃ ts, x = .tup ts ∧ R (.tup (cutT ts l h)) S3) RE) RE) RE
section
variable {X : Cx} {E : XK} {a lo hi : Expr} {p2 pos : Pos} {ra : TR} {rl rh : TRO}
end

/-! ### a, b = a list of two -/
def gTupLV (K : PySem.W.Frag) (n : Nat) (t : TGs) : TG := fun v σ H Q => ∃ a xs, v = .ref a ∧ SqL K H a xs ∧ xs.length = n ∧ t xs σ H Q
section
variable {X : Cx} {E : XK} {pos : Pos}
def gTupL (n : Nat) (gs : TRGs) : TRG := fun t σ S R RE => ∃ ts, t = .lst ts ∧ ts.length = n ∧ gs ts σ S R RE
end

/-! integers of many digits, where no limit of digits was set -/
namespace BigI
open PySem PySem.Calls PySem.NumText PySem.W PySem.W.KIN PyProof.Rows
section
variable {prog : Program} {w : World} {A : Around} {E : Value → Shared → Prop} {s : Shared} {a : Int} {t : Tok}
theorem code_repr {R : Result → Shared → Prop} (hn : s.heap.NoDigits) (hl : a.natAbs < 10 ^ 4300) (h : R (.ok (.ret (.str (toString a) s.toks))) { s with toks := s.toks + 1 }) :
    codeAny (model prog w) A (.builtin "int.__repr__" ⟨[.int a t], []⟩) R s := by
  refine codeAny_builtin entry_int_repr ?_
  rw [Around.under_plainId plain_int_repr _]
  unfold Builtin.«int.__repr__»
  show wpAny _ _ (do let r ← Builtin.overDigitLimit? a; _) _ _ s
  refine wpAny_bind (overDigitLimit_any hn (fun _ => ?_) (fun hge => absurd hl (Nat.not_lt.mpr hge)))
  exact wpAny_bind (wpAny_mkStr (wpAny_pure h) (int_text_fits10 hl))
theorem field {Q : Value → Shared → Prop} (hn : s.heap.NoDigits) (hl : a.natAbs < 10 ^ 4300)
    (h : Q (.str (toString a) (s.toks + 1)) { s with toks := s.toks + 1 + 1 }) :
    wpAny (model prog w) A (formatField (.int a t) Str.empty) Q E s := by
  show wpAny _ _ (holding [.int a t] (pyFormat (.int a t) Str.empty)) Q E s
  refine wpAny_holding ?_
  unfold pyFormat
  refine wpAny_bind (wpAny_mkStr ?_ (by decide))
  refine wpAny_bind (m := callSpecial? (.int a t) (Str.ofString "__format__") [.str Str.empty s.toks]) (wpAny_callSpecial?_slot (name := Str.ofString "__format__") (typeIs_int _ a t) slot_int_format ?_)
  refine wpAny_call (codeAny_call_builtin slot_int_format.plain entry_int_format (slot_int_format.check _ _ _ _ _ _ _ _ (typeIs_int _ a t) (args_int_format _ _) ?_))
  show wpAny _ _ (do let _kind ← typeNameOf (.str Str.empty s.toks); (do rule "int.format.empty"; again (.builtin "int.__repr__" ⟨[.int a t], []⟩))) _ _ _
  refine wpAny_bind (wpAny_typeNameOf (T := "str") (typeIs_str _ _ _) (by decide) fun _ => wpAny_bind (wpAny_rule (wpAny_pure ⟨plainId_quiet plain_int_repr _, code_repr hn hl ?_⟩)))
  show wpAny _ _ (do if ← isInstance (.str (toString a) (s.toks + 1)) (.type "str") then return (.str (toString a) (s.toks + 1)) else _) Q E _
  exact wpAny_bind (wpAny_isInstance (typeIs_str _ _ _) isSubtype_str_str (wpAny_pure h))
end
end BigI
namespace BigI
open PySem PySem.Calls PySem.NumText PySem.W PySem.W.KIN PyProof.Rows
end BigI
section
variable {X : Cx} {E : XK} {e : Expr} {pos : Pos} {ra : TR} {te : TE}
/-! f-strings of integers of many digits -/
def tFmtB (te : TE) : TE := fun σ H Q => te σ H fun x H1 => (∃ y : Str, x = .str y ∧ y.length ≤ sizeLine ∧ Q (.str y) H1) ∨ ∃ i : Int, x = .int i ∧ i.natAbs < 2 ^ 14000 ∧ Q (.str (toString i)) H1
def kFmtB : T → Store → (T → Store → Prop) → Prop := fun x S R => match x with
  | .str y => y.length ≤ sizeLine ∧ R (.str y) S
  | .int i => i.natAbs < 2 ^ 14000 ∧ R (.str (toString i)) S
  | _ => False
def rFmtB (ra : TR) : TR := fun σ S R RE => ra σ S (fun x S1 => kFmtB x S1 R) RE
/-! int(text) of many digits -/
def kIntB : KA := fun xs S R _ => ∃ a n, xs = [.str a] ∧ PySem.intText? a = some n ∧ a.length ≤ 4300 ∧ R (.int n) S
/-! repr of data with integers of many digits -/
end
mutual
def showB : PyData → Prop
  | .int i => i.natAbs < 2 ^ 14000
  | .list xs | .tuple xs => showBAll xs
  | .dict kvs => kvs = []
  | _ => True
def showBAll : List PyData → Prop
  | [] => True
  | x :: xs => showB x ∧ showBAll xs
end
section
variable {prog : Program} {w : World} {h₀ : Heap}
end
structure SqB (d : PyData) : Prop where
  sh : showB d
  dp : d.depth ≤ 64
  ln : d.shown.length ≤ 16777216
structure RDB (K : PySem.W.Frag) (xs : List V) (H : Hp) (Q : VK) : Prop where
  ex : ∃ (v : V) (d : PyData), xs = [v] ∧ Dq K H v d ∧ SqB d ∧ Q (.str d.shown) H
def kReprB : List T → Store → (T → Store → Prop) → XT → Prop := fun xs S R _ => ∃ x d, xs = [x] ∧ x.datD = some d ∧ SqB d ∧ R (.str d.shown) S
/-! ### the end, where no limit of digits was set -/
section
variable {P : Program} {w : World} {K : PySem.W.Frag} {mg mb : Str → Option Value} {k : Nat} {fa a : Addr} {fd : FuncData} {x : Str} {sp : Sp} {st : Shared} {vs : List Value} {ns : List Int} {cs : List (Addr × Addr)}
theorem endCoreTD (R : Rear K mg mb cs st.heap) (dig : st.heap.NoDigits) (gens : st.gens = #[]) (ha : st.heap.get? a = some { cls := .type "list", data := .seq vs.toArray }) (hr : Room k callerA)
    (F : ∀ base : Heap, K.In base → base.Ns mainGlobals mg → (∃ o, base.get? sysModules = some o) → base.NoDigits → (∀ p ∈ cs, LamX.TabB base mg p.1 p.2) → FnG P w K mg base CX0 k fa fd [x] sp) (bind : ∀ (s : Shared) (u : Value), BindsTo s fd ⟨[u], []⟩ [(x, u)])
    {H : Hp} (hH : ∀ p ∈ cs, H p.2 = some (.tbl #[])) (only : ∀ b, H b = none ∨ (∃ p ∈ cs, p.2 = b) ∨ ∃ o xs, H b = some (.frz o (.lst xs))) (ok : HOk P w H st.heap) (one : ∀ b, H b ≠ none → b = a ∨ ∃ p ∈ cs, p.2 = b) (notK : H a ≠ none → K.lookup a = none)
    (want : sp [.ref a] H (fun v _ => v = .bl true) fun _ _ _ => False) :
    codeAny (model P w) callerA (.call (.ref fa) ⟨[.ref a], []⟩) (fun r s' => r = .ok (.ret (.bool true)) ∧ OldK st.heap s'.heap ∧ s'.os = st.os ∧ AllBare s'.gens) st := by
  have untracked : ∀ {b : Addr} {o : Obj}, st.heap.get? b = some o → (∀ n, o.data ≠ .seq vs.toArray n) → o.data ≠ .fields #[] → H b = none := by
    intro b o e n1 n2
    refine Option.eq_none_iff_forall_ne_some.mpr fun u z => ?_
    rcases one b (by rw [z]; exact fun t => nomatch t) with eb | ⟨p, hp, eb⟩
    · subst eb
      rw [ha] at e
      cases e
      exact n1 _ rfl
    · subst eb
      rw [R.tab p hp] at e
      cases e
      exact n2 rfl
  have toBase : ∀ {b : Addr} {m : Str → Option Value}, st.heap.Ns b m → (hidT st.heap H).Ns b m := by
    rintro b m ⟨o, es, ep, e, d, r⟩
    refine ⟨o, es, ep, hidT_get e (untracked e (fun _ z => ?_) fun z => ?_), d, r⟩
    · rw [d] at z
      cases z
    · rw [d] at z
      cases z
  have inBase : K.In (hidT st.heap H) := by
    intro b o e
    refine hidT_get (R.inK b o e) (Option.eq_none_iff_forall_ne_some.mpr fun u z => ?_)
    have nn : H b ≠ none := by rw [z]; exact fun t => nomatch t
    rcases one b nn with eb | ⟨p, hp, eb⟩
    · subst eb
      rw [notK nn] at e
      cases e
    · subst eb
      rw [R.free p hp] at e
      cases e
  obtain ⟨mc, l1, l2⟩ := R.lim
  have md : Mod K mg (hidT st.heap H) := ⟨inBase, toBase R.g, ⟨mb, toBase R.b, R.boot⟩, ⟨mc, toBase l1, l2⟩⟩
  have sys : ∃ o, (hidT st.heap H).get? sysModules = some o := by
    obtain ⟨mm, hm⟩ := R.mods
    obtain ⟨o, _, _, e, _⟩ := toBase hm
    exact ⟨o, e⟩
  have dg : (hidT st.heap H).NoDigits := by
    obtain ⟨mc, l1, l2⟩ := dig
    exact ⟨mc, toBase l1, l2⟩
  have TB : ∀ p ∈ cs, LamX.TabB (hidT st.heap H) mg p.1 p.2 := by
    intro p hp
    have tp := R.tab p hp
    have gne : mainGlobals ≠ p.2 := fun z => by
      obtain ⟨o, es, ep, e, d, _⟩ := R.g
      rw [z, tp] at e
      cases e
      cases d
    refine ⟨?_, ?_, gne⟩
    · obtain ⟨o, us, f1, f2, f3, f4, f5, f6, f7, e, c1, c2, c3, more⟩ := R.head p hp
      refine ⟨o, us, f1, f2, f3, f4, f5, f6, f7, hidT_get e (untracked e (fun _ z => ?_) fun z => ?_), c1, c2, c3, more⟩
      · rw [c2] at z
        cases z
      · rw [c2] at z
        cases z
        cases c3
    · obtain ⟨bm, ob, m1, m2, e, c1, c2, c3⟩ := R.main
      refine ⟨bm, ob, m1, m2, fun z => ?_, fun z => ?_, hidT_get e (untracked e (fun _ z => ?_) fun z => ?_), c1, c2, c3⟩
      · obtain ⟨o, es, ep, e2, d, _⟩ := R.g
        rw [z, e2] at e
        cases e
        rw [d] at c3
        cases c3
      · rw [z, tp] at e
        cases e
        cases c3
      · rw [c3] at z
        cases z
      · rw [c3] at z
        cases z
  have e0 : Env0 P w K mg (hidT st.heap H) callerA [] st H := by
    refine ⟨rfl, md, fun b o e => of_hidT e, Nat.le_of_eq (hidT_size _ _), trivial, fun b hb => ?_, ok, .of_eq gens⟩
    cases hb
  refine codeAny_mono ((F _ inBase md.glob sys dg TB).go callerA [] st H ⟨[.ref a], []⟩ [.ref a] [.ref a] _ _ rfl hr e0 (bind st (.ref a)) (.cons rfl .nil) want) fun r s' got => ?_
  cases r with
  | error e => exact got.elim
  | ok fl =>
    cases fl with
    | next => exact got.elim
    | brk => exact got.elim
    | cont => exact got.elim
    | ret u =>
      obtain ⟨v, H', os, bare, un, ok', rel, q⟩ := got
      have q2 : v = .bl true := q
      subst q2
      have q3 : u = Value.bool true := rel
      subst q3
      have stays : ∀ b o, (∀ p ∈ cs, p.2 ≠ b) → st.heap.get? b = some o → s'.heap.get? b = some o := by
        intro b o nt e
        rcases only b with z | ⟨p, hp, z⟩ | ⟨ob, xs, z⟩
        · refine un.keep b o e z (fun m => ?_) (by simp)
          cases m
        · exact absurd z (nt p hp)
        · have z2 := un.frzs b ob _ z
          obtain ⟨e1, _⟩ := ok b _ z
          obtain ⟨e2, _⟩ := ok' b _ z2
          rw [e1] at e
          cases e
          exact e2
      have grows : ∀ p ∈ cs, ∃ more : Array Value, s'.heap.get? p.2 = some { cls := .none, data := .fields more } := by
        intro p hp
        obtain ⟨more, z⟩ := un.tbls p.2 #[] (hH p hp)
        exact ⟨_, ok' p.2 _ z⟩
      refine ⟨rfl, ⟨fun b o e => ?_, fun b o e => ?_⟩, os, bare⟩
      · by_cases t : ∃ p ∈ cs, p.2 = b
        · obtain ⟨p, hp, rfl⟩ := t
          obtain ⟨more, z⟩ := grows p hp
          rw [R.tab p hp] at e
          cases e
          exact .inr (.inl ⟨((R.head p hp).tab (R.tab p hp)).isCodeTable, rfl, #[], more, rfl, by rw [Array.empty_append]; exact z⟩)
        · exact .inl (stays b o (fun p hp z => t ⟨p, hp, z⟩) e)
      · by_cases t : ∃ p ∈ cs, p.2 = b
        · obtain ⟨p, hp, rfl⟩ := t
          obtain ⟨more, z⟩ := grows p hp
          exact ⟨_, z⟩
        · exact ⟨o, stays b o (fun p hp z => t ⟨p, hp, z⟩) e⟩
theorem endCallTD (R : Rear K mg mb cs st.heap) (dig : st.heap.NoDigits) (gens : st.gens = #[]) (ha : st.heap.get? a = some { cls := .type "list", data := .seq vs.toArray }) (hi : IntsAre vs ns) (hl : ns.length ≤ sizeLine) (hr : Room k callerA)
    (F : ∀ base : Heap, K.In base → base.Ns mainGlobals mg → (∃ o, base.get? sysModules = some o) → base.NoDigits → (∀ p ∈ cs, LamX.TabB base mg p.1 p.2) → FnG P w K mg base CX0 k fa fd [x] sp) (bind : ∀ (s : Shared) (u : Value), BindsTo s fd ⟨[u], []⟩ [(x, u)])
    (want : ∀ H : Hp, (∀ p ∈ cs, H p.2 = some (.tbl #[])) → (∀ b, H b = none ∨ (∃ p ∈ cs, p.2 = b) ∨ ∃ o xs, H b = some (.frz o (.lst xs))) → SqL K H a (ns.map V.int) → sp [.ref a] H (fun v _ => v = .bl true) fun _ _ _ => False) :
    codeAny (model P w) callerA (.call (.ref fa) ⟨[.ref a], []⟩) (fun r s' => r = .ok (.ret (.bool true)) ∧ OldK st.heap s'.heap ∧ s'.os = st.os ∧ AllBare s'.gens) st := by
  have rv := vals_ints hi
  have aT : ¬ ∃ p ∈ cs, p.2 = a := by
    rintro ⟨p, hp, rfl⟩
    rw [R.tab p hp] at ha
    have z := congrArg Obj.data (Option.some.inj ha)
    cases z
  classical
  cases hk : K.lookup a with
  | some o =>
    have e := R.inK a o hk
    rw [ha] at e
    cases e
    have at_ : ∀ b, (fun b => if ∃ p ∈ cs, p.2 = b then some (HO.tbl #[]) else none) b = if ∃ p ∈ cs, p.2 = b then some (HO.tbl #[]) else none := fun _ => rfl
    have seq : ∀ H : Hp, SqL K H a (ns.map V.int) := fun H => .inr ⟨_, vs.toArray, _, hk, rfl, rfl, rfl, by rw [List.size_toArray, hi.length]; exact hl, by simpa using rv⟩
    have onl : ∀ b, (fun b => if ∃ p ∈ cs, p.2 = b then some (HO.tbl #[]) else none) b = none ∨ (∃ p ∈ cs, p.2 = b) ∨ ∃ o xs, (fun b => if ∃ p ∈ cs, p.2 = b then some (HO.tbl #[]) else none) b = some (.frz o (.lst xs)) := fun b => by
      by_cases t : ∃ p ∈ cs, p.2 = b
      · exact .inr (.inl t)
      · exact .inl (if_neg t)
    refine endCoreTD R dig gens ha hr F bind (H := fun b => if ∃ p ∈ cs, p.2 = b then some (HO.tbl #[]) else none) (fun p hp => if_pos ⟨p, hp, rfl⟩) onl (fun b u z => ?_) (fun b z => ?_) (fun z => absurd (if_neg aT) z) (want _ (fun p hp => if_pos ⟨p, hp, rfl⟩) onl (seq _))
    · rw [at_] at z
      split at z
      · rename_i t
        obtain ⟨p, hp, rfl⟩ := t
        cases z
        exact R.tab p hp
      · cases z
    · by_cases t : ∃ p ∈ cs, p.2 = b
      · exact .inr t
      · exact absurd (if_neg t) z
  | none =>
    have at_ : ∀ b, (fun b => if b = a then some (HO.frz { cls := .type "list", data := .seq vs.toArray } (.lst (ns.map V.int))) else if ∃ p ∈ cs, p.2 = b then some (HO.tbl #[]) else none) b = if b = a then some (HO.frz { cls := .type "list", data := .seq vs.toArray } (.lst (ns.map V.int))) else if ∃ p ∈ cs, p.2 = b then some (HO.tbl #[]) else none := fun _ => rfl
    have hHt : ∀ p ∈ cs, (if p.2 = a then some (HO.frz { cls := .type "list", data := .seq vs.toArray } (.lst (ns.map V.int))) else if ∃ q ∈ cs, q.2 = p.2 then some (HO.tbl #[]) else none) = some (HO.tbl #[]) := fun p hp => by
      rw [if_neg (fun z => aT ⟨p, hp, z⟩), if_pos ⟨p, hp, rfl⟩]
    have onl : ∀ b, (fun b => if b = a then some (HO.frz { cls := .type "list", data := .seq vs.toArray } (.lst (ns.map V.int))) else if ∃ p ∈ cs, p.2 = b then some (HO.tbl #[]) else none) b = none ∨ (∃ p ∈ cs, p.2 = b) ∨ ∃ o xs, (fun b => if b = a then some (HO.frz { cls := .type "list", data := .seq vs.toArray } (.lst (ns.map V.int))) else if ∃ p ∈ cs, p.2 = b then some (HO.tbl #[]) else none) b = some (.frz o (.lst xs)) := fun b => by
      by_cases e : b = a
      · exact .inr (.inr ⟨_, _, if_pos e⟩)
      · by_cases t : ∃ p ∈ cs, p.2 = b
        · exact .inr (.inl t)
        · refine .inl ?_
          show (if b = a then _ else _) = none
          rw [if_neg e, if_neg t]
    refine endCoreTD R dig gens ha hr F bind (H := fun b => if b = a then some (HO.frz { cls := .type "list", data := .seq vs.toArray } (.lst (ns.map V.int))) else if ∃ p ∈ cs, p.2 = b then some (HO.tbl #[]) else none) hHt onl (fun b u z => ?_) (fun b z => ?_) (fun _ => hk) (want _ hHt onl (.inl (.inr ⟨_, if_pos rfl⟩)))
    · rw [at_] at z
      by_cases e : b = a
      · rw [if_pos e] at z
        subst e
        cases z
        exact ⟨ha, by rw [List.length_map]; exact hl, vs, _, rv, ha⟩
      · rw [if_neg e] at z
        split at z
        · rename_i t
          obtain ⟨p, hp, rfl⟩ := t
          cases z
          exact R.tab p hp
        · cases z
    · by_cases e : b = a
      · exact .inl e
      · by_cases t : ∃ p ∈ cs, p.2 = b
        · exact .inr t
        · exact absurd (by rw [if_neg e, if_neg t]) z
end
theorem walkTD {l : PySem.W.OpenLaw} {k : Nat} {q : Program} {loose : List Str} {XP : (Str → Option Value) → Heap → Prop} {YP : World → Heap → Prop} {d : DefRec} {K : Params → PySem.W.Frag} {cs : List (Addr × Addr)} {T0 : List (Addr × Str)} {x : Str}
    (hn : l.most = some 63) (hdf : d.params.defaults = []) (hr : Room k callerA) (hY : ∀ (w : World) (h : Heap), YP w h → (K w.params).In h)
    (F : ∀ (w : World) (mean : ExcName → Option Value) (mg mb : Str → Option Value) (fa : Addr) (h : Heap), Top q (PySem.W.looseW q loose) mean mg mb h → YP w h → (K w.params).In h → h.Ns mainGlobals mg → mg d.name = some (.ref fa) →
      Rear (K w.params) mg mb cs h ∧ ∃ fd : FuncData, (∀ (s : Shared) (u : Value), BindsTo s fd ⟨[u], []⟩ [(x, u)]) ∧ ∀ base : Heap, (K w.params).In base → base.Ns mainGlobals mg → (∃ o, base.get? sysModules = some o) → base.NoDigits → (∀ p ∈ cs, LamX.TabB base mg p.1 p.2) → FnT l.prog w (K w.params) mg base k fa fd [x] (sp_lawT T0))
    (nd : (T0.map (·.1)).Nodup) (hT : ∀ p ∈ T0, ∃ c, (c, p.1) ∈ cs) (hC : ∀ p ∈ cs, ∃ q, (p.2, q) ∈ T0) :
    PySem.W.WalkO q loose XP YP l.row.toRowW d [] (fun f vs => PySem.call f vs) := by
  refine Att.attach_call hn hdf ?_
  intro w s₀ s₁ mg mb fa o pm cd doc a vs ns G Y ho hd hcd hmg hobj hints hlen hg
  obtain ⟨R, fd, hb, hF⟩ := F w _ mg mb fa _ G.T Y (hY w _ Y) G.T.g hmg
  exact endCallTD (sp := fun vs H Q _ => UpF (K w.params) (sp_lawT T0) vs H Q EF) R G.T.nodigits hg hobj hints (Nat.le_trans hlen (by rw [sizeLine_eq]; decide)) hr (fun base i n s d t => (hF base i n s d t).cx0) hb fun H hH onl seq => law_wantT hlen nd hT hC hH onl seq

/-! ### a text is walked; in a text -/
def signsT (z : Str) : List T := z.cps.toList.map fun c => T.str ⟨#[c]⟩
def iStrT (ra : TR) : TRI := fun σ S R RE => ra σ S (fun t S1 => ∃ z, t = .str z ∧ R (signsT z) S1) RE
section
variable {X : Cx} {E : XK} {a : Expr} {ra : TR}
def kInS (ng : Bool) : KB := fun x y S R _ => ∃ i j, x = .str i ∧ y = .str j ∧ R (.bl (ng ^^ !(Builtin.Str.occurrences j i 0 j.length 1).isEmpty)) S
end
/-! a text some times over -/
def repS (z : Str) (n : Nat) : Str := ⟨(List.replicate n z.cps).foldl (· ++ ·) #[]⟩
section
variable {X : Cx} {E : XK}
def kMulS : KB := fun x y S R _ => ∃ z k, x = .str z ∧ y = .int k ∧ 1 < k ∧ k ≤ 4000 ∧ 0 < z.length ∧ z.length ≤ 1000 ∧ R (.str (repS z k.toNat)) S
end
/-! ### z[::-1] of a text -/
def revSOk (z y : Str) : Prop := y.length = z.length ∧ ∀ c ∈ y.cps.toList, c ∈ z.cps.toList
section
variable {X : Cx} {E : XK} {ra : TR}
def tRevS (te : TE) : TE := fun σ H Q => te σ H fun x H1 => ∃ z, x = .str z ∧ z.length ≤ sizeLine ∧ ∀ y, revSOk z y → Q (.str y) H1
def rRevS (ra : TR) : TR := fun σ S R RE => ra σ S (fun x S1 => ∃ z, x = .str z ∧ z.length ≤ sizeLine ∧ ∀ y, revSOk z y → R (.str y) S1) RE
end

/-! ### repr of lists and tuples that hold instances -/
/-! the containers in a value, how deep they are -/
mutual
inductive Ad (K : PySem.W.Frag) (Z : Addr → Prop) (S : Store) (H : Hp) : V → Nat → List Addr → Prop
  | atom {v : V} (h : ∀ a, v ≠ .ref a) : Ad K Z S H v 0 []
  | ins {a C dx : Addr} {fs : List (Str × V)} (h : H a = some (.ins C dx fs)) (n : S a = none ∧ ¬ Z a) : Ad K Z S H (.ref a) 0 []
  | dct {a : Addr} (h : H a = some (.dK [])) (n : S a = none ∧ ¬ Z a) : Ad K Z S H (.ref a) 1 [a]
  | lst {a : Addr} {vs : List V} {n : Nat} {as : List Addr} (h : LstAt Z S H a vs) (r : AdA K Z S H vs n as) : Ad K Z S H (.ref a) (n + 1) (a :: as)
  | tup {a : Addr} {vs : List V} {n : Nat} {as : List Addr} (h : TupAt K Z S H a vs) (r : AdA K Z S H vs n as) : Ad K Z S H (.ref a) (n + 1) (a :: as)
inductive AdA (K : PySem.W.Frag) (Z : Addr → Prop) (S : Store) (H : Hp) : List V → Nat → List Addr → Prop
  | nil : AdA K Z S H [] 0 []
  | cons {v : V} {vs : List V} {n m : Nat} {as bs : List Addr} (h : Ad K Z S H v n as) (r : AdA K Z S H vs m bs) : AdA K Z S H (v :: vs) (max n m) (as ++ bs)
end
section
variable {K : PySem.W.Frag} {Z : Addr → Prop} {S S' : Store} {H H' : Hp}
mutual
theorem Ad.le (l : Le S H S' H') : ∀ {v : V} {n : Nat} {as : List Addr}, Ad K Z S H v n as → Ad K Z S' H' v n as
  | _, _, _, .atom h => .atom h
  | _, _, _, .ins h n => .ins (l _ _ h n.1 (fun _ e => nomatch e)).1 ⟨(l _ _ h n.1 (fun _ e => nomatch e)).2, n.2⟩
  | _, _, _, .dct h n => .dct (l _ _ h n.1 (fun _ e => nomatch e)).1 ⟨(l _ _ h n.1 (fun _ e => nomatch e)).2, n.2⟩
  | _, _, _, .lst h r => .lst (h.le l) (AdA.le l r)
  | _, _, _, .tup h r => .tup (h.le l) (AdA.le l r)
theorem AdA.le (l : Le S H S' H') : ∀ {vs : List V} {n : Nat} {as : List Addr}, AdA K Z S H vs n as → AdA K Z S' H' vs n as
  | _, _, _, .nil => .nil
  | _, _, _, .cons h r => .cons (Ad.le l h) (AdA.le l r)
end
/-- the kind of the object at a container's address -/
theorem cls_ins {X : Cx} {pins : List (Addr × Obj)} {σ : L2.St} {H : Hp} {s : Shared} (inv : Inv X pins σ H s) {a C dx : Addr} {fs : List (Str × V)} (h : H a = some (.ins C dx fs)) : ∃ o, s.heap.get? a = some o ∧ o.cls = .ref C := by
  obtain ⟨mA, O, _⟩ := ins_get inv.hok h
  obtain ⟨od, J, _⟩ := O.look
  exact ⟨_, J.at_, J.cls⟩
theorem cls_dct {X : Cx} {pins : List (Addr × Obj)} {σ : L2.St} {H : Hp} {s : Shared} (inv : Inv X pins σ H s) {a : Addr} (h : H a = some (.dK [])) : ∃ o, s.heap.get? a = some o ∧ o.cls = .type "dict" := by
  obtain ⟨_, ns, vs, kv, o, es, ep, h1, h2, h3, h4, h5, h6⟩ := (show ObjOk X.prog X.w H s.heap a (.dK []) from inv.hok a _ h)
  exact ⟨o, h1, h2.1⟩
theorem cls_lst {X : Cx} {pins : List (Addr × Obj)} {σ : L2.St} {H : Hp} {s : Shared} (inv : Inv X pins σ H s) {a : Addr} {vs : List V} (h : LstAt Z S H a vs) : ∃ o, s.heap.get? a = some o ∧ o.cls = .type "list" := by
  obtain ⟨its, rv, ⟨o, n, ho, hc, _, hd⟩, _⟩ := inv.list (LstAt.sq (K := X.K) h)
  exact ⟨o, ho, hc⟩
theorem cls_tup {X : Cx} {pins : List (Addr × Obj)} {σ : L2.St} {H : Hp} {s : Shared} (inv : Inv X pins σ H s) {a : Addr} {vs : List V} (h : TupAt X.K Z S H a vs) : ∃ o, s.heap.get? a = some o ∧ o.cls = .type "tuple" := by
  obtain ⟨its, rv, ⟨o, ho, hc, n, hd⟩, _⟩ := inv.tuple h.sq
  exact ⟨o, ho, hc⟩
theorem cls_no {h : Heap} {a : Addr} {c c' : Value} (x : ∃ o, h.get? a = some o ∧ o.cls = c) (y : ∃ o, h.get? a = some o ∧ o.cls = c') (ne : c ≠ c') : False := by
  obtain ⟨o, e1, e2⟩ := x
  obtain ⟨o', e3, e4⟩ := y
  rw [e1] at e3
  cases e3
  exact ne (e2.symm.trans e4)
end
section
variable {X : Cx} {pins : List (Addr × Obj)} {σ : L2.St} {Z : Addr → Prop} {S : Store} {H : Hp} {s : Shared}
mutual
theorem Ad.same (inv : Inv X pins σ H s) : ∀ {v : V} {n m : Nat} {as bs : List Addr}, Ad X.K Z S H v n as → Ad X.K Z S H v m bs → n = m
  | _, _, _, _, _, .atom h, y => by
    cases y <;> first | rfl | exact absurd rfl (h _)
  | _, _, _, _, _, .ins h _, y => by
    cases y with
    | atom q => exact absurd rfl (q _)
    | ins _ _ => rfl
    | dct q _ => exact (cls_no (cls_ins inv h) (cls_dct inv q) nofun).elim
    | lst q _ => exact (cls_no (cls_ins inv h) (cls_lst inv q) nofun).elim
    | tup q _ => exact (cls_no (cls_ins inv h) (cls_tup inv q) nofun).elim
  | _, _, _, _, _, .dct h _, y => by
    cases y with
    | atom q => exact absurd rfl (q _)
    | ins q _ => exact (cls_no (cls_dct inv h) (cls_ins inv q) nofun).elim
    | dct q _ => rfl
    | lst q _ => exact (cls_no (cls_dct inv h) (cls_lst inv q) (by simp)).elim
    | tup q _ => exact (cls_no (cls_dct inv h) (cls_tup inv q) (by simp)).elim
  | _, _, _, _, _, .lst h r, y => by
    cases y with
    | atom q => exact absurd rfl (q _)
    | ins q _ => exact (cls_no (cls_lst inv h) (cls_ins inv q) nofun).elim
    | dct q _ => exact (cls_no (cls_lst inv h) (cls_dct inv q) (by simp)).elim
    | lst q r2 =>
      have e := inv.list_inj (LstAt.sq (K := X.K) h) (LstAt.sq (K := X.K) q)
      subst e
      rw [AdA.same inv r r2]
    | tup q _ => exact (cls_no (cls_lst inv h) (cls_tup inv q) (by simp)).elim
  | _, _, _, _, _, .tup h r, y => by
    cases y with
    | atom q => exact absurd rfl (q _)
    | ins q _ => exact (cls_no (cls_tup inv h) (cls_ins inv q) nofun).elim
    | dct q _ => exact (cls_no (cls_tup inv h) (cls_dct inv q) (by simp)).elim
    | lst q _ => exact (cls_no (cls_tup inv h) (cls_lst inv q) (by simp)).elim
    | tup q r2 =>
      have e := inv.tuple_inj h.sq q.sq
      subst e
      rw [AdA.same inv r r2]
theorem AdA.same (inv : Inv X pins σ H s) : ∀ {vs : List V} {n m : Nat} {as bs : List Addr}, AdA X.K Z S H vs n as → AdA X.K Z S H vs m bs → n = m
  | _, _, _, _, _, .nil, y => by cases y; rfl
  | _, _, _, _, _, .cons h r, y => by
    cases y with
    | cons h2 r2 => rw [Ad.same inv h h2, AdA.same inv r r2]
end
end
/-! how deep lists and tuples stand in one another -/
mutual
def T.dep : T → Nat
  | .lst l => T.depL l + 1
  | .tup l => T.depL l + 1
  | .dct => 1
  | _ => 0
def T.depL : List T → Nat
  | [] => 0
  | t :: ts => max t.dep (T.depL ts)
end
/-! what repr shows -/
mutual
inductive Shw (L : T → Store → Str → Prop) (S : Store) : T → Str → Prop
  | non : Shw L S .non "None"
  | bl (b : Bool) : Shw L S (.bl b) (if b then "True" else "False")
  | int (i : Int) (h : i.natAbs.log2 < 1920) : Shw L S (.int i) (toString i)
  | str (z : Str) : Shw L S (.str z) (reprText z)
  | dct : Shw L S .dct "{}"
  | own {C : Addr} {gs : List (Str × T)} {t : Str} (h : L (.ins C gs) S t) : Shw L S (.ins C gs) t
  | lst {ts : List T} {xs : List Str} (h : ShwA L S ts xs) : Shw L S (.lst ts) (listText xs)
  | tup {ts : List T} {xs : List Str} (h : ShwA L S ts xs) : Shw L S (.tup ts) (tupleText xs)
inductive ShwA (L : T → Store → Str → Prop) (S : Store) : List T → List Str → Prop
  | nil : ShwA L S [] []
  | cons {t : T} {ts : List T} {x : Str} {xs : List Str} (h : Shw L S t x) (r : ShwA L S ts xs) : ShwA L S (t :: ts) (x :: xs)
end
section
variable {K : PySem.W.Frag} {L : T → Store → Str → Prop} {Z : Addr → Prop} {S S0 : Store} {H : Hp}
theorem ShwA.len : ∀ {ts : List T} {xs : List Str}, ShwA L S ts xs → xs.length = ts.length
  | _, _, .nil => rfl
  | _, _, .cons _ r => by rw [List.length_cons, List.length_cons, r.len]
end

open Builtin Builtin.List
/-- one level further in -/
structure Down (A A' : Around) : Prop where
  fr : A'.frames = A.frames
  hd : A'.handled = A.handled
  dp : A'.depth ≤ A.depth + 1
  un : A'.units ≤ A.units + 1
/-- the room that repr wants, one level after another -/
structure Jn (J : Nat → Around → Prop) : Prop where
  down : ∀ d A A', Down A A' → J (d + 1) A → J d A'
  le : ∀ d e A, d ≤ e → J e A → J d A
  un : ∀ d A, J d A → A.units + d + 64 < cLine
theorem AdA.at {K : PySem.W.Frag} {Z : Addr → Prop} {S : Store} {H : Hp} : ∀ {vs : List V} {n : Nat} {as : List Addr} {i : Nat} {v : V}, AdA K Z S H vs n as → vs[i]? = some v → ∃ m bs, Ad K Z S H v m bs ∧ m ≤ n ∧ ∀ b ∈ bs, b ∈ as
  | _, _, _, _, _, .nil, e => by simp at e
  | _, _, _, 0, _, .cons h _, e => by simp at e; subst e; exact ⟨_, _, h, Nat.le_max_left _ _, fun b hb => List.mem_append_left _ hb⟩
  | _, _, _, i + 1, v, .cons _ r, e => by
    obtain ⟨m, bs, h1, h2, h3⟩ := AdA.at (i := i) (v := v) r (by simpa using e)
    exact ⟨m, bs, h1, Nat.le_trans h2 (Nat.le_max_right _ _), fun b hb => List.mem_append_right _ (h3 b hb)⟩
def EndN (X : Cx) (pins : List (Addr × Obj)) (σ : L2.St) (Z : Addr → Prop) (S : Store) (H : Hp) (Q : Shared → Prop) : Prop :=
  ∀ (H' : Hp) (s' : Shared), Inv X pins σ H' s' → Le S H S H' → Ok X.K Z S H' → Q s'
/-- what repr makes of a value, among others -/
def RnU (X : Cx) (J : Nat → Around → Prop) (S : Store) (t : T) (x : Str) : Prop :=
  ∀ (Z : Addr → Prop) (H : Hp) (v : V) (u : Value) (n : Nat) (as : List Addr) (pins : List (Addr × Obj)) (σ : L2.St) (s : Shared) (A : Around) (g : List Code) (base : Nat) (Q : Str → Shared → Prop) (E : Value → Shared → Prop),
    Ok X.K Z S H → Rep X.K Z S H v t → Ad X.K Z S H v n as → RelV v u → Inv X pins σ H s → J n A → A.frames = some X.stack → A.guards = some g → (∀ b ∈ as, Clear g b) → base + x.length ≤ sizeLine →
    EndN X pins σ Z S H (Q x) → wpAny (model X.prog X.w) A (pyReprUnder base u) Q E s
/-- one that has an own __repr__ -/
def LeafOk (X : Cx) (J : Nat → Around → Prop) (L : T → Store → Str → Prop) : Prop := ∀ (C : Addr) (gs : List (Str × T)) (S : Store) (x : Str), L (.ins C gs) S x → RnU X J S (.ins C gs) x
section
variable {X : Cx} {J : Nat → Around → Prop} {L : T → Store → Str → Prop} {S : Store} {Z : Addr → Prop} {σ : L2.St}
theorem EndN.tok {pins : List (Addr × Obj)} {H : Hp} {Q : Shared → Prop} {s : Shared} (h : EndN X pins σ Z S H Q) (I : Inv X pins σ H s) (ok : Ok X.K Z S H) (tk : Nat) : Q { s with toks := tk } := h _ _ (I.tok tk) .refl ok
end

open Builtin Builtin.List
/-! ### repr of a list, of a tuple, of {} -/
section
variable {X : Cx} {J : Nat → Around → Prop} {S : Store} {Z : Addr → Prop} {σ : L2.St}
end
section
variable {X : Cx} {J : Nat → Around → Prop} {L : T → Store → Str → Prop} {S : Store}
end

/-! ### defs that are called while repr of a list runs -/
/-- what a def keeps that lets nothing out, whatever guards stand -/
structure FnOT (P : Program) (w : World) (K : PySem.W.Frag) (mg : Str → Option Value) (base : Heap) (k : Nat) (f : Addr) (fd : FuncData) (ps : List Str) (sp : SpT) : Prop where
  fn : FnOk P w K mg base CX0 k f fd ps (fun vs H Q _ => UpF K sp vs H Q EF)
/-- .. while an error is handled -/
structure FnQT (P : Program) (w : World) (K : PySem.W.Frag) (mg : Str → Option Value) (base : Heap) (k : Nat) (f : Addr) (fd : FuncData) (ps : List Str) (sp : SpT) : Prop where
  len : ∀ vs H Q, UpF K sp vs H Q EF → vs.length = ps.length
  go : ∀ (A : Around) (out : List Env) (st : Shared) (H : Hp) (as : Args) (us : List Value) (vs : List V) (Q : VK) (E : XK) (p : Addr × Obj), L2H.RoomH k A → L2H.Hot1 A p → L2H.PinOk out H st p → Env0 P w K mg base A out st H →
    BindsTo st fd as (ps.zip us) → Vals vs us → UpF K sp vs H Q EF → codeAny (model P w) A (.call (.ref f) as) (CR CX0 out P w H st Q E) st
section
variable {P : Program} {w : World} {K : PySem.W.Frag} {mg : Str → Option Value} {base : Heap} {k : Nat} {f : Addr} {fd : FuncData} {ps : List Str} {sp : SpT}
end
section
variable {X : Cx} {E : XK} {k : Nat} {f : Addr} {fd : FuncData} {ps : List Str} {sp : SpT} {x : Str} {p : Addr × Obj} {ep pos : Pos} {e a : Expr} {es : List Expr} {t : TRA} {ra : TR}
/-- str and repr by the own def -/
structure StrDO (P : Program) (w : World) (K : PySem.W.Frag) (mg : Str → Option Value) (base : Heap) (m : Str) (j : Nat) (D : Addr → SpT → Prop) : Prop where
  at_ : ∀ C sp, D C sp → ∃ k f fd ps, OwnDef K C m f ∧ FnOT P w K mg base k f fd ps sp ∧ k + 2 ≤ j ∧ Binds K fd ps []
structure StrDQ (P : Program) (w : World) (K : PySem.W.Frag) (mg : Str → Option Value) (base : Heap) (m : Str) (j : Nat) (D : Addr → SpT → Prop) : Prop where
  at_ : ∀ C sp, D C sp → ∃ k f fd ps, OwnDef K C m f ∧ FnQT P w K mg base k f fd ps sp ∧ k + 2 ≤ j ∧ Binds K fd ps []
section
variable {P : Program} {w : World} {K : PySem.W.Frag} {mg : Str → Option Value} {base : Heap} {m : Str} {j : Nat}
theorem StrDO.one {C : Addr} (o : OwnDef K C m f) (F : FnOT P w K mg base k f fd ps sp) (hk : k + 2 ≤ j) (hb : Binds K fd ps []) : StrDO P w K mg base m j (one C sp) := ⟨fun C' sp' ⟨e1, e2⟩ => by
  subst e1 e2
  exact ⟨k, f, fd, ps, o, F, hk, hb⟩⟩
theorem StrDO.or {D1 D2 : Addr → SpT → Prop} (h1 : StrDO P w K mg base m j D1) (h2 : StrDO P w K mg base m j D2) : StrDO P w K mg base m j (fun C sp => D1 C sp ∨ D2 C sp) := ⟨fun C sp d => d.elim (h1.at_ C sp) (h2.at_ C sp)⟩
theorem StrDQ.one {C : Addr} (o : OwnDef K C m f) (F : FnQT P w K mg base k f fd ps sp) (hk : k + 2 ≤ j) (hb : Binds K fd ps []) : StrDQ P w K mg base m j (one C sp) := ⟨fun C' sp' ⟨e1, e2⟩ => by
  subst e1 e2
  exact ⟨k, f, fd, ps, o, F, hk, hb⟩⟩
theorem StrDQ.or {D1 D2 : Addr → SpT → Prop} (h1 : StrDQ P w K mg base m j D1) (h2 : StrDQ P w K mg base m j D2) : StrDQ P w K mg base m j (fun C sp => D1 C sp ∨ D2 C sp) := ⟨fun C sp d => d.elim (h1.at_ C sp) (h2.at_ C sp)⟩
end
theorem binds1 {K : PySem.W.Frag} {s : Shared} (hb : Binds K fd ps []) (kin : K.In s.heap) {a : Addr} (hl : [V.ref a].length = ps.length) : BindsTo s fd ⟨[Value.ref a], []⟩ (ps.zip [Value.ref a]) := by
  have b := hb s [.ref a] kin (by rw [List.append_nil]; exact hl)
  rw [List.append_nil] at b
  exact b
end
/-! the leaves -/
/-- an instance, what its own __repr__ shows -/
def Lf (D : Addr → SpT → Prop) : T → Store → Str → Prop := fun t S x => ∃ C gs sp, t = .ins C gs ∧ D C sp ∧ ∀ (R : T → Store → Prop) (RE : XT), R (.str x) S → sp [t] S R RE
def JO (j : Nat) : Nat → Around → Prop := fun d A => Room (j + d) A
def JQ (j : Nat) (p : Addr × Obj) : Nat → Around → Prop := fun d A => L2H.RoomH (j + d) A ∧ L2H.Hot1 A p
section
variable {X : Cx} {D : Addr → SpT → Prop} {j : Nat}
end

open Builtin Builtin.List
/-! ### repr(x) of a list or a tuple that holds instances -/
def T.con : T → Bool
  | .lst _ => true
  | .tup _ => true
  | _ => false
structure RN (K : PySem.W.Frag) (D : Addr → SpT → Prop) (xs : List V) (H : Hp) (Q : VK) : Prop where
  ex : ∃ Z S v t x, xs = [v] ∧ Ok K Z S H ∧ Rep K Z S H v t ∧ Shw (Lf D) S t x ∧ t.con = true ∧ t.dep ≤ 8 ∧ x.length ≤ 16777216 ∧ ∀ H', Le S H S H' → Ok K Z S H' → Q (.str x) H'
theorem RN.mono {K : PySem.W.Frag} {D : Addr → SpT → Prop} (xs : List V) (H : Hp) (Q Q' : VK) (imp : ∀ v H', Q v H' → Q' v H') (h : RN K D xs H Q) : RN K D xs H Q' := by
  obtain ⟨Z, S, v, t, x, e, ok, rp, sh, c, d, l, q⟩ := h.ex
  exact ⟨Z, S, v, t, x, e, ok, rp, sh, c, d, l, fun H' le ok' => imp _ _ (q H' le ok')⟩
def kReprN (D : Addr → SpT → Prop) : KA := fun xs S R _ => ∃ t x, xs = [t] ∧ Shw (Lf D) S t x ∧ t.con = true ∧ t.dep ≤ 8 ∧ x.length ≤ 16777216 ∧ R (.str x) S
/-! keywords, where a keyword-only parameter is left to its default -/
section
variable {K : PySem.W.Frag} {x qual : Str} {st : Stmt} {f : Addr} {fd : FuncData} {ps : List Str} {dts : List T} {kws : List (Str × V)}
end

/-! ### an own error over any of Python's bases, its field by any name, made by position, by name or with nothing -/
section
open PySem.W PySem.Calls PyProof.Rows PySem.HandSPX Builtin Builtin.ObjectAttr
abbrev tailB (B : String) : List Value := [.type B, .type "Exception", .type "BaseException", .type "object"]
def refsB (B : String) : List Value → Bool
  | .ref _ :: r => refsB B r
  | l => l == tailB B
theorem refsB_cases {B : String} : ∀ l : List Value, refsB B l = true → (∃ c r, l = .ref c :: r ∧ refsB B r = true) ∨ l = tailB B
  | [], e => .inr (beq_iff_eq.mp e)
  | .ref c :: r, e => .inl ⟨c, r, rfl, e⟩
  | .none :: _, e => .inr (beq_iff_eq.mp e)
  | .ellipsis :: _, e => .inr (beq_iff_eq.mp e)
  | .notImplemented :: _, e => .inr (beq_iff_eq.mp e)
  | .bool _ :: _, e => .inr (beq_iff_eq.mp e)
  | .int _ _ :: _, e => .inr (beq_iff_eq.mp e)
  | .float _ _ :: _, e => .inr (beq_iff_eq.mp e)
  | .str _ _ :: _, e => .inr (beq_iff_eq.mp e)
  | .bytes _ _ :: _, e => .inr (beq_iff_eq.mp e)
  | .type _ :: _, e => .inr (beq_iff_eq.mp e)
  | .builtin _ :: _, e => .inr (beq_iff_eq.mp e)
theorem refsB_nil {B : String} : refsB B [] = true → False := fun e => by
  have h : ([] : List Value) = tailB B := beq_iff_eq.mp e
  cases h
/-- what is known of Python's base -/
structure BaseE (B newId initId : String) : Prop where
  F : ExcBaseFacts B newId initId (tailB B)
  ps : ∀ self, refuseLoop self "__setattr__" (tailB B) = pure ()
theorem base_VE : BaseE "ValueError" "ValueError.__new__" "ValueError.__init__" := ⟨F.excBase_ValueError, F.store_ValueError.passes⟩
theorem base_LE : BaseE "LookupError" "LookupError.__new__" "LookupError.__init__" := ⟨F.excBase_LookupError, F.store_LookupError.passes⟩
theorem base_AE : BaseE "ArithmeticError" "ArithmeticError.__new__" "ArithmeticError.__init__" := ⟨F.excBase_ArithmeticError, F.store_ArithmeticError.passes⟩
theorem refsB_pass {B n i : String} (b : BaseE B n i) (self : Value) : ∀ l : List Value, refsB B l = true → refuseLoop self "__setattr__" l = pure () := by
  intro l
  induction l with
  | nil => intro e; exact (refsB_nil e).elim
  | cons a r ih =>
    intro e
    rcases refsB_cases (a :: r) e with ⟨c, r', q, h⟩ | q
    · obtain ⟨rfl, rfl⟩ := List.cons.inj q
      rw [refuseLoop_ref]; exact ih h
    · rw [q]; exact b.ps self
theorem refsB_contains {B : String} (X : String) : ∀ l : List Value, refsB B l = true → l.contains (.type X) = (tailB B).contains (.type X) := by
  intro l
  induction l with
  | nil => intro e; exact (refsB_nil e).elim
  | cons a r ih =>
    intro e
    rcases refsB_cases (a :: r) e with ⟨c, r', q, h⟩ | q
    · obtain ⟨rfl, rfl⟩ := List.cons.inj q
      rw [List.contains_cons, ih h]; rfl
    · rw [q]
theorem refsB_ne {B : String} {l : List Value} (e : refsB B l = true) : l.isEmpty = false := by
  cases l with
  | nil => exact (refsB_nil e).elim
  | cons _ _ => rfl
section
variable {prog : Program} {w : World} {A : Around} {E : Value → Shared → Prop} {R : Result → Shared → Prop} {hp : Heap} {g : Array GenState} {d : Drawn} {t : Nat} {os : OsState}
theorem exc_osaB {B nw ini : String} (b : BaseE B nw ini) {K : W.Frag} {name : Str} {tk : Tok} {v : Value} {x C : Addr} {fv : Array Value} {cd : ClassData}
    (X : K.In hp) (hx : hp.get? x = some { cls := .ref C, data := .fields fv }) (hcd : W.clsIn K C = some cd) (hm : refsB B cd.mro = true) (hh : cd.hasDict = true) (ha : W.findIn K (.ref C) name = some none)
    (hq : ∀ h' tk' dx, (∀ b o, b ≠ x → hp.get? b = some o → h'.get? b = some o) → hp.objs.size ≤ dx → dx ≠ x → h'.get? x = some { cls := .ref C, dict := some dx, data := .fields fv } →
      h'.Ns1 dx (fun y => if y = name then some v else none) → R (.ok (.ret .none)) ⟨h', g, d, tk', os⟩) :
    codeAny (model prog w) A (.call (.builtin "object.__setattr__") ⟨[.ref x, .str name tk, v], []⟩) R ⟨hp, g, d, t, os⟩ := by
  have I : W.InstAt hp x { cls := .ref C, data := .fields fv } C none := ⟨hx, rfl, rfl, trivial⟩
  have SF := F.store_object
  have ne := refsB_ne hm
  have hob : cd.mro.contains (.type "object") = true := (refsB_contains "object" _ hm).trans (by simp)
  have hxs : x ≠ hp.objs.size := Nat.ne_of_lt (Heap.lt_size hx)
  have sub : W.Looks (model prog w) hp (isInstance (.ref x) (.type "object")) true := I.type.andThen (W.looks_mroIn X (by unfold W.mroIn; rw [hcd, Option.bind_some, if_neg (by rw [ne]; decide), hob]))
  refine codeAny_call_builtin SF.slot.plain SF.entry (@W.check_slot (model prog w) _ _ ⟨hp, g, d, t, os⟩ "object.__setattr__" "object" "__setattr__" (.ref x) [.str name tk, v] [] _ SF.kind SF.split sub (SF.args (.ref x) (.str name tk) v) ?_)
  have hmr : W.Looks (model prog w) hp (mroOf (.ref C)) cd.mro := (W.looks_clsIn X hcd).andThen .now
  have L3 : W.Looks (model prog w) hp (storeTaker? none) none := .now
  have hcls : W.Looks (model prog w) hp (classData C) cd := W.looks_clsIn X hcd
  rw [W.osa_eq, refuse_eq]
  refine wpAny_bind (wpAny_bind (I.type.at (wpAny_bind (hmr.at ?_))))
  rw [refsB_pass b _ _ hm]
  refine wpAny_pure (wpAny_bind (I.type.at (wpAny_bind ((W.looks_findIn X ha).at (wpAny_bind (L3.at ?_))))))
  show wpAny _ _ (storeInOwnDict (.ref x) (.ref C) (.str name tk) name v false) _ _ _
  obtain ⟨nm, bs, mro, ns, qn, hd, sn, sb, ab, col, del⟩ := cd
  dsimp only at hh
  subst hh
  unfold storeInOwnDict ownDictForStores
  repeat (first | with_reducible refine store_in_new ?_ ?_ | with_reducible refine wpAny_loadPart_at hx ?_ | with_reducible refine hcls.at ?_ | wp_step)
  · exact ⟨_, #[], _, (Heap.get?_update_ne _ _ _ _ hxs.symm).trans (Heap.get?_push_at rfl rfl), rfl, fun e he => absurd he (by simp), fun _ => rfl⟩
  · intro h' tk' hn' hs
    have hx₁ : (hp.push { cls := .type "dict", data := .dict #[] }).get? x = some { cls := .ref C, data := .fields fv } := Heap.get?_push_of_some _ hx
    refine hq h' tk' hp.objs.size (fun b o hb ho => ?_) (Nat.le_refl _) hxs.symm ?_ hn'
    · exact (hs.2 b (Nat.ne_of_lt (Heap.lt_size ho))).trans ((Heap.get?_update_ne _ _ _ _ hb).trans (Heap.get?_push_of_some _ ho))
    · exact (hs.2 x hxs).trans (Heap.get?_update_self _ hx₁ rfl)
end
/-! the same calls with keywords -/
section
variable {M : Model} {A : Around} {E : Value → Shared → Prop} {h : Heap} {g : Array GenState} {d : Drawn} {t : Nat} {os : OsState}
variable {nm q : Str} {C N : Addr} {bs bm bmB : List Value} {hdct : Bool} {sn : List Str} {sub : List Value} {ab : Bool} {col : Option Bool} {dd : Option Addr} {k0 k1 k2 k3 k5 : Option Value} {B newId initId : String} {kw : List (Str × Value)}
theorem check_new_kw (F : ExcBaseFacts B newId initId bmB) (hT : ∀ X : String, bm.contains (.type X) = bmB.contains (.type X)) {rest : List Value} {Q : Unit → Shared → Prop}
    (hC : h.get? C = some (excClassObj nm q C N bs bm hdct sn sub ab col dd k0 k1 k2 k3 k5 newId)) (hq : Q () ⟨h, g, d, t, os⟩) : wpAny M A (checkBuiltinCall newId ⟨.ref C :: rest, kw⟩) Q E ⟨h, g, d, t, os⟩ := by
  have hcont : (Value.ref C :: bm).contains (.type B) = true := by rw [List.contains_cons, hT, F.hasB, Bool.or_true]
  have hstar := F.noStar
  simp only [checkBuiltinCall, F.newKind, F.newSplit, F.newRow]
  repeat (first | refine wpAny_loadPart_at hC ?_ | (refine wpAny_isSubtype_exc hC ?_; rw [hcont]) | refine wpAny_staticBase_exc hC ?_ | refine wpAny_madeBy_exc hC ?_ | simp only [bne_self_eq_false, Bool.false_eq_true, if_false] | wp_step)
  exact hq
end
section
variable {prog : Program} {w : World} {A : Around} {E : Value → Shared → Prop} {R : Result → Shared → Prop} {h : Heap} {g : Array GenState} {d : Drawn} {t : Nat} {os : OsState}
variable {nm q : Str} {C N : Addr} {bs bm bmB : List Value} {hdct : Bool} {sn : List Str} {sub : List Value} {ab : Bool} {col : Option Bool} {dd : Option Addr} {k0 k1 k2 k3 k5 : Option Value} {B newId initId : String} {kw : List (Str × Value)}
theorem new_kw (F : ExcBaseFacts B newId initId bmB) (hT : ∀ X : String, bm.contains (.type X) = bmB.contains (.type X)) {rest : List Value}
    (hC : h.get? C = some (excClassObj nm q C N bs bm hdct sn sub ab col dd k0 k1 k2 k3 k5 newId))
    (hq : R (.ok (.ret (.ref (h.objs.size + 1)))) ⟨(h.push { cls := .type "tuple", data := .seq rest.toArray }).push
      { cls := .ref C, data := .fields #[.ref h.objs.size, .none, .none, .none, .bool false, .none] }, g, d, t, os⟩) (hrest : rest.length ≤ sizeLine) :
    codeAny (model prog w) A (.builtin newId ⟨.ref C :: rest, kw⟩) R ⟨h, g, d, t, os⟩ := by
  have hends := F.ends
  have hcB : (Value.ref C :: bm).contains (.type B) = true := by rw [List.contains_cons, hT, F.hasB, Bool.or_true]
  have hcA : (Value.ref C :: bm).contains (.type "AttributeError") = false := by rw [List.contains_cons, hT, F.noAttr]; rfl
  have hcN : (Value.ref C :: bm).contains (.type "NameError") = false := by rw [List.contains_cons, hT, F.noName]; rfl
  refine codeAny_builtinAt F.entry ?_
  unfold Builtin.«BaseException.__new__»
  refine PySem.wpAt_bind ?_
  show PySem.wpAt _ _ _ (stack >>= _) _ _ _
  refine PySem.wpAt_bind (PySem.wpAt_stack fun p below => PySem.wpAt_of_wpAny ?_)
  wp_walk
  refine PySem.wpAt_of_wpAny ?_
  rw [F.owner]
  repeat (first | with_reducible refine wpAny_madeHere_exc F.canon hC ?_ | with_reducible refine wpAny_loadPart_at hC ?_ | (with_reducible refine wpAny_isSubtype_exc hC ?_; first | rw [hcB] | rw [hcA] | rw [hcN]) | wp_step)
  show R _ _
  rw [Heap.size_push]
  exact hq
theorem type_call_kw (F : ExcBaseFacts B newId initId bmB) (hT : ∀ X : String, bm.contains (.type X) = bmB.contains (.type X)) {rest : List Value} {fI : Addr} {Q : Fin → Shared → Prop}
    (hC : h.get? C = some (excClassObj nm q C N bs bm hdct sn sub ab col dd k0 k1 k2 k3 k5 newId))
    (hi : W.Looks (model prog w) h (typeLookup (.ref C) "__init__") (some (.ref fI))) (hb : ∀ self, W.Looks (model prog w) h (bindSpecial (.ref fI) self) (.ref fI, [self])) (hrest : rest.length ≤ sizeLine)
    (hq : codeAny (model prog w) A (.call (.ref fI) ⟨.ref (h.objs.size + 1) :: rest, kw⟩)
      (fun r s' => match r with | .ok (.ret v) => v = .none ∧ Q (.done (.ret (.ref (h.objs.size + 1)))) s' | .ok _ => False | .error e => E e s')
      ⟨(h.push (W.kdv_tup rest)).push (excO C h.objs.size), g, d, t, os⟩) :
    wpAny (model prog w) A (Builtin.«type.__call__» ⟨.ref C :: rest, kw⟩) Q E ⟨h, g, d, t, os⟩ := by
  repeat (first | with_reducible refine wpAny_loadPart_at hC ?_ | with_reducible refine wpAny_madeBy_exc hC ?_ | wp_step)
  refine codeAny_call_builtin_code (Code.quiet_builtin _ F.quiet) (check_new_kw F hT hC ?_)
  refine new_kw F hT hC ?_ hrest
  show wpAny _ _ _ _ _ _
  have k : ∀ b o, h.get? b = some o → ((h.push (W.kdv_tup rest)).push (excO C h.objs.size)).get? b = some o := fun b o e => Heap.get?_push_of_some _ (Heap.get?_push_of_some _ e)
  have hC₁ := k _ _ hC
  have hget : ((h.push (W.kdv_tup rest)).push (excO C h.objs.size)).get? (h.objs.size + 1) = some (excO C h.objs.size) := by heap_get
  have hcC : (Value.ref C :: bm).contains (.ref C) = true := by simp
  have i1 := hi.keeps k
  have b1 := (hb (.ref (h.objs.size + 1))).keeps k
  unfold isInstance
  repeat (first | with_reducible refine wpAny_loadPart_at hget ?_ | (with_reducible refine wpAny_isSubtype_exc hC₁ ?_; rw [hcC]) | wp_step)
  show wpAny _ _ (typeLookup (.ref C) _) _ _ _
  refine i1.at ?_
  refine wpAny_holding (wpAny_bind (b1.at ?_))
  refine wpAny_bind (wpAny_call (codeAny_mono hq fun r s' z => ?_))
  rcases r with e | (v | _ | _ | _) <;> first | exact z | exact z.elim | skip
  obtain ⟨rfl, z⟩ := z
  first
    | exact wpAny_pure (wpAny_pure z)
    | (wp_walk; exact z)
theorem call_kw (F : ExcBaseFacts B newId initId bmB) (hT : ∀ X : String, bm.contains (.type X) = bmB.contains (.type X)) {rest : List Value} {fI : Addr}
    (hC : h.get? C = some (excClassObj nm q C N bs bm hdct sn sub ab col dd k0 k1 k2 k3 k5 newId))
    (hi : W.Looks (model prog w) h (typeLookup (.ref C) "__init__") (some (.ref fI))) (hb : ∀ self, W.Looks (model prog w) h (bindSpecial (.ref fI) self) (.ref fI, [self])) (hrest : rest.length ≤ sizeLine)
    (hq : codeAny (model prog w) (A.under (.builtin "type.__call__" ⟨.ref C :: rest, kw⟩)) (.call (.ref fI) ⟨.ref (h.objs.size + 1) :: rest, kw⟩) (W.InitBack (h.objs.size + 1) R)
      ⟨(h.push (W.kdv_tup rest)).push (excO C h.objs.size), g, d, t, os⟩) :
    codeAny (model prog w) A (.call (.ref C) ⟨rest, kw⟩) R ⟨h, g, d, t, os⟩ := by
  have f1 := tc_lookup
  have f2 := tc_bind (.ref C)
  have hTy : (⟨h, g, d, t, os⟩ : Shared).TypeIs (.ref C) "type" := ⟨_, hC, rfl⟩
  refine codeAny_of_tree ?_
  show wpAny _ _ (callAny (.ref C) _) _ _ _
  repeat (any_goals (first | assumption | with_reducible refine wpAny_loadPart_at hC ?_ | wp_step))
  refine ⟨rfl, ?_⟩
  refine codeAny_call_builtin_at (Code.quiet_builtin _ (by decide +kernel)) entry_typeCall (wpAny_check_type_call_sub hC (type_call_kw F hT hC hi hb hrest ?_))
  refine codeAny_mono hq fun r s' z => ?_
  rcases r with e | (v | _ | _ | _) <;> exact z
end
end

/-! ### C(e), C(k=e) of an own error as a value -/
section
open PySem.W PySem.Calls PyProof.Rows PySem.HandSPX
def evArgsN (N : Str) (p1 p2 : Pos) : Arguments := { posonlyargs := [], args := [{ arg := "self", annotation := none, pos := p1 }, { arg := N, annotation := none, pos := p2 }], vararg := none, kwonlyargs := [], kw_defaults := [], kwarg := none, defaults := [] }
def evBodyN (N : Str) (q1 q2 q3 q4 : Pos) : List Stmt := [.Assign [.Attribute (.Name "self" q1) N q2] (.Name N q3) q4]
def evScopeN (N : Str) : Scope := { kind := .function, names := [(PySem.Str.ofString "self", .local), (N, .local)], isGenerator := false, isCoroutine := false, more := [] }
/-- the names of fields that are known here -/
def FldN (N : Str) : Prop := N = "value" ∨ N = "index" ∨ N = "count"
structure EvN (K : Frag) (C fI : Addr) (qi N : Str) (B nw ini : String) : Prop where
  base : BaseE B nw ini
  fld : FldN N
  cls : ∃ nm q N bs bm sn sub ab col dd k0 k1 k2 k3 k5, K.lookup C = some (excClassObj nm q C N bs bm true sn sub ab col dd k0 k1 k2 k3 k5 nw) ∧ refsB B bm = true
  sa : findIn K (.ref C) "__setattr__" = some (some (.builtin "object.__setattr__"))
  noN : findIn K (.ref C) N = some none
  iC : findIn K (.ref C) "__init__" = some (some (.ref fI))
  tC : typeIn K (.ref fI) = some (.type "function")
  kC : keepIn K (.ref C) = true
  fn : ∃ (oc : Value) (od : Option Addr) (doc pm : Value) (an : Option Addr) (cdv ct : Value) (osl : Array (Option Value)) (p1 p2 q1 q2 q3 q4 : Pos),
    K.lookup fI = some ⟨oc, od, .func (fnOf "__init__" qi (evArgsN N p1 p2) (evBodyN N q1 q2 q3 q4) (evScopeN N) .none .none doc pm an cdv ct), osl⟩ ∧ codeIn K cdv qi = true
structure EvEndN (h h' : Heap) (x C dx t1 : Addr) (N : Str) (u : Value) : Prop where
  keep : ∀ b o, b ≠ x → h.get? b = some o → h'.get? b = some o
  obj : h'.get? x = some { cls := .ref C, dict := some dx, data := .fields #[.ref t1, .none, .none, .none, .bool false, .none] }
  dbig : h.objs.size ≤ dx
  dne : dx ≠ x
  ns : h'.Ns1 dx (fun y => if y = N then some u else none)
structure EvMadeN (h h' : Heap) (e C d : Addr) (N : Str) (u : Value) : Prop where
  keep : ∀ b o, h.get? b = some o → h'.get? b = some o
  new : h.objs.size ≤ e
  obj : ∃ oe t1, h'.get? e = some oe ∧ oe.cls = .ref C ∧ oe.dict = some d ∧ oe.data = .fields #[.ref t1, .none, .none, .none, .bool false, .none]
  dbig : h.objs.size ≤ d
  dne : d ≠ e
  ns : h'.Ns1 d (fun y => if y = N then some u else none)
section
variable {prog : Program} {w : World} {A : Around} {E : Value → Shared → Prop} {R : Result → Shared → Prop} {s0 : Shared} {K : Frag} {C fI : Addr} {qi N : Str} {B nw ini : String}
theorem ev_initN (Z : EvN K C fI qi N B nw ini) {x t0 : Addr} {u : Value} {args : Args} (ha : args = ⟨[.ref x, u], []⟩ ∨ args = ⟨[.ref x], [(N, u)]⟩) (inK : K.In s0.heap) (lim : s0.heap.NoLimit) (hx : s0.heap.get? x = some (excO C t0)) (room : A.depth < recursionLimit)
    (fin : ∀ h' tk dx, EvEndN s0.heap h' x C dx t0 N u → R (.ok (.ret .none)) { s0 with heap := h', toks := tk }) :
    codeAny (model prog w) A (.call (.ref fI) args) R s0 := by
  obtain ⟨oc, od, doc, pm, an, cdv, ct, osl, p1, p2, q1, q2, q3, q4, lk, code⟩ := Z.fn
  obtain ⟨cn, cq, cN, cb, cm, csn, csb, cab, ccol, cdd, j0, j1, j2, j3, j5, lkC, refs⟩ := Z.cls
  have cdat : clsIn K C = some { name := cn, bases := cb, mro := .ref C :: cm, ns := cN, qualname := cq, hasDict := true, slotNames := csn, subclasses := csb, abstract := cab, collection := ccol, hasDel := false } := by
    unfold clsIn
    rw [lkC] <;> rfl
  have Zb := Z.base
  have Zn := Z.noN
  have Zs := Z.sa
  have hf := Z.fld
  clear Z
  rcases hf with rfl | rfl | rfl <;> rcases ha with rfl | rfl
  all_goals
    refine Att.call_fn (binds := [("self", .ref x), (_, u)]) inK lim lk code room (BindsTo.of_eq (by first | rfl | with_unfolding_all rfl)) (by first | rfl | decide | with_unfolding_all rfl) (fun s1 inC => ?_) rfl rfl rfl
    obtain ⟨h1, tk1, rfl⟩ := inC.toInCall.same
    have kp : ∀ b o, s0.heap.get? b = some o → h1.get? b = some o := inC.toInCall.keep
    have hns := inC.toInCall.ns
    have inK1 : K.In h1 := inK.keeps kp
    have hx1 := kp _ _ hx
    show wpAny _ _ (execs _ _) _ _ _
    refine wpAny_execs_cons (plainObj_wpAny_Assign_Attribute ?_)
    refine ev_name (u := u) hns (by first | rfl | with_unfolding_all rfl | kernel_rfl) (ev_name (u := .ref x) hns (by first | rfl | with_unfolding_all rfl | kernel_rfl) ?_)
    refine set_plain inK1 (ox := excO C t0) (od := none) ⟨hx1, rfl, rfl, trivial⟩ Zs ?_
    refine exc_osaB Zb inK1 hx1 cdat (show refsB B (.ref C :: cm) = true from refs) rfl Zn (fun h3 tk3 dx kp3 dbig dne hx3 ns3 => ?_)
    show wpAny _ _ (execs _ _) _ _ _
    have lt : s0.heap.objs.size < h1.objs.size := hns.lt
    exact wpAny_execs_nil (fin h3 tk3 dx ⟨fun b o hb e => kp3 b o hb (kp b o e), hx3, Nat.le_of_lt (Nat.lt_of_lt_of_le lt dbig), dne, ns3⟩)
theorem ev_madeN (Z : EvN K C fI qi N B nw ini) {u : Value} {rest : List Value} {kw : List (Str × Value)} (ha : (rest = [u] ∧ kw = []) ∨ (rest = [] ∧ kw = [(N, u)])) (inK : K.In s0.heap) (lim : s0.heap.NoLimit) (room : A.depth + 1 < recursionLimit)
    (fin : ∀ h' tk e d, EvMadeN s0.heap h' e C d N u → R (.ok (.ret (.ref e))) { s0 with heap := h', toks := tk }) :
    codeAny (model prog w) A (.call (.ref C) ⟨rest, kw⟩) R s0 := by
  obtain ⟨cn, cq, cN, cb, cm, csn, csb, cab, ccol, cdd, j0, j1, j2, j3, j5, lkC, refs⟩ := Z.cls
  obtain ⟨hp, gn, dr, tk, os⟩ := s0
  have kp : ∀ b o, hp.get? b = some o → ((hp.push (kdv_tup rest)).push (excO C hp.objs.size)).get? b = some o := fun b o e => Heap.get?_push_of_some _ (Heap.get?_push_of_some _ e)
  have got : ((hp.push (kdv_tup rest)).push (excO C hp.objs.size)).get? (hp.objs.size + 1) = some (excO C hp.objs.size) := by heap_get
  have lr : rest.length ≤ sizeLine := by
    have h1 := one_fits u
    rcases ha with ⟨rfl, _⟩ | ⟨rfl, _⟩
    · exact h1
    · exact Nat.zero_le _
  refine call_kw Z.base.F (fun Y => refsB_contains Y cm refs) (inK _ _ lkC) (looks_findIn inK Z.iC) (fun self => bind_fn inK self Z.tC) lr ?_
  refine ev_initN (s0 := ⟨(hp.push (kdv_tup rest)).push (excO C hp.objs.size), gn, dr, tk, os⟩) (u := u) Z ?_ (inK.keeps kp) (lim.keeps kp) got ?_ fun h' tk' dx made => ?_
  · rcases ha with ⟨rfl, rfl⟩ | ⟨rfl, rfl⟩
    · exact .inl rfl
    · exact .inr rfl
  · show A.depth + 1 < recursionLimit
    exact room
  · have old : ∀ b o, hp.get? b = some o → h'.get? b = some o := fun b o e => made.keep b o (Nat.ne_of_lt (Nat.lt_succ_of_lt (Heap.lt_size e))) (kp b o e)
    have far : hp.objs.size + 1 + 1 ≤ dx := by
      have q := made.dbig
      first
        | exact q
        | (rw [Heap.size_push, Heap.size_push] at q; exact q)
        | simpa only [Heap.size_push] using q
    exact ⟨rfl, fin h' tk' (hp.objs.size + 1) dx ⟨old, Nat.le_succ _, ⟨_, _, made.obj, rfl, rfl, rfl⟩, Nat.le_trans (Nat.le_trans (Nat.le_succ _) (Nat.le_succ _)) far, made.dne, made.ns⟩⟩
end
end
theorem relO_evN {N : Str} {v : V} {u : Value} (r : RelV v u) (y : Str) : RelO (List.lookup y [(N, v)]) (if y = N then some u else none) := by
  by_cases hy : y = N
  · subst hy
    rw [if_pos rfl, show List.lookup y [(y, v)] = some v by simp [List.lookup]]
    exact r
  · have ny : (y == N) = false := by simpa using hy
    rw [if_neg hy, show List.lookup y [(N, v)] = none by simp [List.lookup, ny]]
    trivial
section
variable {X : Cx} {E : XK} {C fI : Addr} {qi N : Str} {B nw ini : String}
def tExcN (C : Addr) (N : Str) (ta : TA) : TE := fun σ H Q => ta σ H fun vs H1 => ∃ v, vs = [v] ∧ ∀ p d, H1 p = none → H1 d = none → p ≠ d → Q (.ref p) (upd (upd H1 d (.xd [(N, v)])) p (.ext (ExcAt p C d)))
theorem excN_end {pins : List (Addr × Obj)} {sl : L2.St} {H1 : Hp} {Q : VK} {st1 : Shared} {A : Around} {rest : List Value} {kw : List (Str × Value)} {u : Value} {v : V} {EE : Value → Shared → Prop} {k : Nat} (Z : EvN X.K C fI qi N B nw ini) (room : Room k A) (ha : (rest = [u] ∧ kw = []) ∨ (rest = [] ∧ kw = [(N, u)])) (inv1 : Inv X pins sl H1 st1) (rv : RelV v u)
    (q : ∀ p d, H1 p = none → H1 d = none → p ≠ d → Q (.ref p) (upd (upd H1 d (.xd [(N, v)])) p (.ext (ExcAt p C d)))) : wpAny (model X.prog X.w) A (call (.ref C) rest kw) (EP X pins sl Q) EE st1 := by
  have lim := inv1.nolimit
  obtain ⟨hp, gn, dr, tk, os⟩ := st1
  refine wpAny_call (ev_madeN Z ha inv1.kIn lim (by have := room.dp; omega) fun h' tk' e d made => ?_)
  show EP X pins sl Q (.ref e) ⟨h', gn, dr, tk', os⟩
  obtain ⟨oe, t1, hoe, ec, ed, edat⟩ := made.obj
  have fe : H1 e = none := inv1.hok.fresh made.new
  have fd : H1 d = none := inv1.hok.fresh made.dbig
  have na : ObjOk X.prog X.w (upd H1 d (.xd [(N, v)])) h' d (.xd [(N, v)]) := ⟨_, made.ns, fun y => relO_evN rv y⟩
  have nb : ObjOk X.prog X.w (upd (upd H1 d (.xd [(N, v)])) e (.ext (ExcAt e C d))) h' e (.ext (ExcAt e C d)) :=
    ⟨⟨oe, t1, hoe, ec, ed, edat⟩, ⟨oe, hoe⟩, fun g1 g2 ⟨o, t, h1, h2⟩ kp => ⟨o, t, kp o h1, h2⟩⟩
  exact ⟨.ref e, _, inv_laid2 (t' := tk') inv1 made.keep made.dbig made.new (Ne.symm made.dne) na nb, rfl, q e d fe fd (Ne.symm made.dne)⟩
theorem pe_excN {nm : Str} {a : Expr} {ta : TA} {p pos : Pos} {k : Nat} (Z : EvN X.K C fI qi N B nw ini) (hm : X.mg nm = some (.ref C)) (room : Room k X.A) (ha : PA X [a] ta) (hg : Gl X nm) (dbg : (nm == ("__debug__" : Str)) = false := by decide)
    (hst : starEach (a :: []) X.env = (false, eval a X.env) :: starEach [] X.env := by rfl) (hpl : (backTo pos (starEach [] X.env)).any (·.1) = false := by rfl) :
    PE X (.Call (.Name nm p) [a] [] pos) (tExcN C N ta) := by
  refine ⟨fun pins st sl H Q inv want => ?_⟩
  refine wpAny_Call_Name_kw (ld_glob inv hg hm ?_ dbg)
  refine PySem.W.callWith_K (h₀ := X.base) inv.ok.mod.kin Z.kC (thn (ha.run pos pins st sl H _ inv want) fun us st1 got => ?_) hst hpl
  obtain ⟨vs, H1, inv1, rel, v, ev, q⟩ := got
  subst ev
  refine ⟨inv1.kIn, ?_⟩
  obtain ⟨u, rfl, rv⟩ := vals1 rel
  show wpAny _ _ (call (.ref C) [u]) _ _ _
  exact excN_end Z room (.inl ⟨rfl, rfl⟩) inv1 rv q
theorem pe_excK {nm : Str} {kws : List Keyword} {tk : TA} {p pos : Pos} {k : Nat} (Z : EvN X.K C fI qi N B nw ini) (hm : X.mg nm = some (.ref C)) (room : Room k X.A) (hg : Gl X nm) (hkw : PK X kws tk)
    (hall : (backToKw pos (keywordEach kws X.env)).all (·.1.isSome) = true := by rfl) (hks : (backToKw pos (keywordEach kws X.env)).filterMap (·.1) = [N] := by rfl)
    (hdb : (nm == ("__debug__" : Str)) = false := by decide)
    (hpl : ((backTo pos (starEach [] X.env)).any (·.1) || (backToKw pos (keywordEach kws X.env)).any (·.1.isNone)) = false := by rfl) :
    PE X (.Call (.Name nm p) [] kws pos) (tExcN C N tk) := by
  refine ⟨fun pins st sl H Q inv want => ?_⟩
  refine wpAny_Call_Name_kw (ld_glob inv hg hm ?_ hdb)
  refine PySem.W.callWith_KW0 (h₀ := X.base) inv.ok.mod.kin Z.kC hall ?_ hpl
  refine thn (hkw.run pos pins st sl H _ inv want) ?_
  rintro ws s2 ⟨zs, H2, inv2, relz, v, ev, q⟩
  subst ev
  refine ⟨inv2.kIn, ?_⟩
  obtain ⟨u, rfl, rv⟩ := vals1 relz
  rw [hks]
  exact excN_end Z room (.inr ⟨rfl, rfl⟩) inv2 rv q
def rExcN (C : Addr) (N : Str) (ra : TRA) : TR := fun σ S R RE => ra σ S (fun xs S1 => ∃ y, xs = [y] ∧ R (.exc C [(N, y)]) S1) RE
theorem excN_up {ra : TRA} {sl : L2.St} {H : Hp} {Q : VK} (h : UpE X.K E (rExcN C N ra) sl H Q) : tExcN C N (UpA X.K E ra) sl H Q := by
  obtain ⟨Z, σ, S, R, RE, fr, ok, w, po, xo⟩ := h.ex
  exact ⟨Z, σ, S, _, RE, fr, ok, w, fun xs S1 vs H1 k le ok1 rep => by
    obtain ⟨x, rfl, k⟩ := k
    cases rep with
    | @cons v _ _ _ r rr =>
      cases rr
      refine ⟨v, rfl, fun p d hp hd ne => ?_⟩
      have hp2 : (upd H1 d (.xd [(N, v)])) p = none := by rw [upd_ne ne]; exact hp
      have l1 := le_new (S := S1) (o := .xd [(N, v)]) hd
      have l2 := le_new (S := S1) (o := .ext (ExcAt p C d)) hp2
      have ok2 := (ok1.new (o := .xd [(N, v)]) hd)
      exact po _ _ _ _ k (le.trans (l1.trans l2)) (ok2.new hp2) (.exc upd_same ⟨ok1.free hp, ok1.nz hp⟩ (by rw [upd_ne ne.symm]; exact upd_same) ⟨ok1.free hd, ok1.nz hd⟩ (.cons (r.le (l1.trans l2)) .nil)), xo⟩
theorem et_excN {nm : Str} {a : Expr} {ra : TRA} {p pos : Pos} {k : Nat} (Z : EvN X.K C fI qi N B nw ini) (hm : X.mg nm = some (.ref C)) (room : Room k X.A) (ha : AT X E [a] ra) (hg : Gl X nm) (dbg : (nm == ("__debug__" : Str)) = false := by decide)
    (hst : starEach (a :: []) X.env = (false, eval a X.env) :: starEach [] X.env := by rfl) (hpl : (backTo pos (starEach [] X.env)).any (·.1) = false := by rfl) :
    ET X E (.Call (.Name nm p) [a] [] pos) (rExcN C N ra) := ⟨pe_weak (pe_excN Z hm room ha.pa hg dbg hst hpl) fun sl H Q h => excN_up h⟩
theorem et_excK {nm : Str} {kws : List Keyword} {rk : TRA} {p pos : Pos} {k : Nat} (Z : EvN X.K C fI qi N B nw ini) (hm : X.mg nm = some (.ref C)) (room : Room k X.A) (hg : Gl X nm) (hkw : KT X E kws rk)
    (hall : (backToKw pos (keywordEach kws X.env)).all (·.1.isSome) = true := by rfl) (hks : (backToKw pos (keywordEach kws X.env)).filterMap (·.1) = [N] := by rfl)
    (hdb : (nm == ("__debug__" : Str)) = false := by decide)
    (hpl : ((backTo pos (starEach [] X.env)).any (·.1) || (backToKw pos (keywordEach kws X.env)).any (·.1.isNone)) = false := by rfl) :
    ET X E (.Call (.Name nm p) [] kws pos) (rExcN C N rk) := ⟨pe_weak (pe_excK Z hm room hg hkw.pk hall hks hdb hpl) fun sl H Q h => excN_up h⟩
end
section
open PySem.W PySem.Calls PyProof.Rows PySem.HandSPX
variable {K : Frag}
def evNB (K : PySem.W.Frag) (C fI : Addr) (N : Str) : Bool := decide (PySem.W.findIn K (.ref C) "__setattr__" = some (some (.builtin "object.__setattr__"))) && decide (PySem.W.findIn K (.ref C) N = some none) && decide (PySem.W.typeIn K (.ref fI) = some (.type "function")) && PySem.W.keepIn K (.ref C)
theorem evN_of {C fI : Addr} {qi N : Str} {B nw ini : String} {nm q : Str} {N' : Addr} {bs bm : List Value} {sn : List Str} {sub : List Value} {ab : Bool} {col : Option Bool} {dd : Option Addr} {k0 k1 k2 k3 k5 : Option Value}
    {oc doc pm cdv ct : Value} {od an : Option Addr} {osl : Array (Option Value)} {p1 p2 q1 q2 q3 q4 : Pos} (b : BaseE B nw ini) (fl : FldN N)
    (l : K.lookup C = some (excClassObj nm q C N' bs bm true sn sub ab col dd k0 k1 k2 k3 k5 nw)) (v : refsB B bm = true) (h : evNB K C fI N = true) (iC : findIn K (.ref C) "__init__" = some (some (.ref fI)))
    (lf : K.lookup fI = some ⟨oc, od, .func (PySem.W.fnOf "__init__" qi (evArgsN N p1 p2) (evBodyN N q1 q2 q3 q4) (evScopeN N) .none .none doc pm an cdv ct), osl⟩) (cf : PySem.W.codeIn K cdv qi = true) : EvN K C fI qi N B nw ini := by
  unfold evNB at h
  simp only [Bool.and_eq_true, decide_eq_true_eq] at h
  obtain ⟨⟨⟨h1, h2⟩, h3⟩, h4⟩ := h
  exact { base := b, fld := fl, cls := ⟨_, _, _, _, _, _, _, _, _, _, _, _, _, _, _, l, v⟩, sa := h1, noN := h2, iC := iC, tC := h3, kC := h4, fn := ⟨_, _, _, _, _, _, _, _, _, _, _, _, _, _, lf, cf⟩ }
end

/-! ### an own error without a field; the field of an error; list.count of truths; list(range(n)) -/
section
variable {X : Cx} {E : XK} {C : Addr} {B newId initId : String} {bmB : List Value}
theorem pe_exc0 {x : Str} {p pos : Pos} (F : ExcBaseFacts B newId initId bmB) (q : PySem.W.excIn X.K C bmB newId = true) (gC : X.mg x = some (.ref C)) (kC : PySem.W.keepIn X.K (.ref C) = true) (hg : Gl X x) (hdb : (x == ("__debug__" : Str)) = false := by decide) :
    PE X (.Call (.Name x p) [] [] pos) (fun σ H Q => ∀ a, H a = none → Q (.ref a) (upd H a (.ext (ExcAt0 a C)))) := by
  refine ⟨fun pins s σ H Q I h => ?_⟩
  refine wpAny_Call_Name_kw (ld_glob I hg gC ?_ hdb)
  refine PySem.W.callWith_K0 I.kIn kC ?_
  obtain ⟨bm, N, nm, qn, bs, hdct, sn, sub, ab, col, dd, k0, k1, k2, k3, k5, mN, hC, hN, hni, T⟩ := exc_obj I.kIn q
  refine wpAny_call_exc_subT F T hC hN hni (fun h' a hm => ?_) (Nat.zero_le _)
  have hn : H a = none := I.hok.gone hm.new
  obtain ⟨t, ht, _, _⟩ := hm.there
  have nb : ObjOk X.prog X.w (upd H a (.ext (ExcAt0 a C))) h' a (.ext (ExcAt0 a C)) := ⟨⟨_, t, ht, rfl, rfl, rfl⟩, ⟨_, ht⟩, fun g1 g2 ⟨o, t, h1, h2⟩ kp => ⟨o, t, kp o h1, h2⟩⟩
  exact ⟨.ref a, upd H a (.ext (ExcAt0 a C)), I.laidN hm.keeps hm.new hn nb, rfl, h a hn⟩
def rExc0 (C : Addr) : TR := fun _ S R _ => R (.exc C []) S
theorem et_exc0 {x : Str} {p pos : Pos} (F : ExcBaseFacts B newId initId bmB) (q : PySem.W.excIn X.K C bmB newId = true) (gC : X.mg x = some (.ref C)) (kC : PySem.W.keepIn X.K (.ref C) = true) (hg : Gl X x) (hdb : (x == ("__debug__" : Str)) = false := by decide) :
    ET X E (.Call (.Name x p) [] [] pos) (rExc0 C) :=
  ⟨pe_weak (pe_exc0 F q gC kC hg hdb) fun sl H Q h => by
    obtain ⟨Z, σ, S, R, RE, fr, ok, w, po, xo⟩ := h.ex
    exact fun a ha => po _ S _ _ w (le_new ha) (ok.new ha) (.exn upd_same ⟨ok.free ha, ok.nz ha⟩)⟩
/-- e.f -/
def rXfld (K : PySem.W.Frag) (f : Str) (ra : TR) : TR := fun σ S R RE => ra σ S (fun x S1 => ∃ C gs t, x = .exc C gs ∧ XfC K C ∧ PySem.W.findIn K (.ref C) f = some none ∧ gs.lookup f = some t ∧ R t S1) RE
theorem et_xfld (K : PySem.W.Frag) (hK : X.K = K) {e : Expr} {f : Str} {pos : Pos} {ra : TR} (ha : ET X E e ra) (hb : attributeBase e f X.env (eval e X.env) = eval e X.env := by rfl) : ET X E (.Attribute e f pos) (rXfld K f ra) := by
  subst hK
  refine ⟨⟨fun pins s σ H Q I h => ?_⟩⟩
  obtain ⟨Z, σ', S, R, RE, fr, ok, w, po, xo⟩ := h.ex
  refine attr_of hb (thn (ha.pe.run pins s σ H (fun v H1 => ∃ x S1, _ ∧ Le S H S1 H1 ∧ Ok X.K Z S1 H1 ∧ Rep X.K Z S1 H1 v x) I ⟨Z, σ', S, _, RE, fr, ok, w, fun x S1 v H1 k1 l1 o1 r1 => ⟨x, S1, k1, l1, o1, r1⟩, xo⟩) fun u s1 hu => ?_)
  obtain ⟨v, H1, I1, rv, x, S1, ⟨C, gs, t, rfl, T, hno, hl, k1⟩, l1, o1, r1⟩ := hu
  cases r1 with
  | exn h n => cases hl
  | @exc p _ dx fs _ h1 n hd nd rf =>
    obtain rfl : u = Value.ref p := rv
    obtain ⟨oe, od, mA, J, hns, hr, hlk⟩ := exc_inst I1 h1 hd
    obtain ⟨y, hy, ry⟩ := rf.look hl
    obtain ⟨u, hu, ru⟩ := RelO.some_of (v := y) (o := mA f) (by rw [← hy]; exact hr f)
    exact HandSPX.exc_get I1.kIn J T.ga T.gg T.exC (PySem.W.findObj_own T.hdC hno rfl (by rw [hlk, hu])) (handed_of ru) ⟨y, H1, I1.tok _, ru, po _ _ _ _ k1 l1 o1 ry⟩
end
theorem boot64_ValueError : bootBuiltins (Str.ofString "ValueError") = some (.type "ValueError") := by decide +kernel
theorem boot64_LookupError : bootBuiltins (Str.ofString "LookupError") = some (.type "LookupError") := by decide +kernel
theorem boot64_ArithmeticError : bootBuiltins (Str.ofString "ArithmeticError") = some (.type "ArithmeticError") := by decide +kernel
/-! xs.count(b) of a list of truths -/
theorem bools_of64 {us : List Value} {bs : List Bool} (r : Vals (bs.map V.bl) us) : us = bs.map Value.bool := by
  induction bs generalizing us with
  | nil => cases r; rfl
  | cons b bs ih =>
    cases r with
    | cons rv r =>
      rw [ih r]
      have e : _ = Value.bool b := rv
      rw [e]
      rfl
theorem readsB64 (h : Heap) : ∀ bs : List Bool, ∃ as, ReadsAll h (bs.map Value.bool) (bs.map PyData.bool) as
  | [] => ⟨_, ReadsAll.nil⟩
  | b :: bs => ⟨_, ReadsAll.cons (Reads.bool b) (readsB64 h bs).choose_spec⟩
theorem count_b64 (k : Bool) : ∀ bs : List Bool, countIn (.bool k) (bs.map PyData.bool) = ((bs.count k : Nat) : Int)
  | [] => rfl
  | b :: bs => by
    have ih := count_b64 k bs
    rw [List.map_cons, countIn, ih, List.count_cons]
    have e : same (.bool b) (.bool k) = (b == k) := by simp only [same]
    rw [e]
    cases (b == k) <;> simp <;> omega
theorem all_b64 : ∀ bs : List Bool, (bs.map PyData.bool).all Shape.bool.has = true
  | [] => rfl
  | _ :: bs => all_b64 bs
def rCntB64 (K : PySem.W.Frag) : V → List V → Hp → VK → Prop := fun x xs H Q => ∃ (p : Addr) (bs : List Bool) (k : Bool), x = .ref p ∧ xs = [.bl k] ∧ SqL K H p (bs.map V.bl) ∧ Q (.int (bs.count k : Nat)) H
theorem mt_countB64 {X : Cx} : MtR X "list.count" (rCntB64 X.K) := by
  intro pins s sl H x xs v us Q inv rx rxs want
  obtain ⟨p, bs, k, rfl, rfl, hs, q⟩ := want
  cases rx
  obtain ⟨u, rfl, ru⟩ := rxs.one
  obtain rfl : u = Value.bool k := ru
  obtain ⟨its, rv, pl, _⟩ := inv.list hs
  have e := bools_of64 rv
  subst e
  obtain ⟨as, ra⟩ := readsB64 s.heap bs
  refine PyProof.Rows.count_list_bools pl.isList ra (all_b64 bs) ?_
  rw [count_b64]
  exact ⟨.int (bs.count k : Nat), H, inv.tok _, ⟨s.toks, rfl⟩, q⟩
theorem reps_bls {K : PySem.W.Frag} {Z : Addr → Prop} {S : Store} {H : Hp} : ∀ {bs : List Bool} {vs : List V}, Reps K Z S H vs (bs.map T.bl) → vs = bs.map V.bl
  | [], _, r => by cases r; rfl
  | b :: bs, _, r => by
    cases r with
    | cons h r =>
      cases h
      rw [reps_bls r]
      rfl
def rCntT (ra : TR) (t : TRA) : TR := fun σ S R RE => ra σ S (fun x S1 => ∃ bs : List Bool, x = .lst (bs.map T.bl) ∧ t σ S1 (fun xs S2 => ∃ k, xs = [.bl k] ∧ R (.int ((bs.count k : Nat) : Int)) S2) RE) RE
section
variable {X : Cx} {E : XK}
theorem et_cnt {apos cpos : Pos} {o e : Expr} {es : List Expr} {ra : TR} {t : TRA} (ho : ET X E o ra) (ha : AT X E (e :: es) t)
    (hbase : attributeBase o "count" X.env (eval o X.env) = eval o X.env := by rfl)
    (hfew : ((backTo cpos (starEach (e :: es) X.env)).all (fun x => !x.1) && (backToKw cpos (keywordEach [] X.env)).all (fun x => x.1.isSome)
      && decide ((e :: es).length + ([] : List Keyword).length + (if ([] : List Keyword).isEmpty then 0 else 1) < 30)) = true := by rfl)
    (hline : (apos.endLine == cpos.line) = true := by rfl) (hs : starEach (e :: es) X.env = (false, eval e X.env) :: starEach es X.env := by rfl) (hplain : (backTo cpos (starEach es X.env)).any (·.1) = false := by rfl) :
    ET X E (.Call (.Attribute o "count" apos) (e :: es) [] cpos) (rCntT ra t) :=
  ⟨pe_weak (pe_bm PySem.F.plainAttrs_list PySem.F.slot_list_count PySem.F.type_list_count mt_countB64 ho.pe ha.pa hbase hfew hline hs hplain) fun sl H Q ⟨⟨Z, σ, S, R, RE, fr, ok, w, po, xo⟩⟩ => by
    refine ⟨Z, σ, S, _, RE, fr, ok, w, fun x S1 v H1 k1 le1 ok1 rep => ?_, xo⟩
    obtain ⟨bs, rfl, k1⟩ := k1
    cases rep with
    | lst h1 r1 =>
      have e := reps_bls r1
      subst e
      refine ⟨.inl ⟨rfl, _, h1.sq⟩, Z, σ, S1, _, RE, fr.le le1, ok1, k1, fun xs S2 ws H2 k2 le2 ok2 rs => ?_, xo.le le1⟩
      obtain ⟨k, rfl, k2⟩ := k2
      cases rs with
      | cons ry rr =>
        cases rr
        cases ry
        exact ⟨_, bs, k, rfl, rfl, (h1.le le2).sq, (po.le le1).le le2 _ _ _ _ k2 .refl ok2 (.int _)⟩⟩
/-- list(range(n)) -/
theorem reps_rg {K : PySem.W.Frag} {Z : Addr → Prop} {S : Store} {H : Hp} : ∀ l : List Nat, Reps K Z S H (l.map fun i => V.int (0 + (i : Nat))) (l.map fun i => T.int (i : Nat))
  | [] => .nil
  | i :: l => by
    have e : (0 : Int) + (i : Nat) = (i : Nat) := by omega
    simp only [List.map_cons]
    rw [e]
    exact .cons (.int _) (reps_rg l)
def rLrg (ra : TR) : TR := fun σ S R RE => ra σ S (fun x S1 => ∃ n : Int, x = .int n ∧ 0 ≤ n ∧ n ≤ 16777216 ∧ R (.lst ((List.range n.toNat).map fun i => T.int (i : Nat))) S1) RE
theorem et_lrg {a : Expr} {ra : TR} {p p2 pos pos2 : Pos} (hc : X.calm = true) (hg : Gl X "list") (hm : X.mg "list" = none) (hg2 : Gl X "range") (hm2 : X.mg "range" = none) (ha : ET X E a ra) (na : starEach [a] X.env = (false, eval a X.env) :: starEach [] X.env := by rfl)
    (nb : starEach [(.Call (.Name "range" p2) [a] [] pos2 : Expr)] X.env = (false, eval (.Call (.Name "range" p2) [a] [] pos2) X.env) :: starEach [] X.env := by rfl) :
    ET X E (.Call (.Name "list" p) [.Call (.Name "range" p2) [a] [] pos2] [] pos) (rLrg ra) :=
  ⟨pe_weak (pe_listRg hc hg hm (prg_1 hg2 hm2 ha.pe na) nb) fun sl H Q h => by
    obtain ⟨Z, σ, S, R, RE, fr, ok, w, po, xo⟩ := h.ex
    refine ⟨Z, σ, S, _, RE, fr, ok, w, fun x S1 v H1 k le ok1 rep => ?_, xo⟩
    obtain ⟨n, rfl, h0, h1, k⟩ := k
    cases rep
    refine ⟨n, rfl, RgOk.of_le (by omega) (by omega) (by omega) (by omega), fun q hq => po _ _ _ _ k (le.trans (le_new hq)) (ok1.new hq) (.lstN ok1 hq ?_)⟩
    have e : (n - 0).toNat = n.toNat := by rw [Int.sub_zero]
    unfold rgV
    rw [e]
    exact reps_rg _⟩
end

/-! the text -/
abbrev T0 : List (Addr × Str) := []
/-! numbers -/
def gcdI (a b : Int) : Int := (Int.gcd a b : Int)
theorem gcdI_pos {a b : Int} (ha : 0 < a) : 0 < gcdI a b := by
  unfold gcdI
  have := Int.gcd_pos_of_ne_zero_left b (show a ≠ 0 by omega)
  omega
theorem gcdI_le {a b : Int} (ha : 0 < a) : gcdI a b ≤ a := by
  unfold gcdI
  exact Int.le_of_dvd ha (Int.gcd_dvd_left ..)
theorem gcdI_one {a : Int} : gcdI a 1 = 1 := by
  unfold gcdI
  rw [Int.gcd_one_right]
  rfl
theorem emod_lt {a b : Int} (hb : 0 < b) : 0 ≤ a % b ∧ a % b < b := ⟨Int.emod_nonneg _ (by omega), Int.emod_lt_of_pos _ hb⟩
/-- within n bits, above 0 -/
structure Pn (n : Nat) (a : Int) : Prop where
  pos : 0 < a
  lt : a.natAbs < 2 ^ n
theorem Pn.up {n m : Nat} {a : Int} (h : Pn n a) (le : n ≤ m) : Pn m a := ⟨h.pos, Nat.lt_of_lt_of_le h.lt (Nat.pow_le_pow_right (by decide) le)⟩
theorem Pn.of {n : Nat} {a : Int} (h : 0 < a) (l : a < 2 ^ n) : Pn n a := ⟨h, by
  have e : ((2 ^ n : Nat) : Int) = (2 : Int) ^ n := by norm_cast
  omega⟩
theorem Pn.le {n : Nat} {a b : Int} (h : Pn n b) (p : 0 < a) (l : a ≤ b) : Pn n a := ⟨p, wide_le (by omega) l h.lt⟩
/-- the left one within 64 bits -/
theorem mulL {a b : Int} (h : -(2 ^ 64) < a ∧ a < 2 ^ 64) : IntMulOk a b := CMul.ok (.inl h)
theorem Pn.divW {n : Nat} {b : Int} (h : Pn n b) (x : Int) (l : n ≤ 9000 := by decide) (hn : 0 < n := by decide) : CDivP x b := ⟨h.pos, PyProof.noPylong_of_log2 (wide_div (i := x) h.pos h.lt hn l).2⟩
theorem div_small {b : Int} (h : 0 < b) (l : b < 2 ^ 64) (x : Int) : CDivP x b := (Pn.of (n := 64) h l).divW x
theorem Pn.gcd {n : Nat} {a b : Int} (h : Pn n a) : Pn n (gcdI a b) := h.le (gcdI_pos h.pos) (gcdI_le h.pos)
/-! lowest terms -/
def lwA (a b : Int) : Int := a / gcdI a b
def lwB (a b : Int) : Int := b / gcdI a b
theorem Pn.lwA {n : Nat} {a b : Int} (h : Pn n a) : Pn n (lwA a b) :=
  h.le (Int.ediv_pos_of_pos_of_dvd h.pos (by have := gcdI_pos (b := b) h.pos; omega) (Int.gcd_dvd_left ..)) (Int.ediv_le_self _ (by have := h.pos; omega))
theorem Pn.lwB {n : Nat} {a b : Int} (ha : 0 < a) (h : Pn n b) : Pn n (lwB a b) :=
  h.le (Int.ediv_pos_of_pos_of_dvd h.pos (by have := gcdI_pos (b := b) ha; omega) (Int.gcd_dvd_right ..)) (Int.ediv_le_self _ (by have := h.pos; omega))
/-- a fraction in lowest terms, both parts within n bits -/
structure Fr (n : Nat) (x y : Int) : Prop where
  a : Pn n x
  b : Pn n y
  g : gcdI x y = 1
theorem Fr.up {n m : Nat} {a b : Int} (h : Fr n a b) (le : n ≤ m) : Fr m a b := ⟨h.a.up le, h.b.up le, h.g⟩
theorem Fr.lwA {n : Nat} {a b : Int} (h : Fr n a b) : lwA a b = a := by unfold Gd.lwA; rw [h.g, Int.ediv_one]
theorem Fr.lwB {n : Nat} {a b : Int} (h : Fr n a b) : lwB a b = b := by unfold Gd.lwB; rw [h.g, Int.ediv_one]
/-- a tree of it -/
def frT (a b : Int) : T := .tup [.int a, .int b]
/-! while, by an invariant and a measure -/
theorem ite_d {c : Prop} [Decidable c] {A B : Prop} (h : c → A) (h' : ¬ c → B) : if (decide c) = true then A else B := by
  by_cases e : c
  · rw [if_pos (decide_eq_true e)]; exact h e
  · rw [if_neg (by simp [e])]; exact h' e
/-- one statement, then the rest -/
theorem sSeq_i {ra rb : TRS} {D : EnT} {σ : Fm} {S : Store} (h : ∀ N : Fm → Store → Prop, (∀ σ' S', rb D σ' S' → N σ' S') → ra { D with nx := N } σ S) : sSeq ra rb D σ S := h _ fun _ _ q => q
def sp_common_divisor : SpT := fun ts S R _ => match ts with
  | [.int a, .int b] => 0 < a ∧ 0 ≤ b ∧ R (.int (gcdI a b)) S
  | _ => False
def sp_lowest_terms : SpT := fun ts S R _ => match ts with
  | [.int a, .int b] => Pn 8000 a ∧ 0 < b ∧ R (frT (lwA a b) (lwB a b)) S
  | _ => False
/-! of what kind a value is -/
def kindsT : List String := ["int", "bool", "str", "tuple", "list"]
def isK : T → String → Bool
  | .int _, n => n == "int"
  | .bl _, n => n == "bool" || n == "int"
  | .str _, n => n == "str"
  | .tup _, n => n == "tuple"
  | .lst _, n => n == "list"
  | .scr _, n => n == "list"
  | .cell _, n => n == "list"
  | _, _ => false
/-- a value of which the kind is known -/
def ValT (K : PySem.W.Frag) (S : Store) (x : T) : Prop := ∃ t, TyT K S x t ∧ ∀ n ∈ kindsT, PySem.W.kitOne K t (.type n) = some (isK x n)
theorem kind_of {K : PySem.W.Frag} {S : Store} {x : T} {ty : String} (h : TyT K S x (.type ty)) (e : kindsT.all (fun n => kitB ty n == some (isK x n)) = true) : ValT K S x :=
  ⟨_, h, fun n m => kit_ty (by have := List.all_eq_true.mp e n m; simpa using this)⟩
section
variable {K : PySem.W.Frag} {S : Store}
theorem ValT.non : ValT K S .non := kind_of .non (by decide +kernel)
theorem ValT.bl {b : Bool} : ValT K S (.bl b) := kind_of (.bl b) (by show (kindsT.all fun n => kitB "bool" n == some (isK (.bl true) n)) = true; decide +kernel)
theorem ValT.int {i : Int} : ValT K S (.int i) := kind_of (.int i) (by show (kindsT.all fun n => kitB "int" n == some (isK (.int 0) n)) = true; decide +kernel)
theorem ValT.str {z : Str} : ValT K S (.str z) := kind_of (.str z) (by show (kindsT.all fun n => kitB "str" n == some (isK (.str Str.empty) n)) = true; decide +kernel)
theorem ValT.tup {l : List T} : ValT K S (.tup l) := kind_of (.tup l) (by show (kindsT.all fun n => kitB "tuple" n == some (isK (.tup []) n)) = true; decide +kernel)
theorem ValT.lst {l : List T} : ValT K S (.lst l) := kind_of (.lst l) (by show (kindsT.all fun n => kitB "list" n == some (isK (.lst []) n)) = true; decide +kernel)
theorem ValT.is {x : T} {n : String} (h : ValT K S x) (m : n ∈ kindsT) {R : T → Store → Prop} {RE : XT} (q : R (.bl (isK x n)) S) : kIsi K [x, .ty n] S R RE := by
  obtain ⟨t, ty, k⟩ := h
  exact ⟨x, .ty n, t, .type n, _, rfl, .ty n, ty, k n m, q⟩
end
def isInt : T → Bool
  | .int _ => true
  | _ => false
def isPos : T → Bool
  | .int i => decide (0 < i)
  | _ => false
def sp_is_integer (K : PySem.W.Frag) : SpT := fun ts S R _ => match ts with
  | [x] => ValT K S x ∧ R (.bl (isInt x)) S
  | _ => False
def sp_is_positive (K : PySem.W.Frag) : SpT := fun ts S R _ => match ts with
  | [x] => ValT K S x ∧ R (.bl (isPos x)) S
  | _ => False
def sp_fraction : SpT := fun ts S R _ => match ts with
  | [.int a, .int b] => Pn 8000 a ∧ Pn 8000 b ∧ R (frT (lwA a b) (lwB a b)) S
  | _ => False
/-! the pool -/
def PoolT (S : Store) (p : Addr) : Prop := ∃ x d c : Int, S p = some (.lst [.int x, .int d, .int c]) ∧ 0 ≤ x ∧ x < 2147483137 ∧ 0 ≤ d
theorem cutT_ints (ns : List Int) (lo hi : Option Int) : ∃ ms : List Int, cutT (ns.map T.int) lo hi = ms.map T.int := by
  refine ⟨(ns.drop (HT.sIx (ns.map T.int).length 0 lo)).take (HT.sIx (ns.map T.int).length (ns.map T.int).length hi - HT.sIx (ns.map T.int).length 0 lo), ?_⟩
  unfold cutT
  rw [List.map_take, List.map_drop]
theorem at_ints {ns : List Int} {k : Int} (h0 : 0 ≤ k) (c : k < (ns.length : Int)) : ∃ z, atI (ns.map T.int) k = some (.int z) := by
  have hn : k.toNat < ns.length := by omega
  have := atI_nat (xs := ns.map T.int) (j := k.toNat) (v := .int ns[k.toNat]) (by rw [List.getElem?_map, List.getElem?_eq_getElem hn]; rfl)
  rw [show ((k.toNat : Nat) : Int) = k by omega] at this
  exact ⟨_, this⟩
/-- the pool at p goes on -/
def PS (S : Store) (p : Addr) (S' : Store) : Prop := ∃ x d c : Int, 0 ≤ x ∧ x < 2147483137 ∧ 0 ≤ d ∧ S' = S.put p (.lst [.int x, .int d, .int c])
theorem PS.pool {S S' : Store} {p : Addr} (h : PS S p S') : PoolT S' p := by
  obtain ⟨x, d, c, h1, h2, h3, rfl⟩ := h
  exact ⟨x, d, c, put_same, h1, h2, h3⟩
theorem PS.trans {S S' S2 : Store} {p : Addr} (h : PS S p S') (k : PS S' p S2) : PS S p S2 := by
  obtain ⟨x, d, c, h1, h2, h3, rfl⟩ := h
  obtain ⟨x', d', c', h1, h2, h3, rfl⟩ := k
  exact ⟨x', d', c', h1, h2, h3, put_put⟩
theorem sc_l_cell : FnScope ["_law_script", "_law_k", "_law_state", "_law_figure"] ["_law_script", "_law_k"] (defScope s_l_cell) := ⟨rfl, rfl, rfl, by decide +kernel, rfl, by decide +kernel, by decide +kernel⟩
def sp_l_cell : SpT := fun ts S R _ => match ts with
  | [.scr ts, .int k] => (∃ ns : List Int, ts = ns.map T.int ∧ ns.length ≤ 63) ∧ 0 ≤ k ∧ k < 2 ^ 60 ∧ ∀ z : Int, R (.int z) S
  | _ => False
theorem ok_l_cell {P : Program} {w : World} {K : PySem.W.Frag} {mg : Str → Option Value} {base : Heap} {f : Addr} {fd : FuncData}   (F : Fun K "_law_cell" "_law_cell" s_l_cell f fd)
    (n_len : mg "len" = none)
    : FnT P w K mg base 1 f fd ["_law_script", "_law_k"] sp_l_cell := by
  refine okT F sc_l_cell (by intro ts S R RE h; unfold sp_l_cell at h; split at h <;> first | rfl | exact h.elim) (fun cdv A out s H E hg hr => (bs_cons (ss_if (tt_cmp op_lt cv_B2n (et_var (pv 1)) (et_blt call_len cv_len (by rfl) n_len PySem.boot_len (at_cons (et_var (pv 0)) at_nil)) (nomark _)) (bs_one (ss_ret (et_ix ix_seq cv_ix (et_var (pv 0)) (et_var (pv 1)) (fun _ _ => rfl)))) bs_nil)
    (bs_cons (ss_set (i := 2) sc_l_cell.nd rfl (by first | exact Or.inl rfl | exact Or.inr rfl) (et_op op_mod cv_I2 (et_op op_mulG cv_mul et_int (et_op op_addG cv_add (et_op op_addG cv_add (et_op op_mulG cv_mul (et_var (pv 1)) (et_var (pv 1))) (et_op op_mulG cv_mul et_int (et_var (pv 1)))) et_int)) et_int))
    (bs_cons (ss_for (passes_of rfl) rfl (it_seq (et_slice (et_var (pv 0)) ot_none (ot_some et_int))) (gt_name (pg_name (i := 3) sc_l_cell.nd rfl (by first | exact Or.inl rfl | exact Or.inr rfl))) (bs_one (ss_set (i := 2) sc_l_cell.nd rfl (by first | exact Or.inl rfl | exact Or.inr rfl) (et_op op_mod cv_I2 (et_op op_addG cv_add (et_op op_mulG cv_mul (et_var (pv 2)) et_int) (et_var (pv 3))) et_int))))
    (bs_one (ss_ret (et_var (pv 2)))))))) ?_
  intro ts S R RE h
  unfold sp_l_cell at h
  split at h
  · rename_i ts k
    obtain ⟨⟨ns, rfl, h63⟩, h0, hk, q⟩ := h
    simp only [sSeq, sAsg, sRet, sIf, sNext, sFor, rVar, rC, rBin, rTest, aNil, aCons, rArgs, gNameT, iSeq, rSl, oNone, oSome, kAdd, kI2, kI2n, kMul, kIx, kLen, kSl, lenT, seqOf, startT, T.int.injEq, T.bl.injEq, List.cons.injEq, Option.some.injEq, List.map_cons, List.map_nil, List.length_cons, List.length_nil, List.cons_append, List.nil_append, List.getElem?_cons_zero, List.getElem?_cons_succ, List.set_cons_zero, List.set_cons_succ, List.replicate_succ, List.replicate_zero, exists_eq_left', exists_and_left, and_true, and_assoc, Nat.reduceAdd, Nat.reduceSub, Nat.zero_add]
    refine ite_d (fun c => ?_) (fun c => ?_)
    · rw [List.length_map] at c
      obtain ⟨z, hz⟩ := at_ints h0 c
      exact ⟨_, hz, q z⟩
    · refine ⟨mulL (by omega), mulL (by decide), mulL (by decide), by decide, ?_⟩
      obtain ⟨ms, em⟩ := cutT_ints ns none (some 3)
      rw [em]
      refine rLoop_inv (fun _ σ S' => S' = S ∧ ∃ (z : Int) (v : Option T), σ = [some (.scr (ns.map T.int)), some (.int k), some (.int z), v] ∧ 0 ≤ z ∧ z < 2147483137) ⟨rfl, _, none, rfl, (emod_lt (by decide)).1, (emod_lt (by decide)).2⟩ ?_ ?_
      · rintro i t σ S' hi ⟨rfl, z, v, rfl, z0, z1⟩ N hN
        rw [List.getElem?_map] at hi
        obtain ⟨y, _, rfl⟩ := Option.map_eq_some_iff.mp hi
        simp only [sAsg, rVar, rC, rBin, gNameT, kAdd, kI2, kMul, Option.some.injEq, List.getElem?_cons_zero, List.getElem?_cons_succ, List.set_cons_zero, List.set_cons_succ, exists_eq_left', and_assoc]
        exact ⟨mulL (by omega), by decide, hN _ _ ⟨rfl, _, _, rfl, (emod_lt (by decide)).1, (emod_lt (by decide)).2⟩⟩
      · rintro σ S' ⟨rfl, z, v, rfl, _⟩
        simp only [sRet, rVar, Option.some.injEq, List.getElem?_cons_zero, List.getElem?_cons_succ, exists_eq_left']
        exact q z
  · exact h.elim
theorem sc_l_pool : FnScope ["_law_figure", "_law_digits"] ["_law_figure"] (defScope s_l_pool) := ⟨rfl, rfl, rfl, by decide +kernel, rfl, by decide +kernel, by decide +kernel⟩
def sp_l_pool : SpT := fun ts S R _ => match ts with
  | [.int z] => ∀ p S', S p = none → PS S p S' → R (.cell p) S'
  | _ => False
theorem ok_l_pool {P : Program} {w : World} {K : PySem.W.Frag} {mg : Str → Option Value} {base : Heap} {f : Addr} {fd : FuncData}   (F : Fun K "_law_pool" "_law_pool" s_l_pool f fd)
    (n_abs : mg "abs" = none)
    : FnT P w K mg base 1 f fd ["_law_figure"] sp_l_pool := by
  refine okT F sc_l_pool (by intro ts S R RE h; unfold sp_l_pool at h; split at h <;> first | rfl | exact h.elim) (fun cdv A out s H E hg hr => (bs_cons (ss_set (i := 1) sc_l_pool.nd rfl (by first | exact Or.inl rfl | exact Or.inr rfl) (et_if (tt_w (tw_or (tt_cmp op_lt cv_B2n (et_var (pv 0)) et_int (nomark _)) (tw_or1 (tt_cmp op_ge cv_B2n (et_var (pv 0)) (et_op op_pow cv_I2 et_int et_int) (nomark _))))) (et_blt call_abs cv_U (by rfl) n_abs PyProof.Rows.boot_abs (at_cons (et_var (pv 0)) at_nil)) et_int))
    (bs_one (ss_ret (et_lstC (at_cons (et_op op_mod cv_I2 (et_var (pv 0)) et_int) (at_cons (et_var (pv 1)) (at_cons et_int at_nil)))))))) ?_
  intro ts S R RE h
  unfold sp_l_pool at h
  split at h
  · rename_i z
    have m := emod_lt (a := z) (b := 2147483137) (by decide)
    simp only [sSeq, sAsg, sRet, rVar, rC, rBin, rTest, bOr, rIf, aNil, aCons, rLstC, rArgs, gNameT, kI2, kI2n, kU, startT, T.int.injEq, T.bl.injEq, List.cons.injEq, Option.some.injEq, List.map_cons, List.map_nil, List.length_cons, List.length_nil, List.cons_append, List.nil_append, List.getElem?_cons_zero, List.getElem?_cons_succ, List.set_cons_zero, List.set_cons_succ, List.replicate_succ, List.replicate_zero, exists_eq_left', and_true, Nat.reduceAdd, Nat.reduceSub, Nat.zero_add, reduceIte]
    refine ite_d (fun c => ⟨by decide, by decide, fun p hp => h p _ hp ⟨_, _, _, m.1, m.2, by split <;> omega, rfl⟩⟩) (fun c => ⟨⟨by decide, by decide, by decide⟩, ite_d (fun c => ⟨by decide, by decide, fun p hp => h p _ hp ⟨_, _, _, m.1, m.2, by split <;> omega, rfl⟩⟩) (fun c => ⟨by decide, by decide, fun p hp => h p _ hp ⟨_, _, _, m.1, m.2, by omega, rfl⟩⟩)⟩)
  · exact h.elim
theorem sc_l_draw : FnScope ["_law_pool_here", "_law_most", "_law_state", "_law_digit"] ["_law_pool_here", "_law_most"] (defScope s_l_draw) := ⟨rfl, rfl, rfl, by decide +kernel, rfl, by decide +kernel, by decide +kernel⟩
def sp_l_draw : SpT := fun ts S R _ => match ts with
  | [.cell p, .int m] => PoolT S p ∧ Pn 8000 m ∧ ∀ r S', 0 ≤ r → r < m → PS S p S' → R (.int r) S'
  | _ => False
theorem ok_l_draw {P : Program} {w : World} {K : PySem.W.Frag} {mg : Str → Option Value} {base : Heap} {f : Addr} {fd : FuncData}   (F : Fun K "_law_draw" "_law_draw" s_l_draw f fd)
    (n_divmod : mg "divmod" = none)
    : FnT P w K mg base 1 f fd ["_law_pool_here", "_law_most"] sp_l_draw := by
  refine okT F sc_l_draw (by intro ts S R RE h; unfold sp_l_draw at h; split at h <;> first | rfl | exact h.elim) (fun cdv A out s H E hg hr => (bs_cons (ss_asg (et_op op_addG cv_add (et_ix ix_seq cv_ix (et_var (pv 0)) et_int (fun _ _ => rfl)) et_int) (gt_sub (et_var (pv 0)) et_int))
    (bs_cons (ss_set (i := 2) sc_l_draw.nd rfl (by first | exact Or.inl rfl | exact Or.inr rfl) (et_ix ix_seq cv_ix (et_var (pv 0)) et_int (fun _ _ => rfl)))
    (bs_cons (ss_asg (et_op op_mod cv_I2 (et_op op_addG cv_add (et_op op_mulG cv_mul (et_var (pv 2)) (et_op op_addG cv_add (et_op op_mod cv_I2 (et_var (pv 2)) et_int) et_int)) (et_op op_mulG cv_mul et_int (et_ix ix_seq cv_ix (et_var (pv 0)) et_int (fun _ _ => rfl)))) et_int) (gt_sub (et_var (pv 0)) et_int))
    (bs_cons (ss_if (tt_cmp op_gt cv_B2n (et_ix ix_seq cv_ix (et_var (pv 0)) et_int (fun _ _ => rfl)) et_int (nomark _)) (bs_cons (ss_asg (et_blt call_divmodW cv_dm (by rfl) n_divmod PyProof.Rows.boot_divmod (at_cons (et_ix ix_seq cv_ix (et_var (pv 0)) et_int (fun _ _ => rfl)) (at_cons (et_var (pv 1)) at_nil))) (gt_tup (n := 2) (by rfl) (gts_cons (gt_sub (et_var (pv 0)) et_int) (gts_cons (gt_name (pg_name (i := 3) sc_l_draw.nd rfl (by first | exact Or.inl rfl | exact Or.inr rfl))) gts_nil))))
    (bs_one (ss_ret (et_var (pv 3))))) bs_nil)
    (bs_one (ss_ret (et_op op_mod cv_I2 (et_op op_fdivP cv_I2 (et_ix ix_seq cv_ix (et_var (pv 0)) et_int (fun _ _ => rfl)) et_int) (et_var (pv 1)))))))))) ?_
  intro ts S R RE h
  unfold sp_l_draw at h
  split at h
  · rename_i p m
    obtain ⟨⟨x, d, c, hp, x0, x1, d0⟩, hm, q⟩ := h
    refine sSeq_i fun N hN => ?_
    simp only [hp, sAsg, rVar, rC, rBin, gSubT, kAdd, kIx, startT, T.int.injEq, T.cell.injEq, Cell.lst.injEq, Option.some.injEq, List.map_cons, List.map_nil, List.length_cons, List.length_nil, List.cons_append, List.nil_append, List.getElem?_cons_zero, List.set_cons_zero, List.set_cons_succ, List.replicate_succ, List.replicate_zero, exists_eq_left', exists_and_left, Nat.reduceAdd, Nat.reduceSub, Nat.zero_add, at_2, ix_3_2]
    refine hN _ _ ?_
    refine sSeq_i fun N hN => ?_
    simp only [sAsg, rVar, rC, rBin, gNameT, kIx, Cell.lst.injEq, Option.some.injEq, List.getElem?_cons_zero, List.set_cons_zero, List.set_cons_succ, exists_eq_left', exists_and_left, put_same, at_0]
    refine hN _ _ ?_
    refine sSeq_i fun N hN => ?_
    simp only [sAsg, rVar, rC, rBin, gSubT, kAdd, kI2, kMul, kIx, T.int.injEq, T.cell.injEq, Cell.lst.injEq, Option.some.injEq, List.length_cons, List.length_nil, List.getElem?_cons_zero, List.getElem?_cons_succ, List.set_cons_zero, exists_eq_left', exists_and_left, and_assoc, Nat.reduceAdd, Nat.zero_add, put_put, put_same, at_2, ix_3_0]
    have hx2 := emod_lt (a := x) (b := 50023) (by decide)
    have hy := emod_lt (a := x * (x % 50023 + 30013) + 80029 * (c + 1)) (b := 2147483137) (by decide)
    refine ⟨by decide, mulL (by omega), mulL (by decide), by decide, hN _ _ ?_⟩
    generalize (x * (x % 50023 + 30013) + 80029 * (c + 1)) % 2147483137 = y at hy ⊢
    refine sSeq_i fun N hN => ?_
    simp only [sSeq, sAsg, sRet, sIf, sNext, rVar, rC, rBin, rTest, aNil, aCons, rArgs, gNameT, gNilT, gConsT, gTupT, gSubT, kI2n, kIx, kDm, T.int.injEq, T.bl.injEq, T.tup.injEq, T.cell.injEq, Cell.lst.injEq, List.cons.injEq, Option.some.injEq, List.length_cons, List.length_nil, List.getElem?_cons_zero, List.getElem?_cons_succ, List.set_cons_zero, List.set_cons_succ, exists_eq_left', exists_and_left, and_true, true_and, and_assoc, Nat.reduceAdd, Nat.zero_add, put_put, put_same, at_1, ix_3_1]
    refine ite_d (fun cc => ⟨hm.divW _, ?_⟩) (fun cc => hN _ _ ?_)
    · exact q _ _ (emod_lt hm.pos).1 (emod_lt hm.pos).2 ⟨_, _, _, hy.1, hy.2, Int.ediv_nonneg d0 (by have := hm.pos; omega), rfl⟩
    · simp only [sRet, rVar, rC, rBin, kI2, kIx, Cell.lst.injEq, Option.some.injEq, List.getElem?_cons_zero, List.getElem?_cons_succ, exists_eq_left', exists_and_left, put_same, at_0]
      exact ⟨div_small (by decide) (by decide) _, hm.pos, q _ _ (emod_lt hm.pos).1 (emod_lt hm.pos).2 ⟨_, _, _, hy.1, hy.2, d0, rfl⟩⟩
  · exact h.elim
/-! fractions, good arguments only -/
def sgn (l r : Int) : Int := if l < r then -1 else if r < l then 1 else 0
theorem Pn.isPos {n : Nat} {a : Int} (h : Pn n a) : isPos (.int a) = true := decide_eq_true h.pos
theorem eqI {a b : Int} {S : Store} {R : T → Store → Prop} {RE : XT} {ng : Bool} (q : R (.bl (ng ^^ decide (a = b))) S) : kEqG ng (.int a) (.int b) S R RE := .inl ⟨rfl, q⟩
theorem eqI1 {a b : Int} {S : Store} {R : T → Store → Prop} {RE : XT} (q : R (.bl (!decide (a = b))) S) : kEqG true (.int a) (.int b) S R RE := eqI (by simpa using q)
/-- all are fractions -/
def FrL (n : Nat) (l : List T) : Prop := ∀ x ∈ l, ∃ a b, x = frT a b ∧ Fr n a b
theorem FrL.one {n : Nat} {a b : Int} (h : Fr n a b) : FrL n [frT a b] := fun x m => by
  rw [List.mem_singleton.mp m]; exact ⟨a, b, rfl, h⟩
theorem FrL.two {n : Nat} {a b c d : Int} (h : Fr n a b) (k : Fr n c d) : FrL n [frT a b, frT c d] := fun x m => by
  rcases List.mem_cons.mp m with rfl | m
  · exact ⟨a, b, rfl, h⟩
  · rw [List.mem_singleton.mp m]; exact ⟨c, d, rfl, k⟩
def sp_is_fraction (K : PySem.W.Frag) : SpT := fun ts S R _ => match ts with
  | [.tup [.int a, .int b]] => Fr 8000 a b ∧ R (.bl true) S
  | _ => False
def sp_check_fractions : SpT := fun ts S R _ => match ts with
  | [.tup l] => FrL 8000 l ∧ R .non S
  | _ => False
/-- a side stands for a fraction -/
inductive Side (n : Nat) : T → Int → Int → Prop
  | int {a : Int} (h : Pn n a) : Side n (.int a) a 1
  | fr {a b : Int} (h : Fr n a b) : Side n (frT a b) a b
theorem Side.is {n : Nat} {x : T} {a b : Int} (h : Side n x a b) : Fr n a b := by
  cases h with
  | @int a h => exact ⟨h, ⟨by decide, Nat.lt_of_le_of_lt (by have := h.pos; omega) h.lt⟩, gcdI_one⟩
  | fr h => exact h
theorem ValT.fr {K : PySem.W.Frag} {S : Store} {a b : Int} : ValT K S (frT a b) := .tup
def sp_as_fraction (K : PySem.W.Frag) : SpT := fun ts S R _ => match ts with
  | [x] => ∃ a b, Side 8000 x a b ∧ R (frT a b) S
  | _ => False
def sp_product : SpT := fun ts S R _ => match ts with
  | [.tup [.int a, .int b], .tup [.int c, .int d]] => Fr 3900 a b ∧ Fr 3900 c d ∧ R (frT (lwA (a * c) (b * d)) (lwB (a * c) (b * d))) S
  | _ => False
def sp_quotient : SpT := fun ts S R _ => match ts with
  | [.tup [.int a, .int b], .tup [.int c, .int d]] => Fr 3900 a b ∧ Fr 3900 c d ∧ R (frT (lwA (a * d) (b * c)) (lwB (a * d) (b * c))) S
  | _ => False
def sp_order : SpT := fun ts S R _ => match ts with
  | [.int l, .int r] => R (.int (sgn l r)) S
  | _ => False
def sp_compare : SpT := fun ts S R _ => match ts with
  | [.tup [.int a, .int b], .tup [.int c, .int d]] => Fr 3900 a b ∧ Fr 3900 c d ∧ R (.int (sgn (a * d) (c * b))) S
  | _ => False
/-- a law's last row: all([_law_right(_law_pool(_law_cell(script, k))) for k in range(m)]) -/
theorem law_cells {fr : T → Fm} {spR : SpT} {i j : Nat} {ns : List Int} {m : Int} {S : Store} {R : T → Store → Prop} (h63 : ns.length ≤ 63) (hm : 0 ≤ m ∧ m ≤ 100) (hi : ∀ t, (fr t)[i]? = some (some (.scr (ns.map T.int)))) (hj : ∀ t, (fr t)[j]? = some (some t))
    (hR : ∀ p S, PoolT S p → ∀ N : T → Store → Prop, (∀ S', N (.bl true) S') → spR [.cell p] S N XF) (q : ∀ S, R (.bl true) S) :
    rComp fr bYes (rCall spR [] (aCons (rCall sp_l_pool [] (aCons (rCall sp_l_cell [] (aCons (rVar i) (aCons (rVar j) aNil))) aNil)) aNil)) (rangeT 0 m) [] S (fun ys S2 => ∃ bs, ys = List.map T.bl bs ∧ R (.bl (bs.all id)) S2) := by
  have ln : (rangeT 0 m).length = m.toNat := by simp [rangeT]
  refine rComp_all (fun _ _ => True) (fun _ _ y => y = .bl true) trivial (by rw [ln, sizeLine_eq]; omega) ?_ ?_
  · intro k t S' hk _ N hN
    unfold rangeT at hk
    rw [List.getElem?_map] at hk
    obtain ⟨z, hz, rfl⟩ := Option.map_eq_some_iff.mp hk
    obtain ⟨lz, ez⟩ := List.getElem?_eq_some_iff.mp hz
    rw [List.getElem_range] at ez
    rw [List.length_range] at lz
    subst ez
    refine ⟨_, hi _, _, hj _, ?_⟩
    simp only [aNil, List.append_nil]
    refine ⟨⟨ns, rfl, h63⟩, by omega, by omega, fun v => ?_⟩
    intro p S2 hp ps
    exact hR p S2 ps.pool _ fun S3 => hN _ _ rfl trivial
  · intro ys S2 hl hF _
    refine ⟨List.replicate ys.length true, ?_, ?_⟩
    · refine List.ext_getElem? fun k => ?_
      rw [List.getElem?_map, List.getElem?_replicate]
      by_cases hk : k < ys.length
      · have := hF k ((rangeT 0 m)[k]'(by omega)) ys[k] (List.getElem?_eq_getElem (by omega)) (List.getElem?_eq_getElem hk)
        rw [List.getElem?_eq_getElem hk, this, if_pos hk]
        rfl
      · rw [List.getElem?_eq_none (by omega), if_neg hk]
        rfl
    · rw [show (List.replicate ys.length true).all id = true by rw [List.all_replicate]; split <;> rfl]
      exact q _
/-- max(2, min(k, len(script))), as the two ways of writing it give it -/
theorem range_le {n k : Int} (h : 0 ≤ n ∧ n ≤ 63) (hk : 0 ≤ k ∧ k ≤ 63) : 0 ≤ (if (if n < k then n else k) > 2 then (if n < k then n else k) else 2) ∧ (if (if n < k then n else k) > 2 then (if n < k then n else k) else 2) ≤ 100 := by
  split <;> split <;> omega
/-! small data: what repr shows of it is short -/
theorem two_ten : (2 : Nat) ^ 1900 < 10 ^ 600 := by decide +kernel
theorem intlen {i : Int} (h : i.natAbs < 2 ^ 1900) : (Str.ofString (toString i)).length ≤ 601 := by
  rw [PySem.ofString_length]
  exact PySem.int_text_length_le10 (k := 600) (by decide) (Nat.lt_trans h two_ten)
structure SmL (k n : Nat) (ts : List T) : Prop where
  ex : ∃ ds, T.datL ts = some ds ∧ PyData.showableAll ds = true ∧ PyData.hasDictAll ds = false ∧ PyData.depthAll ds ≤ k ∧ ((PyData.shownAll ds).map (·.length)).sum + 2 * ds.length ≤ n
theorem SmT.up {j k n m : Nat} {d : T} (h : SmT j n d) (le2 : j ≤ k) (le : n ≤ m) : SmT k m d := let ⟨d, a, b, c, e, f⟩ := h.ex; ⟨d, a, b, c, Nat.le_trans e le2, Nat.le_trans f le⟩
theorem SmL.nil {k : Nat} : SmL k 0 [] := ⟨[], by rw [T.datL], by simp only [PyData.showableAll], by simp only [PyData.hasDictAll], by simp only [PyData.depthAll]; omega, by rw [PyData.shownAll_nil]; exact Nat.le_refl _⟩
theorem SmL.cons {k n m : Nat} {t : T} {ts : List T} (h : SmT k n t) (q : SmL k m ts) : SmL k (n + m + 2) (t :: ts) := by
  obtain ⟨d, e1, sh, nd, dp, ln⟩ := h.ex
  obtain ⟨ds, e2, sh2, nd2, dp2, ln2⟩ := q.ex
  refine ⟨d :: ds, by rw [T.datL, e1, e2], by simp only [PyData.showableAll, sh, sh2, Bool.and_self], by simp only [PyData.hasDictAll, nd, nd2, Bool.or_self], ?_, ?_⟩
  · simp only [PyData.depthAll]
    omega
  · rw [PyData.shownAll_cons]
    simp only [List.map_cons, List.sum_cons, List.length_cons]
    omega
theorem SmT.lst {k n : Nat} {ts : List T} (h : SmL k n ts) : SmT (k + 1) (n + 3) (.lst ts) := by
  obtain ⟨ds, e, sh, nd, dp, ln⟩ := h.ex
  refine ⟨.list ds, by rw [T.dat, e]; rfl, by simp only [PyData.showable, sh], by simp only [PyData.hasDict, nd], ?_, ?_⟩
  · simp only [PyData.depth]
    omega
  · have h2 := listText_len_le (PyData.shownAll ds)
    rw [PyData.shownAll_length] at h2
    simp only [PyData.shown]
    omega
theorem SmT.tup {k n : Nat} {ts : List T} (h : SmL k n ts) : SmT (k + 1) (n + 3) (.tup ts) := by
  obtain ⟨ds, e, sh, nd, dp, ln⟩ := h.ex
  refine ⟨.tuple ds, by rw [T.dat, e]; rfl, by simp only [PyData.showable, sh], by simp only [PyData.hasDict, nd], ?_, ?_⟩
  · simp only [PyData.depth]
    omega
  · have h2 := tupleText_len_le (PyData.shownAll ds)
    rw [PyData.shownAll_length] at h2
    simp only [PyData.shown]
    omega
theorem SmT.int {i : Int} (h : i.natAbs < 2 ^ 1900) : SmT 1 601 (.int i) := by
  have l : i.natAbs.log2 < 1900 := PySem.Flt.log2_lt_of (by decide) h
  refine ⟨.int i, by rw [T.dat], ?_, by simp only [PyData.hasDict], by simp only [PyData.depth]; omega, ?_⟩
  · have := PyData.showableAll_ints [i] (fun n m => by rw [List.mem_singleton.mp m]; omega)
    simpa only [List.map_cons, List.map_nil, PyData.showableAll, Bool.and_true] using this
  · rw [PyData.shown_int]
    exact intlen h
theorem SmT.bool (b : Bool) : SmT 1 5 (.bl b) := by
  refine ⟨.bool b, by rw [T.dat], by simp only [PyData.showable], by simp only [PyData.hasDict], by simp only [PyData.depth]; omega, ?_⟩
  rw [PyData.shown_bool]
  cases b <;> decide
theorem SmT.fr {a b : Int} (h : Pn 1900 a) (k : Pn 1900 b) : SmT 2 1300 (frT a b) := (SmT.tup ((SmL.cons (SmT.int h.lt) (SmL.cons (SmT.int k.lt) SmL.nil)))).up (by decide) (by decide)
theorem ValT.dct {K : PySem.W.Frag} {S : Store} : ValT K S .dct := kind_of .dct (by show (kindsT.all fun n => kitB "dict" n == some (isK .dct n)) = true; decide +kernel)
theorem Sq.int {i : Int} (h : i.natAbs < 2 ^ 1900) : Sq 1 601 (.int i) := by
  have l : i.natAbs.log2 < 1900 := PySem.Flt.log2_lt_of (by decide) h
  refine ⟨?_, by simp only [PyData.depth]; omega, ?_⟩
  · have := PyData.showableAll_ints [i] (fun n m => by rw [List.mem_singleton.mp m]; omega)
    simpa only [List.map_cons, List.map_nil, PyData.showableAll, Bool.and_true] using this
  · rw [PyData.shown_int]
    exact intlen h
theorem lt1900 {i : Int} (h : i.natAbs < 2 ^ 200) : i.natAbs < 2 ^ 1900 := Nat.lt_trans h (by decide +kernel)
theorem Sq.bool (b : Bool) : Sq 1 5 (.bool b) := by
  refine ⟨by simp only [PyData.showable], by simp only [PyData.depth]; omega, ?_⟩
  rw [PyData.shown_bool]
  cases b <;> decide
/-- a part of an odd value -/
structure Leaf (x : T) : Prop where
  v : ∀ K S, ValT K S x
  d : ∃ d, x.datD = some d ∧ Sq 3 3000 d
  n : ∀ a, x = .int a → a.natAbs < 2 ^ 200
theorem leaf_int {i : Int} (h : i.natAbs < 2 ^ 200) : Leaf (.int i) := ⟨fun _ _ => .int, ⟨_, by rw [T.datD], (Sq.int (lt1900 h)).up (by decide) (by decide)⟩, fun a e => by cases e; exact h⟩
theorem leaf_bl {b : Bool} : Leaf (.bl b) := ⟨fun _ _ => .bl, ⟨_, by rw [T.datD], (Sq.bool b).up (by decide) (by decide)⟩, fun a e => by cases e⟩
theorem leaf_non : Leaf .non := ⟨fun _ _ => .non, ⟨_, by rw [T.datD], Sq.non.up (by decide) (by decide)⟩, fun a e => by cases e⟩
theorem leaf_dct : Leaf .dct := ⟨fun _ _ => .dct, ⟨_, by rw [T.datD], Sq.dic.up (by decide) (by decide)⟩, fun a e => by cases e⟩
theorem leaf_str {z : Str} (h : (reprText z).length ≤ 3000) : Leaf (.str z) := ⟨fun _ _ => .str, ⟨_, by rw [T.datD], (Sq.str h).up (by decide) (by decide)⟩, fun a e => by cases e⟩
theorem datDL_all {k n : Nat} : ∀ {l : List T}, (∀ y ∈ l, ∃ d, y.datD = some d ∧ Sq k n d) → ∃ ds, T.datDL l = some ds ∧ SqA k (l.length * (n + 2)) ds
  | [], _ => ⟨[], by rw [T.datDL], by simpa using SqA.nil⟩
  | y :: l, h => by
    obtain ⟨d, e1, s1⟩ := h y (List.mem_cons_self ..)
    obtain ⟨ds, e2, s2⟩ := datDL_all (l := l) fun z m => h z (List.mem_cons_of_mem _ m)
    refine ⟨d :: ds, by rw [T.datDL, e1, e2], ?_⟩
    have := SqA.cons s1 s2
    have e : n + l.length * (n + 2) + 2 = (y :: l).length * (n + 2) := by rw [List.length_cons, Nat.succ_mul]; omega
    rw [e] at this
    exact this
theorem leaf_fr {a b : Int} (ha : a.natAbs < 2 ^ 200) (hb : b.natAbs < 2 ^ 200) : Leaf (.tup [.int a, .int b]) := by
  refine ⟨fun _ _ => .tup, ?_, fun _ e => by cases e⟩
  refine ⟨_, by rw [T.datD, T.datDL, T.datDL, T.datDL, T.datD, T.datD]; rfl, ?_⟩
  exact (Sq.tup (SqA.cons (Sq.int (lt1900 ha)) (SqA.cons (Sq.int (lt1900 hb)) SqA.nil))).up (by decide) (by decide)
theorem leaf_tup {l : List T} (h : ∀ y ∈ l, ∃ d, y.datD = some d ∧ Sq 2 700 d) (hl : l.length ≤ 3) : Leaf (.tup l) := by
  refine ⟨fun _ _ => .tup, ?_, fun _ e => (by cases e)⟩
  obtain ⟨ds, e, s⟩ := datDL_all h
  refine ⟨_, by rw [T.datD, e]; rfl, (Sq.tup s).up (by decide) ?_⟩
  have : l.length * (700 + 2) ≤ 3 * (700 + 2) := Nat.mul_le_mul_right _ hl
  omega
theorem leaf_lst {l : List T} (h : ∀ y ∈ l, ∃ d, y.datD = some d ∧ Sq 2 700 d) (hl : l.length ≤ 3) : Leaf (.lst l) := by
  refine ⟨fun _ _ => .lst, ?_, fun _ e => (by cases e)⟩
  obtain ⟨ds, e, s⟩ := datDL_all h
  refine ⟨_, by rw [T.datD, e]; rfl, (Sq.lst s).up (by decide) ?_⟩
  have : l.length * (700 + 2) ≤ 3 * (700 + 2) := Nat.mul_le_mul_right _ hl
  omega
theorem d_int {i : Int} (h : i.natAbs < 2 ^ 200) : ∃ d, (T.int i).datD = some d ∧ Sq 2 700 d := ⟨_, by rw [T.datD], (Sq.int (lt1900 h)).up (by decide) (by decide)⟩
theorem one_mem {P : T → Prop} {a : T} (h : P a) : ∀ y ∈ [a], P y := fun y m => by rw [List.mem_singleton.mp m]; exact h
/-- where the store has only grown -/
def Grow (S S' : Store) : Prop := ∀ a c, S a = some c → S' a = some c
theorem Grow.refl {S : Store} : Grow S S := fun _ _ h => h
theorem Grow.trans {S S1 S2 : Store} (h : Grow S S1) (k : Grow S1 S2) : Grow S S2 := fun a c e => k a c (h a c e)
theorem Grow.put {S : Store} {u : Addr} {c : Cell} (h : S u = none) : Grow S (S.put u c) := fun a c' e => by
  by_cases z : a = u
  · subst z; rw [h] at e; cases e
  · rw [put_ne z]; exact e
theorem Grow.drop {S S' : Store} {u : Addr} (g : Grow S S') (h : S u = none) : Grow S (S'.drop u) := fun a c e => by
  by_cases z : a = u
  · subst z; rw [h] at e; cases e
  · rw [drop_ne z]; exact g a c e
theorem Grow.gone {S S' : Store} {u : Addr} (g : Grow S S') (h : S' u = none) : S u = none := by
  cases e : S u with
  | none => rfl
  | some c => have := g u c e; rw [h] at this; cases this
/-! the classes of errors, by their numbers: the twenty, then the three bases -/
def kvB (i k : Nat) : Bool := if i < 20 then decide (i = k) else if i = 20 then decide (k < 14) else if i = 21 then decide (13 < k) && decide (k < 18) else decide (17 < k)
def fldX (k : Nat) : Str := if k = 6 ∨ k = 10 ∨ k = 12 then "index" else if 17 < k then "count" else "value"
structure Kinds (K : PySem.W.Frag) (l : List Addr) : Prop where
  a : ∀ i k C D, i < 23 → k < 20 → l[i]? = some C → l[k]? = some D → PySem.W.kitOne K (.ref D) (.ref C) = some (kvB i k)
  v : ∀ k D, k < 20 → l[k]? = some D → PySem.W.kitOne K (.ref D) (.type "ValueError") = some (decide (k < 14))
  o : ∀ k D, k < 20 → l[k]? = some D → PySem.W.kitOne K (.ref D) (.type "LookupError") = some (decide (13 < k) && decide (k < 18))
  r : ∀ k D, k < 20 → l[k]? = some D → PySem.W.kitOne K (.ref D) (.type "ArithmeticError") = some (decide (17 < k))
  e : ∀ k D, k < 20 → l[k]? = some D → ExcC K D
  x : ∀ k D, k < 20 → l[k]? = some D → XfC K D
  f : ∀ k D, k < 20 → k ≠ 17 → l[k]? = some D → PySem.W.findIn K (.ref D) (fldX k) = some none
def kindsB (K : PySem.W.Frag) (l : List Addr) : Bool := (List.range 20).all fun k => ((List.range 23).all fun i => decide (PySem.W.kitOne K (.ref (l.getD k 0)) (.ref (l.getD i 0)) = some (kvB i k))) &&
  (decide (PySem.W.kitOne K (.ref (l.getD k 0)) (.type "ValueError") = some (decide (k < 14))) && (decide (PySem.W.kitOne K (.ref (l.getD k 0)) (.type "LookupError") = some (decide (13 < k) && decide (k < 18))) && (decide (PySem.W.kitOne K (.ref (l.getD k 0)) (.type "ArithmeticError") = some (decide (17 < k))) &&
  (excB K (l.getD k 0) && (xfB K (l.getD k 0) && (decide (k = 17) || decide (PySem.W.findIn K (.ref (l.getD k 0)) (fldX k) = some none)))))))
theorem kinds_of {K : PySem.W.Frag} {l : List Addr} (h : kindsB K l = true) : Kinds K l := by
  have g : ∀ k C, l[k]? = some C → l.getD k 0 = C := fun k C e => by rw [List.getD_eq_getElem?_getD, e]; rfl
  have all := fun k (hk : k < 20) => (List.all_eq_true.mp h) k (List.mem_range.mpr hk)
  simp only [Bool.and_eq_true, Bool.or_eq_true, decide_eq_true_eq, List.all_eq_true, List.mem_range] at all
  exact {
    a := fun i k C D hi hk e1 e2 => by have := (all k hk).1 i hi; rw [g _ _ e1, g _ _ e2] at this; exact this
    v := fun k D hk e => by have := (all k hk).2.1; rw [g _ _ e] at this; exact this
    o := fun k D hk e => by have := (all k hk).2.2.1; rw [g _ _ e] at this; exact this
    r := fun k D hk e => by have := (all k hk).2.2.2.1; rw [g _ _ e] at this; exact this
    e := fun k D hk e => by have := (all k hk).2.2.2.2.1; rw [g _ _ e] at this; exact excC_of this
    x := fun k D hk e => by have := (all k hk).2.2.2.2.2.1; rw [g _ _ e] at this; exact xfB_ok this
    f := fun k D hk n e => by have := (all k hk).2.2.2.2.2.2; rw [g _ _ e] at this; exact this.resolve_left n }
theorem isE {K : PySem.W.Frag} {l : List Addr} (kd : Kinds K l) {k : Nat} {D : Addr} (hk : k < 20) (hD : l[k]? = some D) (i : Nat) {C : Addr} (hi : i < 23) (hC : l[i]? = some C) {gs : List (Str × T)} {S : Store} {R : T → Store → Prop} {RE : XT} (q : R (.bl (kvB i k)) S) : kIsi K [.exc D gs, .st C] S R RE :=
  ⟨_, _, _, _, _, rfl, .st C, .exc (kd.e k D hk hD), kd.a i k C D hi hk hC hD, q⟩
theorem isT {K : PySem.W.Frag} {l : List Addr} (kd : Kinds K l) {k : Nat} {D : Addr} (hk : k < 20) (hD : l[k]? = some D) {n : String} {b : Bool} (e : PySem.W.kitOne K (.ref D) (.type n) = some b) {gs : List (Str × T)} {S : Store} {R : T → Store → Prop} {RE : XT} (q : R (.bl b) S) : kIsi K [.exc D gs, .ty n] S R RE :=
  ⟨_, _, _, _, _, rfl, .ty n, .exc (kd.e k D hk hD), e, q⟩
theorem kv_count : ∀ k, k < 20 → ((List.range 20).map fun i => kvB i k).count true = 1 := by decide
theorem kv_idx : ∀ k, k < 20 → idxT (.bl true) (((List.range 20).map fun i => kvB i k).map T.bl) = some k := by
  intro k hk
  have h : ∀ k, k < 20 → (match idxT (.bl true) (((List.range 20).map fun i => kvB i k).map T.bl) with | some j => j == k | none => false) = true := by decide +kernel
  have := h k hk
  split at this
  · rename_i j e
    rw [e, beq_iff_eq.mp this]
  · cases this
theorem eq_bls {a b c ng : Bool} {S : Store} {R : T → Store → Prop} {RE : XT} (q : R (.bl (!ng)) S) : kEqG ng (.lst [.bl a, .bl b, .bl c]) (.lst [.bl a, .bl b, .bl c]) S R RE := by
  refine .inr ⟨.list [.bool a, .bool b, .bool c], .list [.bool a, .bool b, .bool c], by simp [T.dat, T.datL], by simp [T.dat, T.datL], by simp [SeqAt.shaped, PyData.canLay0, PyData.canLayAll0, PyData.depth, PyData.depthAll], by simp [SeqAt.shaped, PyData.canLay0, PyData.canLayAll0, PyData.depth, PyData.depthAll], ?_⟩
  have e : PyData.eqv (.list [.bool a, .bool b, .bool c]) (.list [.bool a, .bool b, .bool c]) = true := by simp [PyData.eqv, PyData.eqvAll]
  rw [e, Bool.xor_true]
  exact q
theorem sIf_i {tc : TRB} {ra rb : TRS} {D : EnT} {σ : Fm} {S : Store} (h : ∀ (A B : Store → Prop), (∀ S', ra D σ S' → A S') → (∀ S', rb D σ S' → B S') → tc σ S (fun c S1 => if c = true then A S1 else B S1) D.ex) : sIf tc ra rb D σ S := h _ _ (fun _ x => x) (fun _ x => x)
theorem sc_l_kind : FnScope ["_law_e", "_law_found", "_law_bases", "_law_own", "_law_at"] ["_law_e"] (defScope s_l_kind) := ⟨rfl, rfl, rfl, by decide +kernel, rfl, by decide +kernel, by decide +kernel⟩
def sp_l_kind88 (l : List Addr) : SpT := fun ts S R _ => match ts with
  | [x] => ∃ k D gs, x = .exc D gs ∧ k < 20 ∧ l[k]? = some D ∧ R (.int ((k : Nat) : Int)) S
  | _ => False
set_option maxHeartbeats 6400000 in
theorem ok_l_kind {P : Program} {w : World} {K : PySem.W.Frag} {mg : Str → Option Value} {base : Heap} {f : Addr} {fd : FuncData} {C_LimitError C_FindError C_PictureError C_TooManyDeeds C_TooManySteps C_NothingToUndo C_NameTaken C_UnknownName C_NoStep C_InvalidLine C_InvalidDeeds C_InvalidName C_InvalidRecords C_InvalidKind C_InvalidText C_InvalidChain C_InvalidSteps C_InvalidStep C_InvalidTimes C_InvalidKeep C_InvalidBox C_InvalidSize C_InvalidFraction : Addr}  (F : Fun K "_law_kind" "_law_kind" s_l_kind f fd)
    (n_isinstance : mg "isinstance" = none)
    (n_ArithmeticError : mg "ArithmeticError" = none)
    (n_LookupError : mg "LookupError" = none)
    (n_ValueError : mg "ValueError" = none)
    (m_LimitError : mg "LimitError" = some (.ref C_LimitError))
    (m_FindError : mg "FindError" = some (.ref C_FindError))
    (m_PictureError : mg "PictureError" = some (.ref C_PictureError))
    (m_TooManyDeeds : mg "TooManyDeeds" = some (.ref C_TooManyDeeds))
    (m_TooManySteps : mg "TooManySteps" = some (.ref C_TooManySteps))
    (m_NothingToUndo : mg "NothingToUndo" = some (.ref C_NothingToUndo))
    (m_NameTaken : mg "NameTaken" = some (.ref C_NameTaken))
    (m_UnknownName : mg "UnknownName" = some (.ref C_UnknownName))
    (m_NoStep : mg "NoStep" = some (.ref C_NoStep))
    (m_InvalidLine : mg "InvalidLine" = some (.ref C_InvalidLine))
    (m_InvalidDeeds : mg "InvalidDeeds" = some (.ref C_InvalidDeeds))
    (m_InvalidName : mg "InvalidName" = some (.ref C_InvalidName))
    (m_InvalidRecords : mg "InvalidRecords" = some (.ref C_InvalidRecords))
    (m_InvalidKind : mg "InvalidKind" = some (.ref C_InvalidKind))
    (m_InvalidText : mg "InvalidText" = some (.ref C_InvalidText))
    (m_InvalidChain : mg "InvalidChain" = some (.ref C_InvalidChain))
    (m_InvalidSteps : mg "InvalidSteps" = some (.ref C_InvalidSteps))
    (m_InvalidStep : mg "InvalidStep" = some (.ref C_InvalidStep))
    (m_InvalidTimes : mg "InvalidTimes" = some (.ref C_InvalidTimes))
    (m_InvalidKeep : mg "InvalidKeep" = some (.ref C_InvalidKeep))
    (m_InvalidBox : mg "InvalidBox" = some (.ref C_InvalidBox))
    (m_InvalidSize : mg "InvalidSize" = some (.ref C_InvalidSize))
    (m_InvalidFraction : mg "InvalidFraction" = some (.ref C_InvalidFraction))
    (kd_all : Kinds K [C_InvalidFraction, C_InvalidSize, C_InvalidBox, C_InvalidKeep, C_InvalidTimes, C_InvalidStep, C_InvalidSteps, C_InvalidChain, C_InvalidText, C_InvalidKind, C_InvalidRecords, C_InvalidName, C_InvalidDeeds, C_InvalidLine, C_NoStep, C_UnknownName, C_NameTaken, C_NothingToUndo, C_TooManySteps, C_TooManyDeeds, C_PictureError, C_FindError, C_LimitError])
    : FnT P w K mg base 1 f fd ["_law_e"] (sp_l_kind88 [C_InvalidFraction, C_InvalidSize, C_InvalidBox, C_InvalidKeep, C_InvalidTimes, C_InvalidStep, C_InvalidSteps, C_InvalidChain, C_InvalidText, C_InvalidKind, C_InvalidRecords, C_InvalidName, C_InvalidDeeds, C_InvalidLine, C_NoStep, C_UnknownName, C_NameTaken, C_NothingToUndo, C_TooManySteps, C_TooManyDeeds, C_PictureError, C_FindError, C_LimitError]) := by
  refine okT F sc_l_kind (by intro ts S R RE h; unfold sp_l_kind88 at h; split at h <;> first | rfl | exact h.elim) (fun cdv A out s H E hg hr => (bs_cons (ss_set (i := 1) sc_l_kind.nd rfl (by first | exact Or.inl rfl | exact Or.inr rfl) (et_lst (at_cons (et_blt call_isiY (cv_isi (K := K)) (by rfl) n_isinstance PyProof.Rows.boot_isinstance (at_cons (et_var (pv 0)) (at_cons (et_glob (by rfl) m_InvalidFraction) at_nil))) (at_cons (et_blt call_isiY (cv_isi (K := K)) (by rfl) n_isinstance PyProof.Rows.boot_isinstance (at_cons (et_var (pv 0)) (at_cons (et_glob (by rfl) m_InvalidSize) at_nil))) (at_cons (et_blt call_isiY (cv_isi (K := K)) (by rfl) n_isinstance PyProof.Rows.boot_isinstance (at_cons (et_var (pv 0)) (at_cons (et_glob (by rfl) m_InvalidBox) at_nil))) at_nil)))))
    (bs_cons (ss_set (i := 1) sc_l_kind.nd rfl (by first | exact Or.inl rfl | exact Or.inr rfl) (et_op op_addG cv_add (et_var (pv 1)) (et_lst (at_cons (et_blt call_isiY (cv_isi (K := K)) (by rfl) n_isinstance PyProof.Rows.boot_isinstance (at_cons (et_var (pv 0)) (at_cons (et_glob (by rfl) m_InvalidKeep) at_nil))) (at_cons (et_blt call_isiY (cv_isi (K := K)) (by rfl) n_isinstance PyProof.Rows.boot_isinstance (at_cons (et_var (pv 0)) (at_cons (et_glob (by rfl) m_InvalidTimes) at_nil))) (at_cons (et_blt call_isiY (cv_isi (K := K)) (by rfl) n_isinstance PyProof.Rows.boot_isinstance (at_cons (et_var (pv 0)) (at_cons (et_glob (by rfl) m_InvalidStep) at_nil))) at_nil))))))
    (bs_cons (ss_set (i := 1) sc_l_kind.nd rfl (by first | exact Or.inl rfl | exact Or.inr rfl) (et_op op_addG cv_add (et_var (pv 1)) (et_lst (at_cons (et_blt call_isiY (cv_isi (K := K)) (by rfl) n_isinstance PyProof.Rows.boot_isinstance (at_cons (et_var (pv 0)) (at_cons (et_glob (by rfl) m_InvalidSteps) at_nil))) (at_cons (et_blt call_isiY (cv_isi (K := K)) (by rfl) n_isinstance PyProof.Rows.boot_isinstance (at_cons (et_var (pv 0)) (at_cons (et_glob (by rfl) m_InvalidChain) at_nil))) (at_cons (et_blt call_isiY (cv_isi (K := K)) (by rfl) n_isinstance PyProof.Rows.boot_isinstance (at_cons (et_var (pv 0)) (at_cons (et_glob (by rfl) m_InvalidText) at_nil))) at_nil))))))
    (bs_cons (ss_set (i := 1) sc_l_kind.nd rfl (by first | exact Or.inl rfl | exact Or.inr rfl) (et_op op_addG cv_add (et_var (pv 1)) (et_lst (at_cons (et_blt call_isiY (cv_isi (K := K)) (by rfl) n_isinstance PyProof.Rows.boot_isinstance (at_cons (et_var (pv 0)) (at_cons (et_glob (by rfl) m_InvalidKind) at_nil))) (at_cons (et_blt call_isiY (cv_isi (K := K)) (by rfl) n_isinstance PyProof.Rows.boot_isinstance (at_cons (et_var (pv 0)) (at_cons (et_glob (by rfl) m_InvalidRecords) at_nil))) (at_cons (et_blt call_isiY (cv_isi (K := K)) (by rfl) n_isinstance PyProof.Rows.boot_isinstance (at_cons (et_var (pv 0)) (at_cons (et_glob (by rfl) m_InvalidName) at_nil))) at_nil))))))
    (bs_cons (ss_set (i := 1) sc_l_kind.nd rfl (by first | exact Or.inl rfl | exact Or.inr rfl) (et_op op_addG cv_add (et_var (pv 1)) (et_lst (at_cons (et_blt call_isiY (cv_isi (K := K)) (by rfl) n_isinstance PyProof.Rows.boot_isinstance (at_cons (et_var (pv 0)) (at_cons (et_glob (by rfl) m_InvalidDeeds) at_nil))) (at_cons (et_blt call_isiY (cv_isi (K := K)) (by rfl) n_isinstance PyProof.Rows.boot_isinstance (at_cons (et_var (pv 0)) (at_cons (et_glob (by rfl) m_InvalidLine) at_nil))) (at_cons (et_blt call_isiY (cv_isi (K := K)) (by rfl) n_isinstance PyProof.Rows.boot_isinstance (at_cons (et_var (pv 0)) (at_cons (et_glob (by rfl) m_NoStep) at_nil))) at_nil))))))
    (bs_cons (ss_set (i := 1) sc_l_kind.nd rfl (by first | exact Or.inl rfl | exact Or.inr rfl) (et_op op_addG cv_add (et_var (pv 1)) (et_lst (at_cons (et_blt call_isiY (cv_isi (K := K)) (by rfl) n_isinstance PyProof.Rows.boot_isinstance (at_cons (et_var (pv 0)) (at_cons (et_glob (by rfl) m_UnknownName) at_nil))) (at_cons (et_blt call_isiY (cv_isi (K := K)) (by rfl) n_isinstance PyProof.Rows.boot_isinstance (at_cons (et_var (pv 0)) (at_cons (et_glob (by rfl) m_NameTaken) at_nil))) (at_cons (et_blt call_isiY (cv_isi (K := K)) (by rfl) n_isinstance PyProof.Rows.boot_isinstance (at_cons (et_var (pv 0)) (at_cons (et_glob (by rfl) m_NothingToUndo) at_nil))) at_nil))))))
    (bs_cons (ss_set (i := 1) sc_l_kind.nd rfl (by first | exact Or.inl rfl | exact Or.inr rfl) (et_op op_addG cv_add (et_var (pv 1)) (et_lst (at_cons (et_blt call_isiY (cv_isi (K := K)) (by rfl) n_isinstance PyProof.Rows.boot_isinstance (at_cons (et_var (pv 0)) (at_cons (et_glob (by rfl) m_TooManySteps) at_nil))) (at_cons (et_blt call_isiY (cv_isi (K := K)) (by rfl) n_isinstance PyProof.Rows.boot_isinstance (at_cons (et_var (pv 0)) (at_cons (et_glob (by rfl) m_TooManyDeeds) at_nil))) at_nil)))))
    (bs_cons (ss_set (i := 2) sc_l_kind.nd rfl (by first | exact Or.inl rfl | exact Or.inr rfl) (et_lst (at_cons (et_blt call_isiY (cv_isi (K := K)) (by rfl) n_isinstance PyProof.Rows.boot_isinstance (at_cons (et_var (pv 0)) (at_cons (et_glob (by rfl) m_PictureError) at_nil))) (at_cons (et_blt call_isiY (cv_isi (K := K)) (by rfl) n_isinstance PyProof.Rows.boot_isinstance (at_cons (et_var (pv 0)) (at_cons (et_glob (by rfl) m_FindError) at_nil))) (at_cons (et_blt call_isiY (cv_isi (K := K)) (by rfl) n_isinstance PyProof.Rows.boot_isinstance (at_cons (et_var (pv 0)) (at_cons (et_glob (by rfl) m_LimitError) at_nil))) at_nil)))))
    (bs_cons (ss_set (i := 3) sc_l_kind.nd rfl (by first | exact Or.inl rfl | exact Or.inr rfl) (et_lst (at_cons (et_blt call_isiY (cv_isi (K := K)) (by rfl) n_isinstance PyProof.Rows.boot_isinstance (at_cons (et_var (pv 0)) (at_cons (et_blty (by rfl) n_ValueError boot64_ValueError) at_nil))) (at_cons (et_blt call_isiY (cv_isi (K := K)) (by rfl) n_isinstance PyProof.Rows.boot_isinstance (at_cons (et_var (pv 0)) (at_cons (et_blty (by rfl) n_LookupError boot64_LookupError) at_nil))) (at_cons (et_blt call_isiY (cv_isi (K := K)) (by rfl) n_isinstance PyProof.Rows.boot_isinstance (at_cons (et_var (pv 0)) (at_cons (et_blty (by rfl) n_ArithmeticError boot64_ArithmeticError) at_nil))) at_nil)))))
    (bs_cons (ss_if (tt_w (tw_or (tt_cmp (op_neG hr.units) cv_ne (et_cnt (et_var (pv 1)) (at_cons et_bl at_nil)) et_int (nomark _)) (tw_or1 (tt_cmp (op_neG hr.units) cv_ne (et_var (pv 3)) (et_var (pv 2)) (nomark _))))) (bs_one (ss_ret (et_op op_sub cv_I2n et_int et_int))) bs_nil)
    (bs_cons (ss_set (i := 4) sc_l_kind.nd rfl (by first | exact Or.inl rfl | exact Or.inr rfl) (et_lidx (et_var (pv 1)) (at_cons et_bl at_nil)))
    (bs_one (ss_ret (et_if (tt_cmp (op_eqG hr.units) cv_eq (et_var (pv 2)) (et_lst (at_cons (et_cmp op_lt cv_B2n (et_var (pv 4)) et_int (nomark _)) (at_cons (et_chain op_lt cv_B2n op_lt cv_B2n et_int (et_var (pv 4)) et_int) (at_cons (et_cmp op_gt cv_B2n (et_var (pv 4)) et_int (nomark _)) at_nil)))) (nomark _)) (et_var (pv 4)) (et_op op_sub cv_I2n et_int et_int)))))))))))))))) ?_
  intro ts S R RE h
  unfold sp_l_kind88 at h
  split at h
  · rename_i x
    obtain ⟨k, D, gs, rfl, hk, hD, q⟩ := h
    have X := fun (i : Nat) (hi : i < 23) (C : Addr) (hC : _ = some C) (S : Store) (R : T → Store → Prop) (RE : XT) (q : R (.bl (kvB i k)) S) => isE (gs := gs) (RE := RE) kd_all hk hD i hi hC q
    refine sSeq_i fun N hN => ?_
    simp only [sAsg, rVar, rC, aNil, aCons, rLst, rArgs, gNameT, startT, Option.some.injEq, List.map_cons, List.map_nil, List.length_cons, List.length_nil, List.cons_append, List.nil_append, List.getElem?_cons_zero, List.set_cons_zero, List.set_cons_succ, List.replicate_succ, List.replicate_zero, exists_eq_left', Nat.reduceAdd, Nat.reduceSub, Nat.zero_add]
    refine X 0 (by decide) _ rfl _ _ _ (X 1 (by decide) _ rfl _ _ _ (X 2 (by decide) _ rfl _ _ _ ⟨by decide, hN _ _ ?_⟩))
    clear hN
    refine sSeq_i fun N hN => ?_
    simp only [sAsg, rVar, rC, rBin, aNil, aCons, rLst, rArgs, gNameT, kAdd, Option.some.injEq, List.length_cons, List.length_nil, List.cons_append, List.nil_append, List.getElem?_cons_zero, List.getElem?_cons_succ, List.set_cons_zero, List.set_cons_succ, exists_eq_left', Nat.reduceAdd, Nat.zero_add]
    refine X 3 (by decide) _ rfl _ _ _ (X 4 (by decide) _ rfl _ _ _ (X 5 (by decide) _ rfl _ _ _ ?_))
    repeat refine ⟨by decide, ?_⟩
    refine hN _ _ ?_
    clear hN
    refine sSeq_i fun N hN => ?_
    simp only [sAsg, rVar, rC, rBin, aNil, aCons, rLst, rArgs, gNameT, kAdd, Option.some.injEq, List.length_cons, List.length_nil, List.cons_append, List.nil_append, List.getElem?_cons_zero, List.getElem?_cons_succ, List.set_cons_zero, List.set_cons_succ, exists_eq_left', Nat.reduceAdd, Nat.zero_add]
    refine X 6 (by decide) _ rfl _ _ _ (X 7 (by decide) _ rfl _ _ _ (X 8 (by decide) _ rfl _ _ _ ?_))
    repeat refine ⟨by decide, ?_⟩
    refine hN _ _ ?_
    clear hN
    refine sSeq_i fun N hN => ?_
    simp only [sAsg, rVar, rC, rBin, aNil, aCons, rLst, rArgs, gNameT, kAdd, Option.some.injEq, List.length_cons, List.length_nil, List.cons_append, List.nil_append, List.getElem?_cons_zero, List.getElem?_cons_succ, List.set_cons_zero, List.set_cons_succ, exists_eq_left', Nat.reduceAdd, Nat.zero_add]
    refine X 9 (by decide) _ rfl _ _ _ (X 10 (by decide) _ rfl _ _ _ (X 11 (by decide) _ rfl _ _ _ ?_))
    repeat refine ⟨by decide, ?_⟩
    refine hN _ _ ?_
    clear hN
    refine sSeq_i fun N hN => ?_
    simp only [sAsg, rVar, rC, rBin, aNil, aCons, rLst, rArgs, gNameT, kAdd, Option.some.injEq, List.length_cons, List.length_nil, List.cons_append, List.nil_append, List.getElem?_cons_zero, List.getElem?_cons_succ, List.set_cons_zero, List.set_cons_succ, exists_eq_left', Nat.reduceAdd, Nat.zero_add]
    refine X 12 (by decide) _ rfl _ _ _ (X 13 (by decide) _ rfl _ _ _ (X 14 (by decide) _ rfl _ _ _ ?_))
    repeat refine ⟨by decide, ?_⟩
    refine hN _ _ ?_
    clear hN
    refine sSeq_i fun N hN => ?_
    simp only [sAsg, rVar, rC, rBin, aNil, aCons, rLst, rArgs, gNameT, kAdd, Option.some.injEq, List.length_cons, List.length_nil, List.cons_append, List.nil_append, List.getElem?_cons_zero, List.getElem?_cons_succ, List.set_cons_zero, List.set_cons_succ, exists_eq_left', Nat.reduceAdd, Nat.zero_add]
    refine X 15 (by decide) _ rfl _ _ _ (X 16 (by decide) _ rfl _ _ _ (X 17 (by decide) _ rfl _ _ _ ?_))
    repeat refine ⟨by decide, ?_⟩
    refine hN _ _ ?_
    clear hN
    refine sSeq_i fun N hN => ?_
    simp only [sAsg, rVar, rC, rBin, aNil, aCons, rLst, rArgs, gNameT, kAdd, Option.some.injEq, List.length_cons, List.length_nil, List.cons_append, List.nil_append, List.getElem?_cons_zero, List.getElem?_cons_succ, List.set_cons_zero, List.set_cons_succ, exists_eq_left', Nat.reduceAdd, Nat.zero_add]
    refine X 18 (by decide) _ rfl _ _ _ (X 19 (by decide) _ rfl _ _ _ ?_)
    repeat refine ⟨by decide, ?_⟩
    refine hN _ _ ?_
    clear hN
    refine sSeq_i fun N hN => ?_
    simp only [sAsg, rVar, rC, aNil, aCons, rLst, rArgs, gNameT, Option.some.injEq, List.length_cons, List.length_nil, List.getElem?_cons_zero, List.set_cons_zero, List.set_cons_succ, exists_eq_left', Nat.reduceAdd, Nat.zero_add]
    refine X 20 (by decide) _ rfl _ _ _ (X 21 (by decide) _ rfl _ _ _ (X 22 (by decide) _ rfl _ _ _ ⟨by decide, hN _ _ ?_⟩))
    clear hN
    refine sSeq_i fun N hN => ?_
    simp only [sAsg, rVar, rC, aNil, aCons, rLst, rArgs, gNameT, Option.some.injEq, List.length_cons, List.length_nil, List.getElem?_cons_zero, List.set_cons_zero, List.set_cons_succ, exists_eq_left', Nat.reduceAdd, Nat.zero_add]
    refine isT kd_all hk hD (kd_all.v k D hk hD) (isT kd_all hk hD (kd_all.o k D hk hD) (isT kd_all hk hD (kd_all.r k D hk hD) ⟨by decide, hN _ _ ?_⟩))
    clear hN X
    have b20 : kvB 20 k = decide (k < 14) := rfl
    have b21 : kvB 21 k = (decide (13 < k) && decide (k < 18)) := rfl
    have b22 : kvB 22 k = decide (17 < k) := rfl
    rw [b20, b21, b22]
    refine sSeq_i fun N hN => sIf_i fun A B hA hB => ?_
    simp only [rCntT, rVar, rC, rBin, rTest, bOr, aNil, aCons, T.bl.injEq, T.lst.injEq, List.cons.injEq, Option.some.injEq, List.getElem?_cons_zero, List.getElem?_cons_succ, exists_eq_left', and_true, reduceIte]
    refine ⟨(List.range 20).map fun i => kvB i k, rfl, ?_⟩
    rw [kv_count k hk]
    refine eqI1 ⟨_, rfl, ?_⟩
    rw [if_neg (by decide)]
    refine eq_bls ⟨_, rfl, ?_⟩
    rw [if_neg (by decide)]
    refine hB _ (hN _ _ ?_)
    clear hN hA hB
    refine sSeq_i fun N hN => ?_
    simp only [rLidx, sAsg, rVar, rC, aNil, aCons, gNameT, rLidx, flatT, List.all_cons, List.all_nil, Bool.and_self, T.lst.injEq, List.cons.injEq, Option.some.injEq, List.getElem?_cons_zero, List.getElem?_cons_succ, List.set_cons_zero, List.set_cons_succ, exists_eq_left', exists_and_left, and_true, true_and]
    refine ⟨k, kv_idx k hk, hN _ _ ?_⟩
    clear hN
    simp only [sRet, rVar, rC, rBin, rTest, rIf, aNil, aCons, rLst, rChain, kI2n, T.bl.injEq, Option.some.injEq, List.length_cons, List.length_nil, List.getElem?_cons_zero, List.getElem?_cons_succ, exists_eq_left', Nat.reduceAdd, Nat.zero_add]
    have e1 : decide ((k : Int) < 14) = decide (k < 14) := decide_eq_decide.mpr (by omega)
    have e2 : decide ((13 : Int) < (k : Int)) = decide (13 < k) := decide_eq_decide.mpr (by omega)
    have e3 : decide ((k : Int) < 18) = decide (k < 18) := decide_eq_decide.mpr (by omega)
    have e4 : decide ((17 : Int) < (k : Int)) = decide (17 < k) := decide_eq_decide.mpr (by omega)
    simp only [e1, e2, e3, e4]
    cases c : decide (13 < k) with
    | true =>
      rw [if_pos rfl, Bool.true_and]
      refine ⟨by decide, eq_bls ⟨_, rfl, ?_⟩⟩
      rw [if_pos (by decide)]
      exact q
    | false =>
      rw [if_neg (by decide), Bool.false_and]
      refine ⟨by decide, eq_bls ⟨_, rfl, ?_⟩⟩
      rw [if_pos (by decide)]
      exact q
  · exact h.elim
def errsT (l : List Addr) (x : T) : List T := (List.range 20).map fun k => .exc (l.getD k 0) (if k = 17 then [] else [(fldX k, x)])
theorem sc_l_by_position : FnScope ["_law_odd", "_law_found"] ["_law_odd"] (defScope s_l_by_position) := ⟨rfl, rfl, rfl, by decide +kernel, rfl, by decide +kernel, by decide +kernel⟩
def sp_l_errs (l : List Addr) : SpT := fun ts S R _ => match ts with
  | [x] => R (.lst (errsT l x)) S
  | _ => False
set_option maxHeartbeats 6400000 in
theorem ok_l_by_position {P : Program} {w : World} {K : PySem.W.Frag} {mg : Str → Option Value} {base : Heap} {f : Addr} {fd : FuncData} {C_TooManyDeeds fI_TooManyDeeds C_TooManySteps fI_TooManySteps C_NothingToUndo C_NameTaken fI_NameTaken C_UnknownName fI_UnknownName C_NoStep fI_NoStep C_InvalidLine fI_InvalidLine C_InvalidDeeds fI_InvalidDeeds C_InvalidName fI_InvalidName C_InvalidRecords fI_InvalidRecords C_InvalidKind fI_InvalidKind C_InvalidText fI_InvalidText C_InvalidChain fI_InvalidChain C_InvalidSteps fI_InvalidSteps C_InvalidStep fI_InvalidStep C_InvalidTimes fI_InvalidTimes C_InvalidKeep fI_InvalidKeep C_InvalidBox fI_InvalidBox C_InvalidSize fI_InvalidSize C_InvalidFraction fI_InvalidFraction C_PictureError C_FindError C_LimitError : Addr}  (F : Fun K "_law_by_position" "_law_by_position" s_l_by_position f fd)
    (m_TooManyDeeds : mg "TooManyDeeds" = some (.ref C_TooManyDeeds))
    (zn_TooManyDeeds : EvN K C_TooManyDeeds fI_TooManyDeeds "TooManyDeeds.__init__" "count" "ArithmeticError" "ArithmeticError.__new__" "ArithmeticError.__init__")
    (m_TooManySteps : mg "TooManySteps" = some (.ref C_TooManySteps))
    (zn_TooManySteps : EvN K C_TooManySteps fI_TooManySteps "TooManySteps.__init__" "count" "ArithmeticError" "ArithmeticError.__new__" "ArithmeticError.__init__")
    (m_NothingToUndo : mg "NothingToUndo" = some (.ref C_NothingToUndo))
    (xi_NothingToUndo : PySem.W.excIn K C_NothingToUndo (tailB "LookupError") "LookupError.__new__" = true)
    (xk_NothingToUndo : PySem.W.keepIn K (.ref C_NothingToUndo) = true)
    (m_NameTaken : mg "NameTaken" = some (.ref C_NameTaken))
    (zn_NameTaken : EvN K C_NameTaken fI_NameTaken "NameTaken.__init__" "value" "LookupError" "LookupError.__new__" "LookupError.__init__")
    (m_UnknownName : mg "UnknownName" = some (.ref C_UnknownName))
    (zn_UnknownName : EvN K C_UnknownName fI_UnknownName "UnknownName.__init__" "value" "LookupError" "LookupError.__new__" "LookupError.__init__")
    (m_NoStep : mg "NoStep" = some (.ref C_NoStep))
    (zn_NoStep : EvN K C_NoStep fI_NoStep "NoStep.__init__" "value" "LookupError" "LookupError.__new__" "LookupError.__init__")
    (m_InvalidLine : mg "InvalidLine" = some (.ref C_InvalidLine))
    (zn_InvalidLine : EvN K C_InvalidLine fI_InvalidLine "InvalidLine.__init__" "value" "ValueError" "ValueError.__new__" "ValueError.__init__")
    (m_InvalidDeeds : mg "InvalidDeeds" = some (.ref C_InvalidDeeds))
    (zn_InvalidDeeds : EvN K C_InvalidDeeds fI_InvalidDeeds "InvalidDeeds.__init__" "index" "ValueError" "ValueError.__new__" "ValueError.__init__")
    (m_InvalidName : mg "InvalidName" = some (.ref C_InvalidName))
    (zn_InvalidName : EvN K C_InvalidName fI_InvalidName "InvalidName.__init__" "value" "ValueError" "ValueError.__new__" "ValueError.__init__")
    (m_InvalidRecords : mg "InvalidRecords" = some (.ref C_InvalidRecords))
    (zn_InvalidRecords : EvN K C_InvalidRecords fI_InvalidRecords "InvalidRecords.__init__" "index" "ValueError" "ValueError.__new__" "ValueError.__init__")
    (m_InvalidKind : mg "InvalidKind" = some (.ref C_InvalidKind))
    (zn_InvalidKind : EvN K C_InvalidKind fI_InvalidKind "InvalidKind.__init__" "value" "ValueError" "ValueError.__new__" "ValueError.__init__")
    (m_InvalidText : mg "InvalidText" = some (.ref C_InvalidText))
    (zn_InvalidText : EvN K C_InvalidText fI_InvalidText "InvalidText.__init__" "value" "ValueError" "ValueError.__new__" "ValueError.__init__")
    (m_InvalidChain : mg "InvalidChain" = some (.ref C_InvalidChain))
    (zn_InvalidChain : EvN K C_InvalidChain fI_InvalidChain "InvalidChain.__init__" "value" "ValueError" "ValueError.__new__" "ValueError.__init__")
    (m_InvalidSteps : mg "InvalidSteps" = some (.ref C_InvalidSteps))
    (zn_InvalidSteps : EvN K C_InvalidSteps fI_InvalidSteps "InvalidSteps.__init__" "index" "ValueError" "ValueError.__new__" "ValueError.__init__")
    (m_InvalidStep : mg "InvalidStep" = some (.ref C_InvalidStep))
    (zn_InvalidStep : EvN K C_InvalidStep fI_InvalidStep "InvalidStep.__init__" "value" "ValueError" "ValueError.__new__" "ValueError.__init__")
    (m_InvalidTimes : mg "InvalidTimes" = some (.ref C_InvalidTimes))
    (zn_InvalidTimes : EvN K C_InvalidTimes fI_InvalidTimes "InvalidTimes.__init__" "value" "ValueError" "ValueError.__new__" "ValueError.__init__")
    (m_InvalidKeep : mg "InvalidKeep" = some (.ref C_InvalidKeep))
    (zn_InvalidKeep : EvN K C_InvalidKeep fI_InvalidKeep "InvalidKeep.__init__" "value" "ValueError" "ValueError.__new__" "ValueError.__init__")
    (m_InvalidBox : mg "InvalidBox" = some (.ref C_InvalidBox))
    (zn_InvalidBox : EvN K C_InvalidBox fI_InvalidBox "InvalidBox.__init__" "value" "ValueError" "ValueError.__new__" "ValueError.__init__")
    (m_InvalidSize : mg "InvalidSize" = some (.ref C_InvalidSize))
    (zn_InvalidSize : EvN K C_InvalidSize fI_InvalidSize "InvalidSize.__init__" "value" "ValueError" "ValueError.__new__" "ValueError.__init__")
    (m_InvalidFraction : mg "InvalidFraction" = some (.ref C_InvalidFraction))
    (zn_InvalidFraction : EvN K C_InvalidFraction fI_InvalidFraction "InvalidFraction.__init__" "value" "ValueError" "ValueError.__new__" "ValueError.__init__")
    : FnT P w K mg base 1 f fd ["_law_odd"] (sp_l_errs [C_InvalidFraction, C_InvalidSize, C_InvalidBox, C_InvalidKeep, C_InvalidTimes, C_InvalidStep, C_InvalidSteps, C_InvalidChain, C_InvalidText, C_InvalidKind, C_InvalidRecords, C_InvalidName, C_InvalidDeeds, C_InvalidLine, C_NoStep, C_UnknownName, C_NameTaken, C_NothingToUndo, C_TooManySteps, C_TooManyDeeds, C_PictureError, C_FindError, C_LimitError]) := by
  refine okT F sc_l_by_position (by intro ts S R RE h; unfold sp_l_errs at h; split at h <;> first | rfl | exact h.elim) (fun cdv A out s H E hg hr => (bs_cons (ss_set (i := 1) sc_l_by_position.nd rfl (by first | exact Or.inl rfl | exact Or.inr rfl) (et_lst (at_cons (et_excN zn_InvalidFraction m_InvalidFraction hr (at_cons (et_var (pv 0)) at_nil) (by rfl)) (at_cons (et_excN zn_InvalidSize m_InvalidSize hr (at_cons (et_var (pv 0)) at_nil) (by rfl)) (at_cons (et_excN zn_InvalidBox m_InvalidBox hr (at_cons (et_var (pv 0)) at_nil) (by rfl)) (at_cons (et_excN zn_InvalidKeep m_InvalidKeep hr (at_cons (et_var (pv 0)) at_nil) (by rfl)) (at_cons (et_excN zn_InvalidTimes m_InvalidTimes hr (at_cons (et_var (pv 0)) at_nil) (by rfl)) at_nil)))))))
    (bs_cons (ss_set (i := 1) sc_l_by_position.nd rfl (by first | exact Or.inl rfl | exact Or.inr rfl) (et_op op_addG cv_add (et_var (pv 1)) (et_lst (at_cons (et_excN zn_InvalidStep m_InvalidStep hr (at_cons (et_var (pv 0)) at_nil) (by rfl)) (at_cons (et_excN zn_InvalidSteps m_InvalidSteps hr (at_cons (et_var (pv 0)) at_nil) (by rfl)) (at_cons (et_excN zn_InvalidChain m_InvalidChain hr (at_cons (et_var (pv 0)) at_nil) (by rfl)) (at_cons (et_excN zn_InvalidText m_InvalidText hr (at_cons (et_var (pv 0)) at_nil) (by rfl)) (at_cons (et_excN zn_InvalidKind m_InvalidKind hr (at_cons (et_var (pv 0)) at_nil) (by rfl)) at_nil))))))))
    (bs_cons (ss_set (i := 1) sc_l_by_position.nd rfl (by first | exact Or.inl rfl | exact Or.inr rfl) (et_op op_addG cv_add (et_var (pv 1)) (et_lst (at_cons (et_excN zn_InvalidRecords m_InvalidRecords hr (at_cons (et_var (pv 0)) at_nil) (by rfl)) (at_cons (et_excN zn_InvalidName m_InvalidName hr (at_cons (et_var (pv 0)) at_nil) (by rfl)) (at_cons (et_excN zn_InvalidDeeds m_InvalidDeeds hr (at_cons (et_var (pv 0)) at_nil) (by rfl)) (at_cons (et_excN zn_InvalidLine m_InvalidLine hr (at_cons (et_var (pv 0)) at_nil) (by rfl)) (at_cons (et_excN zn_NoStep m_NoStep hr (at_cons (et_var (pv 0)) at_nil) (by rfl)) at_nil))))))))
    (bs_one (ss_ret (et_op op_addG cv_add (et_var (pv 1)) (et_lst (at_cons (et_excN zn_UnknownName m_UnknownName hr (at_cons (et_var (pv 0)) at_nil) (by rfl)) (at_cons (et_excN zn_NameTaken m_NameTaken hr (at_cons (et_var (pv 0)) at_nil) (by rfl)) (at_cons (et_exc0 base_LE.F xi_NothingToUndo m_NothingToUndo xk_NothingToUndo (by rfl)) (at_cons (et_excN zn_TooManySteps m_TooManySteps hr (at_cons (et_var (pv 0)) at_nil) (by rfl)) (at_cons (et_excN zn_TooManyDeeds m_TooManyDeeds hr (at_cons (et_var (pv 0)) at_nil) (by rfl)) at_nil))))))))))))) ?_
  intro ts S R RE h
  unfold sp_l_errs at h
  split at h
  · rename_i x
    refine sSeq_i fun N hN => ?_
    simp only [rExcN, sAsg, rVar, aNil, aCons, rLst, gNameT, startT, List.cons.injEq, Option.some.injEq, List.map_cons, List.map_nil, List.length_cons, List.length_nil, List.cons_append, List.nil_append, List.getElem?_cons_zero, List.set_cons_zero, List.set_cons_succ, List.replicate_succ, List.replicate_zero, exists_eq_left', and_true, Nat.reduceAdd, Nat.reduceSub, Nat.zero_add]
    refine ⟨by decide, hN _ _ ?_⟩
    clear hN
    refine sSeq_i fun N hN => ?_
    simp only [rExcN, sAsg, rVar, rBin, aNil, aCons, rLst, gNameT, kAdd, List.cons.injEq, Option.some.injEq, List.length_cons, List.length_nil, List.cons_append, List.nil_append, List.getElem?_cons_zero, List.getElem?_cons_succ, List.set_cons_zero, List.set_cons_succ, exists_eq_left', and_true, Nat.reduceAdd, Nat.zero_add]
    repeat refine ⟨by decide, ?_⟩
    refine hN _ _ ?_
    clear hN
    refine sSeq_i fun N hN => ?_
    simp only [rExcN, sAsg, rVar, rBin, aNil, aCons, rLst, gNameT, kAdd, List.cons.injEq, Option.some.injEq, List.length_cons, List.length_nil, List.cons_append, List.nil_append, List.getElem?_cons_zero, List.getElem?_cons_succ, List.set_cons_zero, List.set_cons_succ, exists_eq_left', and_true, Nat.reduceAdd, Nat.zero_add]
    repeat refine ⟨by decide, ?_⟩
    refine hN _ _ ?_
    clear hN
    simp only [rExcN, rExc0, sRet, rVar, rBin, aNil, aCons, rLst, kAdd, List.cons.injEq, Option.some.injEq, List.length_cons, List.length_nil, List.cons_append, List.nil_append, List.getElem?_cons_zero, List.getElem?_cons_succ, exists_eq_left', and_true, Nat.reduceAdd, Nat.zero_add]
    repeat refine ⟨by decide, ?_⟩
    exact h
  · exact h.elim
theorem sc_l_by_name : FnScope ["_law_odd", "_law_found"] ["_law_odd"] (defScope s_l_by_name) := ⟨rfl, rfl, rfl, by decide +kernel, rfl, by decide +kernel, by decide +kernel⟩

set_option maxHeartbeats 6400000 in
theorem ok_l_by_name {P : Program} {w : World} {K : PySem.W.Frag} {mg : Str → Option Value} {base : Heap} {f : Addr} {fd : FuncData} {C_TooManyDeeds fI_TooManyDeeds C_TooManySteps fI_TooManySteps C_NothingToUndo C_NameTaken fI_NameTaken C_UnknownName fI_UnknownName C_NoStep fI_NoStep C_InvalidLine fI_InvalidLine C_InvalidDeeds fI_InvalidDeeds C_InvalidName fI_InvalidName C_InvalidRecords fI_InvalidRecords C_InvalidKind fI_InvalidKind C_InvalidText fI_InvalidText C_InvalidChain fI_InvalidChain C_InvalidSteps fI_InvalidSteps C_InvalidStep fI_InvalidStep C_InvalidTimes fI_InvalidTimes C_InvalidKeep fI_InvalidKeep C_InvalidBox fI_InvalidBox C_InvalidSize fI_InvalidSize C_InvalidFraction fI_InvalidFraction C_PictureError C_FindError C_LimitError : Addr}  (F : Fun K "_law_by_name" "_law_by_name" s_l_by_name f fd)
    (m_TooManyDeeds : mg "TooManyDeeds" = some (.ref C_TooManyDeeds))
    (zn_TooManyDeeds : EvN K C_TooManyDeeds fI_TooManyDeeds "TooManyDeeds.__init__" "count" "ArithmeticError" "ArithmeticError.__new__" "ArithmeticError.__init__")
    (m_TooManySteps : mg "TooManySteps" = some (.ref C_TooManySteps))
    (zn_TooManySteps : EvN K C_TooManySteps fI_TooManySteps "TooManySteps.__init__" "count" "ArithmeticError" "ArithmeticError.__new__" "ArithmeticError.__init__")
    (m_NothingToUndo : mg "NothingToUndo" = some (.ref C_NothingToUndo))
    (xi_NothingToUndo : PySem.W.excIn K C_NothingToUndo (tailB "LookupError") "LookupError.__new__" = true)
    (xk_NothingToUndo : PySem.W.keepIn K (.ref C_NothingToUndo) = true)
    (m_NameTaken : mg "NameTaken" = some (.ref C_NameTaken))
    (zn_NameTaken : EvN K C_NameTaken fI_NameTaken "NameTaken.__init__" "value" "LookupError" "LookupError.__new__" "LookupError.__init__")
    (m_UnknownName : mg "UnknownName" = some (.ref C_UnknownName))
    (zn_UnknownName : EvN K C_UnknownName fI_UnknownName "UnknownName.__init__" "value" "LookupError" "LookupError.__new__" "LookupError.__init__")
    (m_NoStep : mg "NoStep" = some (.ref C_NoStep))
    (zn_NoStep : EvN K C_NoStep fI_NoStep "NoStep.__init__" "value" "LookupError" "LookupError.__new__" "LookupError.__init__")
    (m_InvalidLine : mg "InvalidLine" = some (.ref C_InvalidLine))
    (zn_InvalidLine : EvN K C_InvalidLine fI_InvalidLine "InvalidLine.__init__" "value" "ValueError" "ValueError.__new__" "ValueError.__init__")
    (m_InvalidDeeds : mg "InvalidDeeds" = some (.ref C_InvalidDeeds))
    (zn_InvalidDeeds : EvN K C_InvalidDeeds fI_InvalidDeeds "InvalidDeeds.__init__" "index" "ValueError" "ValueError.__new__" "ValueError.__init__")
    (m_InvalidName : mg "InvalidName" = some (.ref C_InvalidName))
    (zn_InvalidName : EvN K C_InvalidName fI_InvalidName "InvalidName.__init__" "value" "ValueError" "ValueError.__new__" "ValueError.__init__")
    (m_InvalidRecords : mg "InvalidRecords" = some (.ref C_InvalidRecords))
    (zn_InvalidRecords : EvN K C_InvalidRecords fI_InvalidRecords "InvalidRecords.__init__" "index" "ValueError" "ValueError.__new__" "ValueError.__init__")
    (m_InvalidKind : mg "InvalidKind" = some (.ref C_InvalidKind))
    (zn_InvalidKind : EvN K C_InvalidKind fI_InvalidKind "InvalidKind.__init__" "value" "ValueError" "ValueError.__new__" "ValueError.__init__")
    (m_InvalidText : mg "InvalidText" = some (.ref C_InvalidText))
    (zn_InvalidText : EvN K C_InvalidText fI_InvalidText "InvalidText.__init__" "value" "ValueError" "ValueError.__new__" "ValueError.__init__")
    (m_InvalidChain : mg "InvalidChain" = some (.ref C_InvalidChain))
    (zn_InvalidChain : EvN K C_InvalidChain fI_InvalidChain "InvalidChain.__init__" "value" "ValueError" "ValueError.__new__" "ValueError.__init__")
    (m_InvalidSteps : mg "InvalidSteps" = some (.ref C_InvalidSteps))
    (zn_InvalidSteps : EvN K C_InvalidSteps fI_InvalidSteps "InvalidSteps.__init__" "index" "ValueError" "ValueError.__new__" "ValueError.__init__")
    (m_InvalidStep : mg "InvalidStep" = some (.ref C_InvalidStep))
    (zn_InvalidStep : EvN K C_InvalidStep fI_InvalidStep "InvalidStep.__init__" "value" "ValueError" "ValueError.__new__" "ValueError.__init__")
    (m_InvalidTimes : mg "InvalidTimes" = some (.ref C_InvalidTimes))
    (zn_InvalidTimes : EvN K C_InvalidTimes fI_InvalidTimes "InvalidTimes.__init__" "value" "ValueError" "ValueError.__new__" "ValueError.__init__")
    (m_InvalidKeep : mg "InvalidKeep" = some (.ref C_InvalidKeep))
    (zn_InvalidKeep : EvN K C_InvalidKeep fI_InvalidKeep "InvalidKeep.__init__" "value" "ValueError" "ValueError.__new__" "ValueError.__init__")
    (m_InvalidBox : mg "InvalidBox" = some (.ref C_InvalidBox))
    (zn_InvalidBox : EvN K C_InvalidBox fI_InvalidBox "InvalidBox.__init__" "value" "ValueError" "ValueError.__new__" "ValueError.__init__")
    (m_InvalidSize : mg "InvalidSize" = some (.ref C_InvalidSize))
    (zn_InvalidSize : EvN K C_InvalidSize fI_InvalidSize "InvalidSize.__init__" "value" "ValueError" "ValueError.__new__" "ValueError.__init__")
    (m_InvalidFraction : mg "InvalidFraction" = some (.ref C_InvalidFraction))
    (zn_InvalidFraction : EvN K C_InvalidFraction fI_InvalidFraction "InvalidFraction.__init__" "value" "ValueError" "ValueError.__new__" "ValueError.__init__")
    : FnT P w K mg base 1 f fd ["_law_odd"] (sp_l_errs [C_InvalidFraction, C_InvalidSize, C_InvalidBox, C_InvalidKeep, C_InvalidTimes, C_InvalidStep, C_InvalidSteps, C_InvalidChain, C_InvalidText, C_InvalidKind, C_InvalidRecords, C_InvalidName, C_InvalidDeeds, C_InvalidLine, C_NoStep, C_UnknownName, C_NameTaken, C_NothingToUndo, C_TooManySteps, C_TooManyDeeds, C_PictureError, C_FindError, C_LimitError]) := by
  refine okT F sc_l_by_name (by intro ts S R RE h; unfold sp_l_errs at h; split at h <;> first | rfl | exact h.elim) (fun cdv A out s H E hg hr => (bs_cons (ss_set (i := 1) sc_l_by_name.nd rfl (by first | exact Or.inl rfl | exact Or.inr rfl) (et_lst (at_cons (et_excK zn_InvalidFraction m_InvalidFraction hr (by rfl) (kt_cons (et_var (pv 0)) kt_nil)) (at_cons (et_excK zn_InvalidSize m_InvalidSize hr (by rfl) (kt_cons (et_var (pv 0)) kt_nil)) (at_cons (et_excK zn_InvalidBox m_InvalidBox hr (by rfl) (kt_cons (et_var (pv 0)) kt_nil)) (at_cons (et_excK zn_InvalidKeep m_InvalidKeep hr (by rfl) (kt_cons (et_var (pv 0)) kt_nil)) at_nil))))))
    (bs_cons (ss_set (i := 1) sc_l_by_name.nd rfl (by first | exact Or.inl rfl | exact Or.inr rfl) (et_op op_addG cv_add (et_var (pv 1)) (et_lst (at_cons (et_excK zn_InvalidTimes m_InvalidTimes hr (by rfl) (kt_cons (et_var (pv 0)) kt_nil)) (at_cons (et_excK zn_InvalidStep m_InvalidStep hr (by rfl) (kt_cons (et_var (pv 0)) kt_nil)) (at_cons (et_excK zn_InvalidSteps m_InvalidSteps hr (by rfl) (kt_cons (et_var (pv 0)) kt_nil)) (at_cons (et_excK zn_InvalidChain m_InvalidChain hr (by rfl) (kt_cons (et_var (pv 0)) kt_nil)) at_nil)))))))
    (bs_cons (ss_set (i := 1) sc_l_by_name.nd rfl (by first | exact Or.inl rfl | exact Or.inr rfl) (et_op op_addG cv_add (et_var (pv 1)) (et_lst (at_cons (et_excK zn_InvalidText m_InvalidText hr (by rfl) (kt_cons (et_var (pv 0)) kt_nil)) (at_cons (et_excK zn_InvalidKind m_InvalidKind hr (by rfl) (kt_cons (et_var (pv 0)) kt_nil)) (at_cons (et_excK zn_InvalidRecords m_InvalidRecords hr (by rfl) (kt_cons (et_var (pv 0)) kt_nil)) (at_cons (et_excK zn_InvalidName m_InvalidName hr (by rfl) (kt_cons (et_var (pv 0)) kt_nil)) at_nil)))))))
    (bs_cons (ss_set (i := 1) sc_l_by_name.nd rfl (by first | exact Or.inl rfl | exact Or.inr rfl) (et_op op_addG cv_add (et_var (pv 1)) (et_lst (at_cons (et_excK zn_InvalidDeeds m_InvalidDeeds hr (by rfl) (kt_cons (et_var (pv 0)) kt_nil)) (at_cons (et_excK zn_InvalidLine m_InvalidLine hr (by rfl) (kt_cons (et_var (pv 0)) kt_nil)) (at_cons (et_excK zn_NoStep m_NoStep hr (by rfl) (kt_cons (et_var (pv 0)) kt_nil)) (at_cons (et_excK zn_UnknownName m_UnknownName hr (by rfl) (kt_cons (et_var (pv 0)) kt_nil)) at_nil)))))))
    (bs_one (ss_ret (et_op op_addG cv_add (et_var (pv 1)) (et_lst (at_cons (et_excK zn_NameTaken m_NameTaken hr (by rfl) (kt_cons (et_var (pv 0)) kt_nil)) (at_cons (et_exc0 base_LE.F xi_NothingToUndo m_NothingToUndo xk_NothingToUndo (by rfl)) (at_cons (et_excK zn_TooManySteps m_TooManySteps hr (by rfl) (kt_cons (et_var (pv 0)) kt_nil)) (at_cons (et_excK zn_TooManyDeeds m_TooManyDeeds hr (by rfl) (kt_cons (et_var (pv 0)) kt_nil)) at_nil))))))))))))) ?_
  intro ts S R RE h
  unfold sp_l_errs at h
  split at h
  · rename_i x
    refine sSeq_i fun N hN => ?_
    simp only [rExcN, sAsg, rVar, aNil, aCons, rLst, gNameT, startT, List.cons.injEq, Option.some.injEq, List.map_cons, List.map_nil, List.length_cons, List.length_nil, List.cons_append, List.nil_append, List.getElem?_cons_zero, List.set_cons_zero, List.set_cons_succ, List.replicate_succ, List.replicate_zero, exists_eq_left', and_true, Nat.reduceAdd, Nat.reduceSub, Nat.zero_add]
    refine ⟨by decide, hN _ _ ?_⟩
    clear hN
    refine sSeq_i fun N hN => ?_
    simp only [rExcN, sAsg, rVar, rBin, aNil, aCons, rLst, gNameT, kAdd, List.cons.injEq, Option.some.injEq, List.length_cons, List.length_nil, List.cons_append, List.nil_append, List.getElem?_cons_zero, List.getElem?_cons_succ, List.set_cons_zero, List.set_cons_succ, exists_eq_left', and_true, Nat.reduceAdd, Nat.zero_add]
    repeat refine ⟨by decide, ?_⟩
    refine hN _ _ ?_
    clear hN
    refine sSeq_i fun N hN => ?_
    simp only [rExcN, sAsg, rVar, rBin, aNil, aCons, rLst, gNameT, kAdd, List.cons.injEq, Option.some.injEq, List.length_cons, List.length_nil, List.cons_append, List.nil_append, List.getElem?_cons_zero, List.getElem?_cons_succ, List.set_cons_zero, List.set_cons_succ, exists_eq_left', and_true, Nat.reduceAdd, Nat.zero_add]
    repeat refine ⟨by decide, ?_⟩
    refine hN _ _ ?_
    clear hN
    simp only [rExcN, rExc0, sSeq, sAsg, sRet, rVar, rBin, aNil, aCons, rLst, gNameT, kAdd, List.cons.injEq, Option.some.injEq, List.length_cons, List.length_nil, List.cons_append, List.nil_append, List.getElem?_cons_zero, List.getElem?_cons_succ, List.set_cons_zero, List.set_cons_succ, exists_eq_left', and_true, Nat.reduceAdd, Nat.zero_add]
    repeat refine ⟨by decide, ?_⟩
    exact h
  · exact h.elim
theorem ix_v : ∀ t ∈ [T.int 0, T.int 1, T.int 2, T.int 3, T.int 4, T.int 5, T.int 7, T.int 8, T.int 9, T.int 11, T.int 13, T.int 14, T.int 15, T.int 16], ∃ k : Nat, t = T.int (k : Nat) ∧ k < 20 ∧ k ≠ 17 ∧ fldX k = Str.ofString "value" := by
  refine List.forall_mem_cons.mpr ⟨⟨0, rfl, by decide, by decide, by decide +kernel⟩, ?_⟩
  refine List.forall_mem_cons.mpr ⟨⟨1, rfl, by decide, by decide, by decide +kernel⟩, ?_⟩
  refine List.forall_mem_cons.mpr ⟨⟨2, rfl, by decide, by decide, by decide +kernel⟩, ?_⟩
  refine List.forall_mem_cons.mpr ⟨⟨3, rfl, by decide, by decide, by decide +kernel⟩, ?_⟩
  refine List.forall_mem_cons.mpr ⟨⟨4, rfl, by decide, by decide, by decide +kernel⟩, ?_⟩
  refine List.forall_mem_cons.mpr ⟨⟨5, rfl, by decide, by decide, by decide +kernel⟩, ?_⟩
  refine List.forall_mem_cons.mpr ⟨⟨7, rfl, by decide, by decide, by decide +kernel⟩, ?_⟩
  refine List.forall_mem_cons.mpr ⟨⟨8, rfl, by decide, by decide, by decide +kernel⟩, ?_⟩
  refine List.forall_mem_cons.mpr ⟨⟨9, rfl, by decide, by decide, by decide +kernel⟩, ?_⟩
  refine List.forall_mem_cons.mpr ⟨⟨11, rfl, by decide, by decide, by decide +kernel⟩, ?_⟩
  refine List.forall_mem_cons.mpr ⟨⟨13, rfl, by decide, by decide, by decide +kernel⟩, ?_⟩
  refine List.forall_mem_cons.mpr ⟨⟨14, rfl, by decide, by decide, by decide +kernel⟩, ?_⟩
  refine List.forall_mem_cons.mpr ⟨⟨15, rfl, by decide, by decide, by decide +kernel⟩, ?_⟩
  exact List.forall_mem_cons.mpr ⟨⟨16, rfl, by decide, by decide, by decide +kernel⟩, fun _ m => nomatch m⟩
theorem ix_i : ∀ t ∈ [T.int 6, T.int 10, T.int 12], ∃ k : Nat, t = T.int (k : Nat) ∧ k < 20 ∧ k ≠ 17 ∧ fldX k = Str.ofString "index" := by
  refine List.forall_mem_cons.mpr ⟨⟨6, rfl, by decide, by decide, by decide +kernel⟩, ?_⟩
  refine List.forall_mem_cons.mpr ⟨⟨10, rfl, by decide, by decide, by decide +kernel⟩, ?_⟩
  exact List.forall_mem_cons.mpr ⟨⟨12, rfl, by decide, by decide, by decide +kernel⟩, fun _ m => nomatch m⟩
theorem ix_c : ∀ t ∈ [T.int 18, T.int 19], ∃ k : Nat, t = T.int (k : Nat) ∧ k < 20 ∧ k ≠ 17 ∧ fldX k = Str.ofString "count" := by
  refine List.forall_mem_cons.mpr ⟨⟨18, rfl, by decide, by decide, by decide +kernel⟩, ?_⟩
  exact List.forall_mem_cons.mpr ⟨⟨19, rfl, by decide, by decide, by decide +kernel⟩, fun _ m => nomatch m⟩
theorem errs_at {l : List Addr} {x : T} {k : Nat} (hk : k < 20) (n : k ≠ 17) : atI (errsT l x) ((k : Nat) : Int) = some (.exc (l.getD k 0) [(fldX k, x)]) := by
  refine atI_nat ?_
  unfold errsT
  rw [List.getElem?_map, List.getElem?_range hk]
  simp [n]
theorem get_of {l : List Addr} {k n : Nat} (ll : l.length = n) (hk : k < n) : l[k]? = some (l.getD k 0) := by
  rw [List.getD_eq_getElem?_getD, List.getElem?_eq_getElem (by omega)]
  rfl
theorem all_rep {ts ys : List T} {x : T} (hl : ys.length = ts.length) (hF : ∀ (i : Nat) (t y : T), ts[i]? = some t → ys[i]? = some y → y = x) : ys = List.replicate ts.length x := by
  refine List.ext_getElem? fun k => ?_
  rw [List.getElem?_replicate]
  by_cases hk : k < ts.length
  · have := hF k (ts[k]'hk) (ys[k]'(by omega)) (List.getElem?_eq_getElem hk) (List.getElem?_eq_getElem (by omega))
    rw [List.getElem?_eq_getElem (by omega), this, if_pos hk]
  · rw [List.getElem?_eq_none (by omega), if_neg hk]
theorem rd_fld {K : PySem.W.Frag} {l : List Addr} {x : T} (kd : Kinds K l) (ll : l.length = 23) {k : Nat} (hk : k < 20) (n : k ≠ 17) {f : Str} (e : fldX k = f) {S : Store} {R : T → Store → Prop} (q : R x S) :
    ∃ C gs, T.exc (l.getD k 0) [(fldX k, x)] = .exc C gs ∧ XfC K C ∧ PySem.W.findIn K (.ref C) f = some none ∧ ∃ t, gs.lookup f = some t ∧ R t S := by
  subst e
  have g := get_of (k := k) ll (by omega)
  exact ⟨_, _, rfl, kd.x k _ hk g, kd.f k _ hk n g, x, by simp [List.lookup], q⟩
theorem sc_l_fields : FnScope ["_law_found", "_law_told", "_law_at"] ["_law_found"] (defScope s_l_fields) := ⟨rfl, rfl, rfl, by decide +kernel, rfl, by decide +kernel, by decide +kernel⟩
def sp_l_flds (K : PySem.W.Frag) : SpT := fun ts S R _ => match ts with
  | [y] => ∃ l x, y = .lst (errsT l x) ∧ Kinds K l ∧ l.length = 23 ∧ R (.lst (List.replicate 19 x)) S
  | _ => False
set_option maxHeartbeats 6400000 in
theorem ok_l_fields {P : Program} {w : World} {K : PySem.W.Frag} {mg : Str → Option Value} {base : Heap} {f : Addr} {fd : FuncData}   (F : Fun K "_law_fields" "_law_fields" s_l_fields f fd)
    : FnT P w K mg base 1 f fd ["_law_found"] (sp_l_flds K) := by
  refine okT F sc_l_fields (by intro ts S R RE h; unfold sp_l_flds at h; split at h <;> first | rfl | exact h.elim) (fun cdv A out s H E hg hr => (bs_cons (ss_setLc (i := 1) (x := "_law_at") (j := 2) (by rfl) sc_l_fields.nd rfl rfl (sw_true rfl rfl rfl (by decide +kernel)) (it_seq (et_lst (at_cons et_int (at_cons et_int (at_cons et_int (at_cons et_int (at_cons et_int (at_cons et_int (at_cons et_int (at_cons et_int (at_cons et_int (at_cons et_int (at_cons et_int (at_cons et_int (at_cons et_int (at_cons et_int at_nil)))))))))))))))) (blkOk_by (own := [("_law_at", 2)]) (N := ["_law_found", "_law_told", "_law_at"]) (sc := defScope s_l_fields) (by decide +kernel)) (fun _ _ _ _ _ => pg_name (i := 2) sc_l_fields.nd rfl (by first | exact Or.inl rfl | exact Or.inr rfl)) (fun _ _ _ _ _ => tts_nil) (fun _ _ _ _ _ => (et_xfld K rfl (et_ix ix_seq cv_ix (et_var (pv 0)) (et_var (pv 2)) (fun _ _ => rfl)))))
    (bs_one (ss_ret (et_op op_addG cv_add (et_op op_addG cv_add (et_var (pv 1)) (et_lc (x := "_law_at") (j := 2) (by rfl) sc_l_fields.nd (it_seq (et_lst (at_cons et_int (at_cons et_int (at_cons et_int at_nil))))) (blkOk_by (own := [("_law_at", 2)]) (N := ["_law_found", "_law_told", "_law_at"]) (sc := defScope s_l_fields) (by decide +kernel)) (fun _ _ _ _ _ => pg_name (i := 2) sc_l_fields.nd rfl (by first | exact Or.inl rfl | exact Or.inr rfl)) (fun _ _ _ _ _ => tts_nil) (fun _ _ _ _ _ => (et_xfld K rfl (et_ix ix_seq cv_ix (et_var (pv 0)) (et_var (pv 2)) (fun _ _ => rfl)))))) (et_lc (x := "_law_at") (j := 2) (by rfl) sc_l_fields.nd (it_seq (et_lst (at_cons et_int (at_cons et_int at_nil)))) (blkOk_by (own := [("_law_at", 2)]) (N := ["_law_found", "_law_told", "_law_at"]) (sc := defScope s_l_fields) (by decide +kernel)) (fun _ _ _ _ _ => pg_name (i := 2) sc_l_fields.nd rfl (by first | exact Or.inl rfl | exact Or.inr rfl)) (fun _ _ _ _ _ => tts_nil) (fun _ _ _ _ _ => (et_xfld K rfl (et_ix ix_seq cv_ix (et_var (pv 0)) (et_var (pv 2)) (fun _ _ => rfl)))))))))) ?_
  intro ts S R RE h
  unfold sp_l_flds at h
  split at h
  · rename_i y
    obtain ⟨l, x, rfl, kd, ll, q⟩ := h
    refine sSeq_i fun N hN => ?_
    simp only [sAsg, rC, aNil, aCons, rLst, gNameT, iSeq, rLc, seqOf, startT, Option.some.injEq, List.map_cons, List.map_nil, List.length_cons, List.length_nil, List.cons_append, List.nil_append, List.set_cons_zero, List.set_cons_succ, List.replicate_succ, List.replicate_zero, exists_eq_left', Nat.reduceAdd, Nat.reduceSub, Nat.zero_add]
    refine ⟨by decide, rComp_all (fun _ S2 => S2 = S) (fun _ _ y => y = x) rfl (by rw [sizeLine_eq]; simp) ?_ ?_⟩
    · skip
      rintro i t' S7 hi rfl N3 hN3
      obtain ⟨k, rfl, hk, n, e⟩ := ix_v t' (List.mem_of_getElem? hi)
      simp only [rXfld, rVar, rBin, kIx, Option.some.injEq, List.getElem?_cons_zero, List.getElem?_cons_succ, exists_eq_left', exists_and_left]
      refine ⟨_, errs_at hk n, ?_⟩
      exact rd_fld kd ll hk n e (hN3 _ _ rfl rfl)
    rintro ys S2 hl hF rfl
    have e := all_rep hl hF
    subst e
    clear hl hF
    refine hN _ _ ?_
    clear hN
    simp only [sRet, rVar, rC, rBin, aNil, aCons, rLst, iSeq, rLc, kAdd, seqOf, Option.some.injEq, List.length_cons, List.length_nil, List.cons_append, List.nil_append, List.getElem?_cons_zero, List.getElem?_cons_succ, List.set_cons_zero, List.set_cons_succ, List.replicate_succ, List.replicate_zero, exists_eq_left', Nat.reduceAdd, Nat.zero_add]
    refine ⟨by decide, rComp_all (fun _ S3 => S3 = S2) (fun _ _ y => y = x) rfl (by rw [sizeLine_eq]; simp) ?_ ?_⟩
    · skip
      rintro i t' S7 hi rfl N3 hN3
      obtain ⟨k, rfl, hk, n, e⟩ := ix_i t' (List.mem_of_getElem? hi)
      simp only [rXfld, rVar, rBin, kIx, Option.some.injEq, List.getElem?_cons_zero, List.getElem?_cons_succ, exists_eq_left', exists_and_left]
      refine ⟨_, errs_at hk n, ?_⟩
      exact rd_fld kd ll hk n e (hN3 _ _ rfl rfl)
    rintro ys S3 hl hF rfl
    have e := all_rep hl hF
    subst e
    clear hl hF
    refine ⟨by rw [sizeLine_eq]; simp, by decide, rComp_all (fun _ S2 => S2 = S3) (fun _ _ y => y = x) rfl (by rw [sizeLine_eq]; simp) ?_ ?_⟩
    · skip
      rintro i t' S7 hi rfl N3 hN3
      obtain ⟨k, rfl, hk, n, e⟩ := ix_c t' (List.mem_of_getElem? hi)
      simp only [rXfld, rVar, rBin, kIx, Option.some.injEq, List.getElem?_cons_zero, List.getElem?_cons_succ, exists_eq_left', exists_and_left]
      refine ⟨_, errs_at hk n, ?_⟩
      exact rd_fld kd ll hk n e (hN3 _ _ rfl rfl)
    rintro ys S4 hl hF rfl
    have e := all_rep hl hF
    subst e
    clear hl hF
    exact ⟨by rw [sizeLine_eq]; simp, q⟩
  · exact h.elim
theorem sFor_i {ri : TRI} {g : TRG} {rb : TRS} {D : EnT} {σ : Fm} {S : Store} (h : ∀ B : List T → Store → Prop, (∀ ts S1, rLoop g rb D ts σ S1 → B ts S1) → ri σ S B D.ex) : sFor ri g rb D σ S := h _ fun _ _ x => x
theorem sqA_rep {k m : Nat} {d : PyData} (h : Sq k m d) : ∀ n, SqA k (n * (m + 2)) (List.replicate n d)
  | 0 => by simpa using SqA.nil
  | n + 1 => by
    have := SqA.cons h (sqA_rep h n)
    have e : m + n * (m + 2) + 2 = (n + 1) * (m + 2) := by rw [Nat.succ_mul]; omega
    rw [e] at this
    exact this
theorem datDL_rep {x : T} {d : PyData} (h : x.datD = some d) : ∀ n, T.datDL (List.replicate n x) = some (List.replicate n d)
  | 0 => by rw [List.replicate_zero, T.datDL]; rfl
  | n + 1 => by rw [List.replicate_succ, T.datDL, h, datDL_rep h n]; rfl
theorem errs_len {l : List Addr} {x : T} : (errsT l x).length = 20 := by simp [errsT]
theorem errs_get {l : List Addr} {x t : T} {j : Nat} (h : (errsT l x)[j]? = some t) : j < 20 ∧ t = .exc (l.getD j 0) (if j = 17 then [] else [(fldX j, x)]) := by
  unfold errsT at h
  rw [List.getElem?_map] at h
  obtain ⟨z, hz, rfl⟩ := Option.map_eq_some_iff.mp h
  obtain ⟨lz, ez⟩ := List.getElem?_eq_some_iff.mp hz
  rw [List.getElem_range] at ez
  rw [List.length_range] at lz
  subst ez
  exact ⟨lz, rfl⟩
theorem all_ix {ts ys : List T} (hl : ys.length = ts.length) (hF : ∀ (i : Nat) (t y : T), ts[i]? = some t → ys[i]? = some y → y = .int ((i : Nat) : Int)) : ys = (List.range ts.length).map fun i => T.int ((i : Nat) : Int) := by
  refine List.ext_getElem? fun k => ?_
  rw [List.getElem?_map]
  by_cases hk : k < ts.length
  · have := hF k (ts[k]'hk) (ys[k]'(by omega)) (List.getElem?_eq_getElem hk) (List.getElem?_eq_getElem (by omega))
    rw [List.getElem?_eq_getElem (by omega), this, List.getElem?_range hk]
    rfl
  · rw [List.getElem?_eq_none (by omega), List.getElem?_eq_none (by rw [List.length_range]; omega)]
    rfl
theorem datL_ix : ∀ l : List Nat, T.datL (l.map fun i => T.int ((i : Nat) : Int)) = some (l.map fun i => PyData.int ((i : Nat) : Int))
  | [] => by rw [List.map_nil, T.datL]; rfl
  | i :: l => by rw [List.map_cons, T.datL, T.dat, datL_ix l]; rfl
theorem dat_ix (l : List Nat) : (T.lst (l.map fun i => T.int ((i : Nat) : Int))).dat = some (.list (l.map fun i => PyData.int ((i : Nat) : Int))) := by rw [T.dat, datL_ix]; rfl
theorem depA_ix : ∀ l : List Nat, PyData.depthAll (l.map fun i => PyData.int ((i : Nat) : Int)) ≤ 1
  | [] => by simp [PyData.depthAll]
  | i :: l => by
    have := depA_ix l
    simp only [List.map_cons, PyData.depthAll, PyData.depth]
    omega
theorem dep_ix (l : List Nat) : (PyData.list (l.map fun i => PyData.int ((i : Nat) : Int))).depth ≤ 64 := by
  have := depA_ix l
  simp only [PyData.depth]
  omega
theorem sc_l_right : FnScope ["_law_pool_here", "_law_odd", "_law_found", "_law_e"] ["_law_pool_here"] (defScope s_l_right) := ⟨rfl, rfl, rfl, by decide +kernel, rfl, by decide +kernel, by decide +kernel⟩
def sp_l_right88 (K : PySem.W.Frag) : SpT := fun ts S R _ => match ts with
  | [.cell p] => PoolT S p ∧ ∀ S', R (.bl true) S'
  | _ => False
set_option maxHeartbeats 6400000 in
theorem ok_l_right {P : Program} {w : World} {K : PySem.W.Frag} {mg : Str → Option Value} {base : Heap} {f : Addr} {fd : FuncData} {g_l_by_name C_InvalidFraction C_InvalidSize C_InvalidBox C_InvalidKeep C_InvalidTimes C_InvalidStep C_InvalidSteps C_InvalidChain C_InvalidText C_InvalidKind C_InvalidRecords C_InvalidName C_InvalidDeeds C_InvalidLine C_NoStep C_UnknownName C_NameTaken C_NothingToUndo C_TooManySteps C_TooManyDeeds C_PictureError C_FindError C_LimitError g_l_by_position g_l_fields g_l_kind g_l_draw : Addr} {gd_l_by_name : FuncData} {gd_l_by_position : FuncData} {gd_l_fields : FuncData} {gd_l_kind : FuncData} {gd_l_draw : FuncData} (F : Fun K "_law_right" "_law_right" s_l_right f fd)
    (n_repr : mg "repr" = none)
    (n_list : mg "list" = none)
    (n_range : mg "range" = none)
    (G_l_by_name : FnT P w K mg base 1 g_l_by_name gd_l_by_name ["_law_odd"] (sp_l_errs [C_InvalidFraction, C_InvalidSize, C_InvalidBox, C_InvalidKeep, C_InvalidTimes, C_InvalidStep, C_InvalidSteps, C_InvalidChain, C_InvalidText, C_InvalidKind, C_InvalidRecords, C_InvalidName, C_InvalidDeeds, C_InvalidLine, C_NoStep, C_UnknownName, C_NameTaken, C_NothingToUndo, C_TooManySteps, C_TooManyDeeds, C_PictureError, C_FindError, C_LimitError]))
    (m_l_by_name : mg "_law_by_name" = some (.ref g_l_by_name))
    (k_l_by_name : PySem.W.keepIn K (.ref g_l_by_name) = true)
    (b_l_by_name : Binds K gd_l_by_name ["_law_odd"] [])
    (G_l_by_position : FnT P w K mg base 1 g_l_by_position gd_l_by_position ["_law_odd"] (sp_l_errs [C_InvalidFraction, C_InvalidSize, C_InvalidBox, C_InvalidKeep, C_InvalidTimes, C_InvalidStep, C_InvalidSteps, C_InvalidChain, C_InvalidText, C_InvalidKind, C_InvalidRecords, C_InvalidName, C_InvalidDeeds, C_InvalidLine, C_NoStep, C_UnknownName, C_NameTaken, C_NothingToUndo, C_TooManySteps, C_TooManyDeeds, C_PictureError, C_FindError, C_LimitError]))
    (m_l_by_position : mg "_law_by_position" = some (.ref g_l_by_position))
    (k_l_by_position : PySem.W.keepIn K (.ref g_l_by_position) = true)
    (b_l_by_position : Binds K gd_l_by_position ["_law_odd"] [])
    (G_l_fields : FnT P w K mg base 1 g_l_fields gd_l_fields ["_law_found"] (sp_l_flds K))
    (m_l_fields : mg "_law_fields" = some (.ref g_l_fields))
    (k_l_fields : PySem.W.keepIn K (.ref g_l_fields) = true)
    (b_l_fields : Binds K gd_l_fields ["_law_found"] [])
    (G_l_kind : FnT P w K mg base 1 g_l_kind gd_l_kind ["_law_e"] (sp_l_kind88 [C_InvalidFraction, C_InvalidSize, C_InvalidBox, C_InvalidKeep, C_InvalidTimes, C_InvalidStep, C_InvalidSteps, C_InvalidChain, C_InvalidText, C_InvalidKind, C_InvalidRecords, C_InvalidName, C_InvalidDeeds, C_InvalidLine, C_NoStep, C_UnknownName, C_NameTaken, C_NothingToUndo, C_TooManySteps, C_TooManyDeeds, C_PictureError, C_FindError, C_LimitError]))
    (m_l_kind : mg "_law_kind" = some (.ref g_l_kind))
    (k_l_kind : PySem.W.keepIn K (.ref g_l_kind) = true)
    (b_l_kind : Binds K gd_l_kind ["_law_e"] [])
    (G_l_draw : FnT P w K mg base 1 g_l_draw gd_l_draw ["_law_pool_here", "_law_most"] sp_l_draw)
    (m_l_draw : mg "_law_draw" = some (.ref g_l_draw))
    (k_l_draw : PySem.W.keepIn K (.ref g_l_draw) = true)
    (b_l_draw : Binds K gd_l_draw ["_law_pool_here", "_law_most"] [])
    (SYS : ∃ o, base.get? sysModules = some o)
    (kd_all : Kinds K [C_InvalidFraction, C_InvalidSize, C_InvalidBox, C_InvalidKeep, C_InvalidTimes, C_InvalidStep, C_InvalidSteps, C_InvalidChain, C_InvalidText, C_InvalidKind, C_InvalidRecords, C_InvalidName, C_InvalidDeeds, C_InvalidLine, C_NoStep, C_UnknownName, C_NameTaken, C_NothingToUndo, C_TooManySteps, C_TooManyDeeds, C_PictureError, C_FindError, C_LimitError])
    : FnT P w K mg base 2 f fd ["_law_pool_here"] (sp_l_right88 K) := by
  refine okT F sc_l_right (by intro ts S R RE h; unfold sp_l_right88 at h; split at h <;> first | rfl | exact h.elim) (fun cdv A out s H E hg hr => (bs_cons (ss_set (i := 1) sc_l_right.nd rfl (by first | exact Or.inl rfl | exact Or.inr rfl) (et_ix ix_seq cv_ix (et_lst (at_cons et_non (at_cons et_int (at_cons et_bl (at_cons et_str (at_cons (et_tup (at_cons et_int (at_cons et_int at_nil))) (at_cons (et_lst (at_cons et_int at_nil)) (at_cons et_dct (at_cons (et_op op_pow cv_I2 et_int et_int) (at_cons (et_tup at_nil) at_nil)))))))))) (et_callD G_l_draw hg (hr.mono (by decide)) (by rfl) m_l_draw k_l_draw (CallD.all b_l_draw) (passL2N (L2N.takes_of rfl rfl rfl rfl)) (at_cons (et_var (pv 0)) (at_cons et_int at_nil))) (fun _ _ => rfl)))
    (bs_cons (ss_for (passes_of rfl) rfl (it_seq (et_lst (at_cons (et_callD G_l_by_position hg (hr.mono (by decide)) (by rfl) m_l_by_position k_l_by_position (CallD.all b_l_by_position) (passL2N (L2N.takes_of rfl rfl rfl rfl)) (at_cons (et_var (pv 1)) at_nil)) (at_cons (et_callD G_l_by_name hg (hr.mono (by decide)) (by rfl) m_l_by_name k_l_by_name (CallD.all b_l_by_name) (passL2N (L2N.takes_of rfl rfl rfl rfl)) (at_cons (et_var (pv 1)) at_nil)) at_nil)))) (gt_name (pg_name (i := 2) sc_l_right.nd rfl (by first | exact Or.inl rfl | exact Or.inr rfl))) (bs_cons (ss_if (tt_cmp (op_neP hr.units) cv_eqP (et_lc (x := "_law_e") (j := 3) (by rfl) sc_l_right.nd (it_seq (et_var (pv 2))) (blkOk_by (own := [("_law_e", 3)]) (N := ["_law_pool_here", "_law_odd", "_law_found", "_law_e"]) (sc := defScope s_l_right) (by decide +kernel)) (fun _ _ _ _ _ => pg_name (i := 3) sc_l_right.nd rfl (by first | exact Or.inl rfl | exact Or.inr rfl)) (fun _ _ _ _ _ => tts_nil) (fun _ _ _ _ _ => (et_callD G_l_kind hg (hr.mono (by decide)) (by rfl) m_l_kind k_l_kind (CallD.all b_l_kind) passN (at_cons (et_var (pv 3)) at_nil)))) (et_lrg rfl (by rfl) n_list (by rfl) n_range et_int) (nomark _)) (bs_one (ss_ret et_bl)) bs_nil)
    (bs_one (ss_if (tt_cmp (op_neG hr.units) cv_ne (et_blt (reprD SYS hg (roomR hr)) cv_reprD (by rfl) n_repr PyProof.Rows.boot_repr (at_cons (et_callD G_l_fields hg (hr.mono (by decide)) (by rfl) m_l_fields k_l_fields (CallD.all b_l_fields) (passL2N (L2N.takes_of rfl rfl rfl rfl)) (at_cons (et_var (pv 2)) at_nil)) at_nil)) (et_blt (reprD SYS hg (roomR hr)) cv_reprD (by rfl) n_repr PyProof.Rows.boot_repr (at_cons (et_op op_mulG cv_mul (et_lst (at_cons (et_var (pv 1)) at_nil)) et_int) at_nil)) (nomark _)) (bs_one (ss_ret et_bl)) bs_nil))))
    (bs_one (ss_ret et_bl))))) ?_
  intro ts S R RE h
  unfold sp_l_right88 at h
  split at h
  · rename_i p
    obtain ⟨hp, q⟩ := h
    refine sSeq_i fun N hN => ?_
    simp only [sp_l_draw, sAsg, rVar, rC, rBin, aNil, aCons, rTup, rLst, gNameT, rCall, rDct, kI2, kIx, startT, Option.some.injEq, List.map_cons, List.map_nil, List.length_cons, List.length_nil, List.cons_append, List.nil_append, List.append_nil, List.getElem?_cons_zero, List.set_cons_zero, List.set_cons_succ, List.replicate_succ, List.replicate_zero, exists_eq_left', Nat.reduceAdd, Nat.reduceSub, Nat.zero_add]
    have cp : CPow 10 39 := ⟨by decide, by decide, by decide +kernel⟩
    refine ⟨by decide, by decide, cp, by decide, by decide, hp, Pn.of (by decide) (by decide), fun r S1 r0 r1 p1 => ?_⟩
    have rows : ∀ x ∈ [T.non, T.int 0, T.bl true, T.str (Str.ofString "turn 1"), T.tup [T.int 1, T.int 2], T.lst [T.int 1], T.dct, T.int (10 ^ Int.toNat 39), T.tup []], Leaf x := by
      refine List.forall_mem_cons.mpr ⟨leaf_non, ?_⟩
      refine List.forall_mem_cons.mpr ⟨leaf_int (by decide +kernel), ?_⟩
      refine List.forall_mem_cons.mpr ⟨leaf_bl, ?_⟩
      refine List.forall_mem_cons.mpr ⟨leaf_str (by decide +kernel), ?_⟩
      refine List.forall_mem_cons.mpr ⟨leaf_fr (by decide +kernel) (by decide +kernel), ?_⟩
      refine List.forall_mem_cons.mpr ⟨leaf_lst (one_mem (d_int (by decide +kernel))) (by decide), ?_⟩
      refine List.forall_mem_cons.mpr ⟨leaf_dct, ?_⟩
      refine List.forall_mem_cons.mpr ⟨leaf_int (by decide +kernel), ?_⟩
      exact List.forall_mem_cons.mpr ⟨leaf_tup (fun _ m => nomatch m) (by decide), fun _ m => nomatch m⟩
    generalize hl : [T.non, T.int 0, T.bl true, T.str (Str.ofString "turn 1"), T.tup [T.int 1, T.int 2], T.lst [T.int 1], T.dct, T.int (10 ^ Int.toNat 39), T.tup []] = l at rows ⊢
    have ll : l.length = 9 := by rw [← hl]; rfl
    clear hl
    have lt : r.toNat < l.length := by omega
    have ea := atI_nat (xs := l) (j := r.toNat) (v := l[r.toNat]) (List.getElem?_eq_getElem lt)
    rw [show ((r.toNat : Nat) : Int) = r by omega] at ea
    have lx := rows _ (List.getElem_mem lt)
    refine ⟨_, ea, hN _ _ ?_⟩
    clear hN ea
    generalize l[r.toNat] = x at lx ⊢
    clear rows ll lt
    refine sSeq_i fun N hN => sFor_i fun B hB => ?_
    simp only [sp_l_errs, rVar, aNil, aCons, rLst, iSeq, rCall, seqOf, Option.some.injEq, List.length_cons, List.length_nil, List.append_nil, List.getElem?_cons_zero, List.getElem?_cons_succ, exists_eq_left', Nat.reduceAdd, Nat.zero_add]
    refine ⟨by decide, hB _ _ ?_⟩
    clear hB
    refine rLoop_inv (fun _ σ S' => S' = S1 ∧ ∃ v : List (Option T), σ = some (.cell p) :: some x :: v ∧ v.length = 2) ⟨rfl, _, rfl, rfl⟩ ?_ ?_
    · rintro i t σ S2 hi ⟨rfl, v, rfl, hv⟩ N2 hN2
      match v, hv with
      | [v1, v2], _ =>
      have et : t = .lst (errsT [C_InvalidFraction, C_InvalidSize, C_InvalidBox, C_InvalidKeep, C_InvalidTimes, C_InvalidStep, C_InvalidSteps, C_InvalidChain, C_InvalidText, C_InvalidKind, C_InvalidRecords, C_InvalidName, C_InvalidDeeds, C_InvalidLine, C_NoStep, C_UnknownName, C_NameTaken, C_NothingToUndo, C_TooManySteps, C_TooManyDeeds, C_PictureError, C_FindError, C_LimitError] x) := by
        have m := List.mem_of_getElem? hi
        simp only [List.mem_cons, List.not_mem_nil, or_false, or_self] at m
        exact m
      subst et
      show sSeq _ _ _ _ _
      refine sSeq_i fun N hN => sIf_i fun A B hA hB => ?_
      simp only [rLrg, rVar, rC, rBin, rTest, iSeq, rLc, seqOf, T.int.injEq, Option.some.injEq, List.getElem?_cons_zero, List.getElem?_cons_succ, List.set_cons_zero, List.set_cons_succ, exists_eq_left']
      refine rComp_all (fun _ S3 => S3 = S2) (fun i _ y => y = .int ((i : Nat) : Int)) rfl (by rw [sizeLine_eq, errs_len]; decide) ?_ ?_
      · rintro j t' S7 hj rfl N3 hN3
        obtain ⟨hk, rfl⟩ := errs_get hj
        simp only [sp_l_kind88, rVar, aNil, aCons, rCall, Option.some.injEq, List.append_nil, List.getElem?_cons_zero, List.getElem?_cons_succ, exists_eq_left']
        exact ⟨j, _, _, rfl, hk, get_of (n := 23) rfl (by omega), hN3 _ _ rfl rfl⟩
      rintro ys S3 hl hG rfl
      have ey := all_ix hl hG
      rw [errs_len] at ey
      subst ey
      clear hl hG
      refine ⟨by decide, by decide, eqP_same (dat_ix _) (dep_ix _) ⟨_, rfl, ?_⟩⟩
      rw [if_neg (by decide)]
      refine hB _ (hN _ _ ?_)
      clear hN hA hB
      refine sIf_i fun A B hA hB => ?_
      simp only [sp_l_flds, rVar, rC, rBin, rTest, aNil, aCons, rLst, rArgs, rCall, kMul, T.lst.injEq, Option.some.injEq, List.length_cons, List.length_nil, List.append_nil, List.getElem?_cons_zero, List.getElem?_cons_succ, List.set_cons_zero, List.set_cons_succ, List.replicate_succ, List.replicate_zero, exists_eq_left', and_assoc, Nat.zero_add]
      obtain ⟨d, ed, sd⟩ := lx.d
      have s19 : Sq 64 16777216 (.list (List.replicate 19 d)) := (Sq.lst (sqA_rep sd 19)).up (by decide) (by decide)
      have e19 : (T.lst (List.replicate 19 x)).datD = some (.list (List.replicate 19 d)) := by rw [T.datD, datDL_rep ed]; rfl
      refine ⟨_, x, rfl, kd_all, rfl, ?_⟩
      have rp : ∀ (R : T → Store → Prop) (RE : XT), R (.str (PyData.list (List.replicate 19 d)).shown) S3 → kReprD [T.lst (List.replicate 19 x)] S3 R RE := fun R RE q => ⟨_, _, rfl, e19, s19, q⟩
      refine rp _ _ ⟨by decide, by decide, by decide, by decide, rp _ _ (.inl ⟨rfl, false, ?_, ?_⟩)⟩
      · show T.bl (true ^^ decide (_ = _)) = T.bl false
        simp
      rw [if_neg (by decide)]
      exact hB _ (hN2 _ _ ⟨rfl, _, rfl, rfl⟩)
    · rintro σ S2 ⟨rfl, v, rfl, hv⟩
      refine hN _ _ ?_
      clear hN
      simp only [sRet, rC]
      exact q _
  · exact h.elim
theorem sc_law : FnScope ["_law_script", "_law_k"] ["_law_script"] (defScope s_law) := ⟨rfl, rfl, rfl, by decide +kernel, rfl, by decide +kernel, by decide +kernel⟩

set_option maxHeartbeats 6400000 in
theorem ok_law {P : Program} {w : World} {K : PySem.W.Frag} {mg : Str → Option Value} {base : Heap} {f : Addr} {fd : FuncData} {g_l_right g_l_pool g_l_cell C_Chain : Addr} {tk_MOST_DEEDS : Tok} {tk_MOST_RECORDS : Tok} {tk_MOST_STEPS : Tok} {tk_MOST_SIDE : Tok} {gd_l_right : FuncData} {gd_l_pool : FuncData} {gd_l_cell : FuncData} (F : Fun K "law" "law" s_law f fd)
    (n_range : mg "range" = none)
    (n_len : mg "len" = none)
    (n_min : mg "min" = none)
    (n_max : mg "max" = none)
    (n_all : mg "all" = none)
    (c_MOST_DEEDS : mg "MOST_DEEDS" = some (.int 400 tk_MOST_DEEDS))
    (c_MOST_RECORDS : mg "MOST_RECORDS" = some (.int 40 tk_MOST_RECORDS))
    (c_MOST_STEPS : mg "MOST_STEPS" = some (.int 60 tk_MOST_STEPS))
    (c_MOST_SIDE : mg "MOST_SIDE" = some (.int 1000000 tk_MOST_SIDE))
    (G_l_right : FnT P w K mg base 2 g_l_right gd_l_right ["_law_pool_here"] (sp_l_right88 K))
    (m_l_right : mg "_law_right" = some (.ref g_l_right))
    (k_l_right : PySem.W.keepIn K (.ref g_l_right) = true)
    (b_l_right : Binds K gd_l_right ["_law_pool_here"] [])
    (G_l_pool : FnT P w K mg base 1 g_l_pool gd_l_pool ["_law_figure"] sp_l_pool)
    (m_l_pool : mg "_law_pool" = some (.ref g_l_pool))
    (k_l_pool : PySem.W.keepIn K (.ref g_l_pool) = true)
    (b_l_pool : Binds K gd_l_pool ["_law_figure"] [])
    (G_l_cell : FnT P w K mg base 1 g_l_cell gd_l_cell ["_law_script", "_law_k"] sp_l_cell)
    (m_l_cell : mg "_law_cell" = some (.ref g_l_cell))
    (k_l_cell : PySem.W.keepIn K (.ref g_l_cell) = true)
    (b_l_cell : Binds K gd_l_cell ["_law_script", "_law_k"] [])
    (m_Chain : mg "Chain" = some (.ref C_Chain))
    (cr_Chain : ClX.CRead K C_Chain (.type "type"))
    (cv_Chain_MOST : CValT K C_Chain "MOST" (.int 60))
    : FnT P w K mg base 3 f fd ["_law_script"] (sp_lawT T0) := by
  refine okT F sc_law (by intro ts S R RE h; unfold sp_lawT at h; split at h <;> first | rfl | exact h.elim) (fun cdv A out s H E hg hr => (bs_cons (ss_if (tt_cmp (op_neG hr.units) cv_ne (et_lst (at_cons (et_globI (by rfl) c_MOST_SIDE) (at_cons (et_globI (by rfl) c_MOST_STEPS) (at_cons (et_globI (by rfl) c_MOST_RECORDS) (at_cons (et_globI (by rfl) c_MOST_DEEDS) (at_cons (et_cvalT cr_Chain cv_Chain_MOST (by rfl) m_Chain) at_nil)))))) (et_lst (at_cons (et_op op_pow cv_I2 et_int et_int) (at_cons et_int (at_cons et_int (at_cons et_int (at_cons et_int at_nil)))))) (nomark _)) (bs_one (ss_ret et_bl)) bs_nil)
    (bs_one (ss_ret (et_blt (cr_all (by rfl)) cv_all (by rfl) n_all (by decide +kernel) (at_cons (et_lc (x := "_law_k") (j := 1) (by rfl) sc_law.nd (it_range1 (by rfl) n_range (at_cons (et_blt (call_max2 (by rfl)) cv_A2 (by rfl) n_max (by decide +kernel) (at_cons et_int (at_cons (et_blt (call_min2 (by rfl)) cv_A2 (by rfl) n_min (by decide +kernel) (at_cons (et_blt call_len cv_len (by rfl) n_len PySem.boot_len (at_cons (et_var (pv 0)) at_nil)) (at_cons et_int at_nil))) at_nil))) at_nil)) (blkOk_by (own := [("_law_k", 1)]) (N := ["_law_script", "_law_k"]) (sc := defScope s_law) (by decide +kernel)) (fun _ _ _ _ _ => pg_name (i := 1) sc_law.nd rfl (by first | exact Or.inl rfl | exact Or.inr rfl)) (fun _ _ _ _ _ => tts_nil) (fun _ _ _ _ _ => (et_callD G_l_right hg (hr.mono (by decide)) (by rfl) m_l_right k_l_right (CallD.all b_l_right) passN (at_cons (et_callD G_l_pool hg (hr.mono (by decide)) (by rfl) m_l_pool k_l_pool (CallD.all b_l_pool) passN (at_cons (et_callD G_l_cell hg (hr.mono (by decide)) (by rfl) m_l_cell k_l_cell (CallD.all b_l_cell) passN (at_cons (et_var (pv 0)) (at_cons (et_var (pv 1)) at_nil))) at_nil)) at_nil)))) at_nil)))))) ?_
  intro ts S R RE h
  unfold sp_lawT at h
  split at h
  · rename_i l
    obtain ⟨⟨ns, rfl, h63⟩, tin, q⟩ := h
    have cp6 : CPow 10 6 := ⟨by decide, by decide, by decide +kernel⟩
    refine sSeq_i fun N hN => sIf_i fun A B hA hB => ?_
    simp only [rC, rBin, rTest, aNil, aCons, rLst, kI2, List.length_cons, List.length_nil, Nat.reduceAdd, Nat.zero_add]
    rw [show (10 : Int) ^ Int.toNat 6 = 1000000 by decide +kernel]
    refine ⟨by decide, cp6, by decide, .inr ⟨.list [.int 1000000, .int 60, .int 40, .int 400, .int 60], .list [.int 1000000, .int 60, .int 40, .int 400, .int 60], by simp [T.dat, T.datL], by simp [T.dat, T.datL], by simp [SeqAt.shaped, PyData.canLay0, PyData.canLayAll0, PyData.depth, PyData.depthAll], by simp [SeqAt.shaped, PyData.canLay0, PyData.canLayAll0, PyData.depth, PyData.depthAll], false, ?_, ?_⟩⟩
    · have e : PyData.eqv (.list [.int 1000000, .int 60, .int 40, .int 400, .int 60]) (.list [.int 1000000, .int 60, .int 40, .int 400, .int 60]) = true := by simp [PyData.eqv, PyData.eqvAll]
      rw [e]; rfl
    rw [if_neg (by decide)]
    refine hB _ (hN _ _ ?_)
    clear hN hA hB
    simp only [sRet, rVar, rC, aNil, aCons, rArgs, iRng1T, rLc, kLen, kA2, kAll, lenT, startT, T.int.injEq, T.lst.injEq, List.cons.injEq, Option.some.injEq, List.map_cons, List.map_nil, List.length_cons, List.length_nil, List.cons_append, List.nil_append, List.getElem?_cons_zero, List.set_cons_zero, List.set_cons_succ, List.replicate_succ, List.replicate_zero, exists_eq_left', exists_and_left, and_true, and_assoc, Nat.reduceAdd, Nat.reduceSub, Nat.zero_add]
    have hl : 0 ≤ (((ns.map T.int).length : Nat) : Int) ∧ (((ns.map T.int).length : Nat) : Int) ≤ 63 := by rw [List.length_map]; omega
    have rg := range_le (n := (((ns.map T.int).length : Nat) : Int)) (k := 4) hl (by decide)
    generalize (((ns.map T.int).length : Nat) : Int) = n at rg ⊢
    generalize (if (if n < 4 then n else 4) > 2 then (if n < 4 then n else 4) else 2) = m at rg ⊢
    refine ⟨by omega, by omega, ?_⟩
    refine law_cells (spR := sp_l_right88 K) (i := 0) (j := 1) h63 ⟨by omega, by omega⟩ (fun _ => rfl) (fun _ => rfl) (fun p S hp N hN => ⟨hp, hN⟩) fun S => q S
  · exact h.elim
set_option maxHeartbeats 0 in
theorem all_mk {l : PySem.W.OpenLaw} {w : World} {q : Program} {loose : List Str} {mean : ExcName → Option Value} {K : PySem.W.Frag} {h : Heap} {mg mb : Str → Option Value} {fa : Addr} (TP : Top q loose mean mg mb h) (HT : ∀ P ∈ [], h.get? P = some (PySem.W.tabObj #[])) (X : K.In h) (G : h.Ns mainGlobals mg) (hfa : mg "law" = some (.ref fa))
    {f_l_cell : Addr} {od_l_cell an_l_cell : Option Addr} {sl_l_cell : Array (Option Value)} {oc_l_cell kV_l_cell dc_l_cell pm_l_cell cd_l_cell ct_l_cell : Value}
    {f_l_pool : Addr} {od_l_pool an_l_pool : Option Addr} {sl_l_pool : Array (Option Value)} {oc_l_pool kV_l_pool dc_l_pool pm_l_pool cd_l_pool ct_l_pool : Value}
    {f_l_draw : Addr} {od_l_draw an_l_draw : Option Addr} {sl_l_draw : Array (Option Value)} {oc_l_draw kV_l_draw dc_l_draw pm_l_draw cd_l_draw ct_l_draw : Value}
    {f_l_kind : Addr} {od_l_kind an_l_kind : Option Addr} {sl_l_kind : Array (Option Value)} {oc_l_kind kV_l_kind dc_l_kind pm_l_kind cd_l_kind ct_l_kind : Value}
    {f_l_by_position : Addr} {od_l_by_position an_l_by_position : Option Addr} {sl_l_by_position : Array (Option Value)} {oc_l_by_position kV_l_by_position dc_l_by_position pm_l_by_position cd_l_by_position ct_l_by_position : Value}
    {f_l_by_name : Addr} {od_l_by_name an_l_by_name : Option Addr} {sl_l_by_name : Array (Option Value)} {oc_l_by_name kV_l_by_name dc_l_by_name pm_l_by_name cd_l_by_name ct_l_by_name : Value}
    {f_l_fields : Addr} {od_l_fields an_l_fields : Option Addr} {sl_l_fields : Array (Option Value)} {oc_l_fields kV_l_fields dc_l_fields pm_l_fields cd_l_fields ct_l_fields : Value}
    {f_l_right : Addr} {od_l_right an_l_right : Option Addr} {sl_l_right : Array (Option Value)} {oc_l_right kV_l_right dc_l_right pm_l_right cd_l_right ct_l_right : Value}
    {f_law : Addr} {od_law an_law : Option Addr} {sl_law : Array (Option Value)} {oc_law kV_law dc_law pm_law cd_law ct_law : Value}
    {tk_MOST_DEEDS : Tok}
    {tk_MOST_RECORDS : Tok}
    {tk_MOST_STEPS : Tok}
    {tk_MOST_SIDE : Tok}
    {C_LimitError : Addr}
    {C_FindError : Addr}
    {C_PictureError : Addr}
    {C_TooManyDeeds : Addr}
    {C_TooManySteps : Addr}
    {C_NothingToUndo : Addr}
    {C_NameTaken : Addr}
    {C_UnknownName : Addr}
    {C_NoStep : Addr}
    {C_InvalidLine : Addr}
    {C_InvalidDeeds : Addr}
    {C_InvalidName : Addr}
    {C_InvalidRecords : Addr}
    {C_InvalidKind : Addr}
    {C_InvalidText : Addr}
    {C_InvalidChain : Addr}
    {C_InvalidSteps : Addr}
    {C_InvalidStep : Addr}
    {C_InvalidTimes : Addr}
    {C_InvalidKeep : Addr}
    {C_InvalidBox : Addr}
    {C_InvalidSize : Addr}
    {C_InvalidFraction : Addr}
    {fI_TooManyDeeds : Addr} {enm_TooManyDeeds eq_TooManyDeeds : Str} {eN_TooManyDeeds : Addr} {ebs_TooManyDeeds ebm_TooManyDeeds esub_TooManyDeeds : List Value} {esn_TooManyDeeds : List Str} {eab_TooManyDeeds : Bool} {ecol_TooManyDeeds : Option Bool} {edd_TooManyDeeds : Option Addr} {ex0_TooManyDeeds ex1_TooManyDeeds ex2_TooManyDeeds ex3_TooManyDeeds ex5_TooManyDeeds : Option Value}
    {yoc_TooManyDeeds ydc_TooManyDeeds ypm_TooManyDeeds ycd_TooManyDeeds yct_TooManyDeeds : Value} {yod_TooManyDeeds yan_TooManyDeeds : Option Addr} {ysl_TooManyDeeds : Array (Option Value)} {yp1_TooManyDeeds yp2_TooManyDeeds yq1_TooManyDeeds yq2_TooManyDeeds yq3_TooManyDeeds yq4_TooManyDeeds : Pos}
    {fI_TooManySteps : Addr} {enm_TooManySteps eq_TooManySteps : Str} {eN_TooManySteps : Addr} {ebs_TooManySteps ebm_TooManySteps esub_TooManySteps : List Value} {esn_TooManySteps : List Str} {eab_TooManySteps : Bool} {ecol_TooManySteps : Option Bool} {edd_TooManySteps : Option Addr} {ex0_TooManySteps ex1_TooManySteps ex2_TooManySteps ex3_TooManySteps ex5_TooManySteps : Option Value}
    {yoc_TooManySteps ydc_TooManySteps ypm_TooManySteps ycd_TooManySteps yct_TooManySteps : Value} {yod_TooManySteps yan_TooManySteps : Option Addr} {ysl_TooManySteps : Array (Option Value)} {yp1_TooManySteps yp2_TooManySteps yq1_TooManySteps yq2_TooManySteps yq3_TooManySteps yq4_TooManySteps : Pos}
    {fI_NameTaken : Addr} {enm_NameTaken eq_NameTaken : Str} {eN_NameTaken : Addr} {ebs_NameTaken ebm_NameTaken esub_NameTaken : List Value} {esn_NameTaken : List Str} {eab_NameTaken : Bool} {ecol_NameTaken : Option Bool} {edd_NameTaken : Option Addr} {ex0_NameTaken ex1_NameTaken ex2_NameTaken ex3_NameTaken ex5_NameTaken : Option Value}
    {yoc_NameTaken ydc_NameTaken ypm_NameTaken ycd_NameTaken yct_NameTaken : Value} {yod_NameTaken yan_NameTaken : Option Addr} {ysl_NameTaken : Array (Option Value)} {yp1_NameTaken yp2_NameTaken yq1_NameTaken yq2_NameTaken yq3_NameTaken yq4_NameTaken : Pos}
    {fI_UnknownName : Addr} {enm_UnknownName eq_UnknownName : Str} {eN_UnknownName : Addr} {ebs_UnknownName ebm_UnknownName esub_UnknownName : List Value} {esn_UnknownName : List Str} {eab_UnknownName : Bool} {ecol_UnknownName : Option Bool} {edd_UnknownName : Option Addr} {ex0_UnknownName ex1_UnknownName ex2_UnknownName ex3_UnknownName ex5_UnknownName : Option Value}
    {yoc_UnknownName ydc_UnknownName ypm_UnknownName ycd_UnknownName yct_UnknownName : Value} {yod_UnknownName yan_UnknownName : Option Addr} {ysl_UnknownName : Array (Option Value)} {yp1_UnknownName yp2_UnknownName yq1_UnknownName yq2_UnknownName yq3_UnknownName yq4_UnknownName : Pos}
    {fI_NoStep : Addr} {enm_NoStep eq_NoStep : Str} {eN_NoStep : Addr} {ebs_NoStep ebm_NoStep esub_NoStep : List Value} {esn_NoStep : List Str} {eab_NoStep : Bool} {ecol_NoStep : Option Bool} {edd_NoStep : Option Addr} {ex0_NoStep ex1_NoStep ex2_NoStep ex3_NoStep ex5_NoStep : Option Value}
    {yoc_NoStep ydc_NoStep ypm_NoStep ycd_NoStep yct_NoStep : Value} {yod_NoStep yan_NoStep : Option Addr} {ysl_NoStep : Array (Option Value)} {yp1_NoStep yp2_NoStep yq1_NoStep yq2_NoStep yq3_NoStep yq4_NoStep : Pos}
    {fI_InvalidLine : Addr} {enm_InvalidLine eq_InvalidLine : Str} {eN_InvalidLine : Addr} {ebs_InvalidLine ebm_InvalidLine esub_InvalidLine : List Value} {esn_InvalidLine : List Str} {eab_InvalidLine : Bool} {ecol_InvalidLine : Option Bool} {edd_InvalidLine : Option Addr} {ex0_InvalidLine ex1_InvalidLine ex2_InvalidLine ex3_InvalidLine ex5_InvalidLine : Option Value}
    {yoc_InvalidLine ydc_InvalidLine ypm_InvalidLine ycd_InvalidLine yct_InvalidLine : Value} {yod_InvalidLine yan_InvalidLine : Option Addr} {ysl_InvalidLine : Array (Option Value)} {yp1_InvalidLine yp2_InvalidLine yq1_InvalidLine yq2_InvalidLine yq3_InvalidLine yq4_InvalidLine : Pos}
    {fI_InvalidDeeds : Addr} {enm_InvalidDeeds eq_InvalidDeeds : Str} {eN_InvalidDeeds : Addr} {ebs_InvalidDeeds ebm_InvalidDeeds esub_InvalidDeeds : List Value} {esn_InvalidDeeds : List Str} {eab_InvalidDeeds : Bool} {ecol_InvalidDeeds : Option Bool} {edd_InvalidDeeds : Option Addr} {ex0_InvalidDeeds ex1_InvalidDeeds ex2_InvalidDeeds ex3_InvalidDeeds ex5_InvalidDeeds : Option Value}
    {yoc_InvalidDeeds ydc_InvalidDeeds ypm_InvalidDeeds ycd_InvalidDeeds yct_InvalidDeeds : Value} {yod_InvalidDeeds yan_InvalidDeeds : Option Addr} {ysl_InvalidDeeds : Array (Option Value)} {yp1_InvalidDeeds yp2_InvalidDeeds yq1_InvalidDeeds yq2_InvalidDeeds yq3_InvalidDeeds yq4_InvalidDeeds : Pos}
    {fI_InvalidName : Addr} {enm_InvalidName eq_InvalidName : Str} {eN_InvalidName : Addr} {ebs_InvalidName ebm_InvalidName esub_InvalidName : List Value} {esn_InvalidName : List Str} {eab_InvalidName : Bool} {ecol_InvalidName : Option Bool} {edd_InvalidName : Option Addr} {ex0_InvalidName ex1_InvalidName ex2_InvalidName ex3_InvalidName ex5_InvalidName : Option Value}
    {yoc_InvalidName ydc_InvalidName ypm_InvalidName ycd_InvalidName yct_InvalidName : Value} {yod_InvalidName yan_InvalidName : Option Addr} {ysl_InvalidName : Array (Option Value)} {yp1_InvalidName yp2_InvalidName yq1_InvalidName yq2_InvalidName yq3_InvalidName yq4_InvalidName : Pos}
    {fI_InvalidRecords : Addr} {enm_InvalidRecords eq_InvalidRecords : Str} {eN_InvalidRecords : Addr} {ebs_InvalidRecords ebm_InvalidRecords esub_InvalidRecords : List Value} {esn_InvalidRecords : List Str} {eab_InvalidRecords : Bool} {ecol_InvalidRecords : Option Bool} {edd_InvalidRecords : Option Addr} {ex0_InvalidRecords ex1_InvalidRecords ex2_InvalidRecords ex3_InvalidRecords ex5_InvalidRecords : Option Value}
    {yoc_InvalidRecords ydc_InvalidRecords ypm_InvalidRecords ycd_InvalidRecords yct_InvalidRecords : Value} {yod_InvalidRecords yan_InvalidRecords : Option Addr} {ysl_InvalidRecords : Array (Option Value)} {yp1_InvalidRecords yp2_InvalidRecords yq1_InvalidRecords yq2_InvalidRecords yq3_InvalidRecords yq4_InvalidRecords : Pos}
    {fI_InvalidKind : Addr} {enm_InvalidKind eq_InvalidKind : Str} {eN_InvalidKind : Addr} {ebs_InvalidKind ebm_InvalidKind esub_InvalidKind : List Value} {esn_InvalidKind : List Str} {eab_InvalidKind : Bool} {ecol_InvalidKind : Option Bool} {edd_InvalidKind : Option Addr} {ex0_InvalidKind ex1_InvalidKind ex2_InvalidKind ex3_InvalidKind ex5_InvalidKind : Option Value}
    {yoc_InvalidKind ydc_InvalidKind ypm_InvalidKind ycd_InvalidKind yct_InvalidKind : Value} {yod_InvalidKind yan_InvalidKind : Option Addr} {ysl_InvalidKind : Array (Option Value)} {yp1_InvalidKind yp2_InvalidKind yq1_InvalidKind yq2_InvalidKind yq3_InvalidKind yq4_InvalidKind : Pos}
    {fI_InvalidText : Addr} {enm_InvalidText eq_InvalidText : Str} {eN_InvalidText : Addr} {ebs_InvalidText ebm_InvalidText esub_InvalidText : List Value} {esn_InvalidText : List Str} {eab_InvalidText : Bool} {ecol_InvalidText : Option Bool} {edd_InvalidText : Option Addr} {ex0_InvalidText ex1_InvalidText ex2_InvalidText ex3_InvalidText ex5_InvalidText : Option Value}
    {yoc_InvalidText ydc_InvalidText ypm_InvalidText ycd_InvalidText yct_InvalidText : Value} {yod_InvalidText yan_InvalidText : Option Addr} {ysl_InvalidText : Array (Option Value)} {yp1_InvalidText yp2_InvalidText yq1_InvalidText yq2_InvalidText yq3_InvalidText yq4_InvalidText : Pos}
    {fI_InvalidChain : Addr} {enm_InvalidChain eq_InvalidChain : Str} {eN_InvalidChain : Addr} {ebs_InvalidChain ebm_InvalidChain esub_InvalidChain : List Value} {esn_InvalidChain : List Str} {eab_InvalidChain : Bool} {ecol_InvalidChain : Option Bool} {edd_InvalidChain : Option Addr} {ex0_InvalidChain ex1_InvalidChain ex2_InvalidChain ex3_InvalidChain ex5_InvalidChain : Option Value}
    {yoc_InvalidChain ydc_InvalidChain ypm_InvalidChain ycd_InvalidChain yct_InvalidChain : Value} {yod_InvalidChain yan_InvalidChain : Option Addr} {ysl_InvalidChain : Array (Option Value)} {yp1_InvalidChain yp2_InvalidChain yq1_InvalidChain yq2_InvalidChain yq3_InvalidChain yq4_InvalidChain : Pos}
    {fI_InvalidSteps : Addr} {enm_InvalidSteps eq_InvalidSteps : Str} {eN_InvalidSteps : Addr} {ebs_InvalidSteps ebm_InvalidSteps esub_InvalidSteps : List Value} {esn_InvalidSteps : List Str} {eab_InvalidSteps : Bool} {ecol_InvalidSteps : Option Bool} {edd_InvalidSteps : Option Addr} {ex0_InvalidSteps ex1_InvalidSteps ex2_InvalidSteps ex3_InvalidSteps ex5_InvalidSteps : Option Value}
    {yoc_InvalidSteps ydc_InvalidSteps ypm_InvalidSteps ycd_InvalidSteps yct_InvalidSteps : Value} {yod_InvalidSteps yan_InvalidSteps : Option Addr} {ysl_InvalidSteps : Array (Option Value)} {yp1_InvalidSteps yp2_InvalidSteps yq1_InvalidSteps yq2_InvalidSteps yq3_InvalidSteps yq4_InvalidSteps : Pos}
    {fI_InvalidStep : Addr} {enm_InvalidStep eq_InvalidStep : Str} {eN_InvalidStep : Addr} {ebs_InvalidStep ebm_InvalidStep esub_InvalidStep : List Value} {esn_InvalidStep : List Str} {eab_InvalidStep : Bool} {ecol_InvalidStep : Option Bool} {edd_InvalidStep : Option Addr} {ex0_InvalidStep ex1_InvalidStep ex2_InvalidStep ex3_InvalidStep ex5_InvalidStep : Option Value}
    {yoc_InvalidStep ydc_InvalidStep ypm_InvalidStep ycd_InvalidStep yct_InvalidStep : Value} {yod_InvalidStep yan_InvalidStep : Option Addr} {ysl_InvalidStep : Array (Option Value)} {yp1_InvalidStep yp2_InvalidStep yq1_InvalidStep yq2_InvalidStep yq3_InvalidStep yq4_InvalidStep : Pos}
    {fI_InvalidTimes : Addr} {enm_InvalidTimes eq_InvalidTimes : Str} {eN_InvalidTimes : Addr} {ebs_InvalidTimes ebm_InvalidTimes esub_InvalidTimes : List Value} {esn_InvalidTimes : List Str} {eab_InvalidTimes : Bool} {ecol_InvalidTimes : Option Bool} {edd_InvalidTimes : Option Addr} {ex0_InvalidTimes ex1_InvalidTimes ex2_InvalidTimes ex3_InvalidTimes ex5_InvalidTimes : Option Value}
    {yoc_InvalidTimes ydc_InvalidTimes ypm_InvalidTimes ycd_InvalidTimes yct_InvalidTimes : Value} {yod_InvalidTimes yan_InvalidTimes : Option Addr} {ysl_InvalidTimes : Array (Option Value)} {yp1_InvalidTimes yp2_InvalidTimes yq1_InvalidTimes yq2_InvalidTimes yq3_InvalidTimes yq4_InvalidTimes : Pos}
    {fI_InvalidKeep : Addr} {enm_InvalidKeep eq_InvalidKeep : Str} {eN_InvalidKeep : Addr} {ebs_InvalidKeep ebm_InvalidKeep esub_InvalidKeep : List Value} {esn_InvalidKeep : List Str} {eab_InvalidKeep : Bool} {ecol_InvalidKeep : Option Bool} {edd_InvalidKeep : Option Addr} {ex0_InvalidKeep ex1_InvalidKeep ex2_InvalidKeep ex3_InvalidKeep ex5_InvalidKeep : Option Value}
    {yoc_InvalidKeep ydc_InvalidKeep ypm_InvalidKeep ycd_InvalidKeep yct_InvalidKeep : Value} {yod_InvalidKeep yan_InvalidKeep : Option Addr} {ysl_InvalidKeep : Array (Option Value)} {yp1_InvalidKeep yp2_InvalidKeep yq1_InvalidKeep yq2_InvalidKeep yq3_InvalidKeep yq4_InvalidKeep : Pos}
    {fI_InvalidBox : Addr} {enm_InvalidBox eq_InvalidBox : Str} {eN_InvalidBox : Addr} {ebs_InvalidBox ebm_InvalidBox esub_InvalidBox : List Value} {esn_InvalidBox : List Str} {eab_InvalidBox : Bool} {ecol_InvalidBox : Option Bool} {edd_InvalidBox : Option Addr} {ex0_InvalidBox ex1_InvalidBox ex2_InvalidBox ex3_InvalidBox ex5_InvalidBox : Option Value}
    {yoc_InvalidBox ydc_InvalidBox ypm_InvalidBox ycd_InvalidBox yct_InvalidBox : Value} {yod_InvalidBox yan_InvalidBox : Option Addr} {ysl_InvalidBox : Array (Option Value)} {yp1_InvalidBox yp2_InvalidBox yq1_InvalidBox yq2_InvalidBox yq3_InvalidBox yq4_InvalidBox : Pos}
    {fI_InvalidSize : Addr} {enm_InvalidSize eq_InvalidSize : Str} {eN_InvalidSize : Addr} {ebs_InvalidSize ebm_InvalidSize esub_InvalidSize : List Value} {esn_InvalidSize : List Str} {eab_InvalidSize : Bool} {ecol_InvalidSize : Option Bool} {edd_InvalidSize : Option Addr} {ex0_InvalidSize ex1_InvalidSize ex2_InvalidSize ex3_InvalidSize ex5_InvalidSize : Option Value}
    {yoc_InvalidSize ydc_InvalidSize ypm_InvalidSize ycd_InvalidSize yct_InvalidSize : Value} {yod_InvalidSize yan_InvalidSize : Option Addr} {ysl_InvalidSize : Array (Option Value)} {yp1_InvalidSize yp2_InvalidSize yq1_InvalidSize yq2_InvalidSize yq3_InvalidSize yq4_InvalidSize : Pos}
    {fI_InvalidFraction : Addr} {enm_InvalidFraction eq_InvalidFraction : Str} {eN_InvalidFraction : Addr} {ebs_InvalidFraction ebm_InvalidFraction esub_InvalidFraction : List Value} {esn_InvalidFraction : List Str} {eab_InvalidFraction : Bool} {ecol_InvalidFraction : Option Bool} {edd_InvalidFraction : Option Addr} {ex0_InvalidFraction ex1_InvalidFraction ex2_InvalidFraction ex3_InvalidFraction ex5_InvalidFraction : Option Value}
    {yoc_InvalidFraction ydc_InvalidFraction ypm_InvalidFraction ycd_InvalidFraction yct_InvalidFraction : Value} {yod_InvalidFraction yan_InvalidFraction : Option Addr} {ysl_InvalidFraction : Array (Option Value)} {yp1_InvalidFraction yp2_InvalidFraction yq1_InvalidFraction yq2_InvalidFraction yq3_InvalidFraction yq4_InvalidFraction : Pos}
    {C_Chain : Addr}
    {tkv_Chain_MOST : Tok}
    (a_l_cell : PySem.W.nsIn K mainGlobals "_law_cell" = some (some (.ref f_l_cell)))
    (l_l_cell : K.lookup f_l_cell = some ⟨oc_l_cell, od_l_cell, .func (PySem.W.fnOf "_law_cell" "_law_cell" (defArgs s_l_cell) (defBody s_l_cell) (defScope s_l_cell) .none kV_l_cell dc_l_cell pm_l_cell an_l_cell cd_l_cell ct_l_cell), sl_l_cell⟩)
    (c_l_cell : PySem.W.codeIn K cd_l_cell "_law_cell" = true)
    (k_l_cell : PySem.W.keepIn K (.ref f_l_cell) = true)
    (a_l_pool : PySem.W.nsIn K mainGlobals "_law_pool" = some (some (.ref f_l_pool)))
    (l_l_pool : K.lookup f_l_pool = some ⟨oc_l_pool, od_l_pool, .func (PySem.W.fnOf "_law_pool" "_law_pool" (defArgs s_l_pool) (defBody s_l_pool) (defScope s_l_pool) .none kV_l_pool dc_l_pool pm_l_pool an_l_pool cd_l_pool ct_l_pool), sl_l_pool⟩)
    (c_l_pool : PySem.W.codeIn K cd_l_pool "_law_pool" = true)
    (k_l_pool : PySem.W.keepIn K (.ref f_l_pool) = true)
    (a_l_draw : PySem.W.nsIn K mainGlobals "_law_draw" = some (some (.ref f_l_draw)))
    (l_l_draw : K.lookup f_l_draw = some ⟨oc_l_draw, od_l_draw, .func (PySem.W.fnOf "_law_draw" "_law_draw" (defArgs s_l_draw) (defBody s_l_draw) (defScope s_l_draw) .none kV_l_draw dc_l_draw pm_l_draw an_l_draw cd_l_draw ct_l_draw), sl_l_draw⟩)
    (c_l_draw : PySem.W.codeIn K cd_l_draw "_law_draw" = true)
    (k_l_draw : PySem.W.keepIn K (.ref f_l_draw) = true)
    (a_l_kind : PySem.W.nsIn K mainGlobals "_law_kind" = some (some (.ref f_l_kind)))
    (l_l_kind : K.lookup f_l_kind = some ⟨oc_l_kind, od_l_kind, .func (PySem.W.fnOf "_law_kind" "_law_kind" (defArgs s_l_kind) (defBody s_l_kind) (defScope s_l_kind) .none kV_l_kind dc_l_kind pm_l_kind an_l_kind cd_l_kind ct_l_kind), sl_l_kind⟩)
    (c_l_kind : PySem.W.codeIn K cd_l_kind "_law_kind" = true)
    (k_l_kind : PySem.W.keepIn K (.ref f_l_kind) = true)
    (a_l_by_position : PySem.W.nsIn K mainGlobals "_law_by_position" = some (some (.ref f_l_by_position)))
    (l_l_by_position : K.lookup f_l_by_position = some ⟨oc_l_by_position, od_l_by_position, .func (PySem.W.fnOf "_law_by_position" "_law_by_position" (defArgs s_l_by_position) (defBody s_l_by_position) (defScope s_l_by_position) .none kV_l_by_position dc_l_by_position pm_l_by_position an_l_by_position cd_l_by_position ct_l_by_position), sl_l_by_position⟩)
    (c_l_by_position : PySem.W.codeIn K cd_l_by_position "_law_by_position" = true)
    (k_l_by_position : PySem.W.keepIn K (.ref f_l_by_position) = true)
    (a_l_by_name : PySem.W.nsIn K mainGlobals "_law_by_name" = some (some (.ref f_l_by_name)))
    (l_l_by_name : K.lookup f_l_by_name = some ⟨oc_l_by_name, od_l_by_name, .func (PySem.W.fnOf "_law_by_name" "_law_by_name" (defArgs s_l_by_name) (defBody s_l_by_name) (defScope s_l_by_name) .none kV_l_by_name dc_l_by_name pm_l_by_name an_l_by_name cd_l_by_name ct_l_by_name), sl_l_by_name⟩)
    (c_l_by_name : PySem.W.codeIn K cd_l_by_name "_law_by_name" = true)
    (k_l_by_name : PySem.W.keepIn K (.ref f_l_by_name) = true)
    (a_l_fields : PySem.W.nsIn K mainGlobals "_law_fields" = some (some (.ref f_l_fields)))
    (l_l_fields : K.lookup f_l_fields = some ⟨oc_l_fields, od_l_fields, .func (PySem.W.fnOf "_law_fields" "_law_fields" (defArgs s_l_fields) (defBody s_l_fields) (defScope s_l_fields) .none kV_l_fields dc_l_fields pm_l_fields an_l_fields cd_l_fields ct_l_fields), sl_l_fields⟩)
    (c_l_fields : PySem.W.codeIn K cd_l_fields "_law_fields" = true)
    (k_l_fields : PySem.W.keepIn K (.ref f_l_fields) = true)
    (a_l_right : PySem.W.nsIn K mainGlobals "_law_right" = some (some (.ref f_l_right)))
    (l_l_right : K.lookup f_l_right = some ⟨oc_l_right, od_l_right, .func (PySem.W.fnOf "_law_right" "_law_right" (defArgs s_l_right) (defBody s_l_right) (defScope s_l_right) .none kV_l_right dc_l_right pm_l_right an_l_right cd_l_right ct_l_right), sl_l_right⟩)
    (c_l_right : PySem.W.codeIn K cd_l_right "_law_right" = true)
    (k_l_right : PySem.W.keepIn K (.ref f_l_right) = true)
    (a_law : PySem.W.nsIn K mainGlobals "law" = some (some (.ref f_law)))
    (l_law : K.lookup f_law = some ⟨oc_law, od_law, .func (PySem.W.fnOf "law" "law" (defArgs s_law) (defBody s_law) (defScope s_law) .none kV_law dc_law pm_law an_law cd_law ct_law), sl_law⟩)
    (c_law : PySem.W.codeIn K cd_law "law" = true)
    (k_law : PySem.W.keepIn K (.ref f_law) = true)
    (z_len : PySem.W.nsIn K mainGlobals "len" = some none)
    (z_abs : PySem.W.nsIn K mainGlobals "abs" = some none)
    (z_divmod : PySem.W.nsIn K mainGlobals "divmod" = some none)
    (z_isinstance : PySem.W.nsIn K mainGlobals "isinstance" = some none)
    (z_ArithmeticError : PySem.W.nsIn K mainGlobals "ArithmeticError" = some none)
    (z_LookupError : PySem.W.nsIn K mainGlobals "LookupError" = some none)
    (z_ValueError : PySem.W.nsIn K mainGlobals "ValueError" = some none)
    (z_repr : PySem.W.nsIn K mainGlobals "repr" = some none)
    (z_list : PySem.W.nsIn K mainGlobals "list" = some none)
    (z_range : PySem.W.nsIn K mainGlobals "range" = some none)
    (z_min : PySem.W.nsIn K mainGlobals "min" = some none)
    (z_max : PySem.W.nsIn K mainGlobals "max" = some none)
    (z_all : PySem.W.nsIn K mainGlobals "all" = some none)
    (a_MOST_DEEDS : PySem.W.nsIn K mainGlobals "MOST_DEEDS" = some (some (.int 400 tk_MOST_DEEDS)))
    (a_MOST_RECORDS : PySem.W.nsIn K mainGlobals "MOST_RECORDS" = some (some (.int 40 tk_MOST_RECORDS)))
    (a_MOST_STEPS : PySem.W.nsIn K mainGlobals "MOST_STEPS" = some (some (.int 60 tk_MOST_STEPS)))
    (a_MOST_SIDE : PySem.W.nsIn K mainGlobals "MOST_SIDE" = some (some (.int 1000000 tk_MOST_SIDE)))
    (kr_imp : importsNone q = true)
    (ca_LimitError : PySem.W.nsIn K mainGlobals "LimitError" = some (some (.ref C_LimitError)))
    (ca_FindError : PySem.W.nsIn K mainGlobals "FindError" = some (some (.ref C_FindError)))
    (ca_PictureError : PySem.W.nsIn K mainGlobals "PictureError" = some (some (.ref C_PictureError)))
    (ca_TooManyDeeds : PySem.W.nsIn K mainGlobals "TooManyDeeds" = some (some (.ref C_TooManyDeeds)))
    (ca_TooManySteps : PySem.W.nsIn K mainGlobals "TooManySteps" = some (some (.ref C_TooManySteps)))
    (ca_NothingToUndo : PySem.W.nsIn K mainGlobals "NothingToUndo" = some (some (.ref C_NothingToUndo)))
    (ca_NameTaken : PySem.W.nsIn K mainGlobals "NameTaken" = some (some (.ref C_NameTaken)))
    (ca_UnknownName : PySem.W.nsIn K mainGlobals "UnknownName" = some (some (.ref C_UnknownName)))
    (ca_NoStep : PySem.W.nsIn K mainGlobals "NoStep" = some (some (.ref C_NoStep)))
    (ca_InvalidLine : PySem.W.nsIn K mainGlobals "InvalidLine" = some (some (.ref C_InvalidLine)))
    (ca_InvalidDeeds : PySem.W.nsIn K mainGlobals "InvalidDeeds" = some (some (.ref C_InvalidDeeds)))
    (ca_InvalidName : PySem.W.nsIn K mainGlobals "InvalidName" = some (some (.ref C_InvalidName)))
    (ca_InvalidRecords : PySem.W.nsIn K mainGlobals "InvalidRecords" = some (some (.ref C_InvalidRecords)))
    (ca_InvalidKind : PySem.W.nsIn K mainGlobals "InvalidKind" = some (some (.ref C_InvalidKind)))
    (ca_InvalidText : PySem.W.nsIn K mainGlobals "InvalidText" = some (some (.ref C_InvalidText)))
    (ca_InvalidChain : PySem.W.nsIn K mainGlobals "InvalidChain" = some (some (.ref C_InvalidChain)))
    (ca_InvalidSteps : PySem.W.nsIn K mainGlobals "InvalidSteps" = some (some (.ref C_InvalidSteps)))
    (ca_InvalidStep : PySem.W.nsIn K mainGlobals "InvalidStep" = some (some (.ref C_InvalidStep)))
    (ca_InvalidTimes : PySem.W.nsIn K mainGlobals "InvalidTimes" = some (some (.ref C_InvalidTimes)))
    (ca_InvalidKeep : PySem.W.nsIn K mainGlobals "InvalidKeep" = some (some (.ref C_InvalidKeep)))
    (ca_InvalidBox : PySem.W.nsIn K mainGlobals "InvalidBox" = some (some (.ref C_InvalidBox)))
    (ca_InvalidSize : PySem.W.nsIn K mainGlobals "InvalidSize" = some (some (.ref C_InvalidSize)))
    (ca_InvalidFraction : PySem.W.nsIn K mainGlobals "InvalidFraction" = some (some (.ref C_InvalidFraction)))
    (kr_kd_all : kindsB K [C_InvalidFraction, C_InvalidSize, C_InvalidBox, C_InvalidKeep, C_InvalidTimes, C_InvalidStep, C_InvalidSteps, C_InvalidChain, C_InvalidText, C_InvalidKind, C_InvalidRecords, C_InvalidName, C_InvalidDeeds, C_InvalidLine, C_NoStep, C_UnknownName, C_NameTaken, C_NothingToUndo, C_TooManySteps, C_TooManyDeeds, C_PictureError, C_FindError, C_LimitError] = true)
    (ex_TooManyDeeds : K.lookup C_TooManyDeeds = some (PySem.excClassObj enm_TooManyDeeds eq_TooManyDeeds C_TooManyDeeds eN_TooManyDeeds ebs_TooManyDeeds ebm_TooManyDeeds true esn_TooManyDeeds esub_TooManyDeeds eab_TooManyDeeds ecol_TooManyDeeds edd_TooManyDeeds ex0_TooManyDeeds ex1_TooManyDeeds ex2_TooManyDeeds ex3_TooManyDeeds ex5_TooManyDeeds "ArithmeticError.__new__"))
    (kr_ev_TooManyDeeds : refsB "ArithmeticError" ebm_TooManyDeeds = true)
    (ei_TooManyDeeds : PySem.W.findIn K (.ref C_TooManyDeeds) "__init__" = some (some (.ref fI_TooManyDeeds)))
    (kr_eb_TooManyDeeds : evNB K C_TooManyDeeds fI_TooManyDeeds "count" = true)
    (el_TooManyDeeds : K.lookup fI_TooManyDeeds = some ⟨yoc_TooManyDeeds, yod_TooManyDeeds, .func (PySem.W.fnOf "__init__" "TooManyDeeds.__init__" (evArgsN "count" yp1_TooManyDeeds yp2_TooManyDeeds) (evBodyN "count" yq1_TooManyDeeds yq2_TooManyDeeds yq3_TooManyDeeds yq4_TooManyDeeds) (evScopeN "count") .none .none ydc_TooManyDeeds ypm_TooManyDeeds yan_TooManyDeeds ycd_TooManyDeeds yct_TooManyDeeds), ysl_TooManyDeeds⟩)
    (ec_TooManyDeeds : PySem.W.codeIn K ycd_TooManyDeeds "TooManyDeeds.__init__" = true)
    (ex_TooManySteps : K.lookup C_TooManySteps = some (PySem.excClassObj enm_TooManySteps eq_TooManySteps C_TooManySteps eN_TooManySteps ebs_TooManySteps ebm_TooManySteps true esn_TooManySteps esub_TooManySteps eab_TooManySteps ecol_TooManySteps edd_TooManySteps ex0_TooManySteps ex1_TooManySteps ex2_TooManySteps ex3_TooManySteps ex5_TooManySteps "ArithmeticError.__new__"))
    (kr_ev_TooManySteps : refsB "ArithmeticError" ebm_TooManySteps = true)
    (ei_TooManySteps : PySem.W.findIn K (.ref C_TooManySteps) "__init__" = some (some (.ref fI_TooManySteps)))
    (kr_eb_TooManySteps : evNB K C_TooManySteps fI_TooManySteps "count" = true)
    (el_TooManySteps : K.lookup fI_TooManySteps = some ⟨yoc_TooManySteps, yod_TooManySteps, .func (PySem.W.fnOf "__init__" "TooManySteps.__init__" (evArgsN "count" yp1_TooManySteps yp2_TooManySteps) (evBodyN "count" yq1_TooManySteps yq2_TooManySteps yq3_TooManySteps yq4_TooManySteps) (evScopeN "count") .none .none ydc_TooManySteps ypm_TooManySteps yan_TooManySteps ycd_TooManySteps yct_TooManySteps), ysl_TooManySteps⟩)
    (ec_TooManySteps : PySem.W.codeIn K ycd_TooManySteps "TooManySteps.__init__" = true)
    (kr_xi_NothingToUndo : PySem.W.excIn K C_NothingToUndo (tailB "LookupError") "LookupError.__new__" = true)
    (kr_xk_NothingToUndo : PySem.W.keepIn K (.ref C_NothingToUndo) = true)
    (ex_NameTaken : K.lookup C_NameTaken = some (PySem.excClassObj enm_NameTaken eq_NameTaken C_NameTaken eN_NameTaken ebs_NameTaken ebm_NameTaken true esn_NameTaken esub_NameTaken eab_NameTaken ecol_NameTaken edd_NameTaken ex0_NameTaken ex1_NameTaken ex2_NameTaken ex3_NameTaken ex5_NameTaken "LookupError.__new__"))
    (kr_ev_NameTaken : refsB "LookupError" ebm_NameTaken = true)
    (ei_NameTaken : PySem.W.findIn K (.ref C_NameTaken) "__init__" = some (some (.ref fI_NameTaken)))
    (kr_eb_NameTaken : evNB K C_NameTaken fI_NameTaken "value" = true)
    (el_NameTaken : K.lookup fI_NameTaken = some ⟨yoc_NameTaken, yod_NameTaken, .func (PySem.W.fnOf "__init__" "NameTaken.__init__" (evArgsN "value" yp1_NameTaken yp2_NameTaken) (evBodyN "value" yq1_NameTaken yq2_NameTaken yq3_NameTaken yq4_NameTaken) (evScopeN "value") .none .none ydc_NameTaken ypm_NameTaken yan_NameTaken ycd_NameTaken yct_NameTaken), ysl_NameTaken⟩)
    (ec_NameTaken : PySem.W.codeIn K ycd_NameTaken "NameTaken.__init__" = true)
    (ex_UnknownName : K.lookup C_UnknownName = some (PySem.excClassObj enm_UnknownName eq_UnknownName C_UnknownName eN_UnknownName ebs_UnknownName ebm_UnknownName true esn_UnknownName esub_UnknownName eab_UnknownName ecol_UnknownName edd_UnknownName ex0_UnknownName ex1_UnknownName ex2_UnknownName ex3_UnknownName ex5_UnknownName "LookupError.__new__"))
    (kr_ev_UnknownName : refsB "LookupError" ebm_UnknownName = true)
    (ei_UnknownName : PySem.W.findIn K (.ref C_UnknownName) "__init__" = some (some (.ref fI_UnknownName)))
    (kr_eb_UnknownName : evNB K C_UnknownName fI_UnknownName "value" = true)
    (el_UnknownName : K.lookup fI_UnknownName = some ⟨yoc_UnknownName, yod_UnknownName, .func (PySem.W.fnOf "__init__" "UnknownName.__init__" (evArgsN "value" yp1_UnknownName yp2_UnknownName) (evBodyN "value" yq1_UnknownName yq2_UnknownName yq3_UnknownName yq4_UnknownName) (evScopeN "value") .none .none ydc_UnknownName ypm_UnknownName yan_UnknownName ycd_UnknownName yct_UnknownName), ysl_UnknownName⟩)
    (ec_UnknownName : PySem.W.codeIn K ycd_UnknownName "UnknownName.__init__" = true)
    (ex_NoStep : K.lookup C_NoStep = some (PySem.excClassObj enm_NoStep eq_NoStep C_NoStep eN_NoStep ebs_NoStep ebm_NoStep true esn_NoStep esub_NoStep eab_NoStep ecol_NoStep edd_NoStep ex0_NoStep ex1_NoStep ex2_NoStep ex3_NoStep ex5_NoStep "LookupError.__new__"))
    (kr_ev_NoStep : refsB "LookupError" ebm_NoStep = true)
    (ei_NoStep : PySem.W.findIn K (.ref C_NoStep) "__init__" = some (some (.ref fI_NoStep)))
    (kr_eb_NoStep : evNB K C_NoStep fI_NoStep "value" = true)
    (el_NoStep : K.lookup fI_NoStep = some ⟨yoc_NoStep, yod_NoStep, .func (PySem.W.fnOf "__init__" "NoStep.__init__" (evArgsN "value" yp1_NoStep yp2_NoStep) (evBodyN "value" yq1_NoStep yq2_NoStep yq3_NoStep yq4_NoStep) (evScopeN "value") .none .none ydc_NoStep ypm_NoStep yan_NoStep ycd_NoStep yct_NoStep), ysl_NoStep⟩)
    (ec_NoStep : PySem.W.codeIn K ycd_NoStep "NoStep.__init__" = true)
    (ex_InvalidLine : K.lookup C_InvalidLine = some (PySem.excClassObj enm_InvalidLine eq_InvalidLine C_InvalidLine eN_InvalidLine ebs_InvalidLine ebm_InvalidLine true esn_InvalidLine esub_InvalidLine eab_InvalidLine ecol_InvalidLine edd_InvalidLine ex0_InvalidLine ex1_InvalidLine ex2_InvalidLine ex3_InvalidLine ex5_InvalidLine "ValueError.__new__"))
    (kr_ev_InvalidLine : refsB "ValueError" ebm_InvalidLine = true)
    (ei_InvalidLine : PySem.W.findIn K (.ref C_InvalidLine) "__init__" = some (some (.ref fI_InvalidLine)))
    (kr_eb_InvalidLine : evNB K C_InvalidLine fI_InvalidLine "value" = true)
    (el_InvalidLine : K.lookup fI_InvalidLine = some ⟨yoc_InvalidLine, yod_InvalidLine, .func (PySem.W.fnOf "__init__" "InvalidLine.__init__" (evArgsN "value" yp1_InvalidLine yp2_InvalidLine) (evBodyN "value" yq1_InvalidLine yq2_InvalidLine yq3_InvalidLine yq4_InvalidLine) (evScopeN "value") .none .none ydc_InvalidLine ypm_InvalidLine yan_InvalidLine ycd_InvalidLine yct_InvalidLine), ysl_InvalidLine⟩)
    (ec_InvalidLine : PySem.W.codeIn K ycd_InvalidLine "InvalidLine.__init__" = true)
    (ex_InvalidDeeds : K.lookup C_InvalidDeeds = some (PySem.excClassObj enm_InvalidDeeds eq_InvalidDeeds C_InvalidDeeds eN_InvalidDeeds ebs_InvalidDeeds ebm_InvalidDeeds true esn_InvalidDeeds esub_InvalidDeeds eab_InvalidDeeds ecol_InvalidDeeds edd_InvalidDeeds ex0_InvalidDeeds ex1_InvalidDeeds ex2_InvalidDeeds ex3_InvalidDeeds ex5_InvalidDeeds "ValueError.__new__"))
    (kr_ev_InvalidDeeds : refsB "ValueError" ebm_InvalidDeeds = true)
    (ei_InvalidDeeds : PySem.W.findIn K (.ref C_InvalidDeeds) "__init__" = some (some (.ref fI_InvalidDeeds)))
    (kr_eb_InvalidDeeds : evNB K C_InvalidDeeds fI_InvalidDeeds "index" = true)
    (el_InvalidDeeds : K.lookup fI_InvalidDeeds = some ⟨yoc_InvalidDeeds, yod_InvalidDeeds, .func (PySem.W.fnOf "__init__" "InvalidDeeds.__init__" (evArgsN "index" yp1_InvalidDeeds yp2_InvalidDeeds) (evBodyN "index" yq1_InvalidDeeds yq2_InvalidDeeds yq3_InvalidDeeds yq4_InvalidDeeds) (evScopeN "index") .none .none ydc_InvalidDeeds ypm_InvalidDeeds yan_InvalidDeeds ycd_InvalidDeeds yct_InvalidDeeds), ysl_InvalidDeeds⟩)
    (ec_InvalidDeeds : PySem.W.codeIn K ycd_InvalidDeeds "InvalidDeeds.__init__" = true)
    (ex_InvalidName : K.lookup C_InvalidName = some (PySem.excClassObj enm_InvalidName eq_InvalidName C_InvalidName eN_InvalidName ebs_InvalidName ebm_InvalidName true esn_InvalidName esub_InvalidName eab_InvalidName ecol_InvalidName edd_InvalidName ex0_InvalidName ex1_InvalidName ex2_InvalidName ex3_InvalidName ex5_InvalidName "ValueError.__new__"))
    (kr_ev_InvalidName : refsB "ValueError" ebm_InvalidName = true)
    (ei_InvalidName : PySem.W.findIn K (.ref C_InvalidName) "__init__" = some (some (.ref fI_InvalidName)))
    (kr_eb_InvalidName : evNB K C_InvalidName fI_InvalidName "value" = true)
    (el_InvalidName : K.lookup fI_InvalidName = some ⟨yoc_InvalidName, yod_InvalidName, .func (PySem.W.fnOf "__init__" "InvalidName.__init__" (evArgsN "value" yp1_InvalidName yp2_InvalidName) (evBodyN "value" yq1_InvalidName yq2_InvalidName yq3_InvalidName yq4_InvalidName) (evScopeN "value") .none .none ydc_InvalidName ypm_InvalidName yan_InvalidName ycd_InvalidName yct_InvalidName), ysl_InvalidName⟩)
    (ec_InvalidName : PySem.W.codeIn K ycd_InvalidName "InvalidName.__init__" = true)
    (ex_InvalidRecords : K.lookup C_InvalidRecords = some (PySem.excClassObj enm_InvalidRecords eq_InvalidRecords C_InvalidRecords eN_InvalidRecords ebs_InvalidRecords ebm_InvalidRecords true esn_InvalidRecords esub_InvalidRecords eab_InvalidRecords ecol_InvalidRecords edd_InvalidRecords ex0_InvalidRecords ex1_InvalidRecords ex2_InvalidRecords ex3_InvalidRecords ex5_InvalidRecords "ValueError.__new__"))
    (kr_ev_InvalidRecords : refsB "ValueError" ebm_InvalidRecords = true)
    (ei_InvalidRecords : PySem.W.findIn K (.ref C_InvalidRecords) "__init__" = some (some (.ref fI_InvalidRecords)))
    (kr_eb_InvalidRecords : evNB K C_InvalidRecords fI_InvalidRecords "index" = true)
    (el_InvalidRecords : K.lookup fI_InvalidRecords = some ⟨yoc_InvalidRecords, yod_InvalidRecords, .func (PySem.W.fnOf "__init__" "InvalidRecords.__init__" (evArgsN "index" yp1_InvalidRecords yp2_InvalidRecords) (evBodyN "index" yq1_InvalidRecords yq2_InvalidRecords yq3_InvalidRecords yq4_InvalidRecords) (evScopeN "index") .none .none ydc_InvalidRecords ypm_InvalidRecords yan_InvalidRecords ycd_InvalidRecords yct_InvalidRecords), ysl_InvalidRecords⟩)
    (ec_InvalidRecords : PySem.W.codeIn K ycd_InvalidRecords "InvalidRecords.__init__" = true)
    (ex_InvalidKind : K.lookup C_InvalidKind = some (PySem.excClassObj enm_InvalidKind eq_InvalidKind C_InvalidKind eN_InvalidKind ebs_InvalidKind ebm_InvalidKind true esn_InvalidKind esub_InvalidKind eab_InvalidKind ecol_InvalidKind edd_InvalidKind ex0_InvalidKind ex1_InvalidKind ex2_InvalidKind ex3_InvalidKind ex5_InvalidKind "ValueError.__new__"))
    (kr_ev_InvalidKind : refsB "ValueError" ebm_InvalidKind = true)
    (ei_InvalidKind : PySem.W.findIn K (.ref C_InvalidKind) "__init__" = some (some (.ref fI_InvalidKind)))
    (kr_eb_InvalidKind : evNB K C_InvalidKind fI_InvalidKind "value" = true)
    (el_InvalidKind : K.lookup fI_InvalidKind = some ⟨yoc_InvalidKind, yod_InvalidKind, .func (PySem.W.fnOf "__init__" "InvalidKind.__init__" (evArgsN "value" yp1_InvalidKind yp2_InvalidKind) (evBodyN "value" yq1_InvalidKind yq2_InvalidKind yq3_InvalidKind yq4_InvalidKind) (evScopeN "value") .none .none ydc_InvalidKind ypm_InvalidKind yan_InvalidKind ycd_InvalidKind yct_InvalidKind), ysl_InvalidKind⟩)
    (ec_InvalidKind : PySem.W.codeIn K ycd_InvalidKind "InvalidKind.__init__" = true)
    (ex_InvalidText : K.lookup C_InvalidText = some (PySem.excClassObj enm_InvalidText eq_InvalidText C_InvalidText eN_InvalidText ebs_InvalidText ebm_InvalidText true esn_InvalidText esub_InvalidText eab_InvalidText ecol_InvalidText edd_InvalidText ex0_InvalidText ex1_InvalidText ex2_InvalidText ex3_InvalidText ex5_InvalidText "ValueError.__new__"))
    (kr_ev_InvalidText : refsB "ValueError" ebm_InvalidText = true)
    (ei_InvalidText : PySem.W.findIn K (.ref C_InvalidText) "__init__" = some (some (.ref fI_InvalidText)))
    (kr_eb_InvalidText : evNB K C_InvalidText fI_InvalidText "value" = true)
    (el_InvalidText : K.lookup fI_InvalidText = some ⟨yoc_InvalidText, yod_InvalidText, .func (PySem.W.fnOf "__init__" "InvalidText.__init__" (evArgsN "value" yp1_InvalidText yp2_InvalidText) (evBodyN "value" yq1_InvalidText yq2_InvalidText yq3_InvalidText yq4_InvalidText) (evScopeN "value") .none .none ydc_InvalidText ypm_InvalidText yan_InvalidText ycd_InvalidText yct_InvalidText), ysl_InvalidText⟩)
    (ec_InvalidText : PySem.W.codeIn K ycd_InvalidText "InvalidText.__init__" = true)
    (ex_InvalidChain : K.lookup C_InvalidChain = some (PySem.excClassObj enm_InvalidChain eq_InvalidChain C_InvalidChain eN_InvalidChain ebs_InvalidChain ebm_InvalidChain true esn_InvalidChain esub_InvalidChain eab_InvalidChain ecol_InvalidChain edd_InvalidChain ex0_InvalidChain ex1_InvalidChain ex2_InvalidChain ex3_InvalidChain ex5_InvalidChain "ValueError.__new__"))
    (kr_ev_InvalidChain : refsB "ValueError" ebm_InvalidChain = true)
    (ei_InvalidChain : PySem.W.findIn K (.ref C_InvalidChain) "__init__" = some (some (.ref fI_InvalidChain)))
    (kr_eb_InvalidChain : evNB K C_InvalidChain fI_InvalidChain "value" = true)
    (el_InvalidChain : K.lookup fI_InvalidChain = some ⟨yoc_InvalidChain, yod_InvalidChain, .func (PySem.W.fnOf "__init__" "InvalidChain.__init__" (evArgsN "value" yp1_InvalidChain yp2_InvalidChain) (evBodyN "value" yq1_InvalidChain yq2_InvalidChain yq3_InvalidChain yq4_InvalidChain) (evScopeN "value") .none .none ydc_InvalidChain ypm_InvalidChain yan_InvalidChain ycd_InvalidChain yct_InvalidChain), ysl_InvalidChain⟩)
    (ec_InvalidChain : PySem.W.codeIn K ycd_InvalidChain "InvalidChain.__init__" = true)
    (ex_InvalidSteps : K.lookup C_InvalidSteps = some (PySem.excClassObj enm_InvalidSteps eq_InvalidSteps C_InvalidSteps eN_InvalidSteps ebs_InvalidSteps ebm_InvalidSteps true esn_InvalidSteps esub_InvalidSteps eab_InvalidSteps ecol_InvalidSteps edd_InvalidSteps ex0_InvalidSteps ex1_InvalidSteps ex2_InvalidSteps ex3_InvalidSteps ex5_InvalidSteps "ValueError.__new__"))
    (kr_ev_InvalidSteps : refsB "ValueError" ebm_InvalidSteps = true)
    (ei_InvalidSteps : PySem.W.findIn K (.ref C_InvalidSteps) "__init__" = some (some (.ref fI_InvalidSteps)))
    (kr_eb_InvalidSteps : evNB K C_InvalidSteps fI_InvalidSteps "index" = true)
    (el_InvalidSteps : K.lookup fI_InvalidSteps = some ⟨yoc_InvalidSteps, yod_InvalidSteps, .func (PySem.W.fnOf "__init__" "InvalidSteps.__init__" (evArgsN "index" yp1_InvalidSteps yp2_InvalidSteps) (evBodyN "index" yq1_InvalidSteps yq2_InvalidSteps yq3_InvalidSteps yq4_InvalidSteps) (evScopeN "index") .none .none ydc_InvalidSteps ypm_InvalidSteps yan_InvalidSteps ycd_InvalidSteps yct_InvalidSteps), ysl_InvalidSteps⟩)
    (ec_InvalidSteps : PySem.W.codeIn K ycd_InvalidSteps "InvalidSteps.__init__" = true)
    (ex_InvalidStep : K.lookup C_InvalidStep = some (PySem.excClassObj enm_InvalidStep eq_InvalidStep C_InvalidStep eN_InvalidStep ebs_InvalidStep ebm_InvalidStep true esn_InvalidStep esub_InvalidStep eab_InvalidStep ecol_InvalidStep edd_InvalidStep ex0_InvalidStep ex1_InvalidStep ex2_InvalidStep ex3_InvalidStep ex5_InvalidStep "ValueError.__new__"))
    (kr_ev_InvalidStep : refsB "ValueError" ebm_InvalidStep = true)
    (ei_InvalidStep : PySem.W.findIn K (.ref C_InvalidStep) "__init__" = some (some (.ref fI_InvalidStep)))
    (kr_eb_InvalidStep : evNB K C_InvalidStep fI_InvalidStep "value" = true)
    (el_InvalidStep : K.lookup fI_InvalidStep = some ⟨yoc_InvalidStep, yod_InvalidStep, .func (PySem.W.fnOf "__init__" "InvalidStep.__init__" (evArgsN "value" yp1_InvalidStep yp2_InvalidStep) (evBodyN "value" yq1_InvalidStep yq2_InvalidStep yq3_InvalidStep yq4_InvalidStep) (evScopeN "value") .none .none ydc_InvalidStep ypm_InvalidStep yan_InvalidStep ycd_InvalidStep yct_InvalidStep), ysl_InvalidStep⟩)
    (ec_InvalidStep : PySem.W.codeIn K ycd_InvalidStep "InvalidStep.__init__" = true)
    (ex_InvalidTimes : K.lookup C_InvalidTimes = some (PySem.excClassObj enm_InvalidTimes eq_InvalidTimes C_InvalidTimes eN_InvalidTimes ebs_InvalidTimes ebm_InvalidTimes true esn_InvalidTimes esub_InvalidTimes eab_InvalidTimes ecol_InvalidTimes edd_InvalidTimes ex0_InvalidTimes ex1_InvalidTimes ex2_InvalidTimes ex3_InvalidTimes ex5_InvalidTimes "ValueError.__new__"))
    (kr_ev_InvalidTimes : refsB "ValueError" ebm_InvalidTimes = true)
    (ei_InvalidTimes : PySem.W.findIn K (.ref C_InvalidTimes) "__init__" = some (some (.ref fI_InvalidTimes)))
    (kr_eb_InvalidTimes : evNB K C_InvalidTimes fI_InvalidTimes "value" = true)
    (el_InvalidTimes : K.lookup fI_InvalidTimes = some ⟨yoc_InvalidTimes, yod_InvalidTimes, .func (PySem.W.fnOf "__init__" "InvalidTimes.__init__" (evArgsN "value" yp1_InvalidTimes yp2_InvalidTimes) (evBodyN "value" yq1_InvalidTimes yq2_InvalidTimes yq3_InvalidTimes yq4_InvalidTimes) (evScopeN "value") .none .none ydc_InvalidTimes ypm_InvalidTimes yan_InvalidTimes ycd_InvalidTimes yct_InvalidTimes), ysl_InvalidTimes⟩)
    (ec_InvalidTimes : PySem.W.codeIn K ycd_InvalidTimes "InvalidTimes.__init__" = true)
    (ex_InvalidKeep : K.lookup C_InvalidKeep = some (PySem.excClassObj enm_InvalidKeep eq_InvalidKeep C_InvalidKeep eN_InvalidKeep ebs_InvalidKeep ebm_InvalidKeep true esn_InvalidKeep esub_InvalidKeep eab_InvalidKeep ecol_InvalidKeep edd_InvalidKeep ex0_InvalidKeep ex1_InvalidKeep ex2_InvalidKeep ex3_InvalidKeep ex5_InvalidKeep "ValueError.__new__"))
    (kr_ev_InvalidKeep : refsB "ValueError" ebm_InvalidKeep = true)
    (ei_InvalidKeep : PySem.W.findIn K (.ref C_InvalidKeep) "__init__" = some (some (.ref fI_InvalidKeep)))
    (kr_eb_InvalidKeep : evNB K C_InvalidKeep fI_InvalidKeep "value" = true)
    (el_InvalidKeep : K.lookup fI_InvalidKeep = some ⟨yoc_InvalidKeep, yod_InvalidKeep, .func (PySem.W.fnOf "__init__" "InvalidKeep.__init__" (evArgsN "value" yp1_InvalidKeep yp2_InvalidKeep) (evBodyN "value" yq1_InvalidKeep yq2_InvalidKeep yq3_InvalidKeep yq4_InvalidKeep) (evScopeN "value") .none .none ydc_InvalidKeep ypm_InvalidKeep yan_InvalidKeep ycd_InvalidKeep yct_InvalidKeep), ysl_InvalidKeep⟩)
    (ec_InvalidKeep : PySem.W.codeIn K ycd_InvalidKeep "InvalidKeep.__init__" = true)
    (ex_InvalidBox : K.lookup C_InvalidBox = some (PySem.excClassObj enm_InvalidBox eq_InvalidBox C_InvalidBox eN_InvalidBox ebs_InvalidBox ebm_InvalidBox true esn_InvalidBox esub_InvalidBox eab_InvalidBox ecol_InvalidBox edd_InvalidBox ex0_InvalidBox ex1_InvalidBox ex2_InvalidBox ex3_InvalidBox ex5_InvalidBox "ValueError.__new__"))
    (kr_ev_InvalidBox : refsB "ValueError" ebm_InvalidBox = true)
    (ei_InvalidBox : PySem.W.findIn K (.ref C_InvalidBox) "__init__" = some (some (.ref fI_InvalidBox)))
    (kr_eb_InvalidBox : evNB K C_InvalidBox fI_InvalidBox "value" = true)
    (el_InvalidBox : K.lookup fI_InvalidBox = some ⟨yoc_InvalidBox, yod_InvalidBox, .func (PySem.W.fnOf "__init__" "InvalidBox.__init__" (evArgsN "value" yp1_InvalidBox yp2_InvalidBox) (evBodyN "value" yq1_InvalidBox yq2_InvalidBox yq3_InvalidBox yq4_InvalidBox) (evScopeN "value") .none .none ydc_InvalidBox ypm_InvalidBox yan_InvalidBox ycd_InvalidBox yct_InvalidBox), ysl_InvalidBox⟩)
    (ec_InvalidBox : PySem.W.codeIn K ycd_InvalidBox "InvalidBox.__init__" = true)
    (ex_InvalidSize : K.lookup C_InvalidSize = some (PySem.excClassObj enm_InvalidSize eq_InvalidSize C_InvalidSize eN_InvalidSize ebs_InvalidSize ebm_InvalidSize true esn_InvalidSize esub_InvalidSize eab_InvalidSize ecol_InvalidSize edd_InvalidSize ex0_InvalidSize ex1_InvalidSize ex2_InvalidSize ex3_InvalidSize ex5_InvalidSize "ValueError.__new__"))
    (kr_ev_InvalidSize : refsB "ValueError" ebm_InvalidSize = true)
    (ei_InvalidSize : PySem.W.findIn K (.ref C_InvalidSize) "__init__" = some (some (.ref fI_InvalidSize)))
    (kr_eb_InvalidSize : evNB K C_InvalidSize fI_InvalidSize "value" = true)
    (el_InvalidSize : K.lookup fI_InvalidSize = some ⟨yoc_InvalidSize, yod_InvalidSize, .func (PySem.W.fnOf "__init__" "InvalidSize.__init__" (evArgsN "value" yp1_InvalidSize yp2_InvalidSize) (evBodyN "value" yq1_InvalidSize yq2_InvalidSize yq3_InvalidSize yq4_InvalidSize) (evScopeN "value") .none .none ydc_InvalidSize ypm_InvalidSize yan_InvalidSize ycd_InvalidSize yct_InvalidSize), ysl_InvalidSize⟩)
    (ec_InvalidSize : PySem.W.codeIn K ycd_InvalidSize "InvalidSize.__init__" = true)
    (ex_InvalidFraction : K.lookup C_InvalidFraction = some (PySem.excClassObj enm_InvalidFraction eq_InvalidFraction C_InvalidFraction eN_InvalidFraction ebs_InvalidFraction ebm_InvalidFraction true esn_InvalidFraction esub_InvalidFraction eab_InvalidFraction ecol_InvalidFraction edd_InvalidFraction ex0_InvalidFraction ex1_InvalidFraction ex2_InvalidFraction ex3_InvalidFraction ex5_InvalidFraction "ValueError.__new__"))
    (kr_ev_InvalidFraction : refsB "ValueError" ebm_InvalidFraction = true)
    (ei_InvalidFraction : PySem.W.findIn K (.ref C_InvalidFraction) "__init__" = some (some (.ref fI_InvalidFraction)))
    (kr_eb_InvalidFraction : evNB K C_InvalidFraction fI_InvalidFraction "value" = true)
    (el_InvalidFraction : K.lookup fI_InvalidFraction = some ⟨yoc_InvalidFraction, yod_InvalidFraction, .func (PySem.W.fnOf "__init__" "InvalidFraction.__init__" (evArgsN "value" yp1_InvalidFraction yp2_InvalidFraction) (evBodyN "value" yq1_InvalidFraction yq2_InvalidFraction yq3_InvalidFraction yq4_InvalidFraction) (evScopeN "value") .none .none ydc_InvalidFraction ypm_InvalidFraction yan_InvalidFraction ycd_InvalidFraction yct_InvalidFraction), ysl_InvalidFraction⟩)
    (ec_InvalidFraction : PySem.W.codeIn K ycd_InvalidFraction "InvalidFraction.__init__" = true)
    (ca_Chain : PySem.W.nsIn K mainGlobals "Chain" = some (some (.ref C_Chain)))
    (cg_Chain : PySem.W.plainGet K C_Chain Str.empty = true)
    (ch_Chain : PySem.W.hasDictIn K C_Chain = true)
    (cp_Chain : PySem.W.plainOver K C_Chain = true)
    (cs_Chain : PySem.W.findIn K (.ref C_Chain) "__setattr__" = some (some (.builtin "object.__setattr__")))
    (cr1_Chain : PySem.W.readsIn K C_Chain (.type "type") = true)
    (cr2_Chain : PySem.W.specialIn K (.ref C_Chain) "__getattribute__" = some (some (.builtin "type.__getattribute__")))
    (cvq_Chain_MOST : PySem.W.findCls K (.ref C_Chain) (.type "type") "MOST" = some (.val (.int 60 tkv_Chain_MOST)))
    : Rear K mg mb [] h ∧ ∃ fd : FuncData, (∀ (s : Shared) (u : Value), BindsTo s fd ⟨[u], []⟩ [("_law_script", u)]) ∧ ∀ base : Heap, K.In base → base.Ns mainGlobals mg → (∃ o, base.get? sysModules = some o) → base.NoDigits → (∀ p ∈ ([] : List (Addr × Addr)), LamX.TabB base mg p.1 p.2) → FnT l.prog w K mg base 3 fa fd ["_law_script"] (sp_lawT T0) := by
  have e := hfa.symm.trans (PySem.W.mg_of X G a_law)
  cases e
  have F_l_cell := fun_mk (st := s_l_cell) l_l_cell c_l_cell k_l_cell
  have b_l_cell := F_l_cell.binds (ps := ["_law_script", "_law_k"]) fun _ _ _ _ _ _ us hl => match us, hl with | [_, _], _ => rfl
  have m_l_cell := PySem.W.mg_of X G a_l_cell
  have F_l_pool := fun_mk (st := s_l_pool) l_l_pool c_l_pool k_l_pool
  have b_l_pool := F_l_pool.binds (ps := ["_law_figure"]) fun _ _ _ _ _ _ us hl => match us, hl with | [_], _ => rfl
  have m_l_pool := PySem.W.mg_of X G a_l_pool
  have F_l_draw := fun_mk (st := s_l_draw) l_l_draw c_l_draw k_l_draw
  have b_l_draw := F_l_draw.binds (ps := ["_law_pool_here", "_law_most"]) fun _ _ _ _ _ _ us hl => match us, hl with | [_, _], _ => rfl
  have m_l_draw := PySem.W.mg_of X G a_l_draw
  have F_l_kind := fun_mk (st := s_l_kind) l_l_kind c_l_kind k_l_kind
  have b_l_kind := F_l_kind.binds (ps := ["_law_e"]) fun _ _ _ _ _ _ us hl => match us, hl with | [_], _ => rfl
  have m_l_kind := PySem.W.mg_of X G a_l_kind
  have F_l_by_position := fun_mk (st := s_l_by_position) l_l_by_position c_l_by_position k_l_by_position
  have b_l_by_position := F_l_by_position.binds (ps := ["_law_odd"]) fun _ _ _ _ _ _ us hl => match us, hl with | [_], _ => rfl
  have m_l_by_position := PySem.W.mg_of X G a_l_by_position
  have F_l_by_name := fun_mk (st := s_l_by_name) l_l_by_name c_l_by_name k_l_by_name
  have b_l_by_name := F_l_by_name.binds (ps := ["_law_odd"]) fun _ _ _ _ _ _ us hl => match us, hl with | [_], _ => rfl
  have m_l_by_name := PySem.W.mg_of X G a_l_by_name
  have F_l_fields := fun_mk (st := s_l_fields) l_l_fields c_l_fields k_l_fields
  have b_l_fields := F_l_fields.binds (ps := ["_law_found"]) fun _ _ _ _ _ _ us hl => match us, hl with | [_], _ => rfl
  have m_l_fields := PySem.W.mg_of X G a_l_fields
  have F_l_right := fun_mk (st := s_l_right) l_l_right c_l_right k_l_right
  have b_l_right := F_l_right.binds (ps := ["_law_pool_here"]) fun _ _ _ _ _ _ us hl => match us, hl with | [_], _ => rfl
  have m_l_right := PySem.W.mg_of X G a_l_right
  have F_law := fun_mk (st := s_law) l_law c_law k_law
  have b_law := F_law.binds (ps := ["_law_script"]) fun _ _ _ _ _ _ us hl => match us, hl with | [_], _ => rfl
  have m_law := PySem.W.mg_of X G a_law
  have n_len := PySem.W.mg_none_of X G z_len
  have n_abs := PySem.W.mg_none_of X G z_abs
  have n_divmod := PySem.W.mg_none_of X G z_divmod
  have n_isinstance := PySem.W.mg_none_of X G z_isinstance
  have n_ArithmeticError := PySem.W.mg_none_of X G z_ArithmeticError
  have n_LookupError := PySem.W.mg_none_of X G z_LookupError
  have n_ValueError := PySem.W.mg_none_of X G z_ValueError
  have n_repr := PySem.W.mg_none_of X G z_repr
  have n_list := PySem.W.mg_none_of X G z_list
  have n_range := PySem.W.mg_none_of X G z_range
  have n_min := PySem.W.mg_none_of X G z_min
  have n_max := PySem.W.mg_none_of X G z_max
  have n_all := PySem.W.mg_none_of X G z_all
  have c_MOST_DEEDS := PySem.W.mg_of X G a_MOST_DEEDS
  have c_MOST_RECORDS := PySem.W.mg_of X G a_MOST_RECORDS
  have c_MOST_STEPS := PySem.W.mg_of X G a_MOST_STEPS
  have c_MOST_SIDE := PySem.W.mg_of X G a_MOST_SIDE
  have m_LimitError := PySem.W.mg_of X G ca_LimitError
  have m_FindError := PySem.W.mg_of X G ca_FindError
  have m_PictureError := PySem.W.mg_of X G ca_PictureError
  have m_TooManyDeeds := PySem.W.mg_of X G ca_TooManyDeeds
  have m_TooManySteps := PySem.W.mg_of X G ca_TooManySteps
  have m_NothingToUndo := PySem.W.mg_of X G ca_NothingToUndo
  have m_NameTaken := PySem.W.mg_of X G ca_NameTaken
  have m_UnknownName := PySem.W.mg_of X G ca_UnknownName
  have m_NoStep := PySem.W.mg_of X G ca_NoStep
  have m_InvalidLine := PySem.W.mg_of X G ca_InvalidLine
  have m_InvalidDeeds := PySem.W.mg_of X G ca_InvalidDeeds
  have m_InvalidName := PySem.W.mg_of X G ca_InvalidName
  have m_InvalidRecords := PySem.W.mg_of X G ca_InvalidRecords
  have m_InvalidKind := PySem.W.mg_of X G ca_InvalidKind
  have m_InvalidText := PySem.W.mg_of X G ca_InvalidText
  have m_InvalidChain := PySem.W.mg_of X G ca_InvalidChain
  have m_InvalidSteps := PySem.W.mg_of X G ca_InvalidSteps
  have m_InvalidStep := PySem.W.mg_of X G ca_InvalidStep
  have m_InvalidTimes := PySem.W.mg_of X G ca_InvalidTimes
  have m_InvalidKeep := PySem.W.mg_of X G ca_InvalidKeep
  have m_InvalidBox := PySem.W.mg_of X G ca_InvalidBox
  have m_InvalidSize := PySem.W.mg_of X G ca_InvalidSize
  have m_InvalidFraction := PySem.W.mg_of X G ca_InvalidFraction
  have kd_all := kinds_of kr_kd_all
  have zn_TooManyDeeds : EvN K C_TooManyDeeds fI_TooManyDeeds "TooManyDeeds.__init__" "count" "ArithmeticError" "ArithmeticError.__new__" "ArithmeticError.__init__" := evN_of base_AE (.inr (.inr rfl)) ex_TooManyDeeds kr_ev_TooManyDeeds kr_eb_TooManyDeeds ei_TooManyDeeds el_TooManyDeeds ec_TooManyDeeds
  have zn_TooManySteps : EvN K C_TooManySteps fI_TooManySteps "TooManySteps.__init__" "count" "ArithmeticError" "ArithmeticError.__new__" "ArithmeticError.__init__" := evN_of base_AE (.inr (.inr rfl)) ex_TooManySteps kr_ev_TooManySteps kr_eb_TooManySteps ei_TooManySteps el_TooManySteps ec_TooManySteps
  have xi_NothingToUndo := kr_xi_NothingToUndo
  have xk_NothingToUndo := kr_xk_NothingToUndo
  have zn_NameTaken : EvN K C_NameTaken fI_NameTaken "NameTaken.__init__" "value" "LookupError" "LookupError.__new__" "LookupError.__init__" := evN_of base_LE (.inl rfl) ex_NameTaken kr_ev_NameTaken kr_eb_NameTaken ei_NameTaken el_NameTaken ec_NameTaken
  have zn_UnknownName : EvN K C_UnknownName fI_UnknownName "UnknownName.__init__" "value" "LookupError" "LookupError.__new__" "LookupError.__init__" := evN_of base_LE (.inl rfl) ex_UnknownName kr_ev_UnknownName kr_eb_UnknownName ei_UnknownName el_UnknownName ec_UnknownName
  have zn_NoStep : EvN K C_NoStep fI_NoStep "NoStep.__init__" "value" "LookupError" "LookupError.__new__" "LookupError.__init__" := evN_of base_LE (.inl rfl) ex_NoStep kr_ev_NoStep kr_eb_NoStep ei_NoStep el_NoStep ec_NoStep
  have zn_InvalidLine : EvN K C_InvalidLine fI_InvalidLine "InvalidLine.__init__" "value" "ValueError" "ValueError.__new__" "ValueError.__init__" := evN_of base_VE (.inl rfl) ex_InvalidLine kr_ev_InvalidLine kr_eb_InvalidLine ei_InvalidLine el_InvalidLine ec_InvalidLine
  have zn_InvalidDeeds : EvN K C_InvalidDeeds fI_InvalidDeeds "InvalidDeeds.__init__" "index" "ValueError" "ValueError.__new__" "ValueError.__init__" := evN_of base_VE (.inr (.inl rfl)) ex_InvalidDeeds kr_ev_InvalidDeeds kr_eb_InvalidDeeds ei_InvalidDeeds el_InvalidDeeds ec_InvalidDeeds
  have zn_InvalidName : EvN K C_InvalidName fI_InvalidName "InvalidName.__init__" "value" "ValueError" "ValueError.__new__" "ValueError.__init__" := evN_of base_VE (.inl rfl) ex_InvalidName kr_ev_InvalidName kr_eb_InvalidName ei_InvalidName el_InvalidName ec_InvalidName
  have zn_InvalidRecords : EvN K C_InvalidRecords fI_InvalidRecords "InvalidRecords.__init__" "index" "ValueError" "ValueError.__new__" "ValueError.__init__" := evN_of base_VE (.inr (.inl rfl)) ex_InvalidRecords kr_ev_InvalidRecords kr_eb_InvalidRecords ei_InvalidRecords el_InvalidRecords ec_InvalidRecords
  have zn_InvalidKind : EvN K C_InvalidKind fI_InvalidKind "InvalidKind.__init__" "value" "ValueError" "ValueError.__new__" "ValueError.__init__" := evN_of base_VE (.inl rfl) ex_InvalidKind kr_ev_InvalidKind kr_eb_InvalidKind ei_InvalidKind el_InvalidKind ec_InvalidKind
  have zn_InvalidText : EvN K C_InvalidText fI_InvalidText "InvalidText.__init__" "value" "ValueError" "ValueError.__new__" "ValueError.__init__" := evN_of base_VE (.inl rfl) ex_InvalidText kr_ev_InvalidText kr_eb_InvalidText ei_InvalidText el_InvalidText ec_InvalidText
  have zn_InvalidChain : EvN K C_InvalidChain fI_InvalidChain "InvalidChain.__init__" "value" "ValueError" "ValueError.__new__" "ValueError.__init__" := evN_of base_VE (.inl rfl) ex_InvalidChain kr_ev_InvalidChain kr_eb_InvalidChain ei_InvalidChain el_InvalidChain ec_InvalidChain
  have zn_InvalidSteps : EvN K C_InvalidSteps fI_InvalidSteps "InvalidSteps.__init__" "index" "ValueError" "ValueError.__new__" "ValueError.__init__" := evN_of base_VE (.inr (.inl rfl)) ex_InvalidSteps kr_ev_InvalidSteps kr_eb_InvalidSteps ei_InvalidSteps el_InvalidSteps ec_InvalidSteps
  have zn_InvalidStep : EvN K C_InvalidStep fI_InvalidStep "InvalidStep.__init__" "value" "ValueError" "ValueError.__new__" "ValueError.__init__" := evN_of base_VE (.inl rfl) ex_InvalidStep kr_ev_InvalidStep kr_eb_InvalidStep ei_InvalidStep el_InvalidStep ec_InvalidStep
  have zn_InvalidTimes : EvN K C_InvalidTimes fI_InvalidTimes "InvalidTimes.__init__" "value" "ValueError" "ValueError.__new__" "ValueError.__init__" := evN_of base_VE (.inl rfl) ex_InvalidTimes kr_ev_InvalidTimes kr_eb_InvalidTimes ei_InvalidTimes el_InvalidTimes ec_InvalidTimes
  have zn_InvalidKeep : EvN K C_InvalidKeep fI_InvalidKeep "InvalidKeep.__init__" "value" "ValueError" "ValueError.__new__" "ValueError.__init__" := evN_of base_VE (.inl rfl) ex_InvalidKeep kr_ev_InvalidKeep kr_eb_InvalidKeep ei_InvalidKeep el_InvalidKeep ec_InvalidKeep
  have zn_InvalidBox : EvN K C_InvalidBox fI_InvalidBox "InvalidBox.__init__" "value" "ValueError" "ValueError.__new__" "ValueError.__init__" := evN_of base_VE (.inl rfl) ex_InvalidBox kr_ev_InvalidBox kr_eb_InvalidBox ei_InvalidBox el_InvalidBox ec_InvalidBox
  have zn_InvalidSize : EvN K C_InvalidSize fI_InvalidSize "InvalidSize.__init__" "value" "ValueError" "ValueError.__new__" "ValueError.__init__" := evN_of base_VE (.inl rfl) ex_InvalidSize kr_ev_InvalidSize kr_eb_InvalidSize ei_InvalidSize el_InvalidSize ec_InvalidSize
  have zn_InvalidFraction : EvN K C_InvalidFraction fI_InvalidFraction "InvalidFraction.__init__" "value" "ValueError" "ValueError.__new__" "ValueError.__init__" := evN_of base_VE (.inl rfl) ex_InvalidFraction kr_ev_InvalidFraction kr_eb_InvalidFraction ei_InvalidFraction el_InvalidFraction ec_InvalidFraction
  have m_Chain := PySem.W.mg_of X G ca_Chain
  have cl_Chain : Cls K C_Chain := ⟨cg_Chain, ch_Chain, cp_Chain, cs_Chain⟩
  have cr_Chain : ClX.CRead K C_Chain (.type "type") := ⟨cr1_Chain, cr2_Chain⟩
  have cv_Chain_MOST : CValT K C_Chain "MOST" (.int 60) := ⟨.int 60, _, ⟨cvq_Chain_MOST, ⟨_, rfl⟩⟩, fun _ _ _ => .int _⟩
  refine ⟨⟨X, G, TP.b, TP.builtins, TP.nolimit, (let ⟨mm, a, _⟩ := (TP.seer kr_imp).mods; ⟨mm, a⟩), TP.bmain, ?_, ?_, ?_⟩, ?_⟩
  · exact fun _ m => nomatch m
  · exact fun _ m => nomatch m
  · exact fun _ m => nomatch m
  refine ⟨PySem.W.fnOf "law" "law" (defArgs s_law) (defBody s_law) (defScope s_law) .none kV_law dc_law pm_law an_law cd_law ct_law, fun s u => .of_eq rfl, fun base inB nsB sysB ND TBs => ?_⟩
  have SYS := sysB
  have G_l_cell := ok_l_cell (P := l.prog) (w := w) (mg := mg) (base := base) F_l_cell n_len
  have G_l_pool := ok_l_pool (P := l.prog) (w := w) (mg := mg) (base := base) F_l_pool n_abs
  have G_l_draw := ok_l_draw (P := l.prog) (w := w) (mg := mg) (base := base) F_l_draw n_divmod
  have G_l_kind := ok_l_kind (P := l.prog) (w := w) (mg := mg) (base := base) (C_InvalidFraction := C_InvalidFraction) (C_InvalidSize := C_InvalidSize) (C_InvalidBox := C_InvalidBox) (C_InvalidKeep := C_InvalidKeep) (C_InvalidTimes := C_InvalidTimes) (C_InvalidStep := C_InvalidStep) (C_InvalidSteps := C_InvalidSteps) (C_InvalidChain := C_InvalidChain) (C_InvalidText := C_InvalidText) (C_InvalidKind := C_InvalidKind) (C_InvalidRecords := C_InvalidRecords) (C_InvalidName := C_InvalidName) (C_InvalidDeeds := C_InvalidDeeds) (C_InvalidLine := C_InvalidLine) (C_NoStep := C_NoStep) (C_UnknownName := C_UnknownName) (C_NameTaken := C_NameTaken) (C_NothingToUndo := C_NothingToUndo) (C_TooManySteps := C_TooManySteps) (C_TooManyDeeds := C_TooManyDeeds) (C_PictureError := C_PictureError) (C_FindError := C_FindError) (C_LimitError := C_LimitError) F_l_kind n_isinstance n_ArithmeticError n_LookupError n_ValueError m_LimitError m_FindError m_PictureError m_TooManyDeeds m_TooManySteps m_NothingToUndo m_NameTaken m_UnknownName m_NoStep m_InvalidLine m_InvalidDeeds m_InvalidName m_InvalidRecords m_InvalidKind m_InvalidText m_InvalidChain m_InvalidSteps m_InvalidStep m_InvalidTimes m_InvalidKeep m_InvalidBox m_InvalidSize m_InvalidFraction kd_all
  have G_l_by_position := ok_l_by_position (P := l.prog) (w := w) (mg := mg) (base := base) (C_InvalidFraction := C_InvalidFraction) (C_InvalidSize := C_InvalidSize) (C_InvalidBox := C_InvalidBox) (C_InvalidKeep := C_InvalidKeep) (C_InvalidTimes := C_InvalidTimes) (C_InvalidStep := C_InvalidStep) (C_InvalidSteps := C_InvalidSteps) (C_InvalidChain := C_InvalidChain) (C_InvalidText := C_InvalidText) (C_InvalidKind := C_InvalidKind) (C_InvalidRecords := C_InvalidRecords) (C_InvalidName := C_InvalidName) (C_InvalidDeeds := C_InvalidDeeds) (C_InvalidLine := C_InvalidLine) (C_NoStep := C_NoStep) (C_UnknownName := C_UnknownName) (C_NameTaken := C_NameTaken) (C_NothingToUndo := C_NothingToUndo) (C_TooManySteps := C_TooManySteps) (C_TooManyDeeds := C_TooManyDeeds) (C_PictureError := C_PictureError) (C_FindError := C_FindError) (C_LimitError := C_LimitError) F_l_by_position m_TooManyDeeds zn_TooManyDeeds m_TooManySteps zn_TooManySteps m_NothingToUndo xi_NothingToUndo xk_NothingToUndo m_NameTaken zn_NameTaken m_UnknownName zn_UnknownName m_NoStep zn_NoStep m_InvalidLine zn_InvalidLine m_InvalidDeeds zn_InvalidDeeds m_InvalidName zn_InvalidName m_InvalidRecords zn_InvalidRecords m_InvalidKind zn_InvalidKind m_InvalidText zn_InvalidText m_InvalidChain zn_InvalidChain m_InvalidSteps zn_InvalidSteps m_InvalidStep zn_InvalidStep m_InvalidTimes zn_InvalidTimes m_InvalidKeep zn_InvalidKeep m_InvalidBox zn_InvalidBox m_InvalidSize zn_InvalidSize m_InvalidFraction zn_InvalidFraction
  have G_l_by_name := ok_l_by_name (P := l.prog) (w := w) (mg := mg) (base := base) (C_InvalidFraction := C_InvalidFraction) (C_InvalidSize := C_InvalidSize) (C_InvalidBox := C_InvalidBox) (C_InvalidKeep := C_InvalidKeep) (C_InvalidTimes := C_InvalidTimes) (C_InvalidStep := C_InvalidStep) (C_InvalidSteps := C_InvalidSteps) (C_InvalidChain := C_InvalidChain) (C_InvalidText := C_InvalidText) (C_InvalidKind := C_InvalidKind) (C_InvalidRecords := C_InvalidRecords) (C_InvalidName := C_InvalidName) (C_InvalidDeeds := C_InvalidDeeds) (C_InvalidLine := C_InvalidLine) (C_NoStep := C_NoStep) (C_UnknownName := C_UnknownName) (C_NameTaken := C_NameTaken) (C_NothingToUndo := C_NothingToUndo) (C_TooManySteps := C_TooManySteps) (C_TooManyDeeds := C_TooManyDeeds) (C_PictureError := C_PictureError) (C_FindError := C_FindError) (C_LimitError := C_LimitError) F_l_by_name m_TooManyDeeds zn_TooManyDeeds m_TooManySteps zn_TooManySteps m_NothingToUndo xi_NothingToUndo xk_NothingToUndo m_NameTaken zn_NameTaken m_UnknownName zn_UnknownName m_NoStep zn_NoStep m_InvalidLine zn_InvalidLine m_InvalidDeeds zn_InvalidDeeds m_InvalidName zn_InvalidName m_InvalidRecords zn_InvalidRecords m_InvalidKind zn_InvalidKind m_InvalidText zn_InvalidText m_InvalidChain zn_InvalidChain m_InvalidSteps zn_InvalidSteps m_InvalidStep zn_InvalidStep m_InvalidTimes zn_InvalidTimes m_InvalidKeep zn_InvalidKeep m_InvalidBox zn_InvalidBox m_InvalidSize zn_InvalidSize m_InvalidFraction zn_InvalidFraction
  have G_l_fields := ok_l_fields (P := l.prog) (w := w) (mg := mg) (base := base) F_l_fields 
  have G_l_right := ok_l_right (P := l.prog) (w := w) (mg := mg) (base := base) F_l_right n_repr n_list n_range G_l_by_name m_l_by_name k_l_by_name b_l_by_name G_l_by_position m_l_by_position k_l_by_position b_l_by_position G_l_fields m_l_fields k_l_fields b_l_fields G_l_kind m_l_kind k_l_kind b_l_kind G_l_draw m_l_draw k_l_draw b_l_draw SYS kd_all
  have G_law : FnT _ _ K mg base _ _ _ _ (sp_lawT T0) := ok_law (P := l.prog) (w := w) (mg := mg) (base := base) F_law n_range n_len n_min n_max n_all c_MOST_DEEDS c_MOST_RECORDS c_MOST_STEPS c_MOST_SIDE G_l_right m_l_right k_l_right b_l_right G_l_pool m_l_pool k_l_pool b_l_pool G_l_cell m_l_cell k_l_cell b_l_cell m_Chain cr_Chain cv_Chain_MOST
  exact G_law
end Gd
open PySem PySem.W PyProof.Rows
set_option maxRecDepth 100000 in
set_option maxHeartbeats 0 in
theorem PySem.Challenge.cw_sizechains_k88_limits_and_errors_made_holds : PySem.Challenge.rw_sizechains_k88_limits_and_errors_made.Holds := by
  w_on; o_law
  refine PySem.W.holds_open (q := Gd.q0) (loose := Gd.loose0) (Xt := Gd.seen0) (XP := PySem.W.XL Gd.q0 Gd.lv0) Gd.left0 (PySem.W.kmHook Gd.K0 Gd.as0 Gd.as0_ok Gd.ts0).of
    (PySem.W.kmHook Gd.K0 Gd.as0 Gd.as0_ok Gd.ts0).keeps (fun s h => PySem.W.xl_of s (Bool.and_eq_true_iff.mp h).1) PySem.W.XL.keeps
    (by rfl) (by rfl) (by rfl) (fun s h => PySem.W.recFacts_of (Bool.and_eq_true_iff.mp h).2) (by rfl) (by assumption) (by decide +kernel)
    ⟨rfl, rfl, rfl, rfl, rfl, by decide +kernel⟩ ?hw ?hc
  (case hw => w_witness2)
  k_fill
  refine Gd.walkTD (l := PySem.Challenge.rw_sizechains_k88_limits_and_errors_made) (k := 3) (x := "_law_script") (cs := []) (T0 := Gd.T0) rfl rfl ⟨rfl, by decide, by decide⟩ (fun w h Y => PySem.W.km_in_of Y) ?F (by decide) ?T ?C
  case T => exact fun _ m => nomatch m
  case C => exact fun _ m => nomatch m
  case F =>
    intro w mean mg mb fa h TP Y KX G hmg
    refine' Gd.all_mk TP (PySem.W.km_tabs_of Y) KX G hmg ?a_l_cell ?l_l_cell ?c_l_cell ?k_l_cell ?a_l_pool ?l_l_pool ?c_l_pool ?k_l_pool ?a_l_draw ?l_l_draw ?c_l_draw ?k_l_draw ?a_l_kind ?l_l_kind ?c_l_kind ?k_l_kind ?a_l_by_position ?l_l_by_position ?c_l_by_position ?k_l_by_position ?a_l_by_name ?l_l_by_name ?c_l_by_name ?k_l_by_name ?a_l_fields ?l_l_fields ?c_l_fields ?k_l_fields ?a_l_right ?l_l_right ?c_l_right ?k_l_right ?a_law ?l_law ?c_law ?k_law ?z_len ?z_abs ?z_divmod ?z_isinstance ?z_ArithmeticError ?z_LookupError ?z_ValueError ?z_repr ?z_list ?z_range ?z_min ?z_max ?z_all ?a_MOST_DEEDS ?a_MOST_RECORDS ?a_MOST_STEPS ?a_MOST_SIDE ?kr_imp ?ca_LimitError ?ca_FindError ?ca_PictureError ?ca_TooManyDeeds ?ca_TooManySteps ?ca_NothingToUndo ?ca_NameTaken ?ca_UnknownName ?ca_NoStep ?ca_InvalidLine ?ca_InvalidDeeds ?ca_InvalidName ?ca_InvalidRecords ?ca_InvalidKind ?ca_InvalidText ?ca_InvalidChain ?ca_InvalidSteps ?ca_InvalidStep ?ca_InvalidTimes ?ca_InvalidKeep ?ca_InvalidBox ?ca_InvalidSize ?ca_InvalidFraction ?kr_kd_all ?ex_TooManyDeeds ?kr_ev_TooManyDeeds ?ei_TooManyDeeds ?kr_eb_TooManyDeeds ?el_TooManyDeeds ?ec_TooManyDeeds ?ex_TooManySteps ?kr_ev_TooManySteps ?ei_TooManySteps ?kr_eb_TooManySteps ?el_TooManySteps ?ec_TooManySteps ?kr_xi_NothingToUndo ?kr_xk_NothingToUndo ?ex_NameTaken ?kr_ev_NameTaken ?ei_NameTaken ?kr_eb_NameTaken ?el_NameTaken ?ec_NameTaken ?ex_UnknownName ?kr_ev_UnknownName ?ei_UnknownName ?kr_eb_UnknownName ?el_UnknownName ?ec_UnknownName ?ex_NoStep ?kr_ev_NoStep ?ei_NoStep ?kr_eb_NoStep ?el_NoStep ?ec_NoStep ?ex_InvalidLine ?kr_ev_InvalidLine ?ei_InvalidLine ?kr_eb_InvalidLine ?el_InvalidLine ?ec_InvalidLine ?ex_InvalidDeeds ?kr_ev_InvalidDeeds ?ei_InvalidDeeds ?kr_eb_InvalidDeeds ?el_InvalidDeeds ?ec_InvalidDeeds ?ex_InvalidName ?kr_ev_InvalidName ?ei_InvalidName ?kr_eb_InvalidName ?el_InvalidName ?ec_InvalidName ?ex_InvalidRecords ?kr_ev_InvalidRecords ?ei_InvalidRecords ?kr_eb_InvalidRecords ?el_InvalidRecords ?ec_InvalidRecords ?ex_InvalidKind ?kr_ev_InvalidKind ?ei_InvalidKind ?kr_eb_InvalidKind ?el_InvalidKind ?ec_InvalidKind ?ex_InvalidText ?kr_ev_InvalidText ?ei_InvalidText ?kr_eb_InvalidText ?el_InvalidText ?ec_InvalidText ?ex_InvalidChain ?kr_ev_InvalidChain ?ei_InvalidChain ?kr_eb_InvalidChain ?el_InvalidChain ?ec_InvalidChain ?ex_InvalidSteps ?kr_ev_InvalidSteps ?ei_InvalidSteps ?kr_eb_InvalidSteps ?el_InvalidSteps ?ec_InvalidSteps ?ex_InvalidStep ?kr_ev_InvalidStep ?ei_InvalidStep ?kr_eb_InvalidStep ?el_InvalidStep ?ec_InvalidStep ?ex_InvalidTimes ?kr_ev_InvalidTimes ?ei_InvalidTimes ?kr_eb_InvalidTimes ?el_InvalidTimes ?ec_InvalidTimes ?ex_InvalidKeep ?kr_ev_InvalidKeep ?ei_InvalidKeep ?kr_eb_InvalidKeep ?el_InvalidKeep ?ec_InvalidKeep ?ex_InvalidBox ?kr_ev_InvalidBox ?ei_InvalidBox ?kr_eb_InvalidBox ?el_InvalidBox ?ec_InvalidBox ?ex_InvalidSize ?kr_ev_InvalidSize ?ei_InvalidSize ?kr_eb_InvalidSize ?el_InvalidSize ?ec_InvalidSize ?ex_InvalidFraction ?kr_ev_InvalidFraction ?ei_InvalidFraction ?kr_eb_InvalidFraction ?el_InvalidFraction ?ec_InvalidFraction ?ca_Chain ?cg_Chain ?ch_Chain ?cp_Chain ?cs_Chain ?cr1_Chain ?cr2_Chain ?cvq_Chain_MOST
    (case a_l_cell => first | k_is | kernel_rfl | rfl | decide +kernel)
    (case l_l_cell => first | k_is | kernel_rfl | rfl | decide +kernel)
    (case c_l_cell => first | k_is | kernel_rfl | rfl | decide +kernel)
    (case k_l_cell => first | k_is | kernel_rfl | rfl | decide +kernel)
    (case a_l_pool => first | k_is | kernel_rfl | rfl | decide +kernel)
    (case l_l_pool => first | k_is | kernel_rfl | rfl | decide +kernel)
    (case c_l_pool => first | k_is | kernel_rfl | rfl | decide +kernel)
    (case k_l_pool => first | k_is | kernel_rfl | rfl | decide +kernel)
    (case a_l_draw => first | k_is | kernel_rfl | rfl | decide +kernel)
    (case l_l_draw => first | k_is | kernel_rfl | rfl | decide +kernel)
    (case c_l_draw => first | k_is | kernel_rfl | rfl | decide +kernel)
    (case k_l_draw => first | k_is | kernel_rfl | rfl | decide +kernel)
    (case a_l_kind => first | k_is | kernel_rfl | rfl | decide +kernel)
    (case l_l_kind => first | k_is | kernel_rfl | rfl | decide +kernel)
    (case c_l_kind => first | k_is | kernel_rfl | rfl | decide +kernel)
    (case k_l_kind => first | k_is | kernel_rfl | rfl | decide +kernel)
    (case a_l_by_position => first | k_is | kernel_rfl | rfl | decide +kernel)
    (case l_l_by_position => first | k_is | kernel_rfl | rfl | decide +kernel)
    (case c_l_by_position => first | k_is | kernel_rfl | rfl | decide +kernel)
    (case k_l_by_position => first | k_is | kernel_rfl | rfl | decide +kernel)
    (case a_l_by_name => first | k_is | kernel_rfl | rfl | decide +kernel)
    (case l_l_by_name => first | k_is | kernel_rfl | rfl | decide +kernel)
    (case c_l_by_name => first | k_is | kernel_rfl | rfl | decide +kernel)
    (case k_l_by_name => first | k_is | kernel_rfl | rfl | decide +kernel)
    (case a_l_fields => first | k_is | kernel_rfl | rfl | decide +kernel)
    (case l_l_fields => first | k_is | kernel_rfl | rfl | decide +kernel)
    (case c_l_fields => first | k_is | kernel_rfl | rfl | decide +kernel)
    (case k_l_fields => first | k_is | kernel_rfl | rfl | decide +kernel)
    (case a_l_right => first | k_is | kernel_rfl | rfl | decide +kernel)
    (case l_l_right => first | k_is | kernel_rfl | rfl | decide +kernel)
    (case c_l_right => first | k_is | kernel_rfl | rfl | decide +kernel)
    (case k_l_right => first | k_is | kernel_rfl | rfl | decide +kernel)
    (case a_law => first | k_is | kernel_rfl | rfl | decide +kernel)
    (case l_law => first | k_is | kernel_rfl | rfl | decide +kernel)
    (case c_law => first | k_is | kernel_rfl | rfl | decide +kernel)
    (case k_law => first | k_is | kernel_rfl | rfl | decide +kernel)
    (case z_len => first | k_is | kernel_rfl | rfl | decide +kernel)
    (case z_abs => first | k_is | kernel_rfl | rfl | decide +kernel)
    (case z_divmod => first | k_is | kernel_rfl | rfl | decide +kernel)
    (case z_isinstance => first | k_is | kernel_rfl | rfl | decide +kernel)
    (case z_ArithmeticError => first | k_is | kernel_rfl | rfl | decide +kernel)
    (case z_LookupError => first | k_is | kernel_rfl | rfl | decide +kernel)
    (case z_ValueError => first | k_is | kernel_rfl | rfl | decide +kernel)
    (case z_repr => first | k_is | kernel_rfl | rfl | decide +kernel)
    (case z_list => first | k_is | kernel_rfl | rfl | decide +kernel)
    (case z_range => first | k_is | kernel_rfl | rfl | decide +kernel)
    (case z_min => first | k_is | kernel_rfl | rfl | decide +kernel)
    (case z_max => first | k_is | kernel_rfl | rfl | decide +kernel)
    (case z_all => first | k_is | kernel_rfl | rfl | decide +kernel)
    (case a_MOST_DEEDS => first | k_is | kernel_rfl | rfl | decide +kernel)
    (case a_MOST_RECORDS => first | k_is | kernel_rfl | rfl | decide +kernel)
    (case a_MOST_STEPS => first | k_is | kernel_rfl | rfl | decide +kernel)
    (case a_MOST_SIDE => first | k_is | kernel_rfl | rfl | decide +kernel)
    (case kr_imp => first | kernel_rfl | rfl | decide +kernel)
    (case ca_LimitError => first | k_is | kernel_rfl | rfl | decide +kernel)
    (case ca_FindError => first | k_is | kernel_rfl | rfl | decide +kernel)
    (case ca_PictureError => first | k_is | kernel_rfl | rfl | decide +kernel)
    (case ca_TooManyDeeds => first | k_is | kernel_rfl | rfl | decide +kernel)
    (case ca_TooManySteps => first | k_is | kernel_rfl | rfl | decide +kernel)
    (case ca_NothingToUndo => first | k_is | kernel_rfl | rfl | decide +kernel)
    (case ca_NameTaken => first | k_is | kernel_rfl | rfl | decide +kernel)
    (case ca_UnknownName => first | k_is | kernel_rfl | rfl | decide +kernel)
    (case ca_NoStep => first | k_is | kernel_rfl | rfl | decide +kernel)
    (case ca_InvalidLine => first | k_is | kernel_rfl | rfl | decide +kernel)
    (case ca_InvalidDeeds => first | k_is | kernel_rfl | rfl | decide +kernel)
    (case ca_InvalidName => first | k_is | kernel_rfl | rfl | decide +kernel)
    (case ca_InvalidRecords => first | k_is | kernel_rfl | rfl | decide +kernel)
    (case ca_InvalidKind => first | k_is | kernel_rfl | rfl | decide +kernel)
    (case ca_InvalidText => first | k_is | kernel_rfl | rfl | decide +kernel)
    (case ca_InvalidChain => first | k_is | kernel_rfl | rfl | decide +kernel)
    (case ca_InvalidSteps => first | k_is | kernel_rfl | rfl | decide +kernel)
    (case ca_InvalidStep => first | k_is | kernel_rfl | rfl | decide +kernel)
    (case ca_InvalidTimes => first | k_is | kernel_rfl | rfl | decide +kernel)
    (case ca_InvalidKeep => first | k_is | kernel_rfl | rfl | decide +kernel)
    (case ca_InvalidBox => first | k_is | kernel_rfl | rfl | decide +kernel)
    (case ca_InvalidSize => first | k_is | kernel_rfl | rfl | decide +kernel)
    (case ca_InvalidFraction => first | k_is | kernel_rfl | rfl | decide +kernel)
    (case kr_kd_all => first | kernel_rfl | rfl | decide +kernel)
    (case ex_TooManyDeeds => first | k_is | kernel_rfl | rfl | decide +kernel)
    (case kr_ev_TooManyDeeds => first | kernel_rfl | rfl | decide +kernel)
    (case ei_TooManyDeeds => first | k_is | kernel_rfl | rfl | decide +kernel)
    (case kr_eb_TooManyDeeds => first | kernel_rfl | rfl | decide +kernel)
    (case el_TooManyDeeds => first | k_is | kernel_rfl | rfl | decide +kernel)
    (case ec_TooManyDeeds => first | k_is | kernel_rfl | rfl | decide +kernel)
    (case ex_TooManySteps => first | k_is | kernel_rfl | rfl | decide +kernel)
    (case kr_ev_TooManySteps => first | kernel_rfl | rfl | decide +kernel)
    (case ei_TooManySteps => first | k_is | kernel_rfl | rfl | decide +kernel)
    (case kr_eb_TooManySteps => first | kernel_rfl | rfl | decide +kernel)
    (case el_TooManySteps => first | k_is | kernel_rfl | rfl | decide +kernel)
    (case ec_TooManySteps => first | k_is | kernel_rfl | rfl | decide +kernel)
    (case kr_xi_NothingToUndo => first | kernel_rfl | rfl | decide +kernel)
    (case kr_xk_NothingToUndo => first | kernel_rfl | rfl | decide +kernel)
    (case ex_NameTaken => first | k_is | kernel_rfl | rfl | decide +kernel)
    (case kr_ev_NameTaken => first | kernel_rfl | rfl | decide +kernel)
    (case ei_NameTaken => first | k_is | kernel_rfl | rfl | decide +kernel)
    (case kr_eb_NameTaken => first | kernel_rfl | rfl | decide +kernel)
    (case el_NameTaken => first | k_is | kernel_rfl | rfl | decide +kernel)
    (case ec_NameTaken => first | k_is | kernel_rfl | rfl | decide +kernel)
    (case ex_UnknownName => first | k_is | kernel_rfl | rfl | decide +kernel)
    (case kr_ev_UnknownName => first | kernel_rfl | rfl | decide +kernel)
    (case ei_UnknownName => first | k_is | kernel_rfl | rfl | decide +kernel)
    (case kr_eb_UnknownName => first | kernel_rfl | rfl | decide +kernel)
    (case el_UnknownName => first | k_is | kernel_rfl | rfl | decide +kernel)
    (case ec_UnknownName => first | k_is | kernel_rfl | rfl | decide +kernel)
    (case ex_NoStep => first | k_is | kernel_rfl | rfl | decide +kernel)
    (case kr_ev_NoStep => first | kernel_rfl | rfl | decide +kernel)
    (case ei_NoStep => first | k_is | kernel_rfl | rfl | decide +kernel)
    (case kr_eb_NoStep => first | kernel_rfl | rfl | decide +kernel)
    (case el_NoStep => first | k_is | kernel_rfl | rfl | decide +kernel)
    (case ec_NoStep => first | k_is | kernel_rfl | rfl | decide +kernel)
    (case ex_InvalidLine => first | k_is | kernel_rfl | rfl | decide +kernel)
    (case kr_ev_InvalidLine => first | kernel_rfl | rfl | decide +kernel)
    (case ei_InvalidLine => first | k_is | kernel_rfl | rfl | decide +kernel)
    (case kr_eb_InvalidLine => first | kernel_rfl | rfl | decide +kernel)
    (case el_InvalidLine => first | k_is | kernel_rfl | rfl | decide +kernel)
    (case ec_InvalidLine => first | k_is | kernel_rfl | rfl | decide +kernel)
    (case ex_InvalidDeeds => first | k_is | kernel_rfl | rfl | decide +kernel)
    (case kr_ev_InvalidDeeds => first | kernel_rfl | rfl | decide +kernel)
    (case ei_InvalidDeeds => first | k_is | kernel_rfl | rfl | decide +kernel)
    (case kr_eb_InvalidDeeds => first | kernel_rfl | rfl | decide +kernel)
    (case el_InvalidDeeds => first | k_is | kernel_rfl | rfl | decide +kernel)
    (case ec_InvalidDeeds => first | k_is | kernel_rfl | rfl | decide +kernel)
    (case ex_InvalidName => first | k_is | kernel_rfl | rfl | decide +kernel)
    (case kr_ev_InvalidName => first | kernel_rfl | rfl | decide +kernel)
    (case ei_InvalidName => first | k_is | kernel_rfl | rfl | decide +kernel)
    (case kr_eb_InvalidName => first | kernel_rfl | rfl | decide +kernel)
    (case el_InvalidName => first | k_is | kernel_rfl | rfl | decide +kernel)
    (case ec_InvalidName => first | k_is | kernel_rfl | rfl | decide +kernel)
    (case ex_InvalidRecords => first | k_is | kernel_rfl | rfl | decide +kernel)
    (case kr_ev_InvalidRecords => first | kernel_rfl | rfl | decide +kernel)
    (case ei_InvalidRecords => first | k_is | kernel_rfl | rfl | decide +kernel)
    (case kr_eb_InvalidRecords => first | kernel_rfl | rfl | decide +kernel)
    (case el_InvalidRecords => first | k_is | kernel_rfl | rfl | decide +kernel)
    (case ec_InvalidRecords => first | k_is | kernel_rfl | rfl | decide +kernel)
    (case ex_InvalidKind => first | k_is | kernel_rfl | rfl | decide +kernel)
    (case kr_ev_InvalidKind => first | kernel_rfl | rfl | decide +kernel)
    (case ei_InvalidKind => first | k_is | kernel_rfl | rfl | decide +kernel)
    (case kr_eb_InvalidKind => first | kernel_rfl | rfl | decide +kernel)
    (case el_InvalidKind => first | k_is | kernel_rfl | rfl | decide +kernel)
    (case ec_InvalidKind => first | k_is | kernel_rfl | rfl | decide +kernel)
    (case ex_InvalidText => first | k_is | kernel_rfl | rfl | decide +kernel)
    (case kr_ev_InvalidText => first | kernel_rfl | rfl | decide +kernel)
    (case ei_InvalidText => first | k_is | kernel_rfl | rfl | decide +kernel)
    (case kr_eb_InvalidText => first | kernel_rfl | rfl | decide +kernel)
    (case el_InvalidText => first | k_is | kernel_rfl | rfl | decide +kernel)
    (case ec_InvalidText => first | k_is | kernel_rfl | rfl | decide +kernel)
    (case ex_InvalidChain => first | k_is | kernel_rfl | rfl | decide +kernel)
    (case kr_ev_InvalidChain => first | kernel_rfl | rfl | decide +kernel)
    (case ei_InvalidChain => first | k_is | kernel_rfl | rfl | decide +kernel)
    (case kr_eb_InvalidChain => first | kernel_rfl | rfl | decide +kernel)
    (case el_InvalidChain => first | k_is | kernel_rfl | rfl | decide +kernel)
    (case ec_InvalidChain => first | k_is | kernel_rfl | rfl | decide +kernel)
    (case ex_InvalidSteps => first | k_is | kernel_rfl | rfl | decide +kernel)
    (case kr_ev_InvalidSteps => first | kernel_rfl | rfl | decide +kernel)
    (case ei_InvalidSteps => first | k_is | kernel_rfl | rfl | decide +kernel)
    (case kr_eb_InvalidSteps => first | kernel_rfl | rfl | decide +kernel)
    (case el_InvalidSteps => first | k_is | kernel_rfl | rfl | decide +kernel)
    (case ec_InvalidSteps => first | k_is | kernel_rfl | rfl | decide +kernel)
    (case ex_InvalidStep => first | k_is | kernel_rfl | rfl | decide +kernel)
    (case kr_ev_InvalidStep => first | kernel_rfl | rfl | decide +kernel)
    (case ei_InvalidStep => first | k_is | kernel_rfl | rfl | decide +kernel)
    (case kr_eb_InvalidStep => first | kernel_rfl | rfl | decide +kernel)
    (case el_InvalidStep => first | k_is | kernel_rfl | rfl | decide +kernel)
    (case ec_InvalidStep => first | k_is | kernel_rfl | rfl | decide +kernel)
    (case ex_InvalidTimes => first | k_is | kernel_rfl | rfl | decide +kernel)
    (case kr_ev_InvalidTimes => first | kernel_rfl | rfl | decide +kernel)
    (case ei_InvalidTimes => first | k_is | kernel_rfl | rfl | decide +kernel)
    (case kr_eb_InvalidTimes => first | kernel_rfl | rfl | decide +kernel)
    (case el_InvalidTimes => first | k_is | kernel_rfl | rfl | decide +kernel)
    (case ec_InvalidTimes => first | k_is | kernel_rfl | rfl | decide +kernel)
    (case ex_InvalidKeep => first | k_is | kernel_rfl | rfl | decide +kernel)
    (case kr_ev_InvalidKeep => first | kernel_rfl | rfl | decide +kernel)
    (case ei_InvalidKeep => first | k_is | kernel_rfl | rfl | decide +kernel)
    (case kr_eb_InvalidKeep => first | kernel_rfl | rfl | decide +kernel)
    (case el_InvalidKeep => first | k_is | kernel_rfl | rfl | decide +kernel)
    (case ec_InvalidKeep => first | k_is | kernel_rfl | rfl | decide +kernel)
    (case ex_InvalidBox => first | k_is | kernel_rfl | rfl | decide +kernel)
    (case kr_ev_InvalidBox => first | kernel_rfl | rfl | decide +kernel)
    (case ei_InvalidBox => first | k_is | kernel_rfl | rfl | decide +kernel)
    (case kr_eb_InvalidBox => first | kernel_rfl | rfl | decide +kernel)
    (case el_InvalidBox => first | k_is | kernel_rfl | rfl | decide +kernel)
    (case ec_InvalidBox => first | k_is | kernel_rfl | rfl | decide +kernel)
    (case ex_InvalidSize => first | k_is | kernel_rfl | rfl | decide +kernel)
    (case kr_ev_InvalidSize => first | kernel_rfl | rfl | decide +kernel)
    (case ei_InvalidSize => first | k_is | kernel_rfl | rfl | decide +kernel)
    (case kr_eb_InvalidSize => first | kernel_rfl | rfl | decide +kernel)
    (case el_InvalidSize => first | k_is | kernel_rfl | rfl | decide +kernel)
    (case ec_InvalidSize => first | k_is | kernel_rfl | rfl | decide +kernel)
    (case ex_InvalidFraction => first | k_is | kernel_rfl | rfl | decide +kernel)
    (case kr_ev_InvalidFraction => first | kernel_rfl | rfl | decide +kernel)
    (case ei_InvalidFraction => first | k_is | kernel_rfl | rfl | decide +kernel)
    (case kr_eb_InvalidFraction => first | kernel_rfl | rfl | decide +kernel)
    (case el_InvalidFraction => first | k_is | kernel_rfl | rfl | decide +kernel)
    (case ec_InvalidFraction => first | k_is | kernel_rfl | rfl | decide +kernel)
    (case ca_Chain => first | k_is | kernel_rfl | rfl | decide +kernel)
    (case cg_Chain => first | k_is | kernel_rfl | rfl | decide +kernel)
    (case ch_Chain => first | k_is | kernel_rfl | rfl | decide +kernel)
    (case cp_Chain => first | k_is | kernel_rfl | rfl | decide +kernel)
    (case cs_Chain => first | k_is | kernel_rfl | rfl | decide +kernel)
    (case cr1_Chain => first | k_is | kernel_rfl | rfl | decide +kernel)
    (case cr2_Chain => first | k_is | kernel_rfl | rfl | decide +kernel)
    (case cvq_Chain_MOST => first | k_is | kernel_rfl | rfl | decide +kernel)
