import PyProof.Rows.All
import Wide.All
import OpenK.AllK
import Wide.FinOn
import HandS.ForMost
import HandS.Exc
import HandS.TryOnly
import HandS.ExcOwn
import HandS.WordsExc
import HandS.Flow
import HandS.Wide
import HandS.WideBits
import HandS.Defaults
import HandS.IsInst
import HandS.RaiseMore
import HandS.FStr
import HandS.Text
import HandS.StrMore
import HandS.Star
import HandS.Style
import HandS.ClsMeth
import HandS.Property
import HandS.CallLocal
import HandS.MakeKwOnly
import KE.KCallOwn
import PyProof.InstSpecial
import KE.KExcIs
import KE.KTryMore
import HandS.ExcInit
import HandS.ExcCtx
import HandS.HotCalls
import HandS.ExcField
import HandS.CallSlots
import HandS.Lambda
import HandS.EndTab
import HandS.SetFor
import HandS.Codes
import HandS.Walk
import HandS.DeepEq
import KE.KOpsOwn
import OpenK.KMeth
import HandS.TupMul
import HandS.OwnEq
import KE.OsRunLaw
import HandS.Words
import PySem.Challenge.RW_sizechains_k15_scalings_to_cover
set_option Elab.async false
set_option linter.all false
set_option exponentiation.threshold 10000
set_option maxRecDepth 100000
namespace Gd
open PySem PySem.Spec PyProof.Rows L2
/-! the head -/
def top (i : Nat) : Stmt := PySem.Challenge.pw_sizechains_k15_scalings_to_cover.main.body.getD i (.Pass ⟨0, 0, 0, 0⟩)
abbrev s_InvalidFraction_init : Stmt := inClass (top 2) 0
abbrev s_InvalidSize_init : Stmt := inClass (top 3) 0
abbrev s_InvalidBox_init : Stmt := inClass (top 4) 0
abbrev s_InvalidKeep_init : Stmt := inClass (top 5) 0
abbrev s_InvalidTimes_init : Stmt := inClass (top 6) 0
abbrev s_InvalidText_init : Stmt := inClass (top 7) 0
abbrev s_is_integer : Stmt := top 9
abbrev s_is_positive : Stmt := top 10
abbrev s_common_divisor : Stmt := top 11
abbrev s_lowest_terms : Stmt := top 12
abbrev s_is_fraction : Stmt := top 13
abbrev s_check_fractions : Stmt := top 14
abbrev s_fraction : Stmt := top 15
abbrev s_as_fraction : Stmt := top 16
abbrev s_product : Stmt := top 17
abbrev s_quotient : Stmt := top 18
abbrev s_order : Stmt := top 19
abbrev s_compare : Stmt := top 20
abbrev s_format_fraction : Stmt := top 21
abbrev s_is_numeral : Stmt := top 22
abbrev s_find_fraction : Stmt := top 23
abbrev s_check_size : Stmt := top 26
abbrev s_Size_init : Stmt := inClass (top 27) 0
abbrev s_Size_read : Stmt := inClass (top 27) 1
abbrev s_Size_ratio : Stmt := inClass (top 27) 2
abbrev s_Size_turned : Stmt := inClass (top 27) 3
abbrev s_Size_eq : Stmt := inClass (top 27) 4
abbrev s_Size_contains : Stmt := inClass (top 27) 5
abbrev s_Size_mul : Stmt := inClass (top 27) 6
abbrev s_Size_str : Stmt := inClass (top 27) 7
abbrev s_Size_repr : Stmt := inClass (top 27) 8
abbrev s_check_box : Stmt := top 29
abbrev s_Step_read : Stmt := inClass (top 30) 1
abbrev s_Step_details : Stmt := inClass (top 30) 2
abbrev s_Step_eq : Stmt := inClass (top 30) 3
abbrev s_Step_str : Stmt := inClass (top 30) 4
abbrev s_Step_repr : Stmt := inClass (top 30) 5
abbrev s_Scaling_init : Stmt := inClass (top 31) 0
abbrev s_Scaling_details : Stmt := inClass (top 31) 1
abbrev s_Scaling_factor : Stmt := inClass (top 31) 2
abbrev s_Shrink_init : Stmt := inClass (top 32) 1
abbrev s_Shrink_apply : Stmt := inClass (top 32) 2
abbrev s_Grow_init : Stmt := inClass (top 33) 1
abbrev s_Grow_apply : Stmt := inClass (top 33) 2
abbrev s_Crop_init : Stmt := inClass (top 34) 0
abbrev s_Crop_details : Stmt := inClass (top 34) 1
abbrev s_CropWidth_init : Stmt := inClass (top 35) 2
abbrev s_CropWidth_apply : Stmt := inClass (top 35) 3
abbrev s_CropHeight_init : Stmt := inClass (top 36) 2
abbrev s_CropHeight_apply : Stmt := inClass (top 36) 3
abbrev s_Turn_init : Stmt := inClass (top 37) 1
abbrev s_Turn_details : Stmt := inClass (top 37) 2
abbrev s_Turn_apply : Stmt := inClass (top 37) 3
abbrev s_Landscape_apply : Stmt := inClass (top 38) 1
abbrev s_Portrait_apply : Stmt := inClass (top 39) 1
abbrev s_find_sides : Stmt := top 40
abbrev s_scaling : Stmt := top 41
abbrev s_find_scaling : Stmt := top 42
abbrev s_find_crop : Stmt := top 43
abbrev s_find_turn : Stmt := top 44
abbrev s_find_step : Stmt := top 45
abbrev s_l_cell : Stmt := top 47
abbrev s_l_pool : Stmt := top 48
abbrev s_l_draw : Stmt := top 49
abbrev s_l_low : Stmt := top 50
abbrev s_l_mul : Stmt := top 51
abbrev s_l_div : Stmt := top 52
abbrev s_l_less : Stmt := top 53
abbrev s_l_part : Stmt := top 54
abbrev s_l_sides : Stmt := top 55
abbrev s_l_side : Stmt := top 56
abbrev s_l_made : Stmt := top 57
abbrev s_l_after : Stmt := top 58
abbrev s_l_pair : Stmt := top 59
abbrev s_l_sized : Stmt := top 60
abbrev s_l_step_right : Stmt := top 61
abbrev s_l_edges : Stmt := top 62
abbrev s_l_right : Stmt := top 63
abbrev s_law : Stmt := top 64
def K0 : PySem.Params → PySem.W.Frag := fun P => 
  (nat_lit 2, { cls := Value.none, data := Data.dict #[] }) ::
  (nat_lit 3, { cls := Value.type "dict", data := Data.dict #[{ hash := PyData.keyHash P (Str.ofString "__name__"), key := Value.str (Str.ofString "__name__") 165, val := Value.str (Str.ofString "law_sizechains_k15_scalings_to_cover") 1093 }, { hash := PyData.keyHash P (Str.ofString "__doc__"), key := Value.str (Str.ofString "__doc__") 166, val := Value.none }, { hash := PyData.keyHash P (Str.ofString "__package__"), key := Value.str (Str.ofString "__package__") 167, val := Value.none }, { hash := PyData.keyHash P (Str.ofString "__loader__"), key := Value.str (Str.ofString "__loader__") 168, val := Value.builtin "__main__.__loader__#opaque" }, { hash := PyData.keyHash P (Str.ofString "__spec__"), key := Value.str (Str.ofString "__spec__") 169, val := Value.none }, { hash := PyData.keyHash P (Str.ofString "__annotations__"), key := Value.str (Str.ofString "__annotations__") 170, val := Value.ref 6 }, { hash := PyData.keyHash P (Str.ofString "__builtins__"), key := Value.str (Str.ofString "__builtins__") 171, val := Value.ref 4 }, { hash := PyData.keyHash P (Str.ofString "__file__"), key := Value.str (Str.ofString "__file__") 173, val := Value.str (Str.ofString "/claim/cut.py") 172 }, { hash := PyData.keyHash P (Str.ofString "__cached__"), key := Value.str (Str.ofString "__cached__") 174, val := Value.none }, { hash := PyData.keyHash P (Str.ofString "PictureError"), key := Value.str (Str.ofString "PictureError") 206, val := Value.ref 24 }, { hash := PyData.keyHash P (Str.ofString "InvalidFraction"), key := Value.str (Str.ofString "InvalidFraction") 231, val := Value.ref 44 }, { hash := PyData.keyHash P (Str.ofString "InvalidSize"), key := Value.str (Str.ofString "InvalidSize") 256, val := Value.ref 63 }, { hash := PyData.keyHash P (Str.ofString "InvalidBox"), key := Value.str (Str.ofString "InvalidBox") 281, val := Value.ref 82 }, { hash := PyData.keyHash P (Str.ofString "InvalidKeep"), key := Value.str (Str.ofString "InvalidKeep") 306, val := Value.ref 101 }, { hash := PyData.keyHash P (Str.ofString "InvalidTimes"), key := Value.str (Str.ofString "InvalidTimes") 331, val := Value.ref 120 }, { hash := PyData.keyHash P (Str.ofString "InvalidText"), key := Value.str (Str.ofString "InvalidText") 356, val := Value.ref 139 }, { hash := PyData.keyHash P (Str.ofString "is_integer"), key := Value.str (Str.ofString "is_integer") 365, val := Value.ref 148 }, { hash := PyData.keyHash P (Str.ofString "is_positive"), key := Value.str (Str.ofString "is_positive") 372, val := Value.ref 155 }, { hash := PyData.keyHash P (Str.ofString "common_divisor"), key := Value.str (Str.ofString "common_divisor") 380, val := Value.ref 162 }, { hash := PyData.keyHash P (Str.ofString "lowest_terms"), key := Value.str (Str.ofString "lowest_terms") 389, val := Value.ref 169 }, { hash := PyData.keyHash P (Str.ofString "is_fraction"), key := Value.str (Str.ofString "is_fraction") 398, val := Value.ref 176 }, { hash := PyData.keyHash P (Str.ofString "check_fractions"), key := Value.str (Str.ofString "check_fractions") 406, val := Value.ref 183 }, { hash := PyData.keyHash P (Str.ofString "fraction"), key := Value.str (Str.ofString "fraction") 416, val := Value.ref 191 }, { hash := PyData.keyHash P (Str.ofString "as_fraction"), key := Value.str (Str.ofString "as_fraction") 423, val := Value.ref 198 }, { hash := PyData.keyHash P (Str.ofString "product"), key := Value.str (Str.ofString "product") 433, val := Value.ref 205 }, { hash := PyData.keyHash P (Str.ofString "quotient"), key := Value.str (Str.ofString "quotient") 441, val := Value.ref 212 }, { hash := PyData.keyHash P (Str.ofString "order"), key := Value.str (Str.ofString "order") 449, val := Value.ref 219 }, { hash := PyData.keyHash P (Str.ofString "compare"), key := Value.str (Str.ofString "compare") 457, val := Value.ref 226 }, { hash := PyData.keyHash P (Str.ofString "format_fraction"), key := Value.str (Str.ofString "format_fraction") 466, val := Value.ref 233 }, { hash := PyData.keyHash P (Str.ofString "is_numeral"), key := Value.str (Str.ofString "is_numeral") 473, val := Value.ref 240 }, { hash := PyData.keyHash P (Str.ofString "find_fraction"), key := Value.str (Str.ofString "find_fraction") 484, val := Value.ref 247 }, { hash := PyData.keyHash P (Str.ofString "MOST_SIDE"), key := Value.str (Str.ofString "MOST_SIDE") 488, val := Value.int 1000000 487 }, { hash := PyData.keyHash P (Str.ofString "check_size"), key := Value.str (Str.ofString "check_size") 497, val := Value.ref 254 }, { hash := PyData.keyHash P (Str.ofString "Size"), key := Value.str (Str.ofString "Size") 606, val := Value.ref 331 }, { hash := PyData.keyHash P (Str.ofString "check_box"), key := Value.str (Str.ofString "check_box") 617, val := Value.ref 342 }, { hash := PyData.keyHash P (Str.ofString "Step"), key := Value.str (Str.ofString "Step") 689, val := Value.ref 390 }, { hash := PyData.keyHash P (Str.ofString "Scaling"), key := Value.str (Str.ofString "Scaling") 738, val := Value.ref 425 }, { hash := PyData.keyHash P (Str.ofString "Shrink"), key := Value.str (Str.ofString "Shrink") 776, val := Value.ref 452 }, { hash := PyData.keyHash P (Str.ofString "Grow"), key := Value.str (Str.ofString "Grow") 814, val := Value.ref 479 }, { hash := PyData.keyHash P (Str.ofString "Crop"), key := Value.str (Str.ofString "Crop") 851, val := Value.ref 505 }, { hash := PyData.keyHash P (Str.ofString "CropWidth"), key := Value.str (Str.ofString "CropWidth") 894, val := Value.ref 533 }, { hash := PyData.keyHash P (Str.ofString "CropHeight"), key := Value.str (Str.ofString "CropHeight") 937, val := Value.ref 561 }, { hash := PyData.keyHash P (Str.ofString "Turn"), key := Value.str (Str.ofString "Turn") 980, val := Value.ref 595 }, { hash := PyData.keyHash P (Str.ofString "Landscape"), key := Value.str (Str.ofString "Landscape") 1006, val := Value.ref 614 }, { hash := PyData.keyHash P (Str.ofString "Portrait"), key := Value.str (Str.ofString "Portrait") 1032, val := Value.ref 633 }, { hash := PyData.keyHash P (Str.ofString "find_sides"), key := Value.str (Str.ofString "find_sides") 1044, val := Value.ref 642 }, { hash := PyData.keyHash P (Str.ofString "scaling"), key := Value.str (Str.ofString "scaling") 1054, val := Value.ref 649 }, { hash := PyData.keyHash P (Str.ofString "find_scaling"), key := Value.str (Str.ofString "find_scaling") 1063, val := Value.ref 656 }, { hash := PyData.keyHash P (Str.ofString "find_crop"), key := Value.str (Str.ofString "find_crop") 1073, val := Value.ref 663 }, { hash := PyData.keyHash P (Str.ofString "find_turn"), key := Value.str (Str.ofString "find_turn") 1081, val := Value.ref 670 }, { hash := PyData.keyHash P (Str.ofString "find_step"), key := Value.str (Str.ofString "find_step") 1092, val := Value.ref 677 }, { hash := PyData.keyHash P (Str.ofString "_law_cell"), key := Value.str (Str.ofString "_law_cell") 1104, val := Value.ref 684 }, { hash := PyData.keyHash P (Str.ofString "_law_pool"), key := Value.str (Str.ofString "_law_pool") 1112, val := Value.ref 691 }, { hash := PyData.keyHash P (Str.ofString "_law_draw"), key := Value.str (Str.ofString "_law_draw") 1122, val := Value.ref 698 }, { hash := PyData.keyHash P (Str.ofString "_law_low"), key := Value.str (Str.ofString "_law_low") 1132, val := Value.ref 705 }, { hash := PyData.keyHash P (Str.ofString "_law_mul"), key := Value.str (Str.ofString "_law_mul") 1140, val := Value.ref 712 }, { hash := PyData.keyHash P (Str.ofString "_law_div"), key := Value.str (Str.ofString "_law_div") 1148, val := Value.ref 719 }, { hash := PyData.keyHash P (Str.ofString "_law_less"), key := Value.str (Str.ofString "_law_less") 1156, val := Value.ref 726 }, { hash := PyData.keyHash P (Str.ofString "_law_part"), key := Value.str (Str.ofString "_law_part") 1166, val := Value.ref 733 }, { hash := PyData.keyHash P (Str.ofString "_law_sides"), key := Value.str (Str.ofString "_law_sides") 1176, val := Value.ref 740 }, { hash := PyData.keyHash P (Str.ofString "_law_side"), key := Value.str (Str.ofString "_law_side") 1185, val := Value.ref 747 }, { hash := PyData.keyHash P (Str.ofString "_law_made"), key := Value.str (Str.ofString "_law_made") 1192, val := Value.ref 754 }, { hash := PyData.keyHash P (Str.ofString "_law_after"), key := Value.str (Str.ofString "_law_after") 1207, val := Value.ref 761 }, { hash := PyData.keyHash P (Str.ofString "_law_pair"), key := Value.str (Str.ofString "_law_pair") 1214, val := Value.ref 768 }, { hash := PyData.keyHash P (Str.ofString "_law_sized"), key := Value.str (Str.ofString "_law_sized") 1221, val := Value.ref 775 }, { hash := PyData.keyHash P (Str.ofString "_law_step_right"), key := Value.str (Str.ofString "_law_step_right") 1227, val := Value.ref 780 }, { hash := PyData.keyHash P (Str.ofString "_law_edges"), key := Value.str (Str.ofString "_law_edges") 1238, val := Value.ref 787 }, { hash := PyData.keyHash P (Str.ofString "_law_right"), key := Value.str (Str.ofString "_law_right") 1244, val := Value.ref 792 }, { hash := PyData.keyHash P (Str.ofString "law"), key := Value.str (Str.ofString "law") 1250, val := Value.ref 797 }] 69 }) ::
  (nat_lit 15, { cls := Value.type "tuple", data := Data.seq #[Value.type "ValueError"] }) ::
  (nat_lit 22, { cls := Value.type "tuple", data := Data.seq #[] }) ::
  (nat_lit 23, { cls := Value.type "dict", data := Data.dict #[{ hash := PyData.keyHash P (Str.ofString "__module__"), key := Value.str (Str.ofString "__module__") 196, val := Value.str (Str.ofString "sizechains.errors") 187 }, { hash := PyData.keyHash P (Str.ofString "__firstlineno__"), key := Value.str (Str.ofString "__firstlineno__") 200, val := Value.int 2 199 }, { hash := PyData.keyHash P (Str.ofString "__static_attributes__"), key := Value.str (Str.ofString "__static_attributes__") 201, val := Value.ref 22 }, { hash := PyData.keyHash P (Str.ofString "__weakref__"), key := Value.str (Str.ofString "__weakref__") 203, val := Value.ref 25 }, { hash := PyData.keyHash P (Str.ofString "__doc__"), key := Value.str (Str.ofString "__doc__") 204, val := Value.none }] 3 }) ::
  (nat_lit 24, { cls := Value.type "type", data := Data.cls { name := Str.ofString "PictureError", bases := [Value.type "ValueError"], mro := [Value.ref 24, Value.type "ValueError", Value.type "Exception", Value.type "BaseException", Value.type "object"], ns := 23, qualname := Str.ofString "PictureError", subclasses := [Value.ref 44, Value.ref 63, Value.ref 82, Value.ref 101, Value.ref 120, Value.ref 139] }, slots := #[some (Value.ref 15), none, some (Value.str (Str.ofString "PictureError") 189), some (Value.str (Str.ofString "PictureError") 197), some (Value.builtin "ValueError.__new__"), some (Value.bool true)] }) ::
  (nat_lit 25, { cls := Value.type "getset_descriptor", data := Data.fields #[Value.str (Str.ofString "__weakref__") 202, Value.ref 24, Value.builtin "ExceptionGroup.__weakref__", Value.none] }) ::
  (nat_lit 28, { cls := Value.type "tuple", data := Data.seq #[Value.ref 24] }) ::
  (nat_lit 35, { cls := Value.type "tuple", data := Data.seq #[] }) ::
  (nat_lit 37, { cls := Value.type "tuple", data := Data.seq #[Value.str (Str.ofString "self") 222, Value.str (Str.ofString "value") 223] }) ::
  (nat_lit 38, { cls := Value.type "tuple", data := Data.seq #[] }) ::
  (nat_lit 40, { cls := Value.type "code", data := Data.fields #[Value.str (Str.ofString "__init__") 219, Value.str (Str.ofString "InvalidFraction.__init__") 220, Value.str (Str.ofString "/claim/cut.py") 221, Value.int 6 0, Value.int 2 0, Value.int 0 0, Value.int 0 0, Value.int 3 0, Value.ref 35, Value.bool true, Value.int 181 0, Value.ref 36, Value.none, Value.ref 37, Value.ref 38, Value.ref 39, Value.int 224 0, Value.int 6 0, Value.str (Str.ofString "/claim/cut.py") 225] }) ::
  (nat_lit 41, ⟨Value.type "function", none, Data.func (PySem.W.fnOf (Str.ofString "__init__") (Str.ofString "InvalidFraction.__init__") (L2.defArgs s_InvalidFraction_init) (L2.defBody s_InvalidFraction_init) (L2.defScope s_InvalidFraction_init) (Value.none) (Value.none) (Value.none) (Value.str (Str.ofString "sizechains.errors") 187) (none) (Value.ref 40) (Value.none)), #[]⟩) ::
  (nat_lit 42, { cls := Value.type "tuple", data := Data.seq #[Value.str (Str.ofString "value") 227] }) ::
  (nat_lit 43, { cls := Value.type "dict", data := Data.dict #[{ hash := PyData.keyHash P (Str.ofString "__module__"), key := Value.str (Str.ofString "__module__") 214, val := Value.str (Str.ofString "sizechains.errors") 187 }, { hash := PyData.keyHash P (Str.ofString "__firstlineno__"), key := Value.str (Str.ofString "__firstlineno__") 218, val := Value.int 4 217 }, { hash := PyData.keyHash P (Str.ofString "__init__"), key := Value.str (Str.ofString "__init__") 226, val := Value.ref 41 }, { hash := PyData.keyHash P (Str.ofString "__static_attributes__"), key := Value.str (Str.ofString "__static_attributes__") 228, val := Value.ref 42 }, { hash := PyData.keyHash P (Str.ofString "__doc__"), key := Value.str (Str.ofString "__doc__") 229, val := Value.none }] 2 }) ::
  (nat_lit 44, { cls := Value.type "type", data := Data.cls { name := Str.ofString "InvalidFraction", bases := [Value.ref 24], mro := [Value.ref 44, Value.ref 24, Value.type "ValueError", Value.type "Exception", Value.type "BaseException", Value.type "object"], ns := 43, qualname := Str.ofString "InvalidFraction" }, slots := #[some (Value.ref 28), none, some (Value.str (Str.ofString "InvalidFraction") 207), some (Value.str (Str.ofString "InvalidFraction") 215), some (Value.builtin "ValueError.__new__"), some (Value.bool true)] }) ::
  (nat_lit 47, { cls := Value.type "tuple", data := Data.seq #[Value.ref 24] }) ::
  (nat_lit 54, { cls := Value.type "tuple", data := Data.seq #[] }) ::
  (nat_lit 56, { cls := Value.type "tuple", data := Data.seq #[Value.str (Str.ofString "self") 247, Value.str (Str.ofString "value") 248] }) ::
  (nat_lit 57, { cls := Value.type "tuple", data := Data.seq #[] }) ::
  (nat_lit 59, { cls := Value.type "code", data := Data.fields #[Value.str (Str.ofString "__init__") 244, Value.str (Str.ofString "InvalidSize.__init__") 245, Value.str (Str.ofString "/claim/cut.py") 246, Value.int 10 0, Value.int 2 0, Value.int 0 0, Value.int 0 0, Value.int 3 0, Value.ref 54, Value.bool true, Value.int 181 0, Value.ref 55, Value.none, Value.ref 56, Value.ref 57, Value.ref 58, Value.int 249 0, Value.int 10 0, Value.str (Str.ofString "/claim/cut.py") 250] }) ::
  (nat_lit 60, ⟨Value.type "function", none, Data.func (PySem.W.fnOf (Str.ofString "__init__") (Str.ofString "InvalidSize.__init__") (L2.defArgs s_InvalidSize_init) (L2.defBody s_InvalidSize_init) (L2.defScope s_InvalidSize_init) (Value.none) (Value.none) (Value.none) (Value.str (Str.ofString "sizechains.errors") 187) (none) (Value.ref 59) (Value.none)), #[]⟩) ::
  (nat_lit 61, { cls := Value.type "tuple", data := Data.seq #[Value.str (Str.ofString "value") 252] }) ::
  (nat_lit 62, { cls := Value.type "dict", data := Data.dict #[{ hash := PyData.keyHash P (Str.ofString "__module__"), key := Value.str (Str.ofString "__module__") 239, val := Value.str (Str.ofString "sizechains.errors") 187 }, { hash := PyData.keyHash P (Str.ofString "__firstlineno__"), key := Value.str (Str.ofString "__firstlineno__") 243, val := Value.int 8 242 }, { hash := PyData.keyHash P (Str.ofString "__init__"), key := Value.str (Str.ofString "__init__") 251, val := Value.ref 60 }, { hash := PyData.keyHash P (Str.ofString "__static_attributes__"), key := Value.str (Str.ofString "__static_attributes__") 253, val := Value.ref 61 }, { hash := PyData.keyHash P (Str.ofString "__doc__"), key := Value.str (Str.ofString "__doc__") 254, val := Value.none }] 2 }) ::
  (nat_lit 63, { cls := Value.type "type", data := Data.cls { name := Str.ofString "InvalidSize", bases := [Value.ref 24], mro := [Value.ref 63, Value.ref 24, Value.type "ValueError", Value.type "Exception", Value.type "BaseException", Value.type "object"], ns := 62, qualname := Str.ofString "InvalidSize" }, slots := #[some (Value.ref 47), none, some (Value.str (Str.ofString "InvalidSize") 232), some (Value.str (Str.ofString "InvalidSize") 240), some (Value.builtin "ValueError.__new__"), some (Value.bool true)] }) ::
  (nat_lit 66, { cls := Value.type "tuple", data := Data.seq #[Value.ref 24] }) ::
  (nat_lit 73, { cls := Value.type "tuple", data := Data.seq #[] }) ::
  (nat_lit 75, { cls := Value.type "tuple", data := Data.seq #[Value.str (Str.ofString "self") 272, Value.str (Str.ofString "value") 273] }) ::
  (nat_lit 76, { cls := Value.type "tuple", data := Data.seq #[] }) ::
  (nat_lit 78, { cls := Value.type "code", data := Data.fields #[Value.str (Str.ofString "__init__") 269, Value.str (Str.ofString "InvalidBox.__init__") 270, Value.str (Str.ofString "/claim/cut.py") 271, Value.int 14 0, Value.int 2 0, Value.int 0 0, Value.int 0 0, Value.int 3 0, Value.ref 73, Value.bool true, Value.int 181 0, Value.ref 74, Value.none, Value.ref 75, Value.ref 76, Value.ref 77, Value.int 274 0, Value.int 14 0, Value.str (Str.ofString "/claim/cut.py") 275] }) ::
  (nat_lit 79, ⟨Value.type "function", none, Data.func (PySem.W.fnOf (Str.ofString "__init__") (Str.ofString "InvalidBox.__init__") (L2.defArgs s_InvalidBox_init) (L2.defBody s_InvalidBox_init) (L2.defScope s_InvalidBox_init) (Value.none) (Value.none) (Value.none) (Value.str (Str.ofString "sizechains.errors") 187) (none) (Value.ref 78) (Value.none)), #[]⟩) ::
  (nat_lit 80, { cls := Value.type "tuple", data := Data.seq #[Value.str (Str.ofString "value") 277] }) ::
  (nat_lit 81, { cls := Value.type "dict", data := Data.dict #[{ hash := PyData.keyHash P (Str.ofString "__module__"), key := Value.str (Str.ofString "__module__") 264, val := Value.str (Str.ofString "sizechains.errors") 187 }, { hash := PyData.keyHash P (Str.ofString "__firstlineno__"), key := Value.str (Str.ofString "__firstlineno__") 268, val := Value.int 12 267 }, { hash := PyData.keyHash P (Str.ofString "__init__"), key := Value.str (Str.ofString "__init__") 276, val := Value.ref 79 }, { hash := PyData.keyHash P (Str.ofString "__static_attributes__"), key := Value.str (Str.ofString "__static_attributes__") 278, val := Value.ref 80 }, { hash := PyData.keyHash P (Str.ofString "__doc__"), key := Value.str (Str.ofString "__doc__") 279, val := Value.none }] 2 }) ::
  (nat_lit 82, { cls := Value.type "type", data := Data.cls { name := Str.ofString "InvalidBox", bases := [Value.ref 24], mro := [Value.ref 82, Value.ref 24, Value.type "ValueError", Value.type "Exception", Value.type "BaseException", Value.type "object"], ns := 81, qualname := Str.ofString "InvalidBox" }, slots := #[some (Value.ref 66), none, some (Value.str (Str.ofString "InvalidBox") 257), some (Value.str (Str.ofString "InvalidBox") 265), some (Value.builtin "ValueError.__new__"), some (Value.bool true)] }) ::
  (nat_lit 85, { cls := Value.type "tuple", data := Data.seq #[Value.ref 24] }) ::
  (nat_lit 92, { cls := Value.type "tuple", data := Data.seq #[] }) ::
  (nat_lit 94, { cls := Value.type "tuple", data := Data.seq #[Value.str (Str.ofString "self") 297, Value.str (Str.ofString "value") 298] }) ::
  (nat_lit 95, { cls := Value.type "tuple", data := Data.seq #[] }) ::
  (nat_lit 97, { cls := Value.type "code", data := Data.fields #[Value.str (Str.ofString "__init__") 294, Value.str (Str.ofString "InvalidKeep.__init__") 295, Value.str (Str.ofString "/claim/cut.py") 296, Value.int 18 0, Value.int 2 0, Value.int 0 0, Value.int 0 0, Value.int 3 0, Value.ref 92, Value.bool true, Value.int 181 0, Value.ref 93, Value.none, Value.ref 94, Value.ref 95, Value.ref 96, Value.int 299 0, Value.int 18 0, Value.str (Str.ofString "/claim/cut.py") 300] }) ::
  (nat_lit 98, ⟨Value.type "function", none, Data.func (PySem.W.fnOf (Str.ofString "__init__") (Str.ofString "InvalidKeep.__init__") (L2.defArgs s_InvalidKeep_init) (L2.defBody s_InvalidKeep_init) (L2.defScope s_InvalidKeep_init) (Value.none) (Value.none) (Value.none) (Value.str (Str.ofString "sizechains.errors") 187) (none) (Value.ref 97) (Value.none)), #[]⟩) ::
  (nat_lit 99, { cls := Value.type "tuple", data := Data.seq #[Value.str (Str.ofString "value") 302] }) ::
  (nat_lit 100, { cls := Value.type "dict", data := Data.dict #[{ hash := PyData.keyHash P (Str.ofString "__module__"), key := Value.str (Str.ofString "__module__") 289, val := Value.str (Str.ofString "sizechains.errors") 187 }, { hash := PyData.keyHash P (Str.ofString "__firstlineno__"), key := Value.str (Str.ofString "__firstlineno__") 293, val := Value.int 16 292 }, { hash := PyData.keyHash P (Str.ofString "__init__"), key := Value.str (Str.ofString "__init__") 301, val := Value.ref 98 }, { hash := PyData.keyHash P (Str.ofString "__static_attributes__"), key := Value.str (Str.ofString "__static_attributes__") 303, val := Value.ref 99 }, { hash := PyData.keyHash P (Str.ofString "__doc__"), key := Value.str (Str.ofString "__doc__") 304, val := Value.none }] 2 }) ::
  (nat_lit 101, { cls := Value.type "type", data := Data.cls { name := Str.ofString "InvalidKeep", bases := [Value.ref 24], mro := [Value.ref 101, Value.ref 24, Value.type "ValueError", Value.type "Exception", Value.type "BaseException", Value.type "object"], ns := 100, qualname := Str.ofString "InvalidKeep" }, slots := #[some (Value.ref 85), none, some (Value.str (Str.ofString "InvalidKeep") 282), some (Value.str (Str.ofString "InvalidKeep") 290), some (Value.builtin "ValueError.__new__"), some (Value.bool true)] }) ::
  (nat_lit 104, { cls := Value.type "tuple", data := Data.seq #[Value.ref 24] }) ::
  (nat_lit 111, { cls := Value.type "tuple", data := Data.seq #[] }) ::
  (nat_lit 113, { cls := Value.type "tuple", data := Data.seq #[Value.str (Str.ofString "self") 322, Value.str (Str.ofString "value") 323] }) ::
  (nat_lit 114, { cls := Value.type "tuple", data := Data.seq #[] }) ::
  (nat_lit 116, { cls := Value.type "code", data := Data.fields #[Value.str (Str.ofString "__init__") 319, Value.str (Str.ofString "InvalidTimes.__init__") 320, Value.str (Str.ofString "/claim/cut.py") 321, Value.int 22 0, Value.int 2 0, Value.int 0 0, Value.int 0 0, Value.int 3 0, Value.ref 111, Value.bool true, Value.int 181 0, Value.ref 112, Value.none, Value.ref 113, Value.ref 114, Value.ref 115, Value.int 324 0, Value.int 22 0, Value.str (Str.ofString "/claim/cut.py") 325] }) ::
  (nat_lit 117, ⟨Value.type "function", none, Data.func (PySem.W.fnOf (Str.ofString "__init__") (Str.ofString "InvalidTimes.__init__") (L2.defArgs s_InvalidTimes_init) (L2.defBody s_InvalidTimes_init) (L2.defScope s_InvalidTimes_init) (Value.none) (Value.none) (Value.none) (Value.str (Str.ofString "sizechains.errors") 187) (none) (Value.ref 116) (Value.none)), #[]⟩) ::
  (nat_lit 118, { cls := Value.type "tuple", data := Data.seq #[Value.str (Str.ofString "value") 327] }) ::
  (nat_lit 119, { cls := Value.type "dict", data := Data.dict #[{ hash := PyData.keyHash P (Str.ofString "__module__"), key := Value.str (Str.ofString "__module__") 314, val := Value.str (Str.ofString "sizechains.errors") 187 }, { hash := PyData.keyHash P (Str.ofString "__firstlineno__"), key := Value.str (Str.ofString "__firstlineno__") 318, val := Value.int 20 317 }, { hash := PyData.keyHash P (Str.ofString "__init__"), key := Value.str (Str.ofString "__init__") 326, val := Value.ref 117 }, { hash := PyData.keyHash P (Str.ofString "__static_attributes__"), key := Value.str (Str.ofString "__static_attributes__") 328, val := Value.ref 118 }, { hash := PyData.keyHash P (Str.ofString "__doc__"), key := Value.str (Str.ofString "__doc__") 329, val := Value.none }] 2 }) ::
  (nat_lit 120, { cls := Value.type "type", data := Data.cls { name := Str.ofString "InvalidTimes", bases := [Value.ref 24], mro := [Value.ref 120, Value.ref 24, Value.type "ValueError", Value.type "Exception", Value.type "BaseException", Value.type "object"], ns := 119, qualname := Str.ofString "InvalidTimes" }, slots := #[some (Value.ref 104), none, some (Value.str (Str.ofString "InvalidTimes") 307), some (Value.str (Str.ofString "InvalidTimes") 315), some (Value.builtin "ValueError.__new__"), some (Value.bool true)] }) ::
  (nat_lit 123, { cls := Value.type "tuple", data := Data.seq #[Value.ref 24] }) ::
  (nat_lit 130, { cls := Value.type "tuple", data := Data.seq #[] }) ::
  (nat_lit 132, { cls := Value.type "tuple", data := Data.seq #[Value.str (Str.ofString "self") 347, Value.str (Str.ofString "value") 348] }) ::
  (nat_lit 133, { cls := Value.type "tuple", data := Data.seq #[] }) ::
  (nat_lit 135, { cls := Value.type "code", data := Data.fields #[Value.str (Str.ofString "__init__") 344, Value.str (Str.ofString "InvalidText.__init__") 345, Value.str (Str.ofString "/claim/cut.py") 346, Value.int 26 0, Value.int 2 0, Value.int 0 0, Value.int 0 0, Value.int 3 0, Value.ref 130, Value.bool true, Value.int 181 0, Value.ref 131, Value.none, Value.ref 132, Value.ref 133, Value.ref 134, Value.int 349 0, Value.int 26 0, Value.str (Str.ofString "/claim/cut.py") 350] }) ::
  (nat_lit 136, ⟨Value.type "function", none, Data.func (PySem.W.fnOf (Str.ofString "__init__") (Str.ofString "InvalidText.__init__") (L2.defArgs s_InvalidText_init) (L2.defBody s_InvalidText_init) (L2.defScope s_InvalidText_init) (Value.none) (Value.none) (Value.none) (Value.str (Str.ofString "sizechains.errors") 187) (none) (Value.ref 135) (Value.none)), #[]⟩) ::
  (nat_lit 137, { cls := Value.type "tuple", data := Data.seq #[Value.str (Str.ofString "value") 352] }) ::
  (nat_lit 138, { cls := Value.type "dict", data := Data.dict #[{ hash := PyData.keyHash P (Str.ofString "__module__"), key := Value.str (Str.ofString "__module__") 339, val := Value.str (Str.ofString "sizechains.errors") 187 }, { hash := PyData.keyHash P (Str.ofString "__firstlineno__"), key := Value.str (Str.ofString "__firstlineno__") 343, val := Value.int 24 342 }, { hash := PyData.keyHash P (Str.ofString "__init__"), key := Value.str (Str.ofString "__init__") 351, val := Value.ref 136 }, { hash := PyData.keyHash P (Str.ofString "__static_attributes__"), key := Value.str (Str.ofString "__static_attributes__") 353, val := Value.ref 137 }, { hash := PyData.keyHash P (Str.ofString "__doc__"), key := Value.str (Str.ofString "__doc__") 354, val := Value.none }] 2 }) ::
  (nat_lit 139, { cls := Value.type "type", data := Data.cls { name := Str.ofString "InvalidText", bases := [Value.ref 24], mro := [Value.ref 139, Value.ref 24, Value.type "ValueError", Value.type "Exception", Value.type "BaseException", Value.type "object"], ns := 138, qualname := Str.ofString "InvalidText" }, slots := #[some (Value.ref 123), none, some (Value.str (Str.ofString "InvalidText") 332), some (Value.str (Str.ofString "InvalidText") 340), some (Value.builtin "ValueError.__new__"), some (Value.bool true)] }) ::
  (nat_lit 142, { cls := Value.type "tuple", data := Data.seq #[] }) ::
  (nat_lit 144, { cls := Value.type "tuple", data := Data.seq #[Value.str (Str.ofString "value") 362] }) ::
  (nat_lit 145, { cls := Value.type "tuple", data := Data.seq #[] }) ::
  (nat_lit 147, { cls := Value.type "code", data := Data.fields #[Value.str (Str.ofString "is_integer") 359, Value.str (Str.ofString "is_integer") 360, Value.str (Str.ofString "/claim/cut.py") 361, Value.int 29 0, Value.int 1 0, Value.int 0 0, Value.int 0 0, Value.int 3 0, Value.ref 142, Value.bool true, Value.int 181 0, Value.ref 143, Value.none, Value.ref 144, Value.ref 145, Value.ref 146, Value.int 363 0, Value.int 29 0, Value.str (Str.ofString "/claim/cut.py") 364] }) ::
  (nat_lit 148, ⟨Value.type "function", none, Data.func (PySem.W.fnOf (Str.ofString "is_integer") (Str.ofString "is_integer") (L2.defArgs s_is_integer) (L2.defBody s_is_integer) (L2.defScope s_is_integer) (Value.none) (Value.none) (Value.none) (Value.str (Str.ofString "sizechains.exact") 357) (none) (Value.ref 147) (Value.none)), #[]⟩) ::
  (nat_lit 149, { cls := Value.type "tuple", data := Data.seq #[] }) ::
  (nat_lit 151, { cls := Value.type "tuple", data := Data.seq #[Value.str (Str.ofString "value") 369] }) ::
  (nat_lit 152, { cls := Value.type "tuple", data := Data.seq #[] }) ::
  (nat_lit 154, { cls := Value.type "code", data := Data.fields #[Value.str (Str.ofString "is_positive") 366, Value.str (Str.ofString "is_positive") 367, Value.str (Str.ofString "/claim/cut.py") 368, Value.int 31 0, Value.int 1 0, Value.int 0 0, Value.int 0 0, Value.int 3 0, Value.ref 149, Value.bool true, Value.int 181 0, Value.ref 150, Value.none, Value.ref 151, Value.ref 152, Value.ref 153, Value.int 370 0, Value.int 31 0, Value.str (Str.ofString "/claim/cut.py") 371] }) ::
  (nat_lit 155, ⟨Value.type "function", none, Data.func (PySem.W.fnOf (Str.ofString "is_positive") (Str.ofString "is_positive") (L2.defArgs s_is_positive) (L2.defBody s_is_positive) (L2.defScope s_is_positive) (Value.none) (Value.none) (Value.none) (Value.str (Str.ofString "sizechains.exact") 357) (none) (Value.ref 154) (Value.none)), #[]⟩) ::
  (nat_lit 156, { cls := Value.type "tuple", data := Data.seq #[] }) ::
  (nat_lit 158, { cls := Value.type "tuple", data := Data.seq #[Value.str (Str.ofString "one") 376, Value.str (Str.ofString "other") 377] }) ::
  (nat_lit 159, { cls := Value.type "tuple", data := Data.seq #[] }) ::
  (nat_lit 161, { cls := Value.type "code", data := Data.fields #[Value.str (Str.ofString "common_divisor") 373, Value.str (Str.ofString "common_divisor") 374, Value.str (Str.ofString "/claim/cut.py") 375, Value.int 33 0, Value.int 2 0, Value.int 0 0, Value.int 0 0, Value.int 3 0, Value.ref 156, Value.bool true, Value.int 181 0, Value.ref 157, Value.none, Value.ref 158, Value.ref 159, Value.ref 160, Value.int 378 0, Value.int 33 0, Value.str (Str.ofString "/claim/cut.py") 379] }) ::
  (nat_lit 162, ⟨Value.type "function", none, Data.func (PySem.W.fnOf (Str.ofString "common_divisor") (Str.ofString "common_divisor") (L2.defArgs s_common_divisor) (L2.defBody s_common_divisor) (L2.defScope s_common_divisor) (Value.none) (Value.none) (Value.none) (Value.str (Str.ofString "sizechains.exact") 357) (none) (Value.ref 161) (Value.none)), #[]⟩) ::
  (nat_lit 163, { cls := Value.type "tuple", data := Data.seq #[] }) ::
  (nat_lit 165, { cls := Value.type "tuple", data := Data.seq #[Value.str (Str.ofString "top") 384, Value.str (Str.ofString "bottom") 385, Value.str (Str.ofString "divisor") 386] }) ::
  (nat_lit 166, { cls := Value.type "tuple", data := Data.seq #[] }) ::
  (nat_lit 168, { cls := Value.type "code", data := Data.fields #[Value.str (Str.ofString "lowest_terms") 381, Value.str (Str.ofString "lowest_terms") 382, Value.str (Str.ofString "/claim/cut.py") 383, Value.int 37 0, Value.int 2 0, Value.int 0 0, Value.int 0 0, Value.int 3 0, Value.ref 163, Value.bool true, Value.int 181 0, Value.ref 164, Value.none, Value.ref 165, Value.ref 166, Value.ref 167, Value.int 387 0, Value.int 37 0, Value.str (Str.ofString "/claim/cut.py") 388] }) ::
  (nat_lit 169, ⟨Value.type "function", none, Data.func (PySem.W.fnOf (Str.ofString "lowest_terms") (Str.ofString "lowest_terms") (L2.defArgs s_lowest_terms) (L2.defBody s_lowest_terms) (L2.defScope s_lowest_terms) (Value.none) (Value.none) (Value.none) (Value.str (Str.ofString "sizechains.exact") 357) (none) (Value.ref 168) (Value.none)), #[]⟩) ::
  (nat_lit 170, { cls := Value.type "tuple", data := Data.seq #[] }) ::
  (nat_lit 172, { cls := Value.type "tuple", data := Data.seq #[Value.str (Str.ofString "value") 393, Value.str (Str.ofString "top") 394, Value.str (Str.ofString "bottom") 395] }) ::
  (nat_lit 173, { cls := Value.type "tuple", data := Data.seq #[] }) ::
  (nat_lit 175, { cls := Value.type "code", data := Data.fields #[Value.str (Str.ofString "is_fraction") 390, Value.str (Str.ofString "is_fraction") 391, Value.str (Str.ofString "/claim/cut.py") 392, Value.int 40 0, Value.int 1 0, Value.int 0 0, Value.int 0 0, Value.int 3 0, Value.ref 170, Value.bool true, Value.int 181 0, Value.ref 171, Value.none, Value.ref 172, Value.ref 173, Value.ref 174, Value.int 396 0, Value.int 40 0, Value.str (Str.ofString "/claim/cut.py") 397] }) ::
  (nat_lit 176, ⟨Value.type "function", none, Data.func (PySem.W.fnOf (Str.ofString "is_fraction") (Str.ofString "is_fraction") (L2.defArgs s_is_fraction) (L2.defBody s_is_fraction) (L2.defScope s_is_fraction) (Value.none) (Value.none) (Value.none) (Value.str (Str.ofString "sizechains.exact") 357) (none) (Value.ref 175) (Value.none)), #[]⟩) ::
  (nat_lit 177, { cls := Value.type "tuple", data := Data.seq #[] }) ::
  (nat_lit 179, { cls := Value.type "tuple", data := Data.seq #[Value.str (Str.ofString "values") 402, Value.str (Str.ofString "value") 403] }) ::
  (nat_lit 180, { cls := Value.type "tuple", data := Data.seq #[] }) ::
  (nat_lit 182, { cls := Value.type "code", data := Data.fields #[Value.str (Str.ofString "check_fractions") 399, Value.str (Str.ofString "check_fractions") 400, Value.str (Str.ofString "/claim/cut.py") 401, Value.int 47 0, Value.int 1 0, Value.int 0 0, Value.int 0 0, Value.int 3 0, Value.ref 177, Value.bool true, Value.int 181 0, Value.ref 178, Value.none, Value.ref 179, Value.ref 180, Value.ref 181, Value.int 404 0, Value.int 47 0, Value.str (Str.ofString "/claim/cut.py") 405] }) ::
  (nat_lit 183, ⟨Value.type "function", none, Data.func (PySem.W.fnOf (Str.ofString "check_fractions") (Str.ofString "check_fractions") (L2.defArgs s_check_fractions) (L2.defBody s_check_fractions) (L2.defScope s_check_fractions) (Value.none) (Value.none) (Value.none) (Value.str (Str.ofString "sizechains.exact") 357) (none) (Value.ref 182) (Value.none)), #[]⟩) ::
  (nat_lit 184, { cls := Value.type "tuple", data := Data.seq #[Value.int 1 407] }) ::
  (nat_lit 185, { cls := Value.type "tuple", data := Data.seq #[] }) ::
  (nat_lit 187, { cls := Value.type "tuple", data := Data.seq #[Value.str (Str.ofString "top") 411, Value.str (Str.ofString "bottom") 412, Value.str (Str.ofString "part") 413] }) ::
  (nat_lit 188, { cls := Value.type "tuple", data := Data.seq #[] }) ::
  (nat_lit 190, { cls := Value.type "code", data := Data.fields #[Value.str (Str.ofString "fraction") 408, Value.str (Str.ofString "fraction") 409, Value.str (Str.ofString "/claim/cut.py") 410, Value.int 51 0, Value.int 2 0, Value.int 0 0, Value.int 0 0, Value.int 3 0, Value.ref 185, Value.bool true, Value.int 181 0, Value.ref 186, Value.none, Value.ref 187, Value.ref 188, Value.ref 189, Value.int 414 0, Value.int 51 0, Value.str (Str.ofString "/claim/cut.py") 415] }) ::
  (nat_lit 191, ⟨Value.type "function", none, Data.func (PySem.W.fnOf (Str.ofString "fraction") (Str.ofString "fraction") (L2.defArgs s_fraction) (L2.defBody s_fraction) (L2.defScope s_fraction) (Value.ref 184) (Value.none) (Value.none) (Value.str (Str.ofString "sizechains.exact") 357) (none) (Value.ref 190) (Value.none)), #[]⟩) ::
  (nat_lit 192, { cls := Value.type "tuple", data := Data.seq #[] }) ::
  (nat_lit 194, { cls := Value.type "tuple", data := Data.seq #[Value.str (Str.ofString "side") 420] }) ::
  (nat_lit 195, { cls := Value.type "tuple", data := Data.seq #[] }) ::
  (nat_lit 197, { cls := Value.type "code", data := Data.fields #[Value.str (Str.ofString "as_fraction") 417, Value.str (Str.ofString "as_fraction") 418, Value.str (Str.ofString "/claim/cut.py") 419, Value.int 56 0, Value.int 1 0, Value.int 0 0, Value.int 0 0, Value.int 3 0, Value.ref 192, Value.bool true, Value.int 181 0, Value.ref 193, Value.none, Value.ref 194, Value.ref 195, Value.ref 196, Value.int 421 0, Value.int 56 0, Value.str (Str.ofString "/claim/cut.py") 422] }) ::
  (nat_lit 198, ⟨Value.type "function", none, Data.func (PySem.W.fnOf (Str.ofString "as_fraction") (Str.ofString "as_fraction") (L2.defArgs s_as_fraction) (L2.defBody s_as_fraction) (L2.defScope s_as_fraction) (Value.none) (Value.none) (Value.none) (Value.str (Str.ofString "sizechains.exact") 357) (none) (Value.ref 197) (Value.none)), #[]⟩) ::
  (nat_lit 199, { cls := Value.type "tuple", data := Data.seq #[] }) ::
  (nat_lit 201, { cls := Value.type "tuple", data := Data.seq #[Value.str (Str.ofString "fractions") 427, Value.str (Str.ofString "top") 428, Value.str (Str.ofString "bottom") 429, Value.str (Str.ofString "factor") 430] }) ::
  (nat_lit 202, { cls := Value.type "tuple", data := Data.seq #[] }) ::
  (nat_lit 204, { cls := Value.type "code", data := Data.fields #[Value.str (Str.ofString "product") 424, Value.str (Str.ofString "product") 425, Value.str (Str.ofString "/claim/cut.py") 426, Value.int 61 0, Value.int 0 0, Value.int 0 0, Value.int 0 0, Value.int 7 0, Value.ref 199, Value.bool true, Value.int 181 0, Value.ref 200, Value.none, Value.ref 201, Value.ref 202, Value.ref 203, Value.int 431 0, Value.int 61 0, Value.str (Str.ofString "/claim/cut.py") 432] }) ::
  (nat_lit 205, ⟨Value.type "function", none, Data.func (PySem.W.fnOf (Str.ofString "product") (Str.ofString "product") (L2.defArgs s_product) (L2.defBody s_product) (L2.defScope s_product) (Value.none) (Value.none) (Value.none) (Value.str (Str.ofString "sizechains.exact") 357) (none) (Value.ref 204) (Value.none)), #[]⟩) ::
  (nat_lit 206, { cls := Value.type "tuple", data := Data.seq #[] }) ::
  (nat_lit 208, { cls := Value.type "tuple", data := Data.seq #[Value.str (Str.ofString "one") 437, Value.str (Str.ofString "other") 438] }) ::
  (nat_lit 209, { cls := Value.type "tuple", data := Data.seq #[] }) ::
  (nat_lit 211, { cls := Value.type "code", data := Data.fields #[Value.str (Str.ofString "quotient") 434, Value.str (Str.ofString "quotient") 435, Value.str (Str.ofString "/claim/cut.py") 436, Value.int 67 0, Value.int 2 0, Value.int 0 0, Value.int 0 0, Value.int 3 0, Value.ref 206, Value.bool true, Value.int 181 0, Value.ref 207, Value.none, Value.ref 208, Value.ref 209, Value.ref 210, Value.int 439 0, Value.int 67 0, Value.str (Str.ofString "/claim/cut.py") 440] }) ::
  (nat_lit 212, ⟨Value.type "function", none, Data.func (PySem.W.fnOf (Str.ofString "quotient") (Str.ofString "quotient") (L2.defArgs s_quotient) (L2.defBody s_quotient) (L2.defScope s_quotient) (Value.none) (Value.none) (Value.none) (Value.str (Str.ofString "sizechains.exact") 357) (none) (Value.ref 211) (Value.none)), #[]⟩) ::
  (nat_lit 213, { cls := Value.type "tuple", data := Data.seq #[] }) ::
  (nat_lit 215, { cls := Value.type "tuple", data := Data.seq #[Value.str (Str.ofString "left") 445, Value.str (Str.ofString "right") 446] }) ::
  (nat_lit 216, { cls := Value.type "tuple", data := Data.seq #[] }) ::
  (nat_lit 218, { cls := Value.type "code", data := Data.fields #[Value.str (Str.ofString "order") 442, Value.str (Str.ofString "order") 443, Value.str (Str.ofString "/claim/cut.py") 444, Value.int 70 0, Value.int 2 0, Value.int 0 0, Value.int 0 0, Value.int 3 0, Value.ref 213, Value.bool true, Value.int 181 0, Value.ref 214, Value.none, Value.ref 215, Value.ref 216, Value.ref 217, Value.int 447 0, Value.int 70 0, Value.str (Str.ofString "/claim/cut.py") 448] }) ::
  (nat_lit 219, ⟨Value.type "function", none, Data.func (PySem.W.fnOf (Str.ofString "order") (Str.ofString "order") (L2.defArgs s_order) (L2.defBody s_order) (L2.defScope s_order) (Value.none) (Value.none) (Value.none) (Value.str (Str.ofString "sizechains.exact") 357) (none) (Value.ref 218) (Value.none)), #[]⟩) ::
  (nat_lit 220, { cls := Value.type "tuple", data := Data.seq #[] }) ::
  (nat_lit 222, { cls := Value.type "tuple", data := Data.seq #[Value.str (Str.ofString "one") 453, Value.str (Str.ofString "other") 454] }) ::
  (nat_lit 223, { cls := Value.type "tuple", data := Data.seq #[] }) ::
  (nat_lit 225, { cls := Value.type "code", data := Data.fields #[Value.str (Str.ofString "compare") 450, Value.str (Str.ofString "compare") 451, Value.str (Str.ofString "/claim/cut.py") 452, Value.int 76 0, Value.int 2 0, Value.int 0 0, Value.int 0 0, Value.int 3 0, Value.ref 220, Value.bool true, Value.int 181 0, Value.ref 221, Value.none, Value.ref 222, Value.ref 223, Value.ref 224, Value.int 455 0, Value.int 76 0, Value.str (Str.ofString "/claim/cut.py") 456] }) ::
  (nat_lit 226, ⟨Value.type "function", none, Data.func (PySem.W.fnOf (Str.ofString "compare") (Str.ofString "compare") (L2.defArgs s_compare) (L2.defBody s_compare) (L2.defScope s_compare) (Value.none) (Value.none) (Value.none) (Value.str (Str.ofString "sizechains.exact") 357) (none) (Value.ref 225) (Value.none)), #[]⟩) ::
  (nat_lit 227, { cls := Value.type "tuple", data := Data.seq #[] }) ::
  (nat_lit 229, { cls := Value.type "tuple", data := Data.seq #[Value.str (Str.ofString "number") 461, Value.str (Str.ofString "top") 462, Value.str (Str.ofString "bottom") 463] }) ::
  (nat_lit 230, { cls := Value.type "tuple", data := Data.seq #[] }) ::
  (nat_lit 232, { cls := Value.type "code", data := Data.fields #[Value.str (Str.ofString "format_fraction") 458, Value.str (Str.ofString "format_fraction") 459, Value.str (Str.ofString "/claim/cut.py") 460, Value.int 79 0, Value.int 1 0, Value.int 0 0, Value.int 0 0, Value.int 3 0, Value.ref 227, Value.bool true, Value.int 181 0, Value.ref 228, Value.none, Value.ref 229, Value.ref 230, Value.ref 231, Value.int 464 0, Value.int 79 0, Value.str (Str.ofString "/claim/cut.py") 465] }) ::
  (nat_lit 233, ⟨Value.type "function", none, Data.func (PySem.W.fnOf (Str.ofString "format_fraction") (Str.ofString "format_fraction") (L2.defArgs s_format_fraction) (L2.defBody s_format_fraction) (L2.defScope s_format_fraction) (Value.none) (Value.none) (Value.none) (Value.str (Str.ofString "sizechains.exact") 357) (none) (Value.ref 232) (Value.none)), #[]⟩) ::
  (nat_lit 234, { cls := Value.type "tuple", data := Data.seq #[] }) ::
  (nat_lit 236, { cls := Value.type "tuple", data := Data.seq #[Value.str (Str.ofString "text") 470] }) ::
  (nat_lit 237, { cls := Value.type "tuple", data := Data.seq #[] }) ::
  (nat_lit 239, { cls := Value.type "code", data := Data.fields #[Value.str (Str.ofString "is_numeral") 467, Value.str (Str.ofString "is_numeral") 468, Value.str (Str.ofString "/claim/cut.py") 469, Value.int 85 0, Value.int 1 0, Value.int 0 0, Value.int 0 0, Value.int 3 0, Value.ref 234, Value.bool true, Value.int 181 0, Value.ref 235, Value.none, Value.ref 236, Value.ref 237, Value.ref 238, Value.int 471 0, Value.int 85 0, Value.str (Str.ofString "/claim/cut.py") 472] }) ::
  (nat_lit 240, ⟨Value.type "function", none, Data.func (PySem.W.fnOf (Str.ofString "is_numeral") (Str.ofString "is_numeral") (L2.defArgs s_is_numeral) (L2.defBody s_is_numeral) (L2.defScope s_is_numeral) (Value.none) (Value.none) (Value.none) (Value.str (Str.ofString "sizechains.exact") 357) (none) (Value.ref 239) (Value.none)), #[]⟩) ::
  (nat_lit 241, { cls := Value.type "tuple", data := Data.seq #[] }) ::
  (nat_lit 243, { cls := Value.type "tuple", data := Data.seq #[Value.str (Str.ofString "text") 477, Value.str (Str.ofString "top") 478, Value.str (Str.ofString "slash") 479, Value.str (Str.ofString "bottom") 480, Value.str (Str.ofString "number") 481] }) ::
  (nat_lit 244, { cls := Value.type "tuple", data := Data.seq #[] }) ::
  (nat_lit 246, { cls := Value.type "code", data := Data.fields #[Value.str (Str.ofString "find_fraction") 474, Value.str (Str.ofString "find_fraction") 475, Value.str (Str.ofString "/claim/cut.py") 476, Value.int 87 0, Value.int 1 0, Value.int 0 0, Value.int 0 0, Value.int 3 0, Value.ref 241, Value.bool true, Value.int 181 0, Value.ref 242, Value.none, Value.ref 243, Value.ref 244, Value.ref 245, Value.int 482 0, Value.int 87 0, Value.str (Str.ofString "/claim/cut.py") 483] }) ::
  (nat_lit 247, ⟨Value.type "function", none, Data.func (PySem.W.fnOf (Str.ofString "find_fraction") (Str.ofString "find_fraction") (L2.defArgs s_find_fraction) (L2.defBody s_find_fraction) (L2.defScope s_find_fraction) (Value.none) (Value.none) (Value.none) (Value.str (Str.ofString "sizechains.exact") 357) (none) (Value.ref 246) (Value.none)), #[]⟩) ::
  (nat_lit 248, { cls := Value.type "tuple", data := Data.seq #[] }) ::
  (nat_lit 250, { cls := Value.type "tuple", data := Data.seq #[Value.str (Str.ofString "size") 494] }) ::
  (nat_lit 251, { cls := Value.type "tuple", data := Data.seq #[] }) ::
  (nat_lit 253, { cls := Value.type "code", data := Data.fields #[Value.str (Str.ofString "check_size") 491, Value.str (Str.ofString "check_size") 492, Value.str (Str.ofString "/claim/cut.py") 493, Value.int 101 0, Value.int 1 0, Value.int 0 0, Value.int 0 0, Value.int 3 0, Value.ref 248, Value.bool true, Value.int 181 0, Value.ref 249, Value.none, Value.ref 250, Value.ref 251, Value.ref 252, Value.int 495 0, Value.int 101 0, Value.str (Str.ofString "/claim/cut.py") 496] }) ::
  (nat_lit 254, ⟨Value.type "function", none, Data.func (PySem.W.fnOf (Str.ofString "check_size") (Str.ofString "check_size") (L2.defArgs s_check_size) (L2.defBody s_check_size) (L2.defScope s_check_size) (Value.none) (Value.none) (Value.none) (Value.str (Str.ofString "sizechains.sizes") 489) (none) (Value.ref 253) (Value.none)), #[]⟩) ::
  (nat_lit 262, { cls := Value.type "tuple", data := Data.seq #[] }) ::
  (nat_lit 264, { cls := Value.type "tuple", data := Data.seq #[Value.str (Str.ofString "self") 513, Value.str (Str.ofString "width") 514, Value.str (Str.ofString "height") 515] }) ::
  (nat_lit 265, { cls := Value.type "tuple", data := Data.seq #[] }) ::
  (nat_lit 267, { cls := Value.type "code", data := Data.fields #[Value.str (Str.ofString "__init__") 510, Value.str (Str.ofString "Size.__init__") 511, Value.str (Str.ofString "/claim/cut.py") 512, Value.int 106 0, Value.int 3 0, Value.int 0 0, Value.int 0 0, Value.int 3 0, Value.ref 262, Value.bool true, Value.int 181 0, Value.ref 263, Value.none, Value.ref 264, Value.ref 265, Value.ref 266, Value.int 516 0, Value.int 106 0, Value.str (Str.ofString "/claim/cut.py") 517] }) ::
  (nat_lit 268, ⟨Value.type "function", none, Data.func (PySem.W.fnOf (Str.ofString "__init__") (Str.ofString "Size.__init__") (L2.defArgs s_Size_init) (L2.defBody s_Size_init) (L2.defScope s_Size_init) (Value.none) (Value.none) (Value.none) (Value.str (Str.ofString "sizechains.sizes") 489) (none) (Value.ref 267) (Value.none)), #[]⟩) ::
  (nat_lit 269, { cls := Value.type "tuple", data := Data.seq #[] }) ::
  (nat_lit 271, { cls := Value.type "tuple", data := Data.seq #[Value.str (Str.ofString "cls") 522, Value.str (Str.ofString "text") 523, Value.str (Str.ofString "parts") 524, Value.str (Str.ofString "width") 525, Value.str (Str.ofString "height") 526] }) ::
  (nat_lit 272, { cls := Value.type "tuple", data := Data.seq #[] }) ::
  (nat_lit 274, { cls := Value.type "code", data := Data.fields #[Value.str (Str.ofString "read") 519, Value.str (Str.ofString "Size.read") 520, Value.str (Str.ofString "/claim/cut.py") 521, Value.int 110 0, Value.int 2 0, Value.int 0 0, Value.int 0 0, Value.int 3 0, Value.ref 269, Value.bool true, Value.int 181 0, Value.ref 270, Value.none, Value.ref 271, Value.ref 272, Value.ref 273, Value.int 527 0, Value.int 110 0, Value.str (Str.ofString "/claim/cut.py") 528] }) ::
  (nat_lit 275, ⟨Value.type "function", none, Data.func (PySem.W.fnOf (Str.ofString "read") (Str.ofString "Size.read") (L2.defArgs s_Size_read) (L2.defBody s_Size_read) (L2.defScope s_Size_read) (Value.none) (Value.none) (Value.none) (Value.str (Str.ofString "sizechains.sizes") 489) (some 278) (Value.ref 274) (Value.none)), #[]⟩) ::
  (nat_lit 276, { cls := Value.type "dict", data := Data.dict #[{ hash := PyData.keyHash P (Str.ofString "__module__"), key := Value.str (Str.ofString "__module__") 530, val := Value.str (Str.ofString "sizechains.sizes") 489 }, { hash := PyData.keyHash P (Str.ofString "__name__"), key := Value.str (Str.ofString "__name__") 533, val := Value.str (Str.ofString "read") 532 }, { hash := PyData.keyHash P (Str.ofString "__qualname__"), key := Value.str (Str.ofString "__qualname__") 536, val := Value.str (Str.ofString "Size.read") 535 }, { hash := PyData.keyHash P (Str.ofString "__doc__"), key := Value.str (Str.ofString "__doc__") 538, val := Value.none }, { hash := PyData.keyHash P (Str.ofString "__annotations__"), key := Value.str (Str.ofString "__annotations__") 540, val := Value.ref 278 }] 5 }) ::
  (nat_lit 277, { cls := Value.type "classmethod", dict := some 276, data := Data.fields #[Value.ref 275, Value.bool false] }) ::
  (nat_lit 278, { cls := Value.type "dict", data := Data.dict #[] }) ::
  (nat_lit 279, { cls := Value.type "tuple", data := Data.seq #[] }) ::
  (nat_lit 281, { cls := Value.type "tuple", data := Data.seq #[Value.str (Str.ofString "self") 545] }) ::
  (nat_lit 282, { cls := Value.type "tuple", data := Data.seq #[] }) ::
  (nat_lit 284, { cls := Value.type "code", data := Data.fields #[Value.str (Str.ofString "ratio") 542, Value.str (Str.ofString "Size.ratio") 543, Value.str (Str.ofString "/claim/cut.py") 544, Value.int 121 0, Value.int 1 0, Value.int 0 0, Value.int 0 0, Value.int 3 0, Value.ref 279, Value.bool true, Value.int 181 0, Value.ref 280, Value.none, Value.ref 281, Value.ref 282, Value.ref 283, Value.int 546 0, Value.int 121 0, Value.str (Str.ofString "/claim/cut.py") 547] }) ::
  (nat_lit 285, ⟨Value.type "function", none, Data.func (PySem.W.fnOf (Str.ofString "ratio") (Str.ofString "Size.ratio") (L2.defArgs s_Size_ratio) (L2.defBody s_Size_ratio) (L2.defScope s_Size_ratio) (Value.none) (Value.none) (Value.none) (Value.str (Str.ofString "sizechains.sizes") 489) (none) (Value.ref 284) (Value.none)), #[]⟩) ::
  (nat_lit 286, { cls := Value.type "property", data := Data.fields #[Value.ref 285, Value.none, Value.none, Value.none, Value.str (Str.ofString "ratio") 549, Value.bool false] }) ::
  (nat_lit 287, { cls := Value.type "tuple", data := Data.seq #[] }) ::
  (nat_lit 289, { cls := Value.type "tuple", data := Data.seq #[Value.str (Str.ofString "self") 553] }) ::
  (nat_lit 290, { cls := Value.type "tuple", data := Data.seq #[] }) ::
  (nat_lit 292, { cls := Value.type "code", data := Data.fields #[Value.str (Str.ofString "turned") 550, Value.str (Str.ofString "Size.turned") 551, Value.str (Str.ofString "/claim/cut.py") 552, Value.int 125 0, Value.int 1 0, Value.int 0 0, Value.int 0 0, Value.int 3 0, Value.ref 287, Value.bool true, Value.int 181 0, Value.ref 288, Value.none, Value.ref 289, Value.ref 290, Value.ref 291, Value.int 554 0, Value.int 125 0, Value.str (Str.ofString "/claim/cut.py") 555] }) ::
  (nat_lit 293, ⟨Value.type "function", none, Data.func (PySem.W.fnOf (Str.ofString "turned") (Str.ofString "Size.turned") (L2.defArgs s_Size_turned) (L2.defBody s_Size_turned) (L2.defScope s_Size_turned) (Value.none) (Value.none) (Value.none) (Value.str (Str.ofString "sizechains.sizes") 489) (none) (Value.ref 292) (Value.none)), #[]⟩) ::
  (nat_lit 294, { cls := Value.type "tuple", data := Data.seq #[] }) ::
  (nat_lit 296, { cls := Value.type "tuple", data := Data.seq #[Value.str (Str.ofString "self") 560, Value.str (Str.ofString "other") 561] }) ::
  (nat_lit 297, { cls := Value.type "tuple", data := Data.seq #[] }) ::
  (nat_lit 299, { cls := Value.type "code", data := Data.fields #[Value.str (Str.ofString "__eq__") 557, Value.str (Str.ofString "Size.__eq__") 558, Value.str (Str.ofString "/claim/cut.py") 559, Value.int 128 0, Value.int 2 0, Value.int 0 0, Value.int 0 0, Value.int 3 0, Value.ref 294, Value.bool true, Value.int 181 0, Value.ref 295, Value.none, Value.ref 296, Value.ref 297, Value.ref 298, Value.int 562 0, Value.int 128 0, Value.str (Str.ofString "/claim/cut.py") 563] }) ::
  (nat_lit 300, ⟨Value.type "function", none, Data.func (PySem.W.fnOf (Str.ofString "__eq__") (Str.ofString "Size.__eq__") (L2.defArgs s_Size_eq) (L2.defBody s_Size_eq) (L2.defScope s_Size_eq) (Value.none) (Value.none) (Value.none) (Value.str (Str.ofString "sizechains.sizes") 489) (none) (Value.ref 299) (Value.none)), #[]⟩) ::
  (nat_lit 301, { cls := Value.type "tuple", data := Data.seq #[] }) ::
  (nat_lit 303, { cls := Value.type "tuple", data := Data.seq #[Value.str (Str.ofString "self") 568, Value.str (Str.ofString "x") 569] }) ::
  (nat_lit 304, { cls := Value.type "tuple", data := Data.seq #[] }) ::
  (nat_lit 306, { cls := Value.type "code", data := Data.fields #[Value.str (Str.ofString "__contains__") 565, Value.str (Str.ofString "Size.__contains__") 566, Value.str (Str.ofString "/claim/cut.py") 567, Value.int 131 0, Value.int 2 0, Value.int 0 0, Value.int 0 0, Value.int 3 0, Value.ref 301, Value.bool true, Value.int 181 0, Value.ref 302, Value.none, Value.ref 303, Value.ref 304, Value.ref 305, Value.int 570 0, Value.int 131 0, Value.str (Str.ofString "/claim/cut.py") 571] }) ::
  (nat_lit 307, ⟨Value.type "function", none, Data.func (PySem.W.fnOf (Str.ofString "__contains__") (Str.ofString "Size.__contains__") (L2.defArgs s_Size_contains) (L2.defBody s_Size_contains) (L2.defScope s_Size_contains) (Value.none) (Value.none) (Value.none) (Value.str (Str.ofString "sizechains.sizes") 489) (none) (Value.ref 306) (Value.none)), #[]⟩) ::
  (nat_lit 308, { cls := Value.type "tuple", data := Data.seq #[] }) ::
  (nat_lit 310, { cls := Value.type "tuple", data := Data.seq #[Value.str (Str.ofString "self") 576, Value.str (Str.ofString "other") 577, Value.str (Str.ofString "factor") 578] }) ::
  (nat_lit 311, { cls := Value.type "tuple", data := Data.seq #[] }) ::
  (nat_lit 313, { cls := Value.type "code", data := Data.fields #[Value.str (Str.ofString "__mul__") 573, Value.str (Str.ofString "Size.__mul__") 574, Value.str (Str.ofString "/claim/cut.py") 575, Value.int 136 0, Value.int 2 0, Value.int 0 0, Value.int 0 0, Value.int 3 0, Value.ref 308, Value.bool true, Value.int 181 0, Value.ref 309, Value.none, Value.ref 310, Value.ref 311, Value.ref 312, Value.int 579 0, Value.int 136 0, Value.str (Str.ofString "/claim/cut.py") 580] }) ::
  (nat_lit 314, ⟨Value.type "function", none, Data.func (PySem.W.fnOf (Str.ofString "__mul__") (Str.ofString "Size.__mul__") (L2.defArgs s_Size_mul) (L2.defBody s_Size_mul) (L2.defScope s_Size_mul) (Value.none) (Value.none) (Value.none) (Value.str (Str.ofString "sizechains.sizes") 489) (none) (Value.ref 313) (Value.none)), #[]⟩) ::
  (nat_lit 315, { cls := Value.type "tuple", data := Data.seq #[] }) ::
  (nat_lit 317, { cls := Value.type "tuple", data := Data.seq #[Value.str (Str.ofString "self") 585] }) ::
  (nat_lit 318, { cls := Value.type "tuple", data := Data.seq #[] }) ::
  (nat_lit 320, { cls := Value.type "code", data := Data.fields #[Value.str (Str.ofString "__str__") 582, Value.str (Str.ofString "Size.__str__") 583, Value.str (Str.ofString "/claim/cut.py") 584, Value.int 140 0, Value.int 1 0, Value.int 0 0, Value.int 0 0, Value.int 3 0, Value.ref 315, Value.bool true, Value.int 181 0, Value.ref 316, Value.none, Value.ref 317, Value.ref 318, Value.ref 319, Value.int 586 0, Value.int 140 0, Value.str (Str.ofString "/claim/cut.py") 587] }) ::
  (nat_lit 321, ⟨Value.type "function", none, Data.func (PySem.W.fnOf (Str.ofString "__str__") (Str.ofString "Size.__str__") (L2.defArgs s_Size_str) (L2.defBody s_Size_str) (L2.defScope s_Size_str) (Value.none) (Value.none) (Value.none) (Value.str (Str.ofString "sizechains.sizes") 489) (none) (Value.ref 320) (Value.none)), #[]⟩) ::
  (nat_lit 322, { cls := Value.type "tuple", data := Data.seq #[] }) ::
  (nat_lit 324, { cls := Value.type "tuple", data := Data.seq #[Value.str (Str.ofString "self") 592] }) ::
  (nat_lit 325, { cls := Value.type "tuple", data := Data.seq #[] }) ::
  (nat_lit 327, { cls := Value.type "code", data := Data.fields #[Value.str (Str.ofString "__repr__") 589, Value.str (Str.ofString "Size.__repr__") 590, Value.str (Str.ofString "/claim/cut.py") 591, Value.int 143 0, Value.int 1 0, Value.int 0 0, Value.int 0 0, Value.int 3 0, Value.ref 322, Value.bool true, Value.int 181 0, Value.ref 323, Value.none, Value.ref 324, Value.ref 325, Value.ref 326, Value.int 593 0, Value.int 143 0, Value.str (Str.ofString "/claim/cut.py") 594] }) ::
  (nat_lit 328, ⟨Value.type "function", none, Data.func (PySem.W.fnOf (Str.ofString "__repr__") (Str.ofString "Size.__repr__") (L2.defArgs s_Size_repr) (L2.defBody s_Size_repr) (L2.defScope s_Size_repr) (Value.none) (Value.none) (Value.none) (Value.str (Str.ofString "sizechains.sizes") 489) (none) (Value.ref 327) (Value.none)), #[]⟩) ::
  (nat_lit 329, { cls := Value.type "tuple", data := Data.seq #[Value.str (Str.ofString "height") 596, Value.str (Str.ofString "width") 597] }) ::
  (nat_lit 330, { cls := Value.type "dict", data := Data.dict #[{ hash := PyData.keyHash P (Str.ofString "__module__"), key := Value.str (Str.ofString "__module__") 505, val := Value.str (Str.ofString "sizechains.sizes") 489 }, { hash := PyData.keyHash P (Str.ofString "__firstlineno__"), key := Value.str (Str.ofString "__firstlineno__") 509, val := Value.int 104 508 }, { hash := PyData.keyHash P (Str.ofString "__init__"), key := Value.str (Str.ofString "__init__") 518, val := Value.ref 268 }, { hash := PyData.keyHash P (Str.ofString "read"), key := Value.str (Str.ofString "read") 541, val := Value.ref 277 }, { hash := PyData.keyHash P (Str.ofString "ratio"), key := Value.str (Str.ofString "ratio") 549, val := Value.ref 286 }, { hash := PyData.keyHash P (Str.ofString "turned"), key := Value.str (Str.ofString "turned") 556, val := Value.ref 293 }, { hash := PyData.keyHash P (Str.ofString "__eq__"), key := Value.str (Str.ofString "__eq__") 564, val := Value.ref 300 }, { hash := PyData.keyHash P (Str.ofString "__contains__"), key := Value.str (Str.ofString "__contains__") 572, val := Value.ref 307 }, { hash := PyData.keyHash P (Str.ofString "__mul__"), key := Value.str (Str.ofString "__mul__") 581, val := Value.ref 314 }, { hash := PyData.keyHash P (Str.ofString "__str__"), key := Value.str (Str.ofString "__str__") 588, val := Value.ref 321 }, { hash := PyData.keyHash P (Str.ofString "__repr__"), key := Value.str (Str.ofString "__repr__") 595, val := Value.ref 328 }, { hash := PyData.keyHash P (Str.ofString "__static_attributes__"), key := Value.str (Str.ofString "__static_attributes__") 598, val := Value.ref 329 }, { hash := PyData.keyHash P (Str.ofString "__dict__"), key := Value.str (Str.ofString "__dict__") 600, val := Value.ref 332 }, { hash := PyData.keyHash P (Str.ofString "__weakref__"), key := Value.str (Str.ofString "__weakref__") 602, val := Value.ref 333 }, { hash := PyData.keyHash P (Str.ofString "__doc__"), key := Value.str (Str.ofString "__doc__") 603, val := Value.none }, { hash := PyData.keyHash P (Str.ofString "__hash__"), key := Value.str (Str.ofString "__hash__") 604, val := Value.none }] 5 }) ::
  (nat_lit 331, { cls := Value.type "type", data := Data.cls { name := Str.ofString "Size", bases := [Value.type "object"], mro := [Value.ref 331, Value.type "object"], ns := 330, qualname := Str.ofString "Size" }, slots := #[none, none, some (Value.str (Str.ofString "Size") 498), some (Value.str (Str.ofString "Size") 506), some (Value.builtin "object.__new__"), some (Value.bool true)] }) ::
  (nat_lit 332, { cls := Value.type "getset_descriptor", data := Data.fields #[Value.str (Str.ofString "__dict__") 599, Value.ref 331, Value.builtin "function.__dict__", Value.builtin "function.__dict__#set"] }) ::
  (nat_lit 333, { cls := Value.type "getset_descriptor", data := Data.fields #[Value.str (Str.ofString "__weakref__") 601, Value.ref 331, Value.builtin "ExceptionGroup.__weakref__", Value.none] }) ::
  (nat_lit 336, { cls := Value.type "tuple", data := Data.seq #[] }) ::
  (nat_lit 338, { cls := Value.type "tuple", data := Data.seq #[Value.str (Str.ofString "width") 612, Value.str (Str.ofString "height") 613, Value.str (Str.ofString "side") 614] }) ::
  (nat_lit 339, { cls := Value.type "tuple", data := Data.seq #[] }) ::
  (nat_lit 341, { cls := Value.type "code", data := Data.fields #[Value.str (Str.ofString "check_box") 609, Value.str (Str.ofString "check_box") 610, Value.str (Str.ofString "/claim/cut.py") 611, Value.int 146 0, Value.int 2 0, Value.int 0 0, Value.int 0 0, Value.int 3 0, Value.ref 336, Value.bool true, Value.int 181 0, Value.ref 337, Value.none, Value.ref 338, Value.ref 339, Value.ref 340, Value.int 615 0, Value.int 146 0, Value.str (Str.ofString "/claim/cut.py") 616] }) ::
  (nat_lit 342, ⟨Value.type "function", none, Data.func (PySem.W.fnOf (Str.ofString "check_box") (Str.ofString "check_box") (L2.defArgs s_check_box) (L2.defBody s_check_box) (L2.defScope s_check_box) (Value.none) (Value.none) (Value.none) (Value.str (Str.ofString "sizechains.steps") 607) (none) (Value.ref 341) (Value.none)), #[]⟩) ::
  (nat_lit 350, { cls := Value.type "tuple", data := Data.seq #[] }) ::
  (nat_lit 352, { cls := Value.type "tuple", data := Data.seq #[Value.str (Str.ofString "text") 635, Value.str (Str.ofString "step") 636] }) ::
  (nat_lit 353, { cls := Value.type "tuple", data := Data.seq #[] }) ::
  (nat_lit 355, { cls := Value.type "code", data := Data.fields #[Value.str (Str.ofString "read") 632, Value.str (Str.ofString "Step.read") 633, Value.str (Str.ofString "/claim/cut.py") 634, Value.int 153 0, Value.int 1 0, Value.int 0 0, Value.int 0 0, Value.int 3 0, Value.ref 350, Value.bool true, Value.int 181 0, Value.ref 351, Value.none, Value.ref 352, Value.ref 353, Value.ref 354, Value.int 637 0, Value.int 153 0, Value.str (Str.ofString "/claim/cut.py") 638] }) ::
  (nat_lit 356, ⟨Value.type "function", none, Data.func (PySem.W.fnOf (Str.ofString "read") (Str.ofString "Step.read") (L2.defArgs s_Step_read) (L2.defBody s_Step_read) (L2.defScope s_Step_read) (Value.none) (Value.none) (Value.none) (Value.str (Str.ofString "sizechains.steps") 607) (some 359) (Value.ref 355) (Value.none)), #[]⟩) ::
  (nat_lit 357, { cls := Value.type "dict", data := Data.dict #[{ hash := PyData.keyHash P (Str.ofString "__module__"), key := Value.str (Str.ofString "__module__") 640, val := Value.str (Str.ofString "sizechains.steps") 607 }, { hash := PyData.keyHash P (Str.ofString "__name__"), key := Value.str (Str.ofString "__name__") 643, val := Value.str (Str.ofString "read") 642 }, { hash := PyData.keyHash P (Str.ofString "__qualname__"), key := Value.str (Str.ofString "__qualname__") 646, val := Value.str (Str.ofString "Step.read") 645 }, { hash := PyData.keyHash P (Str.ofString "__doc__"), key := Value.str (Str.ofString "__doc__") 648, val := Value.none }, { hash := PyData.keyHash P (Str.ofString "__annotations__"), key := Value.str (Str.ofString "__annotations__") 650, val := Value.ref 359 }] 5 }) ::
  (nat_lit 358, { cls := Value.type "staticmethod", dict := some 357, data := Data.fields #[Value.ref 356, Value.bool false] }) ::
  (nat_lit 359, { cls := Value.type "dict", data := Data.dict #[] }) ::
  (nat_lit 360, { cls := Value.type "tuple", data := Data.seq #[] }) ::
  (nat_lit 362, { cls := Value.type "tuple", data := Data.seq #[Value.str (Str.ofString "self") 655] }) ::
  (nat_lit 363, { cls := Value.type "tuple", data := Data.seq #[] }) ::
  (nat_lit 365, { cls := Value.type "code", data := Data.fields #[Value.str (Str.ofString "details") 652, Value.str (Str.ofString "Step.details") 653, Value.str (Str.ofString "/claim/cut.py") 654, Value.int 160 0, Value.int 1 0, Value.int 0 0, Value.int 0 0, Value.int 3 0, Value.ref 360, Value.bool true, Value.int 181 0, Value.ref 361, Value.none, Value.ref 362, Value.ref 363, Value.ref 364, Value.int 656 0, Value.int 160 0, Value.str (Str.ofString "/claim/cut.py") 657] }) ::
  (nat_lit 366, ⟨Value.type "function", none, Data.func (PySem.W.fnOf (Str.ofString "details") (Str.ofString "Step.details") (L2.defArgs s_Step_details) (L2.defBody s_Step_details) (L2.defScope s_Step_details) (Value.none) (Value.none) (Value.none) (Value.str (Str.ofString "sizechains.steps") 607) (none) (Value.ref 365) (Value.none)), #[]⟩) ::
  (nat_lit 367, { cls := Value.type "tuple", data := Data.seq #[] }) ::
  (nat_lit 369, { cls := Value.type "tuple", data := Data.seq #[Value.str (Str.ofString "self") 662, Value.str (Str.ofString "other") 663] }) ::
  (nat_lit 370, { cls := Value.type "tuple", data := Data.seq #[] }) ::
  (nat_lit 372, { cls := Value.type "code", data := Data.fields #[Value.str (Str.ofString "__eq__") 659, Value.str (Str.ofString "Step.__eq__") 660, Value.str (Str.ofString "/claim/cut.py") 661, Value.int 163 0, Value.int 2 0, Value.int 0 0, Value.int 0 0, Value.int 3 0, Value.ref 367, Value.bool true, Value.int 181 0, Value.ref 368, Value.none, Value.ref 369, Value.ref 370, Value.ref 371, Value.int 664 0, Value.int 163 0, Value.str (Str.ofString "/claim/cut.py") 665] }) ::
  (nat_lit 373, ⟨Value.type "function", none, Data.func (PySem.W.fnOf (Str.ofString "__eq__") (Str.ofString "Step.__eq__") (L2.defArgs s_Step_eq) (L2.defBody s_Step_eq) (L2.defScope s_Step_eq) (Value.none) (Value.none) (Value.none) (Value.str (Str.ofString "sizechains.steps") 607) (none) (Value.ref 372) (Value.none)), #[]⟩) ::
  (nat_lit 374, { cls := Value.type "tuple", data := Data.seq #[] }) ::
  (nat_lit 376, { cls := Value.type "tuple", data := Data.seq #[Value.str (Str.ofString "self") 670] }) ::
  (nat_lit 377, { cls := Value.type "tuple", data := Data.seq #[] }) ::
  (nat_lit 379, { cls := Value.type "code", data := Data.fields #[Value.str (Str.ofString "__str__") 667, Value.str (Str.ofString "Step.__str__") 668, Value.str (Str.ofString "/claim/cut.py") 669, Value.int 166 0, Value.int 1 0, Value.int 0 0, Value.int 0 0, Value.int 3 0, Value.ref 374, Value.bool true, Value.int 181 0, Value.ref 375, Value.none, Value.ref 376, Value.ref 377, Value.ref 378, Value.int 671 0, Value.int 166 0, Value.str (Str.ofString "/claim/cut.py") 672] }) ::
  (nat_lit 380, ⟨Value.type "function", none, Data.func (PySem.W.fnOf (Str.ofString "__str__") (Str.ofString "Step.__str__") (L2.defArgs s_Step_str) (L2.defBody s_Step_str) (L2.defScope s_Step_str) (Value.none) (Value.none) (Value.none) (Value.str (Str.ofString "sizechains.steps") 607) (none) (Value.ref 379) (Value.none)), #[]⟩) ::
  (nat_lit 381, { cls := Value.type "tuple", data := Data.seq #[] }) ::
  (nat_lit 383, { cls := Value.type "tuple", data := Data.seq #[Value.str (Str.ofString "self") 677] }) ::
  (nat_lit 384, { cls := Value.type "tuple", data := Data.seq #[] }) ::
  (nat_lit 386, { cls := Value.type "code", data := Data.fields #[Value.str (Str.ofString "__repr__") 674, Value.str (Str.ofString "Step.__repr__") 675, Value.str (Str.ofString "/claim/cut.py") 676, Value.int 169 0, Value.int 1 0, Value.int 0 0, Value.int 0 0, Value.int 3 0, Value.ref 381, Value.bool true, Value.int 181 0, Value.ref 382, Value.none, Value.ref 383, Value.ref 384, Value.ref 385, Value.int 678 0, Value.int 169 0, Value.str (Str.ofString "/claim/cut.py") 679] }) ::
  (nat_lit 387, ⟨Value.type "function", none, Data.func (PySem.W.fnOf (Str.ofString "__repr__") (Str.ofString "Step.__repr__") (L2.defArgs s_Step_repr) (L2.defBody s_Step_repr) (L2.defScope s_Step_repr) (Value.none) (Value.none) (Value.none) (Value.str (Str.ofString "sizechains.steps") 607) (none) (Value.ref 386) (Value.none)), #[]⟩) ::
  (nat_lit 388, { cls := Value.type "tuple", data := Data.seq #[] }) ::
  (nat_lit 389, { cls := Value.type "dict", data := Data.dict #[{ hash := PyData.keyHash P (Str.ofString "__module__"), key := Value.str (Str.ofString "__module__") 625, val := Value.str (Str.ofString "sizechains.steps") 607 }, { hash := PyData.keyHash P (Str.ofString "__firstlineno__"), key := Value.str (Str.ofString "__firstlineno__") 629, val := Value.int 150 628 }, { hash := PyData.keyHash P (Str.ofString "WORD"), key := Value.str (Str.ofString "WORD") 631, val := Value.str (Str.ofString "") 630 }, { hash := PyData.keyHash P (Str.ofString "read"), key := Value.str (Str.ofString "read") 651, val := Value.ref 358 }, { hash := PyData.keyHash P (Str.ofString "details"), key := Value.str (Str.ofString "details") 658, val := Value.ref 366 }, { hash := PyData.keyHash P (Str.ofString "__eq__"), key := Value.str (Str.ofString "__eq__") 666, val := Value.ref 373 }, { hash := PyData.keyHash P (Str.ofString "__str__"), key := Value.str (Str.ofString "__str__") 673, val := Value.ref 380 }, { hash := PyData.keyHash P (Str.ofString "__repr__"), key := Value.str (Str.ofString "__repr__") 680, val := Value.ref 387 }, { hash := PyData.keyHash P (Str.ofString "__static_attributes__"), key := Value.str (Str.ofString "__static_attributes__") 681, val := Value.ref 388 }, { hash := PyData.keyHash P (Str.ofString "__dict__"), key := Value.str (Str.ofString "__dict__") 683, val := Value.ref 391 }, { hash := PyData.keyHash P (Str.ofString "__weakref__"), key := Value.str (Str.ofString "__weakref__") 685, val := Value.ref 392 }, { hash := PyData.keyHash P (Str.ofString "__doc__"), key := Value.str (Str.ofString "__doc__") 686, val := Value.none }, { hash := PyData.keyHash P (Str.ofString "__hash__"), key := Value.str (Str.ofString "__hash__") 687, val := Value.none }] 5 }) ::
  (nat_lit 390, { cls := Value.type "type", data := Data.cls { name := Str.ofString "Step", bases := [Value.type "object"], mro := [Value.ref 390, Value.type "object"], ns := 389, qualname := Str.ofString "Step", subclasses := [Value.ref 425, Value.ref 505, Value.ref 595, Value.ref 614, Value.ref 633] }, slots := #[none, none, some (Value.str (Str.ofString "Step") 618), some (Value.str (Str.ofString "Step") 626), some (Value.builtin "object.__new__"), some (Value.bool true)] }) ::
  (nat_lit 391, { cls := Value.type "getset_descriptor", data := Data.fields #[Value.str (Str.ofString "__dict__") 682, Value.ref 390, Value.builtin "function.__dict__", Value.builtin "function.__dict__#set"] }) ::
  (nat_lit 392, { cls := Value.type "getset_descriptor", data := Data.fields #[Value.str (Str.ofString "__weakref__") 684, Value.ref 390, Value.builtin "ExceptionGroup.__weakref__", Value.none] }) ::
  (nat_lit 395, { cls := Value.type "tuple", data := Data.seq #[Value.ref 390] }) ::
  (nat_lit 402, { cls := Value.type "tuple", data := Data.seq #[] }) ::
  (nat_lit 404, { cls := Value.type "tuple", data := Data.seq #[Value.str (Str.ofString "self") 705, Value.str (Str.ofString "width") 706, Value.str (Str.ofString "height") 707, Value.str (Str.ofString "cover") 708] }) ::
  (nat_lit 405, { cls := Value.type "tuple", data := Data.seq #[] }) ::
  (nat_lit 407, { cls := Value.type "code", data := Data.fields #[Value.str (Str.ofString "__init__") 702, Value.str (Str.ofString "Scaling.__init__") 703, Value.str (Str.ofString "/claim/cut.py") 704, Value.int 173 0, Value.int 4 0, Value.int 0 0, Value.int 0 0, Value.int 3 0, Value.ref 402, Value.bool true, Value.int 181 0, Value.ref 403, Value.none, Value.ref 404, Value.ref 405, Value.ref 406, Value.int 709 0, Value.int 173 0, Value.str (Str.ofString "/claim/cut.py") 710] }) ::
  (nat_lit 408, ⟨Value.type "function", none, Data.func (PySem.W.fnOf (Str.ofString "__init__") (Str.ofString "Scaling.__init__") (L2.defArgs s_Scaling_init) (L2.defBody s_Scaling_init) (L2.defScope s_Scaling_init) (Value.none) (Value.none) (Value.none) (Value.str (Str.ofString "sizechains.steps") 607) (none) (Value.ref 407) (Value.none)), #[]⟩) ::
  (nat_lit 409, { cls := Value.type "tuple", data := Data.seq #[] }) ::
  (nat_lit 411, { cls := Value.type "tuple", data := Data.seq #[Value.str (Str.ofString "self") 715, Value.str (Str.ofString "ending") 716] }) ::
  (nat_lit 412, { cls := Value.type "tuple", data := Data.seq #[] }) ::
  (nat_lit 414, { cls := Value.type "code", data := Data.fields #[Value.str (Str.ofString "details") 712, Value.str (Str.ofString "Scaling.details") 713, Value.str (Str.ofString "/claim/cut.py") 714, Value.int 179 0, Value.int 1 0, Value.int 0 0, Value.int 0 0, Value.int 3 0, Value.ref 409, Value.bool true, Value.int 181 0, Value.ref 410, Value.none, Value.ref 411, Value.ref 412, Value.ref 413, Value.int 717 0, Value.int 179 0, Value.str (Str.ofString "/claim/cut.py") 718] }) ::
  (nat_lit 415, ⟨Value.type "function", none, Data.func (PySem.W.fnOf (Str.ofString "details") (Str.ofString "Scaling.details") (L2.defArgs s_Scaling_details) (L2.defBody s_Scaling_details) (L2.defScope s_Scaling_details) (Value.none) (Value.none) (Value.none) (Value.str (Str.ofString "sizechains.steps") 607) (none) (Value.ref 414) (Value.none)), #[]⟩) ::
  (nat_lit 416, { cls := Value.type "tuple", data := Data.seq #[] }) ::
  (nat_lit 418, { cls := Value.type "tuple", data := Data.seq #[Value.str (Str.ofString "self") 723, Value.str (Str.ofString "size") 724, Value.str (Str.ofString "by_width") 725, Value.str (Str.ofString "by_height") 726, Value.str (Str.ofString "lesser") 727, Value.str (Str.ofString "greater") 728] }) ::
  (nat_lit 419, { cls := Value.type "tuple", data := Data.seq #[] }) ::
  (nat_lit 421, { cls := Value.type "code", data := Data.fields #[Value.str (Str.ofString "factor") 720, Value.str (Str.ofString "Scaling.factor") 721, Value.str (Str.ofString "/claim/cut.py") 722, Value.int 183 0, Value.int 2 0, Value.int 0 0, Value.int 0 0, Value.int 3 0, Value.ref 416, Value.bool true, Value.int 181 0, Value.ref 417, Value.none, Value.ref 418, Value.ref 419, Value.ref 420, Value.int 729 0, Value.int 183 0, Value.str (Str.ofString "/claim/cut.py") 730] }) ::
  (nat_lit 422, ⟨Value.type "function", none, Data.func (PySem.W.fnOf (Str.ofString "factor") (Str.ofString "Scaling.factor") (L2.defArgs s_Scaling_factor) (L2.defBody s_Scaling_factor) (L2.defScope s_Scaling_factor) (Value.none) (Value.none) (Value.none) (Value.str (Str.ofString "sizechains.steps") 607) (none) (Value.ref 421) (Value.none)), #[]⟩) ::
  (nat_lit 423, { cls := Value.type "tuple", data := Data.seq #[Value.str (Str.ofString "cover") 732, Value.str (Str.ofString "height") 733, Value.str (Str.ofString "width") 734] }) ::
  (nat_lit 424, { cls := Value.type "dict", data := Data.dict #[{ hash := PyData.keyHash P (Str.ofString "__module__"), key := Value.str (Str.ofString "__module__") 697, val := Value.str (Str.ofString "sizechains.steps") 607 }, { hash := PyData.keyHash P (Str.ofString "__firstlineno__"), key := Value.str (Str.ofString "__firstlineno__") 701, val := Value.int 171 700 }, { hash := PyData.keyHash P (Str.ofString "__init__"), key := Value.str (Str.ofString "__init__") 711, val := Value.ref 408 }, { hash := PyData.keyHash P (Str.ofString "details"), key := Value.str (Str.ofString "details") 719, val := Value.ref 415 }, { hash := PyData.keyHash P (Str.ofString "factor"), key := Value.str (Str.ofString "factor") 731, val := Value.ref 422 }, { hash := PyData.keyHash P (Str.ofString "__static_attributes__"), key := Value.str (Str.ofString "__static_attributes__") 735, val := Value.ref 423 }, { hash := PyData.keyHash P (Str.ofString "__doc__"), key := Value.str (Str.ofString "__doc__") 736, val := Value.none }] 2 }) ::
  (nat_lit 425, { cls := Value.type "type", data := Data.cls { name := Str.ofString "Scaling", bases := [Value.ref 390], mro := [Value.ref 425, Value.ref 390, Value.type "object"], ns := 424, qualname := Str.ofString "Scaling", subclasses := [Value.ref 452, Value.ref 479] }, slots := #[some (Value.ref 395), none, some (Value.str (Str.ofString "Scaling") 690), some (Value.str (Str.ofString "Scaling") 698), some (Value.builtin "object.__new__"), some (Value.bool true)] }) ::
  (nat_lit 428, { cls := Value.type "tuple", data := Data.seq #[Value.ref 425] }) ::
  (nat_lit 435, { cls := Value.type "dict", data := Data.dict #[{ hash := PyData.keyHash P (Str.ofString "cover"), key := Value.str (Str.ofString "cover") 753, val := Value.bool false }] 1 }) ::
  (nat_lit 436, { cls := Value.type "tuple", data := Data.seq #[] }) ::
  (nat_lit 438, { cls := Value.type "tuple", data := Data.seq #[Value.str (Str.ofString "self") 757, Value.str (Str.ofString "width") 758, Value.str (Str.ofString "height") 759, Value.str (Str.ofString "cover") 760] }) ::
  (nat_lit 439, { cls := Value.type "tuple", data := Data.seq #[] }) ::
  (nat_lit 441, { cls := Value.type "code", data := Data.fields #[Value.str (Str.ofString "__init__") 754, Value.str (Str.ofString "Shrink.__init__") 755, Value.str (Str.ofString "/claim/cut.py") 756, Value.int 193 0, Value.int 3 0, Value.int 0 0, Value.int 1 0, Value.int 3 0, Value.ref 436, Value.bool true, Value.int 181 0, Value.ref 437, Value.none, Value.ref 438, Value.ref 439, Value.ref 440, Value.int 761 0, Value.int 193 0, Value.str (Str.ofString "/claim/cut.py") 762] }) ::
  (nat_lit 442, ⟨Value.type "function", none, Data.func (PySem.W.fnOf (Str.ofString "__init__") (Str.ofString "Shrink.__init__") (L2.defArgs s_Shrink_init) (L2.defBody s_Shrink_init) (L2.defScope s_Shrink_init) (Value.none) (Value.ref 435) (Value.none) (Value.str (Str.ofString "sizechains.steps") 607) (none) (Value.ref 441) (Value.none)), #[]⟩) ::
  (nat_lit 443, { cls := Value.type "tuple", data := Data.seq #[] }) ::
  (nat_lit 445, { cls := Value.type "tuple", data := Data.seq #[Value.str (Str.ofString "self") 767, Value.str (Str.ofString "size") 768, Value.str (Str.ofString "factor") 769] }) ::
  (nat_lit 446, { cls := Value.type "tuple", data := Data.seq #[] }) ::
  (nat_lit 448, { cls := Value.type "code", data := Data.fields #[Value.str (Str.ofString "apply") 764, Value.str (Str.ofString "Shrink.apply") 765, Value.str (Str.ofString "/claim/cut.py") 766, Value.int 196 0, Value.int 2 0, Value.int 0 0, Value.int 0 0, Value.int 3 0, Value.ref 443, Value.bool true, Value.int 181 0, Value.ref 444, Value.none, Value.ref 445, Value.ref 446, Value.ref 447, Value.int 770 0, Value.int 196 0, Value.str (Str.ofString "/claim/cut.py") 771] }) ::
  (nat_lit 449, ⟨Value.type "function", none, Data.func (PySem.W.fnOf (Str.ofString "apply") (Str.ofString "Shrink.apply") (L2.defArgs s_Shrink_apply) (L2.defBody s_Shrink_apply) (L2.defScope s_Shrink_apply) (Value.none) (Value.none) (Value.none) (Value.str (Str.ofString "sizechains.steps") 607) (none) (Value.ref 448) (Value.none)), #[]⟩) ::
  (nat_lit 450, { cls := Value.type "tuple", data := Data.seq #[] }) ::
  (nat_lit 451, { cls := Value.type "dict", data := Data.dict #[{ hash := PyData.keyHash P (Str.ofString "__module__"), key := Value.str (Str.ofString "__module__") 746, val := Value.str (Str.ofString "sizechains.steps") 607 }, { hash := PyData.keyHash P (Str.ofString "__firstlineno__"), key := Value.str (Str.ofString "__firstlineno__") 750, val := Value.int 190 749 }, { hash := PyData.keyHash P (Str.ofString "WORD"), key := Value.str (Str.ofString "WORD") 752, val := Value.str (Str.ofString "shrink") 751 }, { hash := PyData.keyHash P (Str.ofString "__init__"), key := Value.str (Str.ofString "__init__") 763, val := Value.ref 442 }, { hash := PyData.keyHash P (Str.ofString "apply"), key := Value.str (Str.ofString "apply") 772, val := Value.ref 449 }, { hash := PyData.keyHash P (Str.ofString "__static_attributes__"), key := Value.str (Str.ofString "__static_attributes__") 773, val := Value.ref 450 }, { hash := PyData.keyHash P (Str.ofString "__doc__"), key := Value.str (Str.ofString "__doc__") 774, val := Value.none }] 2 }) ::
  (nat_lit 452, { cls := Value.type "type", data := Data.cls { name := Str.ofString "Shrink", bases := [Value.ref 425], mro := [Value.ref 452, Value.ref 425, Value.ref 390, Value.type "object"], ns := 451, qualname := Str.ofString "Shrink" }, slots := #[some (Value.ref 428), none, some (Value.str (Str.ofString "Shrink") 739), some (Value.str (Str.ofString "Shrink") 747), some (Value.builtin "object.__new__"), some (Value.bool true)] }) ::
  (nat_lit 455, { cls := Value.type "tuple", data := Data.seq #[Value.ref 425] }) ::
  (nat_lit 462, { cls := Value.type "dict", data := Data.dict #[{ hash := PyData.keyHash P (Str.ofString "cover"), key := Value.str (Str.ofString "cover") 791, val := Value.bool false }] 1 }) ::
  (nat_lit 463, { cls := Value.type "tuple", data := Data.seq #[] }) ::
  (nat_lit 465, { cls := Value.type "tuple", data := Data.seq #[Value.str (Str.ofString "self") 795, Value.str (Str.ofString "width") 796, Value.str (Str.ofString "height") 797, Value.str (Str.ofString "cover") 798] }) ::
  (nat_lit 466, { cls := Value.type "tuple", data := Data.seq #[] }) ::
  (nat_lit 468, { cls := Value.type "code", data := Data.fields #[Value.str (Str.ofString "__init__") 792, Value.str (Str.ofString "Grow.__init__") 793, Value.str (Str.ofString "/claim/cut.py") 794, Value.int 203 0, Value.int 3 0, Value.int 0 0, Value.int 1 0, Value.int 3 0, Value.ref 463, Value.bool true, Value.int 181 0, Value.ref 464, Value.none, Value.ref 465, Value.ref 466, Value.ref 467, Value.int 799 0, Value.int 203 0, Value.str (Str.ofString "/claim/cut.py") 800] }) ::
  (nat_lit 469, ⟨Value.type "function", none, Data.func (PySem.W.fnOf (Str.ofString "__init__") (Str.ofString "Grow.__init__") (L2.defArgs s_Grow_init) (L2.defBody s_Grow_init) (L2.defScope s_Grow_init) (Value.none) (Value.ref 462) (Value.none) (Value.str (Str.ofString "sizechains.steps") 607) (none) (Value.ref 468) (Value.none)), #[]⟩) ::
  (nat_lit 470, { cls := Value.type "tuple", data := Data.seq #[] }) ::
  (nat_lit 472, { cls := Value.type "tuple", data := Data.seq #[Value.str (Str.ofString "self") 805, Value.str (Str.ofString "size") 806, Value.str (Str.ofString "factor") 807] }) ::
  (nat_lit 473, { cls := Value.type "tuple", data := Data.seq #[] }) ::
  (nat_lit 475, { cls := Value.type "code", data := Data.fields #[Value.str (Str.ofString "apply") 802, Value.str (Str.ofString "Grow.apply") 803, Value.str (Str.ofString "/claim/cut.py") 804, Value.int 206 0, Value.int 2 0, Value.int 0 0, Value.int 0 0, Value.int 3 0, Value.ref 470, Value.bool true, Value.int 181 0, Value.ref 471, Value.none, Value.ref 472, Value.ref 473, Value.ref 474, Value.int 808 0, Value.int 206 0, Value.str (Str.ofString "/claim/cut.py") 809] }) ::
  (nat_lit 476, ⟨Value.type "function", none, Data.func (PySem.W.fnOf (Str.ofString "apply") (Str.ofString "Grow.apply") (L2.defArgs s_Grow_apply) (L2.defBody s_Grow_apply) (L2.defScope s_Grow_apply) (Value.none) (Value.none) (Value.none) (Value.str (Str.ofString "sizechains.steps") 607) (none) (Value.ref 475) (Value.none)), #[]⟩) ::
  (nat_lit 477, { cls := Value.type "tuple", data := Data.seq #[] }) ::
  (nat_lit 478, { cls := Value.type "dict", data := Data.dict #[{ hash := PyData.keyHash P (Str.ofString "__module__"), key := Value.str (Str.ofString "__module__") 784, val := Value.str (Str.ofString "sizechains.steps") 607 }, { hash := PyData.keyHash P (Str.ofString "__firstlineno__"), key := Value.str (Str.ofString "__firstlineno__") 788, val := Value.int 200 787 }, { hash := PyData.keyHash P (Str.ofString "WORD"), key := Value.str (Str.ofString "WORD") 790, val := Value.str (Str.ofString "grow") 789 }, { hash := PyData.keyHash P (Str.ofString "__init__"), key := Value.str (Str.ofString "__init__") 801, val := Value.ref 469 }, { hash := PyData.keyHash P (Str.ofString "apply"), key := Value.str (Str.ofString "apply") 810, val := Value.ref 476 }, { hash := PyData.keyHash P (Str.ofString "__static_attributes__"), key := Value.str (Str.ofString "__static_attributes__") 811, val := Value.ref 477 }, { hash := PyData.keyHash P (Str.ofString "__doc__"), key := Value.str (Str.ofString "__doc__") 812, val := Value.none }] 2 }) ::
  (nat_lit 479, { cls := Value.type "type", data := Data.cls { name := Str.ofString "Grow", bases := [Value.ref 425], mro := [Value.ref 479, Value.ref 425, Value.ref 390, Value.type "object"], ns := 478, qualname := Str.ofString "Grow" }, slots := #[some (Value.ref 455), none, some (Value.str (Str.ofString "Grow") 777), some (Value.str (Str.ofString "Grow") 785), some (Value.builtin "object.__new__"), some (Value.bool true)] }) ::
  (nat_lit 482, { cls := Value.type "tuple", data := Data.seq #[Value.ref 390] }) ::
  (nat_lit 489, { cls := Value.type "tuple", data := Data.seq #[] }) ::
  (nat_lit 491, { cls := Value.type "tuple", data := Data.seq #[Value.str (Str.ofString "self") 830, Value.str (Str.ofString "width") 831, Value.str (Str.ofString "height") 832, Value.str (Str.ofString "keep") 833, Value.str (Str.ofString "words") 834] }) ::
  (nat_lit 492, { cls := Value.type "tuple", data := Data.seq #[] }) ::
  (nat_lit 494, { cls := Value.type "code", data := Data.fields #[Value.str (Str.ofString "__init__") 827, Value.str (Str.ofString "Crop.__init__") 828, Value.str (Str.ofString "/claim/cut.py") 829, Value.int 212 0, Value.int 5 0, Value.int 0 0, Value.int 0 0, Value.int 3 0, Value.ref 489, Value.bool true, Value.int 181 0, Value.ref 490, Value.none, Value.ref 491, Value.ref 492, Value.ref 493, Value.int 835 0, Value.int 212 0, Value.str (Str.ofString "/claim/cut.py") 836] }) ::
  (nat_lit 495, ⟨Value.type "function", none, Data.func (PySem.W.fnOf (Str.ofString "__init__") (Str.ofString "Crop.__init__") (L2.defArgs s_Crop_init) (L2.defBody s_Crop_init) (L2.defScope s_Crop_init) (Value.none) (Value.none) (Value.none) (Value.str (Str.ofString "sizechains.steps") 607) (none) (Value.ref 494) (Value.none)), #[]⟩) ::
  (nat_lit 496, { cls := Value.type "tuple", data := Data.seq #[] }) ::
  (nat_lit 498, { cls := Value.type "tuple", data := Data.seq #[Value.str (Str.ofString "self") 841] }) ::
  (nat_lit 499, { cls := Value.type "tuple", data := Data.seq #[] }) ::
  (nat_lit 501, { cls := Value.type "code", data := Data.fields #[Value.str (Str.ofString "details") 838, Value.str (Str.ofString "Crop.details") 839, Value.str (Str.ofString "/claim/cut.py") 840, Value.int 220 0, Value.int 1 0, Value.int 0 0, Value.int 0 0, Value.int 3 0, Value.ref 496, Value.bool true, Value.int 181 0, Value.ref 497, Value.none, Value.ref 498, Value.ref 499, Value.ref 500, Value.int 842 0, Value.int 220 0, Value.str (Str.ofString "/claim/cut.py") 843] }) ::
  (nat_lit 502, ⟨Value.type "function", none, Data.func (PySem.W.fnOf (Str.ofString "details") (Str.ofString "Crop.details") (L2.defArgs s_Crop_details) (L2.defBody s_Crop_details) (L2.defScope s_Crop_details) (Value.none) (Value.none) (Value.none) (Value.str (Str.ofString "sizechains.steps") 607) (none) (Value.ref 501) (Value.none)), #[]⟩) ::
  (nat_lit 503, { cls := Value.type "tuple", data := Data.seq #[Value.str (Str.ofString "height") 845, Value.str (Str.ofString "keep") 846, Value.str (Str.ofString "width") 847] }) ::
  (nat_lit 504, { cls := Value.type "dict", data := Data.dict #[{ hash := PyData.keyHash P (Str.ofString "__module__"), key := Value.str (Str.ofString "__module__") 822, val := Value.str (Str.ofString "sizechains.steps") 607 }, { hash := PyData.keyHash P (Str.ofString "__firstlineno__"), key := Value.str (Str.ofString "__firstlineno__") 826, val := Value.int 210 825 }, { hash := PyData.keyHash P (Str.ofString "__init__"), key := Value.str (Str.ofString "__init__") 837, val := Value.ref 495 }, { hash := PyData.keyHash P (Str.ofString "details"), key := Value.str (Str.ofString "details") 844, val := Value.ref 502 }, { hash := PyData.keyHash P (Str.ofString "__static_attributes__"), key := Value.str (Str.ofString "__static_attributes__") 848, val := Value.ref 503 }, { hash := PyData.keyHash P (Str.ofString "__doc__"), key := Value.str (Str.ofString "__doc__") 849, val := Value.none }] 2 }) ::
  (nat_lit 505, { cls := Value.type "type", data := Data.cls { name := Str.ofString "Crop", bases := [Value.ref 390], mro := [Value.ref 505, Value.ref 390, Value.type "object"], ns := 504, qualname := Str.ofString "Crop", subclasses := [Value.ref 533, Value.ref 561] }, slots := #[some (Value.ref 482), none, some (Value.str (Str.ofString "Crop") 815), some (Value.str (Str.ofString "Crop") 823), some (Value.builtin "object.__new__"), some (Value.bool true)] }) ::
  (nat_lit 508, { cls := Value.type "tuple", data := Data.seq #[Value.ref 505] }) ::
  (nat_lit 515, { cls := Value.type "tuple", data := Data.seq #[Value.str (Str.ofString "left") 866, Value.str (Str.ofString "center") 867, Value.str (Str.ofString "right") 868] }) ::
  (nat_lit 516, { cls := Value.type "dict", data := Data.dict #[{ hash := PyData.keyHash P (Str.ofString "keep"), key := Value.str (Str.ofString "keep") 871, val := Value.str (Str.ofString "center") 870 }] 1 }) ::
  (nat_lit 517, { cls := Value.type "tuple", data := Data.seq #[] }) ::
  (nat_lit 519, { cls := Value.type "tuple", data := Data.seq #[Value.str (Str.ofString "self") 875, Value.str (Str.ofString "width") 876, Value.str (Str.ofString "height") 877, Value.str (Str.ofString "keep") 878] }) ::
  (nat_lit 520, { cls := Value.type "tuple", data := Data.seq #[] }) ::
  (nat_lit 522, { cls := Value.type "code", data := Data.fields #[Value.str (Str.ofString "__init__") 872, Value.str (Str.ofString "CropWidth.__init__") 873, Value.str (Str.ofString "/claim/cut.py") 874, Value.int 226 0, Value.int 3 0, Value.int 0 0, Value.int 1 0, Value.int 3 0, Value.ref 517, Value.bool true, Value.int 181 0, Value.ref 518, Value.none, Value.ref 519, Value.ref 520, Value.ref 521, Value.int 879 0, Value.int 226 0, Value.str (Str.ofString "/claim/cut.py") 880] }) ::
  (nat_lit 523, ⟨Value.type "function", none, Data.func (PySem.W.fnOf (Str.ofString "__init__") (Str.ofString "CropWidth.__init__") (L2.defArgs s_CropWidth_init) (L2.defBody s_CropWidth_init) (L2.defScope s_CropWidth_init) (Value.none) (Value.ref 516) (Value.none) (Value.str (Str.ofString "sizechains.steps") 607) (none) (Value.ref 522) (Value.none)), #[]⟩) ::
  (nat_lit 524, { cls := Value.type "tuple", data := Data.seq #[] }) ::
  (nat_lit 526, { cls := Value.type "tuple", data := Data.seq #[Value.str (Str.ofString "self") 885, Value.str (Str.ofString "size") 886, Value.str (Str.ofString "wanted") 887] }) ::
  (nat_lit 527, { cls := Value.type "tuple", data := Data.seq #[] }) ::
  (nat_lit 529, { cls := Value.type "code", data := Data.fields #[Value.str (Str.ofString "apply") 882, Value.str (Str.ofString "CropWidth.apply") 883, Value.str (Str.ofString "/claim/cut.py") 884, Value.int 229 0, Value.int 2 0, Value.int 0 0, Value.int 0 0, Value.int 3 0, Value.ref 524, Value.bool true, Value.int 181 0, Value.ref 525, Value.none, Value.ref 526, Value.ref 527, Value.ref 528, Value.int 888 0, Value.int 229 0, Value.str (Str.ofString "/claim/cut.py") 889] }) ::
  (nat_lit 530, ⟨Value.type "function", none, Data.func (PySem.W.fnOf (Str.ofString "apply") (Str.ofString "CropWidth.apply") (L2.defArgs s_CropWidth_apply) (L2.defBody s_CropWidth_apply) (L2.defScope s_CropWidth_apply) (Value.none) (Value.none) (Value.none) (Value.str (Str.ofString "sizechains.steps") 607) (none) (Value.ref 529) (Value.none)), #[]⟩) ::
  (nat_lit 531, { cls := Value.type "tuple", data := Data.seq #[] }) ::
  (nat_lit 532, { cls := Value.type "dict", data := Data.dict #[{ hash := PyData.keyHash P (Str.ofString "__module__"), key := Value.str (Str.ofString "__module__") 859, val := Value.str (Str.ofString "sizechains.steps") 607 }, { hash := PyData.keyHash P (Str.ofString "__firstlineno__"), key := Value.str (Str.ofString "__firstlineno__") 863, val := Value.int 222 862 }, { hash := PyData.keyHash P (Str.ofString "WORD"), key := Value.str (Str.ofString "WORD") 865, val := Value.str (Str.ofString "width") 864 }, { hash := PyData.keyHash P (Str.ofString "KEEPS"), key := Value.str (Str.ofString "KEEPS") 869, val := Value.ref 515 }, { hash := PyData.keyHash P (Str.ofString "__init__"), key := Value.str (Str.ofString "__init__") 881, val := Value.ref 523 }, { hash := PyData.keyHash P (Str.ofString "apply"), key := Value.str (Str.ofString "apply") 890, val := Value.ref 530 }, { hash := PyData.keyHash P (Str.ofString "__static_attributes__"), key := Value.str (Str.ofString "__static_attributes__") 891, val := Value.ref 531 }, { hash := PyData.keyHash P (Str.ofString "__doc__"), key := Value.str (Str.ofString "__doc__") 892, val := Value.none }] 2 }) ::
  (nat_lit 533, { cls := Value.type "type", data := Data.cls { name := Str.ofString "CropWidth", bases := [Value.ref 505], mro := [Value.ref 533, Value.ref 505, Value.ref 390, Value.type "object"], ns := 532, qualname := Str.ofString "CropWidth" }, slots := #[some (Value.ref 508), none, some (Value.str (Str.ofString "CropWidth") 852), some (Value.str (Str.ofString "CropWidth") 860), some (Value.builtin "object.__new__"), some (Value.bool true)] }) ::
  (nat_lit 536, { cls := Value.type "tuple", data := Data.seq #[Value.ref 505] }) ::
  (nat_lit 543, { cls := Value.type "tuple", data := Data.seq #[Value.str (Str.ofString "top") 909, Value.str (Str.ofString "center") 910, Value.str (Str.ofString "bottom") 911] }) ::
  (nat_lit 544, { cls := Value.type "dict", data := Data.dict #[{ hash := PyData.keyHash P (Str.ofString "keep"), key := Value.str (Str.ofString "keep") 914, val := Value.str (Str.ofString "center") 913 }] 1 }) ::
  (nat_lit 545, { cls := Value.type "tuple", data := Data.seq #[] }) ::
  (nat_lit 547, { cls := Value.type "tuple", data := Data.seq #[Value.str (Str.ofString "self") 918, Value.str (Str.ofString "width") 919, Value.str (Str.ofString "height") 920, Value.str (Str.ofString "keep") 921] }) ::
  (nat_lit 548, { cls := Value.type "tuple", data := Data.seq #[] }) ::
  (nat_lit 550, { cls := Value.type "code", data := Data.fields #[Value.str (Str.ofString "__init__") 915, Value.str (Str.ofString "CropHeight.__init__") 916, Value.str (Str.ofString "/claim/cut.py") 917, Value.int 239 0, Value.int 3 0, Value.int 0 0, Value.int 1 0, Value.int 3 0, Value.ref 545, Value.bool true, Value.int 181 0, Value.ref 546, Value.none, Value.ref 547, Value.ref 548, Value.ref 549, Value.int 922 0, Value.int 239 0, Value.str (Str.ofString "/claim/cut.py") 923] }) ::
  (nat_lit 551, ⟨Value.type "function", none, Data.func (PySem.W.fnOf (Str.ofString "__init__") (Str.ofString "CropHeight.__init__") (L2.defArgs s_CropHeight_init) (L2.defBody s_CropHeight_init) (L2.defScope s_CropHeight_init) (Value.none) (Value.ref 544) (Value.none) (Value.str (Str.ofString "sizechains.steps") 607) (none) (Value.ref 550) (Value.none)), #[]⟩) ::
  (nat_lit 552, { cls := Value.type "tuple", data := Data.seq #[] }) ::
  (nat_lit 554, { cls := Value.type "tuple", data := Data.seq #[Value.str (Str.ofString "self") 928, Value.str (Str.ofString "size") 929, Value.str (Str.ofString "wanted") 930] }) ::
  (nat_lit 555, { cls := Value.type "tuple", data := Data.seq #[] }) ::
  (nat_lit 557, { cls := Value.type "code", data := Data.fields #[Value.str (Str.ofString "apply") 925, Value.str (Str.ofString "CropHeight.apply") 926, Value.str (Str.ofString "/claim/cut.py") 927, Value.int 242 0, Value.int 2 0, Value.int 0 0, Value.int 0 0, Value.int 3 0, Value.ref 552, Value.bool true, Value.int 181 0, Value.ref 553, Value.none, Value.ref 554, Value.ref 555, Value.ref 556, Value.int 931 0, Value.int 242 0, Value.str (Str.ofString "/claim/cut.py") 932] }) ::
  (nat_lit 558, ⟨Value.type "function", none, Data.func (PySem.W.fnOf (Str.ofString "apply") (Str.ofString "CropHeight.apply") (L2.defArgs s_CropHeight_apply) (L2.defBody s_CropHeight_apply) (L2.defScope s_CropHeight_apply) (Value.none) (Value.none) (Value.none) (Value.str (Str.ofString "sizechains.steps") 607) (none) (Value.ref 557) (Value.none)), #[]⟩) ::
  (nat_lit 559, { cls := Value.type "tuple", data := Data.seq #[] }) ::
  (nat_lit 560, { cls := Value.type "dict", data := Data.dict #[{ hash := PyData.keyHash P (Str.ofString "__module__"), key := Value.str (Str.ofString "__module__") 902, val := Value.str (Str.ofString "sizechains.steps") 607 }, { hash := PyData.keyHash P (Str.ofString "__firstlineno__"), key := Value.str (Str.ofString "__firstlineno__") 906, val := Value.int 235 905 }, { hash := PyData.keyHash P (Str.ofString "WORD"), key := Value.str (Str.ofString "WORD") 908, val := Value.str (Str.ofString "height") 907 }, { hash := PyData.keyHash P (Str.ofString "KEEPS"), key := Value.str (Str.ofString "KEEPS") 912, val := Value.ref 543 }, { hash := PyData.keyHash P (Str.ofString "__init__"), key := Value.str (Str.ofString "__init__") 924, val := Value.ref 551 }, { hash := PyData.keyHash P (Str.ofString "apply"), key := Value.str (Str.ofString "apply") 933, val := Value.ref 558 }, { hash := PyData.keyHash P (Str.ofString "__static_attributes__"), key := Value.str (Str.ofString "__static_attributes__") 934, val := Value.ref 559 }, { hash := PyData.keyHash P (Str.ofString "__doc__"), key := Value.str (Str.ofString "__doc__") 935, val := Value.none }] 2 }) ::
  (nat_lit 561, { cls := Value.type "type", data := Data.cls { name := Str.ofString "CropHeight", bases := [Value.ref 505], mro := [Value.ref 561, Value.ref 505, Value.ref 390, Value.type "object"], ns := 560, qualname := Str.ofString "CropHeight" }, slots := #[some (Value.ref 536), none, some (Value.str (Str.ofString "CropHeight") 895), some (Value.str (Str.ofString "CropHeight") 903), some (Value.builtin "object.__new__"), some (Value.bool true)] }) ::
  (nat_lit 564, { cls := Value.type "tuple", data := Data.seq #[Value.ref 390] }) ::
  (nat_lit 571, { cls := Value.type "tuple", data := Data.seq #[Value.int 1 952] }) ::
  (nat_lit 572, { cls := Value.type "tuple", data := Data.seq #[] }) ::
  (nat_lit 574, { cls := Value.type "tuple", data := Data.seq #[Value.str (Str.ofString "self") 956, Value.str (Str.ofString "times") 957] }) ::
  (nat_lit 575, { cls := Value.type "tuple", data := Data.seq #[] }) ::
  (nat_lit 577, { cls := Value.type "code", data := Data.fields #[Value.str (Str.ofString "__init__") 953, Value.str (Str.ofString "Turn.__init__") 954, Value.str (Str.ofString "/claim/cut.py") 955, Value.int 251 0, Value.int 2 0, Value.int 0 0, Value.int 0 0, Value.int 3 0, Value.ref 572, Value.bool true, Value.int 181 0, Value.ref 573, Value.none, Value.ref 574, Value.ref 575, Value.ref 576, Value.int 958 0, Value.int 251 0, Value.str (Str.ofString "/claim/cut.py") 959] }) ::
  (nat_lit 578, ⟨Value.type "function", none, Data.func (PySem.W.fnOf (Str.ofString "__init__") (Str.ofString "Turn.__init__") (L2.defArgs s_Turn_init) (L2.defBody s_Turn_init) (L2.defScope s_Turn_init) (Value.ref 571) (Value.none) (Value.none) (Value.str (Str.ofString "sizechains.steps") 607) (none) (Value.ref 577) (Value.none)), #[]⟩) ::
  (nat_lit 579, { cls := Value.type "tuple", data := Data.seq #[] }) ::
  (nat_lit 581, { cls := Value.type "tuple", data := Data.seq #[Value.str (Str.ofString "self") 964] }) ::
  (nat_lit 582, { cls := Value.type "tuple", data := Data.seq #[] }) ::
  (nat_lit 584, { cls := Value.type "code", data := Data.fields #[Value.str (Str.ofString "details") 961, Value.str (Str.ofString "Turn.details") 962, Value.str (Str.ofString "/claim/cut.py") 963, Value.int 256 0, Value.int 1 0, Value.int 0 0, Value.int 0 0, Value.int 3 0, Value.ref 579, Value.bool true, Value.int 181 0, Value.ref 580, Value.none, Value.ref 581, Value.ref 582, Value.ref 583, Value.int 965 0, Value.int 256 0, Value.str (Str.ofString "/claim/cut.py") 966] }) ::
  (nat_lit 585, ⟨Value.type "function", none, Data.func (PySem.W.fnOf (Str.ofString "details") (Str.ofString "Turn.details") (L2.defArgs s_Turn_details) (L2.defBody s_Turn_details) (L2.defScope s_Turn_details) (Value.none) (Value.none) (Value.none) (Value.str (Str.ofString "sizechains.steps") 607) (none) (Value.ref 584) (Value.none)), #[]⟩) ::
  (nat_lit 586, { cls := Value.type "tuple", data := Data.seq #[] }) ::
  (nat_lit 588, { cls := Value.type "tuple", data := Data.seq #[Value.str (Str.ofString "self") 971, Value.str (Str.ofString "size") 972] }) ::
  (nat_lit 589, { cls := Value.type "tuple", data := Data.seq #[] }) ::
  (nat_lit 591, { cls := Value.type "code", data := Data.fields #[Value.str (Str.ofString "apply") 968, Value.str (Str.ofString "Turn.apply") 969, Value.str (Str.ofString "/claim/cut.py") 970, Value.int 259 0, Value.int 2 0, Value.int 0 0, Value.int 0 0, Value.int 3 0, Value.ref 586, Value.bool true, Value.int 181 0, Value.ref 587, Value.none, Value.ref 588, Value.ref 589, Value.ref 590, Value.int 973 0, Value.int 259 0, Value.str (Str.ofString "/claim/cut.py") 974] }) ::
  (nat_lit 592, ⟨Value.type "function", none, Data.func (PySem.W.fnOf (Str.ofString "apply") (Str.ofString "Turn.apply") (L2.defArgs s_Turn_apply) (L2.defBody s_Turn_apply) (L2.defScope s_Turn_apply) (Value.none) (Value.none) (Value.none) (Value.str (Str.ofString "sizechains.steps") 607) (none) (Value.ref 591) (Value.none)), #[]⟩) ::
  (nat_lit 593, { cls := Value.type "tuple", data := Data.seq #[Value.str (Str.ofString "times") 976] }) ::
  (nat_lit 594, { cls := Value.type "dict", data := Data.dict #[{ hash := PyData.keyHash P (Str.ofString "__module__"), key := Value.str (Str.ofString "__module__") 945, val := Value.str (Str.ofString "sizechains.steps") 607 }, { hash := PyData.keyHash P (Str.ofString "__firstlineno__"), key := Value.str (Str.ofString "__firstlineno__") 949, val := Value.int 248 948 }, { hash := PyData.keyHash P (Str.ofString "WORD"), key := Value.str (Str.ofString "WORD") 951, val := Value.str (Str.ofString "turn") 950 }, { hash := PyData.keyHash P (Str.ofString "__init__"), key := Value.str (Str.ofString "__init__") 960, val := Value.ref 578 }, { hash := PyData.keyHash P (Str.ofString "details"), key := Value.str (Str.ofString "details") 967, val := Value.ref 585 }, { hash := PyData.keyHash P (Str.ofString "apply"), key := Value.str (Str.ofString "apply") 975, val := Value.ref 592 }, { hash := PyData.keyHash P (Str.ofString "__static_attributes__"), key := Value.str (Str.ofString "__static_attributes__") 977, val := Value.ref 593 }, { hash := PyData.keyHash P (Str.ofString "__doc__"), key := Value.str (Str.ofString "__doc__") 978, val := Value.none }] 2 }) ::
  (nat_lit 595, { cls := Value.type "type", data := Data.cls { name := Str.ofString "Turn", bases := [Value.ref 390], mro := [Value.ref 595, Value.ref 390, Value.type "object"], ns := 594, qualname := Str.ofString "Turn" }, slots := #[some (Value.ref 564), none, some (Value.str (Str.ofString "Turn") 938), some (Value.str (Str.ofString "Turn") 946), some (Value.builtin "object.__new__"), some (Value.bool true)] }) ::
  (nat_lit 598, { cls := Value.type "tuple", data := Data.seq #[Value.ref 390] }) ::
  (nat_lit 605, { cls := Value.type "tuple", data := Data.seq #[] }) ::
  (nat_lit 607, { cls := Value.type "tuple", data := Data.seq #[Value.str (Str.ofString "self") 998, Value.str (Str.ofString "size") 999] }) ::
  (nat_lit 608, { cls := Value.type "tuple", data := Data.seq #[] }) ::
  (nat_lit 610, { cls := Value.type "code", data := Data.fields #[Value.str (Str.ofString "apply") 995, Value.str (Str.ofString "Landscape.apply") 996, Value.str (Str.ofString "/claim/cut.py") 997, Value.int 265 0, Value.int 2 0, Value.int 0 0, Value.int 0 0, Value.int 3 0, Value.ref 605, Value.bool true, Value.int 181 0, Value.ref 606, Value.none, Value.ref 607, Value.ref 608, Value.ref 609, Value.int 1000 0, Value.int 265 0, Value.str (Str.ofString "/claim/cut.py") 1001] }) ::
  (nat_lit 611, ⟨Value.type "function", none, Data.func (PySem.W.fnOf (Str.ofString "apply") (Str.ofString "Landscape.apply") (L2.defArgs s_Landscape_apply) (L2.defBody s_Landscape_apply) (L2.defScope s_Landscape_apply) (Value.none) (Value.none) (Value.none) (Value.str (Str.ofString "sizechains.steps") 607) (none) (Value.ref 610) (Value.none)), #[]⟩) ::
  (nat_lit 612, { cls := Value.type "tuple", data := Data.seq #[] }) ::
  (nat_lit 613, { cls := Value.type "dict", data := Data.dict #[{ hash := PyData.keyHash P (Str.ofString "__module__"), key := Value.str (Str.ofString "__module__") 988, val := Value.str (Str.ofString "sizechains.steps") 607 }, { hash := PyData.keyHash P (Str.ofString "__firstlineno__"), key := Value.str (Str.ofString "__firstlineno__") 992, val := Value.int 262 991 }, { hash := PyData.keyHash P (Str.ofString "WORD"), key := Value.str (Str.ofString "WORD") 994, val := Value.str (Str.ofString "landscape") 993 }, { hash := PyData.keyHash P (Str.ofString "apply"), key := Value.str (Str.ofString "apply") 1002, val := Value.ref 611 }, { hash := PyData.keyHash P (Str.ofString "__static_attributes__"), key := Value.str (Str.ofString "__static_attributes__") 1003, val := Value.ref 612 }, { hash := PyData.keyHash P (Str.ofString "__doc__"), key := Value.str (Str.ofString "__doc__") 1004, val := Value.none }] 2 }) ::
  (nat_lit 614, { cls := Value.type "type", data := Data.cls { name := Str.ofString "Landscape", bases := [Value.ref 390], mro := [Value.ref 614, Value.ref 390, Value.type "object"], ns := 613, qualname := Str.ofString "Landscape" }, slots := #[some (Value.ref 598), none, some (Value.str (Str.ofString "Landscape") 981), some (Value.str (Str.ofString "Landscape") 989), some (Value.builtin "object.__new__"), some (Value.bool true)] }) ::
  (nat_lit 617, { cls := Value.type "tuple", data := Data.seq #[Value.ref 390] }) ::
  (nat_lit 624, { cls := Value.type "tuple", data := Data.seq #[] }) ::
  (nat_lit 626, { cls := Value.type "tuple", data := Data.seq #[Value.str (Str.ofString "self") 1024, Value.str (Str.ofString "size") 1025] }) ::
  (nat_lit 627, { cls := Value.type "tuple", data := Data.seq #[] }) ::
  (nat_lit 629, { cls := Value.type "code", data := Data.fields #[Value.str (Str.ofString "apply") 1021, Value.str (Str.ofString "Portrait.apply") 1022, Value.str (Str.ofString "/claim/cut.py") 1023, Value.int 271 0, Value.int 2 0, Value.int 0 0, Value.int 0 0, Value.int 3 0, Value.ref 624, Value.bool true, Value.int 181 0, Value.ref 625, Value.none, Value.ref 626, Value.ref 627, Value.ref 628, Value.int 1026 0, Value.int 271 0, Value.str (Str.ofString "/claim/cut.py") 1027] }) ::
  (nat_lit 630, ⟨Value.type "function", none, Data.func (PySem.W.fnOf (Str.ofString "apply") (Str.ofString "Portrait.apply") (L2.defArgs s_Portrait_apply) (L2.defBody s_Portrait_apply) (L2.defScope s_Portrait_apply) (Value.none) (Value.none) (Value.none) (Value.str (Str.ofString "sizechains.steps") 607) (none) (Value.ref 629) (Value.none)), #[]⟩) ::
  (nat_lit 631, { cls := Value.type "tuple", data := Data.seq #[] }) ::
  (nat_lit 632, { cls := Value.type "dict", data := Data.dict #[{ hash := PyData.keyHash P (Str.ofString "__module__"), key := Value.str (Str.ofString "__module__") 1014, val := Value.str (Str.ofString "sizechains.steps") 607 }, { hash := PyData.keyHash P (Str.ofString "__firstlineno__"), key := Value.str (Str.ofString "__firstlineno__") 1018, val := Value.int 268 1017 }, { hash := PyData.keyHash P (Str.ofString "WORD"), key := Value.str (Str.ofString "WORD") 1020, val := Value.str (Str.ofString "portrait") 1019 }, { hash := PyData.keyHash P (Str.ofString "apply"), key := Value.str (Str.ofString "apply") 1028, val := Value.ref 630 }, { hash := PyData.keyHash P (Str.ofString "__static_attributes__"), key := Value.str (Str.ofString "__static_attributes__") 1029, val := Value.ref 631 }, { hash := PyData.keyHash P (Str.ofString "__doc__"), key := Value.str (Str.ofString "__doc__") 1030, val := Value.none }] 2 }) ::
  (nat_lit 633, { cls := Value.type "type", data := Data.cls { name := Str.ofString "Portrait", bases := [Value.ref 390], mro := [Value.ref 633, Value.ref 390, Value.type "object"], ns := 632, qualname := Str.ofString "Portrait" }, slots := #[some (Value.ref 617), none, some (Value.str (Str.ofString "Portrait") 1007), some (Value.str (Str.ofString "Portrait") 1015), some (Value.builtin "object.__new__"), some (Value.bool true)] }) ::
  (nat_lit 636, { cls := Value.type "tuple", data := Data.seq #[] }) ::
  (nat_lit 638, { cls := Value.type "tuple", data := Data.seq #[Value.str (Str.ofString "text") 1036, Value.str (Str.ofString "sign") 1037, Value.str (Str.ofString "width") 1038, Value.str (Str.ofString "found") 1039, Value.str (Str.ofString "height") 1040, Value.str (Str.ofString "numeral") 1041] }) ::
  (nat_lit 639, { cls := Value.type "tuple", data := Data.seq #[] }) ::
  (nat_lit 641, { cls := Value.type "code", data := Data.fields #[Value.str (Str.ofString "find_sides") 1033, Value.str (Str.ofString "find_sides") 1034, Value.str (Str.ofString "/claim/cut.py") 1035, Value.int 274 0, Value.int 2 0, Value.int 0 0, Value.int 0 0, Value.int 3 0, Value.ref 636, Value.bool true, Value.int 181 0, Value.ref 637, Value.none, Value.ref 638, Value.ref 639, Value.ref 640, Value.int 1042 0, Value.int 274 0, Value.str (Str.ofString "/claim/cut.py") 1043] }) ::
  (nat_lit 642, ⟨Value.type "function", none, Data.func (PySem.W.fnOf (Str.ofString "find_sides") (Str.ofString "find_sides") (L2.defArgs s_find_sides) (L2.defBody s_find_sides) (L2.defScope s_find_sides) (Value.none) (Value.none) (Value.none) (Value.str (Str.ofString "sizechains.steps") 607) (none) (Value.ref 641) (Value.none)), #[]⟩) ::
  (nat_lit 643, { cls := Value.type "tuple", data := Data.seq #[] }) ::
  (nat_lit 645, { cls := Value.type "tuple", data := Data.seq #[Value.str (Str.ofString "word") 1048, Value.str (Str.ofString "width") 1049, Value.str (Str.ofString "height") 1050, Value.str (Str.ofString "cover") 1051] }) ::
  (nat_lit 646, { cls := Value.type "tuple", data := Data.seq #[] }) ::
  (nat_lit 648, { cls := Value.type "code", data := Data.fields #[Value.str (Str.ofString "scaling") 1045, Value.str (Str.ofString "scaling") 1046, Value.str (Str.ofString "/claim/cut.py") 1047, Value.int 280 0, Value.int 4 0, Value.int 0 0, Value.int 0 0, Value.int 3 0, Value.ref 643, Value.bool true, Value.int 181 0, Value.ref 644, Value.none, Value.ref 645, Value.ref 646, Value.ref 647, Value.int 1052 0, Value.int 280 0, Value.str (Str.ofString "/claim/cut.py") 1053] }) ::
  (nat_lit 649, ⟨Value.type "function", none, Data.func (PySem.W.fnOf (Str.ofString "scaling") (Str.ofString "scaling") (L2.defArgs s_scaling) (L2.defBody s_scaling) (L2.defScope s_scaling) (Value.none) (Value.none) (Value.none) (Value.str (Str.ofString "sizechains.steps") 607) (none) (Value.ref 648) (Value.none)), #[]⟩) ::
  (nat_lit 650, { cls := Value.type "tuple", data := Data.seq #[] }) ::
  (nat_lit 652, { cls := Value.type "tuple", data := Data.seq #[Value.str (Str.ofString "word") 1058, Value.str (Str.ofString "details") 1059, Value.str (Str.ofString "sides") 1060] }) ::
  (nat_lit 653, { cls := Value.type "tuple", data := Data.seq #[] }) ::
  (nat_lit 655, { cls := Value.type "code", data := Data.fields #[Value.str (Str.ofString "find_scaling") 1055, Value.str (Str.ofString "find_scaling") 1056, Value.str (Str.ofString "/claim/cut.py") 1057, Value.int 284 0, Value.int 2 0, Value.int 0 0, Value.int 0 0, Value.int 3 0, Value.ref 650, Value.bool true, Value.int 181 0, Value.ref 651, Value.none, Value.ref 652, Value.ref 653, Value.ref 654, Value.int 1061 0, Value.int 284 0, Value.str (Str.ofString "/claim/cut.py") 1062] }) ::
  (nat_lit 656, ⟨Value.type "function", none, Data.func (PySem.W.fnOf (Str.ofString "find_scaling") (Str.ofString "find_scaling") (L2.defArgs s_find_scaling) (L2.defBody s_find_scaling) (L2.defScope s_find_scaling) (Value.none) (Value.none) (Value.none) (Value.str (Str.ofString "sizechains.steps") 607) (none) (Value.ref 655) (Value.none)), #[]⟩) ::
  (nat_lit 657, { cls := Value.type "tuple", data := Data.seq #[] }) ::
  (nat_lit 659, { cls := Value.type "tuple", data := Data.seq #[Value.str (Str.ofString "word") 1067, Value.str (Str.ofString "details") 1068, Value.str (Str.ofString "sides") 1069, Value.str (Str.ofString "keep") 1070] }) ::
  (nat_lit 660, { cls := Value.type "tuple", data := Data.seq #[] }) ::
  (nat_lit 662, { cls := Value.type "code", data := Data.fields #[Value.str (Str.ofString "find_crop") 1064, Value.str (Str.ofString "find_crop") 1065, Value.str (Str.ofString "/claim/cut.py") 1066, Value.int 289 0, Value.int 2 0, Value.int 0 0, Value.int 0 0, Value.int 3 0, Value.ref 657, Value.bool true, Value.int 181 0, Value.ref 658, Value.none, Value.ref 659, Value.ref 660, Value.ref 661, Value.int 1071 0, Value.int 289 0, Value.str (Str.ofString "/claim/cut.py") 1072] }) ::
  (nat_lit 663, ⟨Value.type "function", none, Data.func (PySem.W.fnOf (Str.ofString "find_crop") (Str.ofString "find_crop") (L2.defArgs s_find_crop) (L2.defBody s_find_crop) (L2.defScope s_find_crop) (Value.none) (Value.none) (Value.none) (Value.str (Str.ofString "sizechains.steps") 607) (none) (Value.ref 662) (Value.none)), #[]⟩) ::
  (nat_lit 664, { cls := Value.type "tuple", data := Data.seq #[] }) ::
  (nat_lit 666, { cls := Value.type "tuple", data := Data.seq #[Value.str (Str.ofString "word") 1077, Value.str (Str.ofString "details") 1078] }) ::
  (nat_lit 667, { cls := Value.type "tuple", data := Data.seq #[] }) ::
  (nat_lit 669, { cls := Value.type "code", data := Data.fields #[Value.str (Str.ofString "find_turn") 1074, Value.str (Str.ofString "find_turn") 1075, Value.str (Str.ofString "/claim/cut.py") 1076, Value.int 299 0, Value.int 2 0, Value.int 0 0, Value.int 0 0, Value.int 3 0, Value.ref 664, Value.bool true, Value.int 181 0, Value.ref 665, Value.none, Value.ref 666, Value.ref 667, Value.ref 668, Value.int 1079 0, Value.int 299 0, Value.str (Str.ofString "/claim/cut.py") 1080] }) ::
  (nat_lit 670, ⟨Value.type "function", none, Data.func (PySem.W.fnOf (Str.ofString "find_turn") (Str.ofString "find_turn") (L2.defArgs s_find_turn) (L2.defBody s_find_turn) (L2.defScope s_find_turn) (Value.none) (Value.none) (Value.none) (Value.str (Str.ofString "sizechains.steps") 607) (none) (Value.ref 669) (Value.none)), #[]⟩) ::
  (nat_lit 671, { cls := Value.type "tuple", data := Data.seq #[] }) ::
  (nat_lit 673, { cls := Value.type "tuple", data := Data.seq #[Value.str (Str.ofString "text") 1085, Value.str (Str.ofString "words") 1086, Value.str (Str.ofString "word") 1087, Value.str (Str.ofString "details") 1088, Value.str (Str.ofString "step") 1089] }) ::
  (nat_lit 674, { cls := Value.type "tuple", data := Data.seq #[] }) ::
  (nat_lit 676, { cls := Value.type "code", data := Data.fields #[Value.str (Str.ofString "find_step") 1082, Value.str (Str.ofString "find_step") 1083, Value.str (Str.ofString "/claim/cut.py") 1084, Value.int 307 0, Value.int 1 0, Value.int 0 0, Value.int 0 0, Value.int 3 0, Value.ref 671, Value.bool true, Value.int 181 0, Value.ref 672, Value.none, Value.ref 673, Value.ref 674, Value.ref 675, Value.int 1090 0, Value.int 307 0, Value.str (Str.ofString "/claim/cut.py") 1091] }) ::
  (nat_lit 677, ⟨Value.type "function", none, Data.func (PySem.W.fnOf (Str.ofString "find_step") (Str.ofString "find_step") (L2.defArgs s_find_step) (L2.defBody s_find_step) (L2.defScope s_find_step) (Value.none) (Value.none) (Value.none) (Value.str (Str.ofString "sizechains.steps") 607) (none) (Value.ref 676) (Value.none)), #[]⟩) ::
  (nat_lit 678, { cls := Value.type "tuple", data := Data.seq #[] }) ::
  (nat_lit 680, { cls := Value.type "tuple", data := Data.seq #[Value.str (Str.ofString "_law_script") 1098, Value.str (Str.ofString "_law_k") 1099, Value.str (Str.ofString "_law_state") 1100, Value.str (Str.ofString "_law_figure") 1101] }) ::
  (nat_lit 681, { cls := Value.type "tuple", data := Data.seq #[] }) ::
  (nat_lit 683, { cls := Value.type "code", data := Data.fields #[Value.str (Str.ofString "_law_cell") 1095, Value.str (Str.ofString "_law_cell") 1096, Value.str (Str.ofString "/claim/cut.py") 1097, Value.int 322 0, Value.int 2 0, Value.int 0 0, Value.int 0 0, Value.int 3 0, Value.ref 678, Value.bool true, Value.int 181 0, Value.ref 679, Value.none, Value.ref 680, Value.ref 681, Value.ref 682, Value.int 1102 0, Value.int 322 0, Value.str (Str.ofString "/claim/cut.py") 1103] }) ::
  (nat_lit 684, ⟨Value.type "function", none, Data.func (PySem.W.fnOf (Str.ofString "_law_cell") (Str.ofString "_law_cell") (L2.defArgs s_l_cell) (L2.defBody s_l_cell) (L2.defScope s_l_cell) (Value.none) (Value.none) (Value.none) (Value.str (Str.ofString "law_sizechains_k15_scalings_to_cover") 1093) (none) (Value.ref 683) (Value.none)), #[]⟩) ::
  (nat_lit 685, { cls := Value.type "tuple", data := Data.seq #[] }) ::
  (nat_lit 687, { cls := Value.type "tuple", data := Data.seq #[Value.str (Str.ofString "_law_figure") 1108, Value.str (Str.ofString "_law_digits") 1109] }) ::
  (nat_lit 688, { cls := Value.type "tuple", data := Data.seq #[] }) ::
  (nat_lit 690, { cls := Value.type "code", data := Data.fields #[Value.str (Str.ofString "_law_pool") 1105, Value.str (Str.ofString "_law_pool") 1106, Value.str (Str.ofString "/claim/cut.py") 1107, Value.int 329 0, Value.int 1 0, Value.int 0 0, Value.int 0 0, Value.int 3 0, Value.ref 685, Value.bool true, Value.int 181 0, Value.ref 686, Value.none, Value.ref 687, Value.ref 688, Value.ref 689, Value.int 1110 0, Value.int 329 0, Value.str (Str.ofString "/claim/cut.py") 1111] }) ::
  (nat_lit 691, ⟨Value.type "function", none, Data.func (PySem.W.fnOf (Str.ofString "_law_pool") (Str.ofString "_law_pool") (L2.defArgs s_l_pool) (L2.defBody s_l_pool) (L2.defScope s_l_pool) (Value.none) (Value.none) (Value.none) (Value.str (Str.ofString "law_sizechains_k15_scalings_to_cover") 1093) (none) (Value.ref 690) (Value.none)), #[]⟩) ::
  (nat_lit 692, { cls := Value.type "tuple", data := Data.seq #[] }) ::
  (nat_lit 694, { cls := Value.type "tuple", data := Data.seq #[Value.str (Str.ofString "_law_pool_here") 1116, Value.str (Str.ofString "_law_most") 1117, Value.str (Str.ofString "_law_state") 1118, Value.str (Str.ofString "_law_digit") 1119] }) ::
  (nat_lit 695, { cls := Value.type "tuple", data := Data.seq #[] }) ::
  (nat_lit 697, { cls := Value.type "code", data := Data.fields #[Value.str (Str.ofString "_law_draw") 1113, Value.str (Str.ofString "_law_draw") 1114, Value.str (Str.ofString "/claim/cut.py") 1115, Value.int 332 0, Value.int 2 0, Value.int 0 0, Value.int 0 0, Value.int 3 0, Value.ref 692, Value.bool true, Value.int 181 0, Value.ref 693, Value.none, Value.ref 694, Value.ref 695, Value.ref 696, Value.int 1120 0, Value.int 332 0, Value.str (Str.ofString "/claim/cut.py") 1121] }) ::
  (nat_lit 698, ⟨Value.type "function", none, Data.func (PySem.W.fnOf (Str.ofString "_law_draw") (Str.ofString "_law_draw") (L2.defArgs s_l_draw) (L2.defBody s_l_draw) (L2.defScope s_l_draw) (Value.none) (Value.none) (Value.none) (Value.str (Str.ofString "law_sizechains_k15_scalings_to_cover") 1093) (none) (Value.ref 697) (Value.none)), #[]⟩) ::
  (nat_lit 699, { cls := Value.type "tuple", data := Data.seq #[] }) ::
  (nat_lit 701, { cls := Value.type "tuple", data := Data.seq #[Value.str (Str.ofString "_law_high_part") 1126, Value.str (Str.ofString "_law_low_part") 1127, Value.str (Str.ofString "_law_one") 1128, Value.str (Str.ofString "_law_rest") 1129] }) ::
  (nat_lit 702, { cls := Value.type "tuple", data := Data.seq #[] }) ::
  (nat_lit 704, { cls := Value.type "code", data := Data.fields #[Value.str (Str.ofString "_law_low") 1123, Value.str (Str.ofString "_law_low") 1124, Value.str (Str.ofString "/claim/cut.py") 1125, Value.int 340 0, Value.int 2 0, Value.int 0 0, Value.int 0 0, Value.int 3 0, Value.ref 699, Value.bool true, Value.int 181 0, Value.ref 700, Value.none, Value.ref 701, Value.ref 702, Value.ref 703, Value.int 1130 0, Value.int 340 0, Value.str (Str.ofString "/claim/cut.py") 1131] }) ::
  (nat_lit 705, ⟨Value.type "function", none, Data.func (PySem.W.fnOf (Str.ofString "_law_low") (Str.ofString "_law_low") (L2.defArgs s_l_low) (L2.defBody s_l_low) (L2.defScope s_l_low) (Value.none) (Value.none) (Value.none) (Value.str (Str.ofString "law_sizechains_k15_scalings_to_cover") 1093) (none) (Value.ref 704) (Value.none)), #[]⟩) ::
  (nat_lit 706, { cls := Value.type "tuple", data := Data.seq #[] }) ::
  (nat_lit 708, { cls := Value.type "tuple", data := Data.seq #[Value.str (Str.ofString "_law_one") 1136, Value.str (Str.ofString "_law_more") 1137] }) ::
  (nat_lit 709, { cls := Value.type "tuple", data := Data.seq #[] }) ::
  (nat_lit 711, { cls := Value.type "code", data := Data.fields #[Value.str (Str.ofString "_law_mul") 1133, Value.str (Str.ofString "_law_mul") 1134, Value.str (Str.ofString "/claim/cut.py") 1135, Value.int 345 0, Value.int 2 0, Value.int 0 0, Value.int 0 0, Value.int 3 0, Value.ref 706, Value.bool true, Value.int 181 0, Value.ref 707, Value.none, Value.ref 708, Value.ref 709, Value.ref 710, Value.int 1138 0, Value.int 345 0, Value.str (Str.ofString "/claim/cut.py") 1139] }) ::
  (nat_lit 712, ⟨Value.type "function", none, Data.func (PySem.W.fnOf (Str.ofString "_law_mul") (Str.ofString "_law_mul") (L2.defArgs s_l_mul) (L2.defBody s_l_mul) (L2.defScope s_l_mul) (Value.none) (Value.none) (Value.none) (Value.str (Str.ofString "law_sizechains_k15_scalings_to_cover") 1093) (none) (Value.ref 711) (Value.none)), #[]⟩) ::
  (nat_lit 713, { cls := Value.type "tuple", data := Data.seq #[] }) ::
  (nat_lit 715, { cls := Value.type "tuple", data := Data.seq #[Value.str (Str.ofString "_law_one") 1144, Value.str (Str.ofString "_law_more") 1145] }) ::
  (nat_lit 716, { cls := Value.type "tuple", data := Data.seq #[] }) ::
  (nat_lit 718, { cls := Value.type "code", data := Data.fields #[Value.str (Str.ofString "_law_div") 1141, Value.str (Str.ofString "_law_div") 1142, Value.str (Str.ofString "/claim/cut.py") 1143, Value.int 347 0, Value.int 2 0, Value.int 0 0, Value.int 0 0, Value.int 3 0, Value.ref 713, Value.bool true, Value.int 181 0, Value.ref 714, Value.none, Value.ref 715, Value.ref 716, Value.ref 717, Value.int 1146 0, Value.int 347 0, Value.str (Str.ofString "/claim/cut.py") 1147] }) ::
  (nat_lit 719, ⟨Value.type "function", none, Data.func (PySem.W.fnOf (Str.ofString "_law_div") (Str.ofString "_law_div") (L2.defArgs s_l_div) (L2.defBody s_l_div) (L2.defScope s_l_div) (Value.none) (Value.none) (Value.none) (Value.str (Str.ofString "law_sizechains_k15_scalings_to_cover") 1093) (none) (Value.ref 718) (Value.none)), #[]⟩) ::
  (nat_lit 720, { cls := Value.type "tuple", data := Data.seq #[] }) ::
  (nat_lit 722, { cls := Value.type "tuple", data := Data.seq #[Value.str (Str.ofString "_law_one") 1152, Value.str (Str.ofString "_law_more") 1153] }) ::
  (nat_lit 723, { cls := Value.type "tuple", data := Data.seq #[] }) ::
  (nat_lit 725, { cls := Value.type "code", data := Data.fields #[Value.str (Str.ofString "_law_less") 1149, Value.str (Str.ofString "_law_less") 1150, Value.str (Str.ofString "/claim/cut.py") 1151, Value.int 349 0, Value.int 2 0, Value.int 0 0, Value.int 0 0, Value.int 3 0, Value.ref 720, Value.bool true, Value.int 181 0, Value.ref 721, Value.none, Value.ref 722, Value.ref 723, Value.ref 724, Value.int 1154 0, Value.int 349 0, Value.str (Str.ofString "/claim/cut.py") 1155] }) ::
  (nat_lit 726, ⟨Value.type "function", none, Data.func (PySem.W.fnOf (Str.ofString "_law_less") (Str.ofString "_law_less") (L2.defArgs s_l_less) (L2.defBody s_l_less) (L2.defScope s_l_less) (Value.none) (Value.none) (Value.none) (Value.str (Str.ofString "law_sizechains_k15_scalings_to_cover") 1093) (none) (Value.ref 725) (Value.none)), #[]⟩) ::
  (nat_lit 727, { cls := Value.type "tuple", data := Data.seq #[] }) ::
  (nat_lit 729, { cls := Value.type "tuple", data := Data.seq #[Value.str (Str.ofString "_law_pool_here") 1160, Value.str (Str.ofString "_law_great") 1161, Value.str (Str.ofString "_law_way") 1162, Value.str (Str.ofString "_law_most") 1163] }) ::
  (nat_lit 730, { cls := Value.type "tuple", data := Data.seq #[] }) ::
  (nat_lit 732, { cls := Value.type "code", data := Data.fields #[Value.str (Str.ofString "_law_part") 1157, Value.str (Str.ofString "_law_part") 1158, Value.str (Str.ofString "/claim/cut.py") 1159, Value.int 351 0, Value.int 2 0, Value.int 0 0, Value.int 0 0, Value.int 3 0, Value.ref 727, Value.bool true, Value.int 181 0, Value.ref 728, Value.none, Value.ref 729, Value.ref 730, Value.ref 731, Value.int 1164 0, Value.int 351 0, Value.str (Str.ofString "/claim/cut.py") 1165] }) ::
  (nat_lit 733, ⟨Value.type "function", none, Data.func (PySem.W.fnOf (Str.ofString "_law_part") (Str.ofString "_law_part") (L2.defArgs s_l_part) (L2.defBody s_l_part) (L2.defScope s_l_part) (Value.none) (Value.none) (Value.none) (Value.str (Str.ofString "law_sizechains_k15_scalings_to_cover") 1093) (none) (Value.ref 732) (Value.none)), #[]⟩) ::
  (nat_lit 734, { cls := Value.type "tuple", data := Data.seq #[] }) ::
  (nat_lit 736, { cls := Value.type "tuple", data := Data.seq #[Value.str (Str.ofString "_law_pool_here") 1170, Value.str (Str.ofString "_law_great") 1171, Value.str (Str.ofString "_law_one") 1172, Value.str (Str.ofString "_law_way") 1173] }) ::
  (nat_lit 737, { cls := Value.type "tuple", data := Data.seq #[] }) ::
  (nat_lit 739, { cls := Value.type "code", data := Data.fields #[Value.str (Str.ofString "_law_sides") 1167, Value.str (Str.ofString "_law_sides") 1168, Value.str (Str.ofString "/claim/cut.py") 1169, Value.int 357 0, Value.int 2 0, Value.int 0 0, Value.int 0 0, Value.int 3 0, Value.ref 734, Value.bool true, Value.int 181 0, Value.ref 735, Value.none, Value.ref 736, Value.ref 737, Value.ref 738, Value.int 1174 0, Value.int 357 0, Value.str (Str.ofString "/claim/cut.py") 1175] }) ::
  (nat_lit 740, ⟨Value.type "function", none, Data.func (PySem.W.fnOf (Str.ofString "_law_sides") (Str.ofString "_law_sides") (L2.defArgs s_l_sides) (L2.defBody s_l_sides) (L2.defScope s_l_sides) (Value.none) (Value.none) (Value.none) (Value.str (Str.ofString "law_sizechains_k15_scalings_to_cover") 1093) (none) (Value.ref 739) (Value.none)), #[]⟩) ::
  (nat_lit 741, { cls := Value.type "tuple", data := Data.seq #[] }) ::
  (nat_lit 743, { cls := Value.type "tuple", data := Data.seq #[Value.str (Str.ofString "_law_pool_here") 1180, Value.str (Str.ofString "_law_great") 1181, Value.str (Str.ofString "_law_most") 1182] }) ::
  (nat_lit 744, { cls := Value.type "tuple", data := Data.seq #[] }) ::
  (nat_lit 746, { cls := Value.type "code", data := Data.fields #[Value.str (Str.ofString "_law_side") 1177, Value.str (Str.ofString "_law_side") 1178, Value.str (Str.ofString "/claim/cut.py") 1179, Value.int 364 0, Value.int 2 0, Value.int 0 0, Value.int 0 0, Value.int 3 0, Value.ref 741, Value.bool true, Value.int 181 0, Value.ref 742, Value.none, Value.ref 743, Value.ref 744, Value.ref 745, Value.int 1183 0, Value.int 364 0, Value.str (Str.ofString "/claim/cut.py") 1184] }) ::
  (nat_lit 747, ⟨Value.type "function", none, Data.func (PySem.W.fnOf (Str.ofString "_law_side") (Str.ofString "_law_side") (L2.defArgs s_l_side) (L2.defBody s_l_side) (L2.defScope s_l_side) (Value.none) (Value.none) (Value.none) (Value.str (Str.ofString "law_sizechains_k15_scalings_to_cover") 1093) (none) (Value.ref 746) (Value.none)), #[]⟩) ::
  (nat_lit 748, { cls := Value.type "tuple", data := Data.seq #[] }) ::
  (nat_lit 750, { cls := Value.type "tuple", data := Data.seq #[Value.str (Str.ofString "_law_spec") 1189] }) ::
  (nat_lit 751, { cls := Value.type "tuple", data := Data.seq #[] }) ::
  (nat_lit 753, { cls := Value.type "code", data := Data.fields #[Value.str (Str.ofString "_law_made") 1186, Value.str (Str.ofString "_law_made") 1187, Value.str (Str.ofString "/claim/cut.py") 1188, Value.int 367 0, Value.int 1 0, Value.int 0 0, Value.int 0 0, Value.int 3 0, Value.ref 748, Value.bool true, Value.int 181 0, Value.ref 749, Value.none, Value.ref 750, Value.ref 751, Value.ref 752, Value.int 1190 0, Value.int 367 0, Value.str (Str.ofString "/claim/cut.py") 1191] }) ::
  (nat_lit 754, ⟨Value.type "function", none, Data.func (PySem.W.fnOf (Str.ofString "_law_made") (Str.ofString "_law_made") (L2.defArgs s_l_made) (L2.defBody s_l_made) (L2.defScope s_l_made) (Value.none) (Value.none) (Value.none) (Value.str (Str.ofString "law_sizechains_k15_scalings_to_cover") 1093) (none) (Value.ref 753) (Value.none)), #[]⟩) ::
  (nat_lit 755, { cls := Value.type "tuple", data := Data.seq #[] }) ::
  (nat_lit 757, { cls := Value.type "tuple", data := Data.seq #[Value.str (Str.ofString "_law_sides_here") 1196, Value.str (Str.ofString "_law_spec") 1197, Value.str (Str.ofString "_law_wide") 1198, Value.str (Str.ofString "_law_tall") 1199, Value.str (Str.ofString "_law_one") 1200, Value.str (Str.ofString "_law_more") 1201, Value.str (Str.ofString "_law_scale") 1202, Value.str (Str.ofString "_law_most") 1203, Value.str (Str.ofString "_law_is_turned") 1204] }) ::
  (nat_lit 758, { cls := Value.type "tuple", data := Data.seq #[] }) ::
  (nat_lit 760, { cls := Value.type "code", data := Data.fields #[Value.str (Str.ofString "_law_after") 1193, Value.str (Str.ofString "_law_after") 1194, Value.str (Str.ofString "/claim/cut.py") 1195, Value.int 379 0, Value.int 2 0, Value.int 0 0, Value.int 0 0, Value.int 3 0, Value.ref 755, Value.bool true, Value.int 181 0, Value.ref 756, Value.none, Value.ref 757, Value.ref 758, Value.ref 759, Value.int 1205 0, Value.int 379 0, Value.str (Str.ofString "/claim/cut.py") 1206] }) ::
  (nat_lit 761, ⟨Value.type "function", none, Data.func (PySem.W.fnOf (Str.ofString "_law_after") (Str.ofString "_law_after") (L2.defArgs s_l_after) (L2.defBody s_l_after) (L2.defScope s_l_after) (Value.none) (Value.none) (Value.none) (Value.str (Str.ofString "law_sizechains_k15_scalings_to_cover") 1093) (none) (Value.ref 760) (Value.none)), #[]⟩) ::
  (nat_lit 762, { cls := Value.type "tuple", data := Data.seq #[] }) ::
  (nat_lit 764, { cls := Value.type "tuple", data := Data.seq #[Value.str (Str.ofString "_law_told") 1211] }) ::
  (nat_lit 765, { cls := Value.type "tuple", data := Data.seq #[] }) ::
  (nat_lit 767, { cls := Value.type "code", data := Data.fields #[Value.str (Str.ofString "_law_pair") 1208, Value.str (Str.ofString "_law_pair") 1209, Value.str (Str.ofString "/claim/cut.py") 1210, Value.int 397 0, Value.int 1 0, Value.int 0 0, Value.int 0 0, Value.int 3 0, Value.ref 762, Value.bool true, Value.int 181 0, Value.ref 763, Value.none, Value.ref 764, Value.ref 765, Value.ref 766, Value.int 1212 0, Value.int 397 0, Value.str (Str.ofString "/claim/cut.py") 1213] }) ::
  (nat_lit 768, ⟨Value.type "function", none, Data.func (PySem.W.fnOf (Str.ofString "_law_pair") (Str.ofString "_law_pair") (L2.defArgs s_l_pair) (L2.defBody s_l_pair) (L2.defScope s_l_pair) (Value.none) (Value.none) (Value.none) (Value.str (Str.ofString "law_sizechains_k15_scalings_to_cover") 1093) (none) (Value.ref 767) (Value.none)), #[]⟩) ::
  (nat_lit 769, { cls := Value.type "tuple", data := Data.seq #[] }) ::
  (nat_lit 771, { cls := Value.type "tuple", data := Data.seq #[Value.str (Str.ofString "_law_sides_here") 1218] }) ::
  (nat_lit 772, { cls := Value.type "tuple", data := Data.seq #[] }) ::
  (nat_lit 774, { cls := Value.type "code", data := Data.fields #[Value.str (Str.ofString "_law_sized") 1215, Value.str (Str.ofString "_law_sized") 1216, Value.str (Str.ofString "/claim/cut.py") 1217, Value.int 399 0, Value.int 1 0, Value.int 0 0, Value.int 0 0, Value.int 3 0, Value.ref 769, Value.bool true, Value.int 181 0, Value.ref 770, Value.none, Value.ref 771, Value.ref 772, Value.ref 773, Value.int 1219 0, Value.int 399 0, Value.str (Str.ofString "/claim/cut.py") 1220] }) ::
  (nat_lit 775, ⟨Value.type "function", none, Data.func (PySem.W.fnOf (Str.ofString "_law_sized") (Str.ofString "_law_sized") (L2.defArgs s_l_sized) (L2.defBody s_l_sized) (L2.defScope s_l_sized) (Value.none) (Value.none) (Value.none) (Value.str (Str.ofString "law_sizechains_k15_scalings_to_cover") 1093) (none) (Value.ref 774) (Value.none)), #[]⟩) ::
  (nat_lit 776, { cls := Value.type "tuple", data := Data.seq #[] }) ::
  (nat_lit 779, { cls := Value.type "code", data := Data.fields #[Value.str (Str.ofString "_law_step_right") 1222, Value.str (Str.ofString "_law_step_right") 1223, Value.str (Str.ofString "/claim/cut.py") 1224, Value.int 401 0, Value.int 2 0, Value.int 0 0, Value.int 0 0, Value.int 3 0, Value.ref 776, Value.bool true, Value.int 181 0, Value.ref 777, Value.none, Value.none, Value.none, Value.ref 778, Value.int 1225 0, Value.int 401 0, Value.str (Str.ofString "/claim/cut.py") 1226] }) ::
  (nat_lit 780, ⟨Value.type "function", none, Data.func (PySem.W.fnOf (Str.ofString "_law_step_right") (Str.ofString "_law_step_right") (L2.defArgs s_l_step_right) (L2.defBody s_l_step_right) (L2.defScope s_l_step_right) (Value.none) (Value.none) (Value.none) (Value.str (Str.ofString "law_sizechains_k15_scalings_to_cover") 1093) (none) (Value.ref 779) (Value.none)), #[]⟩) ::
  (nat_lit 781, { cls := Value.type "tuple", data := Data.seq #[] }) ::
  (nat_lit 783, { cls := Value.type "tuple", data := Data.seq #[Value.str (Str.ofString "_law_one") 1231, Value.str (Str.ofString "_law_more") 1232, Value.str (Str.ofString "_law_some") 1233, Value.str (Str.ofString "_law_far") 1234, Value.str (Str.ofString "_law_bit") 1235] }) ::
  (nat_lit 784, { cls := Value.type "tuple", data := Data.seq #[] }) ::
  (nat_lit 786, { cls := Value.type "code", data := Data.fields #[Value.str (Str.ofString "_law_edges") 1228, Value.str (Str.ofString "_law_edges") 1229, Value.str (Str.ofString "/claim/cut.py") 1230, Value.int 407 0, Value.int 2 0, Value.int 0 0, Value.int 0 0, Value.int 3 0, Value.ref 781, Value.bool true, Value.int 181 0, Value.ref 782, Value.none, Value.ref 783, Value.ref 784, Value.ref 785, Value.int 1236 0, Value.int 407 0, Value.str (Str.ofString "/claim/cut.py") 1237] }) ::
  (nat_lit 787, ⟨Value.type "function", none, Data.func (PySem.W.fnOf (Str.ofString "_law_edges") (Str.ofString "_law_edges") (L2.defArgs s_l_edges) (L2.defBody s_l_edges) (L2.defScope s_l_edges) (Value.none) (Value.none) (Value.none) (Value.str (Str.ofString "law_sizechains_k15_scalings_to_cover") 1093) (none) (Value.ref 786) (Value.none)), #[]⟩) ::
  (nat_lit 788, { cls := Value.type "tuple", data := Data.seq #[] }) ::
  (nat_lit 791, { cls := Value.type "code", data := Data.fields #[Value.str (Str.ofString "_law_right") 1239, Value.str (Str.ofString "_law_right") 1240, Value.str (Str.ofString "/claim/cut.py") 1241, Value.int 415 0, Value.int 1 0, Value.int 0 0, Value.int 0 0, Value.int 3 0, Value.ref 788, Value.bool true, Value.int 181 0, Value.ref 789, Value.none, Value.none, Value.none, Value.ref 790, Value.int 1242 0, Value.int 415 0, Value.str (Str.ofString "/claim/cut.py") 1243] }) ::
  (nat_lit 792, ⟨Value.type "function", none, Data.func (PySem.W.fnOf (Str.ofString "_law_right") (Str.ofString "_law_right") (L2.defArgs s_l_right) (L2.defBody s_l_right) (L2.defScope s_l_right) (Value.none) (Value.none) (Value.none) (Value.str (Str.ofString "law_sizechains_k15_scalings_to_cover") 1093) (none) (Value.ref 791) (Value.none)), #[]⟩) ::
  (nat_lit 793, { cls := Value.type "tuple", data := Data.seq #[] }) ::
  (nat_lit 796, { cls := Value.type "code", data := Data.fields #[Value.str (Str.ofString "law") 1245, Value.str (Str.ofString "law") 1246, Value.str (Str.ofString "/claim/cut.py") 1247, Value.int 423 0, Value.int 1 0, Value.int 0 0, Value.int 0 0, Value.int 3 0, Value.ref 793, Value.bool true, Value.int 181 0, Value.ref 794, Value.none, Value.none, Value.none, Value.ref 795, Value.int 1248 0, Value.int 423 0, Value.str (Str.ofString "/claim/cut.py") 1249] }) ::
  (nat_lit 797, ⟨Value.type "function", none, Data.func (PySem.W.fnOf (Str.ofString "law") (Str.ofString "law") (L2.defArgs s_law) (L2.defBody s_law) (L2.defScope s_law) (Value.none) (Value.none) (Value.none) (Value.str (Str.ofString "law_sizechains_k15_scalings_to_cover") 1093) (none) (Value.ref 796) (Value.none)), #[]⟩) :: []
def as0 : List Nat := [2, 3, 15, 22, 23, 24, 25, 28, 35, 37, 38, 40, 41, 42, 43, 44, 47, 54, 56, 57, 59, 60, 61, 62, 63, 66, 73, 75, 76, 78, 79, 80, 81, 82, 85, 92, 94, 95, 97, 98, 99, 100, 101, 104, 111, 113, 114, 116, 117, 118, 119, 120, 123, 130, 132, 133, 135, 136, 137, 138, 139, 142, 144, 145, 147, 148, 149, 151, 152, 154, 155, 156, 158, 159, 161, 162, 163, 165, 166, 168, 169, 170, 172, 173, 175, 176, 177, 179, 180, 182, 183, 184, 185, 187, 188, 190, 191, 192, 194, 195, 197, 198, 199, 201, 202, 204, 205, 206, 208, 209, 211, 212, 213, 215, 216, 218, 219, 220, 222, 223, 225, 226, 227, 229, 230, 232, 233, 234, 236, 237, 239, 240, 241, 243, 244, 246, 247, 248, 250, 251, 253, 254, 262, 264, 265, 267, 268, 269, 271, 272, 274, 275, 276, 277, 278, 279, 281, 282, 284, 285, 286, 287, 289, 290, 292, 293, 294, 296, 297, 299, 300, 301, 303, 304, 306, 307, 308, 310, 311, 313, 314, 315, 317, 318, 320, 321, 322, 324, 325, 327, 328, 329, 330, 331, 332, 333, 336, 338, 339, 341, 342, 350, 352, 353, 355, 356, 357, 358, 359, 360, 362, 363, 365, 366, 367, 369, 370, 372, 373, 374, 376, 377, 379, 380, 381, 383, 384, 386, 387, 388, 389, 390, 391, 392, 395, 402, 404, 405, 407, 408, 409, 411, 412, 414, 415, 416, 418, 419, 421, 422, 423, 424, 425, 428, 435, 436, 438, 439, 441, 442, 443, 445, 446, 448, 449, 450, 451, 452, 455, 462, 463, 465, 466, 468, 469, 470, 472, 473, 475, 476, 477, 478, 479, 482, 489, 491, 492, 494, 495, 496, 498, 499, 501, 502, 503, 504, 505, 508, 515, 516, 517, 519, 520, 522, 523, 524, 526, 527, 529, 530, 531, 532, 533, 536, 543, 544, 545, 547, 548, 550, 551, 552, 554, 555, 557, 558, 559, 560, 561, 564, 571, 572, 574, 575, 577, 578, 579, 581, 582, 584, 585, 586, 588, 589, 591, 592, 593, 594, 595, 598, 605, 607, 608, 610, 611, 612, 613, 614, 617, 624, 626, 627, 629, 630, 631, 632, 633, 636, 638, 639, 641, 642, 643, 645, 646, 648, 649, 650, 652, 653, 655, 656, 657, 659, 660, 662, 663, 664, 666, 667, 669, 670, 671, 673, 674, 676, 677, 678, 680, 681, 683, 684, 685, 687, 688, 690, 691, 692, 694, 695, 697, 698, 699, 701, 702, 704, 705, 706, 708, 709, 711, 712, 713, 715, 716, 718, 719, 720, 722, 723, 725, 726, 727, 729, 730, 732, 733, 734, 736, 737, 739, 740, 741, 743, 744, 746, 747, 748, 750, 751, 753, 754, 755, 757, 758, 760, 761, 762, 764, 765, 767, 768, 769, 771, 772, 774, 775, 776, 779, 780, 781, 783, 784, 786, 787, 788, 791, 792, 793, 796, 797]
def q0 : Program := { PySem.Challenge.rw_sizechains_k15_scalings_to_cover.row.prog with main := { PySem.Challenge.rw_sizechains_k15_scalings_to_cover.row.prog.main with body := [top 1, top 2, top 3, top 4, top 5, top 6, top 7, top 9, top 10, top 11, top 12, top 13, top 14, top 16, top 17, top 18, top 19, top 20, top 21, top 22, top 23, top 24, top 26, top 27, top 29, top 30, top 31, top 32, top 33, top 34, top 35, top 36, top 37, top 38, top 39, top 40, top 41, top 42, top 43, top 44, top 45, top 47, top 48, top 49, top 50, top 51, top 52, top 53, top 54, top 55, top 56, top 57, top 58, top 59, top 60, top 61, top 62, top 63, top 64] } }
abbrev loose0 : List Str := [Str.ofString "fraction", Str.ofString "MOST_SIDE", Str.ofString "Size", Str.ofString "Step", Str.ofString "Shrink", Str.ofString "Grow", Str.ofString "CropWidth", Str.ofString "CropHeight", Str.ofString "Turn", Str.ofString "Landscape", Str.ofString "Portrait"]
abbrev lv0 : List (Str × PySem.W.WData) := [(Str.ofString "MOST_SIDE", PySem.W.WData.int 1000000)]
theorem as0_ok : ∀ P, as0 = (K0 P).map (·.1) := fun _ => by kernel_rfl
abbrev seen0 (s : Shared) : Bool := PySem.W.xlAt q0 lv0 s && PySem.W.recOk (PySem.W.RowW.records (PySem.W.OpenRow.toRowW PySem.Challenge.rw_sizechains_k15_scalings_to_cover.row)) s
set_option maxHeartbeats 0 in
theorem left0 : PySem.W.LeftO PySem.Challenge.rw_sizechains_k15_scalings_to_cover.row.prog q0 loose0 seen0 (PySem.W.kHook K0 as0 as0_ok).obs (PySem.W.kHook K0 as0 as0_ok).val 14488 true :=
  HeadRun.left_oneK (M := 13788) (by kernel_rfl) (by rfl) (fun s => by kernel_rfl) (by rfl) (fun w os => by kernel_rfl)


/-! repr of data at any depth, where no repr is running around -/
structure RRepr (K : PySem.W.Frag) (xs : List V) (H : Hp) (Q : VK) : Prop where
  ex : ∃ (v : V) (d : PyData), xs = [v] ∧ Dp K H v d ∧ isDisplay d = true ∧ d.showable = true ∧ d.hasDict = false ∧ d.depth ≤ 64 ∧ d.shown.length ≤ sizeLine ∧ Q (.str d.shown) H
theorem reprData {X : Cx} (gds : X.A.guards = some []) (room : X.A.units + 70 < cLine) : CallR X (.builtin "repr") (RRepr X.K) := by
  intro pins st sl H xs us Q inv vals want
  obtain ⟨v, d, e, dp, dis, sh, nod, dep, len, q⟩ := want.ex
  subst e
  obtain ⟨u, eu, rel⟩ := vals1 vals
  subst eu
  obtain ⟨as, rd⟩ := Dp.reads inv d v u dp rel
  obtain ⟨a, ea⟩ := isRef_of_reads rd dis
  subst ea
  refine repr_of_reads' rd sh (PyData.noDict_hsm nod) gds (by omega) (fun _ _ z => z) (fun h' u' tk kp => ?_) len
  exact ⟨.str d.shown, H, inv.kept kp, ⟨_, rfl⟩, q⟩

/-! a def's promise where it is known that no repr is running around -/
structure FnG (P : Program) (w : World) (K : PySem.W.Frag) (mg : Str → Option Value) (base : Heap) (CX : CXT) (k : Nat) (f : Addr) (fd : FuncData) (ps : List Str) (sp : Sp) : Prop where
  len : ∀ vs H Q E, sp vs H Q E → vs.length = ps.length
  go : ∀ (A : Around) (out : List Env) (st : Shared) (H : Hp) (as : Args) (us : List Value) (vs : List V) (Q : VK) (E : XK), A.guards = some [] → Room k A → Env0 P w K mg base A out st H →
    BindsTo st fd as (ps.zip us) → Vals vs us → sp vs H Q E → codeAny (model P w) A (.call (.ref f) as) (CR CX out P w H st Q E) st
section
variable {P : Program} {w : World} {K : PySem.W.Frag} {mg : Str → Option Value} {base : Heap} {CX : CXT} {k : Nat} {f : Addr} {fd : FuncData} {ps : List Str} {sp : Sp}
theorem FnG.of (F : FnOk P w K mg base CX k f fd ps sp) : FnG P w K mg base CX k f fd ps sp :=
  ⟨F.len, fun A out st H as us vs Q E _ r e b v h => F.run A out st H as us vs Q E r e b v h⟩
theorem FnG.up {j : Nat} (F : FnG P w K mg base CX j f fd ps sp) (h : j ≤ k) : FnG P w K mg base CX k f fd ps sp :=
  ⟨F.len, fun A out st H as us vs Q E g r e b v s => F.go A out st H as us vs Q E g (r.mono h) e b v s⟩
theorem FnG.imp {sp' : Sp} (F : FnG P w K mg base CX k f fd ps sp) (h : ∀ vs H Q E, sp' vs H Q E → sp vs H Q E) : FnG P w K mg base CX k f fd ps sp' :=
  ⟨fun vs H Q E q => F.len vs H Q E (h _ _ _ _ q), fun A out st H as us vs Q E g r e b v s => F.go A out st H as us vs Q E g r e b v (h _ _ _ _ s)⟩

/-- by the body -/
theorem okG0 {name qual : Str} {params : Arguments} {body : List Stmt} {scope : Scope} {dV kV doc pm cdv ct oc : Value} {an od : Option Addr} {osl : Array (Option Value)} {N : List Str}
    (lk : K.lookup f = some ⟨oc, od, .func (PySem.W.fnOf name qual params body scope dV kV doc pm an cdv ct), osl⟩) (code : PySem.W.codeIn K cdv qual = true) (S : FnScope N ps scope)
    (len : ∀ vs H Q E, sp vs H Q E → vs.length = ps.length)
    (walk : ∀ (A : Around) (out : List Env) (st : Shared) (H : Hp) (vs : List V) (Q : VK) (E : XK), A.guards = some [] → Room k (A.deeper (envOfC qual scope st.heap.objs.size f cdv)) → sp vs H Q E →
      ∃ t, PSs (cxOf CX P w K mg base N qual scope f cdv A out st H E) body t ∧ t { nx := fun _ H' => Q .non H', rt := Q } (start N vs) H) :
    FnG P w K mg base CX (k + 1) f (PySem.W.fnOf name qual params body scope dV kV doc pm an cdv ct) ps sp := by
  refine ⟨len, ?_⟩
  intro A out st H as us vs Q E gds room env binds vals want
  have size := len _ _ _ _ want
  have lim : st.heap.NoLimit := env.mod.nolimit.keeps fun b o e => (env.bs b o e).1
  have inK : K.In st.heap := env.mod.kin.keeps fun b o e => (env.bs b o e).1
  have kinds : ∀ y ∈ ps.zip us, scope.names.lookup y.1 = some .local ∨ (scope.names.lookup y.1 = some .cell ∧ ((cellsFrom (st.heap.objs.size + 1) scope.names []).lookup y.1).isSome = true) := by
    rintro ⟨n, v⟩ mem
    have mem1 : n ∈ ps := (List.of_mem_zip mem).1
    cases S.par n mem1 with
    | inl loc => exact Or.inl loc
    | inr cel => exact Or.inr ⟨cel, PySem.W.cellsFrom_some _ _ _ (Or.inl cel)⟩
  refine codeAny_call_function room.depth (inK _ _ lk) rfl S.co S.gen rfl (PySem.W.codeRec_of inK code) (binds _ _ _ _ ?_)
  refine wpAny_newFunctionEnv_cells S.kind kinds fun en hen s1 inn => ?_
  subst hen
  refine ⟨lim.keeps inn.toInCall.keep, codeAny_func ?_⟩
  obtain ⟨t, term, read⟩ := walk A out st H vs Q E gds (room.deeper _) want
  have inv := inv_start (CX := CX) (E := E) S room.hd env size vals inn
  refine wpAny_mono (term.run [] s1 (start N vs) H _ inv read) (fun fl s' hs => ?_) fun _ _ hs => hs
  have done : ∀ {sl' : L2.St} {H' : Hp} {v : V} {u : Value}, Inv (cxOf CX P w K mg base N qual scope f cdv A out st H E) [] sl' H' s' → RelV v u → Q v H' → CE out P w H st Q u s' := by
    intro sl' H' v u J rel q
    exact ⟨v, H', J.os, J.bare, J.base, J.hok, rel, q⟩
  cases fl with
  | next =>
    obtain ⟨_, _, J, q⟩ := hs
    exact done (v := V.non) (u := Value.none) J rfl q
  | ret u =>
    obtain ⟨_, _, _, J, rel, q⟩ := hs
    exact done J rel q
  | brk => exact (hs.choose_spec.choose_spec.2).elim
  | cont => exact (hs.choose_spec.choose_spec.2).elim

/-- a def of the text without defaults, that lets nothing out -/
theorem okG {x qual : Str} {st : Stmt} {N : List Str} (F : Fun K x qual st f fd) (S : FnScope N ps (defScope st)) (len : ∀ vs H Q E, sp vs H Q E → vs.length = ps.length)
    (walk : ∀ (cdv : Value) (A : Around) (out : List Env) (s : Shared) (H : Hp) (vs : List V) (Q : VK) (E : XK), A.guards = some [] → Room k (A.deeper (envOfC qual (defScope st) s.heap.objs.size f cdv)) → sp vs H Q E →
      ∃ t, PSs (cxOf CX0 P w K mg base N qual (defScope st) f cdv A out s H E).nox (defBody st) t ∧ t { nx := fun _ H' => Q .non H', rt := Q } (start N vs) H) :
    FnG P w K mg base CX0 (k + 1) f fd ps sp := by
  obtain ⟨_, _, _, _, _, _, cdv, _, _, e, lk, code⟩ := F.ex
  subst e
  refine okG0 lk code S len ?_
  intro A out s H vs Q E g r want
  obtain ⟨t, term, read⟩ := walk cdv A out s H vs Q E g r want
  exact ⟨t, term.nox, read⟩
/-- one with defaults, that lets nothing out -/
theorem okD {x qual : Str} {st : Stmt} {N : List Str} {dvs : List V} (F : FunD K x qual (defArgs st) (defBody st) (defScope st) dvs [] f fd) (S : FnScope N ps (defScope st)) (len : ∀ vs H Q E, sp vs H Q E → vs.length = ps.length)
    (walk : ∀ (cdv : Value) (A : Around) (out : List Env) (s : Shared) (H : Hp) (vs : List V) (Q : VK) (E : XK), A.guards = some [] → Room k (A.deeper (envOfC qual (defScope st) s.heap.objs.size f cdv)) → sp vs H Q E →
      ∃ t, PSs (cxOf CX0 P w K mg base N qual (defScope st) f cdv A out s H E).nox (defBody st) t ∧ t { nx := fun _ H' => Q .non H', rt := Q } (start N vs) H) :
    FnG P w K mg base CX0 (k + 1) f fd ps sp := by
  obtain ⟨_, _, _, _, _, _, _, cdv, _, _, e, lk, code, _, _⟩ := F.ex
  subst e
  refine okG0 lk code S len ?_
  intro A out s H vs Q E g r want
  obtain ⟨t, term, read⟩ := walk cdv A out s H vs Q E g r want
  exact ⟨t, term.nox, read⟩
end

/-! calls -/
section
variable {X : Cx} {CX : CXT} {k n : Nat} {f : Addr} {fd : FuncData} {ps ks : List Str} {sp : Sp} {dvs : List V} {ds : List Value} {E : XK} {x : Str} {p pos : Pos} {e : Expr} {es : List Expr} {kws : List Keyword} {t tk : TA} {g : List Value → List Value → List Value} {gV : List V → List V → List V}
theorem goG {pins : List (Addr × Obj)} {sl : L2.St} {H : Hp} {s : Shared} {Q : VK} {us0 us : List Value} {kw : List (Str × Value)} {vs : List V} (F : FnG X.prog X.w X.K X.mg X.base CX k f fd ps sp) (gds : X.A.guards = some []) (hr : Room k X.A) (hx : Passes CX X E)
    (inv : Inv X pins sl H s) (b : BindsTo s fd ⟨us0, kw⟩ (ps.zip us)) (r : Vals vs us) (want : sp vs H Q E) : wpAny (model X.prog X.w) X.A (call (.ref f) us0 kw) (EP X pins sl Q) X.xe s := by
  refine wpAny_call (codeAny_mono (F.go X.A X.stack s H ⟨us0, kw⟩ us vs Q E gds hr inv.env0 b r want) fun r s' got => ?_)
  cases r with
  | error e => exact hx pins sl H s e s' inv got
  | ok fl =>
    cases fl with
    | ret u => exact inv.after got
    | next => exact got.elim
    | brk => exact got.elim
    | cont => exact got.elim
theorem callG (F : FnG X.prog X.w X.K X.mg X.base CX k f fd ps sp) (gds : X.A.guards = some []) (hr : Room k X.A) (hg : Gl X x) (hm : X.mg x = some (.ref f)) (hk : PySem.W.keepIn X.K (.ref f) = true) (hb : Binds X.K fd ps ds) (hd : Vals dvs ds) (hx : Passes CX X E)
    (ha : PA X (e :: es) t) (hdb : (x == ("__debug__" : Str)) = false := by decide) (he : starEach (e :: es) X.env = (false, eval e X.env) :: starEach es X.env := by rfl) (hpl : (backTo pos (starEach es X.env)).any (·.1) = false := by rfl) :
    PE X (.Call (.Name x p) (e :: es) [] pos) (tCall sp dvs E t) := by
  constructor
  intro pins s sl H Q inv want
  refine wpAny_Call_Name_kw (ld_glob inv hg hm ?_ hdb)
  refine PySem.W.callWith_K (h₀ := X.base) inv.ok.mod.kin hk (thn (ha.run pos pins s sl H _ inv want) ?_) he hpl
  rintro us s1 ⟨vs, H1, inv1, rel, q⟩
  refine ⟨inv1.kIn, ?_⟩
  have rel2 : Vals (vs ++ dvs) (us ++ ds) := rel.append hd
  have sz : (us ++ ds).length = ps.length := rel2.length.symm.trans (F.len _ _ _ _ q)
  exact goG F gds hr hx inv1 (hb s1 us inv1.kIn sz) rel2 q
theorem callG0 (F : FnG X.prog X.w X.K X.mg X.base CX k f fd ps sp) (gds : X.A.guards = some []) (hr : Room k X.A) (hg : Gl X x) (hm : X.mg x = some (.ref f)) (hk : PySem.W.keepIn X.K (.ref f) = true) (hb : Binds X.K fd ps ds) (hd : Vals dvs ds) (hx : Passes CX X E)
    (hdb : (x == ("__debug__" : Str)) = false := by decide) : PE X (.Call (.Name x p) [] [] pos) (tCall sp dvs E tNil) := by
  constructor
  intro pins s sl H Q inv want
  refine wpAny_Call_Name_kw (ld_glob inv hg hm ?_ hdb)
  refine PySem.W.callWith_K0 inv.kIn hk ?_
  have q : sp dvs H Q E := want
  have sz : (([] : List Value) ++ ds).length = ps.length := hd.length.symm.trans (F.len _ _ _ _ q)
  exact goG F gds hr hx inv (hb s [] inv.kIn sz) hd q
/-- f(e, .., k = v, ..) -/
theorem callGN (F : FnG X.prog X.w X.K X.mg X.base CX k f fd ps sp) (gds : X.A.guards = some []) (hr : Room k X.A) (hg : Gl X x) (hm : X.mg x = some (.ref f)) (hk : PySem.W.keepIn X.K (.ref f) = true) (hb : KBn X.K fd ps n ks g gV) (hx : Passes CX X E)
    (ha : PA X (e :: es) t) (hkw : PK X kws tk) (hall : (backToKw pos (keywordEach kws X.env)).all (·.1.isSome) = true := by rfl) (hks : (backToKw pos (keywordEach kws X.env)).filterMap (·.1) = ks := by rfl)
    (hdb : (x == ("__debug__" : Str)) = false := by decide) (he : starEach (e :: es) X.env = (false, eval e X.env) :: starEach es X.env := by rfl)
    (hpl : ((backTo pos (starEach (e :: es) X.env)).any (·.1) || (backToKw pos (keywordEach kws X.env)).any (·.1.isNone)) = false := by rfl) :
    PE X (.Call (.Name x p) (e :: es) kws pos) (tCallN n ks.length sp gV E t tk) := by
  constructor
  intro pins s sl H Q inv want
  refine wpAny_Call_Name_kw (ld_glob inv hg hm ?_ hdb)
  refine PySem.W.callWith_KW (h₀ := X.base) inv.ok.mod.kin hk hall (thn (ha.run pos pins s sl H _ inv want) ?_) hpl he
  rintro us s1 ⟨vs, H1, inv1, rel, q⟩
  refine thn (hkw.run pos pins s1 sl H1 _ inv1 q) ?_
  rintro ws s2 ⟨zs, H2, inv2, relz, l1, l2, q2⟩
  refine ⟨inv2.kIn, ?_⟩
  rw [hks]
  exact goG F gds hr hx inv2 (hb.to s2 us ws inv2.kIn (rel.length.symm.trans l1) (relz.length.symm.trans l2)) (hb.rel rel relz) q2
/-- f(k = v, ..) -/
theorem callGK (F : FnG X.prog X.w X.K X.mg X.base CX k f fd ps sp) (gds : X.A.guards = some []) (hr : Room k X.A) (hg : Gl X x) (hm : X.mg x = some (.ref f)) (hk : PySem.W.keepIn X.K (.ref f) = true) (hb : KBn X.K fd ps 0 ks g gV) (hx : Passes CX X E)
    (hkw : PK X kws tk) (hall : (backToKw pos (keywordEach kws X.env)).all (·.1.isSome) = true := by rfl) (hks : (backToKw pos (keywordEach kws X.env)).filterMap (·.1) = ks := by rfl)
    (hdb : (x == ("__debug__" : Str)) = false := by decide)
    (hpl : ((backTo pos (starEach [] X.env)).any (·.1) || (backToKw pos (keywordEach kws X.env)).any (·.1.isNone)) = false := by rfl) :
    PE X (.Call (.Name x p) [] kws pos) (tCallN 0 ks.length sp gV E tNil tk) := by
  constructor
  intro pins s sl H Q inv want
  refine wpAny_Call_Name_kw (ld_glob inv hg hm ?_ hdb)
  refine PySem.W.callWith_KW0 (h₀ := X.base) inv.ok.mod.kin hk hall ?_ hpl
  refine thn (hkw.run pos pins s sl H _ inv want) ?_
  rintro ws s2 ⟨zs, H2, inv2, relz, l1, l2, q2⟩
  refine ⟨inv2.kIn, ?_⟩
  rw [hks]
  exact goG F gds hr hx inv2 (hb.to s2 [] ws inv2.kIn rfl (relz.length.symm.trans l2)) (hb.rel .nil relz) q2
end


/-! the end: the law's promise at the heap behind the top -/
section
variable {P : Program} {w : World} {K : PySem.W.Frag} {mg mb : Str → Option Value} {k : Nat} {fa a : Addr} {fd : FuncData} {x : Str} {sp : Sp} {st : Shared} {vs : List Value} {ns : List Int}
/-- from one abstract heap in which the script alone may be tracked -/
theorem endCore (inK : K.In st.heap) (hns : st.heap.Ns mainGlobals mg) (hb : st.heap.Ns builtinsNs mb) (hbb : ∀ x : Str, x ≠ "__name__" → mb x = bootBuiltins x) (lim : st.heap.NoLimit) (gens : st.gens = #[])
    (ha : st.heap.get? a = some { cls := .type "list", data := .seq vs.toArray }) (hr : Room k callerA)
    (F : ∀ base : Heap, K.In base → base.Ns mainGlobals mg → FnG P w K mg base CX0 k fa fd [x] sp) (bind : ∀ (s : Shared) (u : Value), BindsTo s fd ⟨[u], []⟩ [(x, u)])
    {H : Hp} (only : Only H) (ok : HOk P w H st.heap) (one : ∀ b, H b ≠ none → b = a) (notK : H a ≠ none → K.lookup a = none) (want : sp [.ref a] H (fun v _ => v = .bl true) fun _ _ _ => False) :
    codeAny (model P w) callerA (.call (.ref fa) ⟨[.ref a], []⟩) (fun r s' => r = .ok (.ret (.bool true)) ∧ OldK st.heap s'.heap ∧ s'.os = st.os ∧ AllBare s'.gens) st := by
  have untracked : ∀ {b : Addr} {o : Obj}, st.heap.get? b = some o → (b = a → o.data ≠ .seq vs.toArray) → H b = none := by
    intro b o e n
    refine Option.eq_none_iff_forall_ne_some.mpr fun u z => ?_
    have eb := one b (by rw [z]; exact fun t => nomatch t)
    subst eb
    rw [ha] at e
    cases e
    exact n rfl rfl
  have toBase : ∀ {b : Addr} {m : Str → Option Value}, st.heap.Ns b m → (hidT st.heap H).Ns b m := by
    rintro b m ⟨o, es, ep, e, d, r⟩
    refine ⟨o, es, ep, hidT_get e (untracked e fun _ z => ?_), d, r⟩
    rw [d] at z
    cases z
  have inBase : K.In (hidT st.heap H) := by
    intro b o e
    refine hidT_get (inK b o e) (Option.eq_none_iff_forall_ne_some.mpr fun u z => ?_)
    have nn : H b ≠ none := by rw [z]; exact fun t => nomatch t
    have eb := one b nn
    subst eb
    rw [notK nn] at e
    cases e
  obtain ⟨mc, l1, l2⟩ := lim
  have md : Mod K mg (hidT st.heap H) := ⟨inBase, toBase hns, ⟨mb, toBase hb, hbb⟩, ⟨mc, toBase l1, l2⟩⟩
  have e0 : Env0 P w K mg (hidT st.heap H) callerA [] st H := by
    refine ⟨rfl, md, fun b o e => of_hidT e, Nat.le_of_eq (hidT_size _ _), trivial, fun b hb => ?_, ok, .of_eq gens⟩
    cases hb
  refine codeAny_mono ((F _ inBase md.glob).go callerA [] st H ⟨[.ref a], []⟩ [.ref a] [.ref a] _ _ rfl hr e0 (bind st (.ref a)) (.cons rfl .nil) want) fun r s' got => ?_
  cases r with
  | error e => exact got.elim
  | ok fl =>
    cases fl with
    | next => exact got.elim
    | brk => exact got.elim
    | cont => exact got.elim
    | ret u =>
      obtain ⟨v, H', os, bare, un, ok', rel, q⟩ := got
      have q2 : v = .bl true := q
      subst q2
      have q3 : u = Value.bool true := rel
      subst q3
      refine ⟨rfl, OldK.of_keep ?_, os, bare⟩
      intro b o e
      rcases only b with z | ⟨ob, xs, z⟩
      · refine un.keep b o e z (fun m => ?_) (by simp)
        cases m
      · have z2 := un.frzs b ob _ z
        obtain ⟨e1, _⟩ := ok b _ z
        obtain ⟨e2, _⟩ := ok' b _ z2
        rw [e1] at e
        cases e
        exact e2

theorem endCall (inK : K.In st.heap) (hns : st.heap.Ns mainGlobals mg) (hb : st.heap.Ns builtinsNs mb) (hbb : ∀ x : Str, x ≠ "__name__" → mb x = bootBuiltins x) (lim : st.heap.NoLimit) (gens : st.gens = #[])
    (ha : st.heap.get? a = some { cls := .type "list", data := .seq vs.toArray }) (hi : IntsAre vs ns) (hl : ns.length ≤ sizeLine) (hr : Room k callerA)
    (F : ∀ base : Heap, K.In base → base.Ns mainGlobals mg → FnG P w K mg base CX0 k fa fd [x] sp) (bind : ∀ (s : Shared) (u : Value), BindsTo s fd ⟨[u], []⟩ [(x, u)])
    (want : ∀ H : Hp, Only H → SqL K H a (ns.map V.int) → sp [.ref a] H (fun v _ => v = .bl true) fun _ _ _ => False) :
    codeAny (model P w) callerA (.call (.ref fa) ⟨[.ref a], []⟩) (fun r s' => r = .ok (.ret (.bool true)) ∧ OldK st.heap s'.heap ∧ s'.os = st.os ∧ AllBare s'.gens) st := by
  have rv := vals_ints hi
  cases hk : K.lookup a with
  | some o =>
    have e := inK a o hk
    rw [ha] at e
    cases e
    have seq : SqL K (fun _ => none) a (ns.map V.int) := .inr ⟨_, vs.toArray, _, hk, rfl, rfl, rfl, by rw [List.size_toArray, hi.length]; exact hl, by simpa using rv⟩
    refine endCore inK hns hb hbb lim gens ha hr F bind (fun _ => .inl rfl) ?_ (fun b z => absurd rfl z) (fun z => absurd rfl z) (want _ (fun _ => .inl rfl) seq)
    intro b u z
    cases (show (none : Option HO) = some u from z)
  | none =>
    have at_a : (fun b => if b = a then some (HO.frz { cls := .type "list", data := .seq vs.toArray } (.lst (ns.map V.int))) else none) a = some (HO.frz { cls := .type "list", data := .seq vs.toArray } (.lst (ns.map V.int))) := if_pos rfl
    have only : Only (fun b => if b = a then some (HO.frz { cls := .type "list", data := .seq vs.toArray } (.lst (ns.map V.int))) else none) := by
      intro b
      by_cases e : b = a
      · exact .inr ⟨_, _, if_pos e⟩
      · exact .inl (if_neg e)
    refine endCore inK hns hb hbb lim gens ha hr F bind only ?_ (fun b z => ?_) (fun _ => hk) (want _ only (.inl (.inr ⟨_, at_a⟩)))
    · intro b u z
      by_cases e : b = a
      · subst e
        cases (at_a.symm.trans z)
        exact ⟨ha, by rw [List.length_map]; exact hl, vs, _, rv, ha⟩
      · cases ((if_neg e).symm.trans z)
    · by_cases e : b = a
      · exact e
      · exact absurd (if_neg e) z
end

theorem walkG {l : PySem.W.OpenLaw} {n k : Nat} {q : Program} {loose : List Str} {XP : (Str → Option Value) → Heap → Prop} {YP : World → Heap → Prop} {d : DefRec} {K : Params → PySem.W.Frag} {sp : PySem.W.Frag → Sp} {x : Str}
    (hn : l.most = some n) (hn2 : n ≤ sizeLine) (hdf : d.params.defaults = []) (hr : Room k callerA) (hY : ∀ (w : World) (h : Heap), YP w h → (K w.params).In h)
    (F : ∀ (w : World) (mg : Str → Option Value) (fa : Addr) (h : Heap), (K w.params).In h → h.Ns mainGlobals mg → mg d.name = some (.ref fa) →
      ∃ fd : FuncData, (∀ (s : Shared) (u : Value), BindsTo s fd ⟨[u], []⟩ [(x, u)]) ∧ ∀ base : Heap, (K w.params).In base → base.Ns mainGlobals mg → FnG l.prog w (K w.params) mg base CX0 k fa fd [x] (sp (K w.params)))
    (want : ∀ (K : PySem.W.Frag) (H : Hp) (a : Addr) (ns : List Int), ns.length ≤ n → Only H → SqL K H a (ns.map V.int) → sp K [.ref a] H (fun v _ => v = .bl true) fun _ _ _ => False) :
    PySem.W.WalkO q loose XP YP l.row.toRowW d [] (fun f vs => PySem.call f vs) := by
  refine Att.attach_call hn hdf ?_
  intro w s₀ s₁ mg mb fa o pm cd doc a vs ns G Y ho hd hcd hmg hobj hints hlen hg
  obtain ⟨fd, hb, hF⟩ := F w mg fa _ (hY w _ Y) G.T.g hmg
  exact endCall (hY w _ Y) G.T.g G.T.b G.T.builtins G.T.nolimit hg hobj hints (Nat.le_trans hlen hn2) hr hF hb fun H only seq => want (K w.params) H a ns hlen only seq

/-! arguments where some parameters have defaults -/
theorem bindD {K : PySem.W.Frag} {x qual : Str} {params : Arguments} {body : List Stmt} {scope : Scope} {dvs : List V} {f : Addr} {fd : FuncData} {ps : List Str}
    (F : FunD K x qual params body scope dvs [] f fd) (n : Nat) (ks : List Str) (g : {α : Type} → List α → List α → List α → List α) (some_ : dvs ≠ [])
    (rel : ∀ {vs ds zs : List V} {us its ws : List Value}, Vals vs us → Vals ds its → Vals zs ws → Vals (g vs ds zs) (g us its ws))
    (h : ∀ (T : Addr) (kV doc pm : Value) (an : Option Addr) (cdv ct : Value) (us its ws : List Value), us.length = n → its.length = dvs.length → ws.length = ks.length →
      ∃ k, bindArgs (PySem.W.fnOf x qual params body scope (.ref T) kV doc pm an cdv ct) ⟨us, ks.zip ws⟩ = seqItems? (.ref T) >>= k ∧ k (some its.toArray) = pure (ps.zip (g us its ws))) :
    ∃ its : List Value, KBn K fd ps n ks (fun us ws => g us its ws) (fun vs zs => g vs dvs zs) := by
  obtain ⟨oc, od, dV, kV, doc, pm, an, cdv, ct, osl, e, lk, hcd, hD, hK⟩ := F.ex
  subst e
  rcases hD with ⟨e, _⟩ | ⟨_, T, o, its, m, e, lT, oT, rT⟩
  · exact absurd e some_
  · subst e
    refine ⟨its, ⟨fun s us ws inK l1 l2 => ?_, fun r1 r2 => rel r1 rT r2⟩⟩
    obtain ⟨k, e1, e2⟩ := h T kV doc pm an cdv ct us its ws l1 rT.length.symm l2
    refine BindsTo.of_looks fun M => ?_
    rw [e1]
    exact looks_items inK lT oT (.of_pure e2)
/-- the same without any default -/
theorem bindN {K : PySem.W.Frag} {x qual : Str} {st : Stmt} {f : Addr} {fd : FuncData} {ps : List Str} (F : Fun K x qual st f fd) (n : Nat) (ks : List Str) (g : {α : Type} → List α → List α → List α)
    (rel : ∀ {vs zs : List V} {us ws : List Value}, Vals vs us → Vals zs ws → Vals (g vs zs) (g us ws))
    (h : ∀ (kV doc pm : Value) (an : Option Addr) (cdv ct : Value) (us ws : List Value), us.length = n → ws.length = ks.length →
      bindArgs (PySem.W.fnOf x qual (defArgs st) (defBody st) (defScope st) .none kV doc pm an cdv ct) ⟨us, ks.zip ws⟩ = pure (ps.zip (g us ws))) :
    KBn K fd ps n ks (fun us ws => g us ws) (fun vs zs => g vs zs) := by
  obtain ⟨oc, od, kV, doc, pm, an, cdv, ct, osl, e, lk, hcd⟩ := F.ex
  subst e
  exact ⟨fun s us ws _ l1 l2 => .of_eq (h kV doc pm an cdv ct us ws l1 l2), fun r1 r2 => rel r1 r2⟩

/-! ### values as trees -/
inductive T where
  | non | bl (b : Bool) | int (i : Int) | str (z : Str) | ty (n : String) | st (a : Addr) | cell (a : Addr)
  | tup (l : List T) | lst (l : List T) | scr (l : List T) | ins (C : Addr) (l : List (Str × T))
/-- what changes: a list, an instance -/
inductive Cell where
  | lst (l : List T) | ins (C : Addr) (l : List (Str × T))
abbrev Store := Addr → Option Cell
def Store.put (S : Store) (a : Addr) (c : Cell) : Store := fun b => if b = a then some c else S b
def Store.drop (S : Store) (a : Addr) : Store := fun b => if b = a then none else S b
theorem put_same {S : Store} {a : Addr} {c : Cell} : S.put a c a = some c := by unfold Store.put; rw [if_pos rfl]
theorem put_ne {S : Store} {a b : Addr} {c : Cell} (h : b ≠ a) : S.put a c b = S b := by unfold Store.put; rw [if_neg h]
theorem drop_same {S : Store} {a : Addr} : S.drop a a = none := by unfold Store.drop; rw [if_pos rfl]
theorem drop_ne {S : Store} {a b : Addr} (h : b ≠ a) : S.drop a b = S b := by unfold Store.drop; rw [if_neg h]
theorem put_put {S : Store} {a : Addr} {c d : Cell} : (S.put a c).put a d = S.put a d := by
  funext b; unfold Store.put; split <;> rfl
theorem put_drop {S : Store} {a : Addr} {c : Cell} (h : S a = none) : (S.put a c).drop a = S := by
  funext b
  by_cases e : b = a
  · subst e; rw [drop_same, h]
  · rw [drop_ne e, put_ne e]
section
variable (K : PySem.W.Frag) (Z : Addr → Prop) (S : Store) (H : Hp)
def TupAt (p : Addr) (vs : List V) : Prop := (Rd H p (.tup vs) ∧ S p = none ∧ ¬ Z p) ∨
  ∃ (o : Obj) (its : Array Value) (n : Nat), K.lookup p = some o ∧ o.cls = .type "tuple" ∧ o.data = .seq its n ∧ its.size ≤ sizeLine ∧ Vals vs its.toList
def LstAt (p : Addr) (vs : List V) : Prop := H p = some (.lst vs) ∧ S p = none ∧ ¬ Z p
def ScrAt (p : Addr) (vs : List V) : Prop := ((∃ o, H p = some (.frz o (.lst vs))) ∧ S p = none ∧ ¬ Z p) ∨
  ∃ (o : Obj) (its : Array Value) (n : Nat), K.lookup p = some o ∧ o.cls = .type "list" ∧ o.dict = none ∧ o.data = .seq its n ∧ its.size ≤ sizeLine ∧ Vals vs its.toList
mutual
inductive Rep : V → T → Prop
  | non : Rep .non .non
  | bl (b : Bool) : Rep (.bl b) (.bl b)
  | int (i : Int) : Rep (.int i) (.int i)
  | str (z : Str) : Rep (.str z) (.str z)
  | ty (n : String) : Rep (.ty n) (.ty n)
  | st (a : Addr) : Rep (.ref a) (.st a)
  | cell (a : Addr) : Rep (.ref a) (.cell a)
  | tup {p : Addr} {vs : List V} {ts : List T} (h : TupAt K Z S H p vs) (r : Reps vs ts) : Rep (.ref p) (.tup ts)
  | lst {p : Addr} {vs : List V} {ts : List T} (h : LstAt Z S H p vs) (r : Reps vs ts) : Rep (.ref p) (.lst ts)
  | scr {p : Addr} {vs : List V} {ts : List T} (h : ScrAt K Z S H p vs) (r : Reps vs ts) : Rep (.ref p) (.scr ts)
  | ins {p C dx : Addr} {fs : List (Str × V)} {gs : List (Str × T)} (h : H p = some (.ins C dx fs)) (n : S p = none ∧ ¬ Z p) (r : RepF fs gs) : Rep (.ref p) (.ins C gs)
inductive Reps : List V → List T → Prop
  | nil : Reps [] []
  | cons {v : V} {t : T} {vs : List V} {ts : List T} (h : Rep v t) (r : Reps vs ts) : Reps (v :: vs) (t :: ts)
inductive RepF : List (Str × V) → List (Str × T) → Prop
  | nil : RepF [] []
  | cons {n : Str} {v : V} {t : T} {vs : List (Str × V)} {ts : List (Str × T)} (h : Rep v t) (r : RepF vs ts) : RepF ((n, v) :: vs) ((n, t) :: ts)
end
def CellOk (a : Addr) : Option Cell → Prop
  | none => True
  | some (.lst ts) => ∃ vs, H a = some (.lst vs) ∧ Reps K Z S H vs ts
  | some (.ins C gs) => ∃ dx fs, H a = some (.ins C dx fs) ∧ RepF K Z S H fs gs
structure Ok : Prop where
  cl : ∀ a, CellOk K Z S H a (S a)
  hid : ∀ a, Z a → S a = none ∧ ∃ o, H a = some o
end
/-- what stands, but for the cells, stands later -/
def Le (S : Store) (H : Hp) (S' : Store) (H' : Hp) : Prop := ∀ a o, H a = some o → S a = none → H' a = some o ∧ S' a = none
/-- .. and but for what is hidden -/
def LeZ (Z : Addr → Prop) (S : Store) (H : Hp) (S' : Store) (H' : Hp) : Prop := ∀ a o, H a = some o → S a = none → ¬ Z a → H' a = some o ∧ S' a = none
section
variable {K : PySem.W.Frag} {Z : Addr → Prop} {S S' S2 : Store} {H H' H2 : Hp}
theorem Le.refl : Le S H S H := fun _ _ h n => ⟨h, n⟩
theorem Le.z (l : Le S H S' H') : LeZ Z S H S' H' := fun a o h n _ => l a o h n
theorem Le.trans (a : Le S H S' H') (b : Le S' H' S2 H2) : Le S H S2 H2 := fun p o h n => b p o (a p o h n).1 (a p o h n).2
theorem TupAt.lz {p : Addr} {vs : List V} (h : TupAt K Z S H p vs) (l : LeZ Z S H S' H') : TupAt K Z S' H' p vs := by
  rcases h with ⟨r, n, z⟩ | h
  · rcases r with r | ⟨o, r⟩
    · exact .inl ⟨.inl (l _ _ r n z).1, (l _ _ r n z).2, z⟩
    · exact .inl ⟨.inr ⟨o, (l _ _ r n z).1⟩, (l _ _ r n z).2, z⟩
  · exact .inr h
theorem TupAt.le {p : Addr} {vs : List V} (h : TupAt K Z S H p vs) (l : Le S H S' H') : TupAt K Z S' H' p vs := h.lz l.z
theorem LstAt.lz {p : Addr} {vs : List V} (h : LstAt Z S H p vs) (l : LeZ Z S H S' H') : LstAt Z S' H' p vs := ⟨(l _ _ h.1 h.2.1 h.2.2).1, (l _ _ h.1 h.2.1 h.2.2).2, h.2.2⟩
theorem ScrAt.lz {p : Addr} {vs : List V} (h : ScrAt K Z S H p vs) (l : LeZ Z S H S' H') : ScrAt K Z S' H' p vs := by
  rcases h with ⟨⟨o, r⟩, n, z⟩ | h
  · exact .inl ⟨⟨o, (l _ _ r n z).1⟩, (l _ _ r n z).2, z⟩
  · exact .inr h
theorem LstAt.le {p : Addr} {vs : List V} (h : LstAt Z S H p vs) (l : Le S H S' H') : LstAt Z S' H' p vs := h.lz l.z
theorem ScrAt.le {p : Addr} {vs : List V} (h : ScrAt K Z S H p vs) (l : Le S H S' H') : ScrAt K Z S' H' p vs := h.lz l.z
theorem TupAt.sq {p : Addr} {vs : List V} (h : TupAt K Z S H p vs) : SqT K H p vs := h.imp And.left id
theorem LstAt.sq {p : Addr} {vs : List V} (h : LstAt Z S H p vs) : SqL K H p vs := .inl (.inl h.1)
theorem ScrAt.sq {p : Addr} {vs : List V} (h : ScrAt K Z S H p vs) : SqL K H p vs := h.imp (fun a => .inr a.1) id
mutual
theorem Rep.lz (l : LeZ Z S H S' H') : ∀ {v : V} {t : T}, Rep K Z S H v t → Rep K Z S' H' v t
  | _, _, .non => .non
  | _, _, .bl b => .bl b
  | _, _, .int i => .int i
  | _, _, .str z => .str z
  | _, _, .ty n => .ty n
  | _, _, .st a => .st a
  | _, _, .cell a => .cell a
  | _, _, .tup h r => .tup (h.lz l) (Reps.lz l r)
  | _, _, .lst h r => .lst (h.lz l) (Reps.lz l r)
  | _, _, .scr h r => .scr (h.lz l) (Reps.lz l r)
  | _, _, .ins h n r => .ins (l _ _ h n.1 n.2).1 ⟨(l _ _ h n.1 n.2).2, n.2⟩ (RepF.lz l r)
theorem Reps.lz (l : LeZ Z S H S' H') : ∀ {vs : List V} {ts : List T}, Reps K Z S H vs ts → Reps K Z S' H' vs ts
  | _, _, .nil => .nil
  | _, _, .cons h r => .cons (Rep.lz l h) (Reps.lz l r)
theorem RepF.lz (l : LeZ Z S H S' H') : ∀ {vs : List (Str × V)} {ts : List (Str × T)}, RepF K Z S H vs ts → RepF K Z S' H' vs ts
  | _, _, .nil => .nil
  | _, _, .cons h r => .cons (Rep.lz l h) (RepF.lz l r)
end
theorem Rep.le {v : V} {t : T} (r : Rep K Z S H v t) (l : Le S H S' H') : Rep K Z S' H' v t := r.lz l.z
theorem Reps.le {vs : List V} {ts : List T} (r : Reps K Z S H vs ts) (l : Le S H S' H') : Reps K Z S' H' vs ts := r.lz l.z
theorem RepF.le {vs : List (Str × V)} {ts : List (Str × T)} (r : RepF K Z S H vs ts) (l : Le S H S' H') : RepF K Z S' H' vs ts := r.lz l.z
theorem Reps.length : ∀ {ts : List T} {vs : List V}, Reps K Z S H vs ts → vs.length = ts.length
  | [], _, .nil => rfl
  | _ :: _, _, .cons _ r => by simp [Reps.length r]
theorem Reps.append {vs ws : List V} {ts us : List T} (r : Reps K Z S H vs ts) (q : Reps K Z S H ws us) : Reps K Z S H (vs ++ ws) (ts ++ us) := by
  induction ts generalizing vs with
  | nil => cases r; exact q
  | cons t ts ih => cases r with | cons h r => exact .cons h (ih r)
theorem Reps.get {vs : List V} {ts : List T} {i : Nat} {t : T} (r : Reps K Z S H vs ts) (h : ts[i]? = some t) : ∃ v, vs[i]? = some v ∧ Rep K Z S H v t := by
  induction ts generalizing vs i with
  | nil => cases h
  | cons u ts ih =>
    cases r with
    | cons q r =>
      cases i with
      | zero => cases h; exact ⟨_, rfl, q⟩
      | succ i =>
        have hh : ts[i]? = some t := h
        obtain ⟨w, a, b⟩ := ih r hh
        exact ⟨w, a, b⟩
theorem Reps.take {vs : List V} {ts : List T} (n : Nat) (r : Reps K Z S H vs ts) : Reps K Z S H (vs.take n) (ts.take n) := by
  induction ts generalizing vs n with
  | nil => cases r; simp; exact .nil
  | cons t ts ih =>
    cases r with
    | cons h r =>
      cases n with
      | zero => exact .nil
      | succ n => exact .cons h (ih n r)
theorem Reps.drop {vs : List V} {ts : List T} (n : Nat) (r : Reps K Z S H vs ts) : Reps K Z S H (vs.drop n) (ts.drop n) := by
  induction ts generalizing vs n with
  | nil => cases r; simp; exact .nil
  | cons t ts ih =>
    cases r with
    | cons h r =>
      cases n with
      | zero => exact .cons h r
      | succ n => exact ih n r
theorem Reps.set {vs : List V} {ts : List T} {v : V} {t : T} (n : Nat) (r : Reps K Z S H vs ts) (h : Rep K Z S H v t) : Reps K Z S H (vs.set n v) (ts.set n t) := by
  induction ts generalizing vs n with
  | nil => cases r; exact .nil
  | cons u ts ih =>
    cases r with
    | cons q r =>
      cases n with
      | zero => exact .cons h r
      | succ n => exact .cons q (ih n r)
theorem Reps.reverse {vs : List V} {ts : List T} (r : Reps K Z S H vs ts) : Reps K Z S H vs.reverse ts.reverse := by
  induction ts generalizing vs with
  | nil => cases r; exact .nil
  | cons u ts ih =>
    cases r with
    | cons q r => rw [List.reverse_cons, List.reverse_cons]; exact (ih r).append (.cons q .nil)
theorem RepF.look {fs : List (Str × V)} {gs : List (Str × T)} {f : Str} {t : T} (r : RepF K Z S H fs gs) (h : gs.lookup f = some t) : ∃ v, fs.lookup f = some v ∧ Rep K Z S H v t := by
  induction gs generalizing fs with
  | nil => cases h
  | cons g gs ih =>
    cases r with
    | @cons n v u vs ts q r =>
      by_cases e : f = n
      · subst e
        simp only [List.lookup, beq_self_eq_true] at h ⊢
        cases h
        exact ⟨_, rfl, q⟩
      · have e' : (f == n) = false := by simpa using e
        simp only [List.lookup, e'] at h ⊢
        exact ih r h
theorem RepF.lookN {fs : List (Str × V)} {gs : List (Str × T)} {f : Str} (r : RepF K Z S H fs gs) (h : gs.lookup f = none) : fs.lookup f = none := by
  induction gs generalizing fs with
  | nil => cases r; rfl
  | cons g gs ih =>
    cases r with
    | @cons n v u vs ts q r =>
      by_cases e : f = n
      · subst e
        simp only [List.lookup, beq_self_eq_true] at h
        cases h
      · have e' : (f == n) = false := by simpa using e
        simp only [List.lookup, e'] at h ⊢
        exact ih r h
theorem RepF.length {fs : List (Str × V)} {gs : List (Str × T)} (r : RepF K Z S H fs gs) : fs.length = gs.length := by
  induction gs generalizing fs with
  | nil => cases r; rfl
  | cons g gs ih => cases r with | cons q r => simp [ih r]
/-- a new thing is laid -/
theorem le_new {p : Addr} {o : HO} (h : H p = none) : Le S H S (upd H p o) := fun a u e n => ⟨by rw [upd_ne (ne_of_none e h)]; exact e, n⟩
theorem Ok.free {p : Addr} (ok : Ok K Z S H) (h : H p = none) : S p = none := by
  have := ok.cl p
  cases e : S p with
  | none => rfl
  | some c =>
    rw [e] at this
    cases c with
    | lst ts => obtain ⟨vs, q, _⟩ := this; rw [h] at q; cases q
    | ins C gs => obtain ⟨dx, fs, q, _⟩ := this; rw [h] at q; cases q
theorem Ok.nz {p : Addr} (ok : Ok K Z S H) (h : H p = none) : ¬ Z p := fun z => by
  obtain ⟨_, o, e⟩ := ok.hid p z
  rw [h] at e; cases e
theorem Ok.nzc {p : Addr} {c : Cell} (ok : Ok K Z S H) (h : S p = some c) : ¬ Z p := fun z => by
  obtain ⟨e, _⟩ := ok.hid p z
  rw [h] at e; cases e
theorem CellOk.le {a : Addr} (k : CellOk K Z S H a (S a)) (l : Le S H S' H') (c : S a ≠ none → H' a = H a) : CellOk K Z S' H' a (S a) := by
  cases e : S a with
  | none => trivial
  | some x =>
    rw [e] at k
    have ca := c (by rw [e]; exact fun z => nomatch z)
    cases x with
    | lst ts => obtain ⟨vs, q, r⟩ := k; exact ⟨vs, by rw [ca]; exact q, r.le l⟩
    | ins C gs => obtain ⟨dx, fs, q, r⟩ := k; exact ⟨dx, fs, by rw [ca]; exact q, r.le l⟩
theorem Ok.le (ok : Ok K Z S H) (l : Le S H S H') (c : ∀ a, S a ≠ none → H' a = H a) : Ok K Z S H' :=
  ⟨fun a => (ok.cl a).le l (c a), fun a z => by
    obtain ⟨n, o, e⟩ := ok.hid a z
    exact ⟨n, o, (l a o e n).1⟩⟩
theorem Ok.new {p : Addr} {o : HO} (ok : Ok K Z S H) (h : H p = none) : Ok K Z S (upd H p o) :=
  ok.le (le_new h) fun a n => upd_ne fun e => n (by rw [e]; exact ok.free h)
theorem Rep.tupN {p : Addr} {vs : List V} {ts : List T} (ok : Ok K Z S H) (h : H p = none) (r : Reps K Z S H vs ts) : Rep K Z S (upd H p (.tup vs)) (.ref p) (.tup ts) :=
  .tup (.inl ⟨.inl upd_same, ok.free h, ok.nz h⟩) (r.le (le_new h))
theorem Rep.lstN {p : Addr} {vs : List V} {ts : List T} (ok : Ok K Z S H) (h : H p = none) (r : Reps K Z S H vs ts) : Rep K Z S (upd H p (.lst vs)) (.ref p) (.lst ts) :=
  .lst ⟨upd_same, ok.free h, ok.nz h⟩ (r.le (le_new h))
/-- a new cell -/
theorem le_newc {p : Addr} {o : HO} {c : Cell} (h : H p = none) : Le S H (S.put p c) (upd H p o) := fun a u e n => by
  have ne := ne_of_none e h
  exact ⟨by rw [upd_ne ne]; exact e, by rw [put_ne ne]; exact n⟩
theorem Ok.putG {p : Addr} {c : Cell} (ok : Ok K Z S H) (l : Le S H (S.put p c) H') (nz : ¬ Z p) (st : ∀ a, a ≠ p → S a ≠ none → H' a = H a) (new : CellOk K Z (S.put p c) H' p (some c)) : Ok K Z (S.put p c) H' := by
  refine ⟨fun a => ?_, fun a z => ?_⟩
  · by_cases e : a = p
    · subst e; rw [put_same]; exact new
    · rw [put_ne e]
      exact (ok.cl a).le l (st a e)
  · have e : a ≠ p := fun e => nz (e ▸ z)
    obtain ⟨n, o, h⟩ := ok.hid a z
    exact ⟨by rw [put_ne e]; exact n, o, (l a o h n).1⟩
theorem Ok.put {p : Addr} {o : HO} {c : Cell} (ok : Ok K Z S H) (l : Le S H (S.put p c) (upd H p o)) (nz : ¬ Z p) (new : CellOk K Z (S.put p c) (upd H p o) p (some c)) : Ok K Z (S.put p c) (upd H p o) :=
  ok.putG l nz (fun a e _ => upd_ne e) new
/-- a cell changes -/
theorem le_setc {p : Addr} {o : HO} {c d : Cell} (h : S p = some d) : Le S H (S.put p c) (upd H p o) := fun a u e n => by
  have ne : a ≠ p := fun z => by rw [z, h] at n; cases n
  exact ⟨by rw [upd_ne ne]; exact e, by rw [put_ne ne]; exact n⟩
/-- a cell ceases to change -/
theorem le_drop {p : Addr} : Le S H (S.drop p) H := fun a u e n => ⟨e, by
  by_cases z : a = p
  · rw [z]; exact drop_same
  · rw [drop_ne z]; exact n⟩
theorem Ok.drop {p : Addr} (ok : Ok K Z S H) : Ok K Z (S.drop p) H := by
  refine ⟨fun a => ?_, fun a z => ?_⟩
  · by_cases e : a = p
    · rw [e, drop_same]; trivial
    · rw [drop_ne e]
      exact (ok.cl a).le le_drop fun _ => rfl
  · obtain ⟨n, h⟩ := ok.hid a z
    refine ⟨?_, h⟩
    by_cases e : a = p
    · rw [e]; exact drop_same
    · rw [drop_ne e]; exact n
theorem Rep.frz {p : Addr} {ts : List T} (ok : Ok K Z S H) (h : S p = some (.lst ts)) : Rep K Z (S.drop p) H (.ref p) (.lst ts) := by
  have := ok.cl p
  rw [h] at this
  obtain ⟨vs, q, r⟩ := this
  exact .lst ⟨q, drop_same, ok.nzc h⟩ (r.le le_drop)
theorem Rep.frzI {p C : Addr} {gs : List (Str × T)} (ok : Ok K Z S H) (h : S p = some (.ins C gs)) : Rep K Z (S.drop p) H (.ref p) (.ins C gs) := by
  have := ok.cl p
  rw [h] at this
  obtain ⟨dx, fs, q, r⟩ := this
  exact .ins q ⟨drop_same, ok.nzc h⟩ (r.le le_drop)
/-- p is hidden from now on; it was new -/
def hideA (Z : Addr → Prop) (p : Addr) : Addr → Prop := fun a => Z a ∨ a = p
/-- more is hidden, of what was not there -/
def Hid (H : Hp) (Z Z' : Addr → Prop) : Prop := ∀ a, Z' a → Z a ∨ H a = none
theorem hid_a {p : Addr} (h : H p = none) : Hid H Z (hideA Z p) := fun a z => z.imp id fun e => by rw [e]; exact h
theorem Hid.rd {Z' : Addr → Prop} {p : Addr} {u : HO} (x : Hid H Z Z') (n : ¬ Z p) (r : Rd H p u) : ¬ Z' p := fun z => by
  rcases x p z with z | e
  · exact n z
  · rcases r with r | ⟨_, r⟩ <;> (rw [e] at r; cases r)
theorem TupAt.hide {Z' : Addr → Prop} {p : Addr} {vs : List V} (x : Hid H Z Z') (h : TupAt K Z S H p vs) : TupAt K Z' S H p vs := h.imp (fun ⟨a, b, c⟩ => ⟨a, b, x.rd c a⟩) id
theorem LstAt.hide {Z' : Addr → Prop} {p : Addr} {vs : List V} (x : Hid H Z Z') (h : LstAt Z S H p vs) : LstAt Z' S H p vs := ⟨h.1, h.2.1, x.rd h.2.2 (.inl h.1)⟩
theorem ScrAt.hide {Z' : Addr → Prop} {p : Addr} {vs : List V} (x : Hid H Z Z') (h : ScrAt K Z S H p vs) : ScrAt K Z' S H p vs := h.imp (fun ⟨⟨o, a⟩, b, c⟩ => ⟨⟨o, a⟩, b, fun z => by
  rcases x p z with z | e
  · exact c z
  · rw [e] at a; cases a⟩) id
mutual
theorem Rep.hide {Z' : Addr → Prop} (x : Hid H Z Z') : ∀ {v : V} {t : T}, Rep K Z S H v t → Rep K Z' S H v t
  | _, _, .non => .non
  | _, _, .bl b => .bl b
  | _, _, .int i => .int i
  | _, _, .str z => .str z
  | _, _, .ty n => .ty n
  | _, _, .st a => .st a
  | _, _, .cell a => .cell a
  | _, _, .tup h r => .tup (h.hide x) (Reps.hide x r)
  | _, _, .lst h r => .lst (h.hide x) (Reps.hide x r)
  | _, _, .scr h r => .scr (h.hide x) (Reps.hide x r)
  | _, _, .ins h n r => .ins h ⟨n.1, x.rd n.2 (.inl h)⟩ (RepF.hide x r)
theorem Reps.hide {Z' : Addr → Prop} (x : Hid H Z Z') : ∀ {vs : List V} {ts : List T}, Reps K Z S H vs ts → Reps K Z' S H vs ts
  | _, _, .nil => .nil
  | _, _, .cons h r => .cons (Rep.hide x h) (Reps.hide x r)
theorem RepF.hide {Z' : Addr → Prop} (x : Hid H Z Z') : ∀ {vs : List (Str × V)} {ts : List (Str × T)}, RepF K Z S H vs ts → RepF K Z' S H vs ts
  | _, _, .nil => .nil
  | _, _, .cons h r => .cons (Rep.hide x h) (RepF.hide x r)
end
mutual
theorem Rep.show {p : Addr} : ∀ {v : V} {t : T}, Rep K (hideA Z p) S H v t → Rep K Z S H v t
  | _, _, .non => .non
  | _, _, .bl b => .bl b
  | _, _, .int i => .int i
  | _, _, .str z => .str z
  | _, _, .ty n => .ty n
  | _, _, .st a => .st a
  | _, _, .cell a => .cell a
  | _, _, .tup h r => .tup (h.imp (fun ⟨a, b, c⟩ => ⟨a, b, fun z => c (.inl z)⟩) id) (Reps.show r)
  | _, _, .lst h r => .lst ⟨h.1, h.2.1, fun z => h.2.2 (.inl z)⟩ (Reps.show r)
  | _, _, .scr h r => .scr (h.imp (fun ⟨a, b, c⟩ => ⟨a, b, fun z => c (.inl z)⟩) id) (Reps.show r)
  | _, _, .ins h n r => .ins h ⟨n.1, fun z => n.2 (.inl z)⟩ (RepF.show r)
theorem Reps.show {p : Addr} : ∀ {vs : List V} {ts : List T}, Reps K (hideA Z p) S H vs ts → Reps K Z S H vs ts
  | _, _, .nil => .nil
  | _, _, .cons h r => .cons (Rep.show h) (Reps.show r)
theorem RepF.show {p : Addr} : ∀ {vs : List (Str × V)} {ts : List (Str × T)}, RepF K (hideA Z p) S H vs ts → RepF K Z S H vs ts
  | _, _, .nil => .nil
  | _, _, .cons h r => .cons (Rep.show h) (RepF.show r)
end
theorem CellOk.map {Z' : Addr → Prop} {a : Addr} {c : Option Cell} (k : CellOk K Z S H a c) (f : ∀ {vs ts}, Reps K Z S H vs ts → Reps K Z' S' H' vs ts) (g : ∀ {vs ts}, RepF K Z S H vs ts → RepF K Z' S' H' vs ts) (e : c ≠ none → H' a = H a) : CellOk K Z' S' H' a c := by
  cases c with
  | none => trivial
  | some x =>
    have ca := e (fun z => nomatch z)
    cases x with
    | lst ts => obtain ⟨vs, q, r⟩ := k; exact ⟨vs, by rw [ca]; exact q, f r⟩
    | ins C gs => obtain ⟨dx, fs, q, r⟩ := k; exact ⟨dx, fs, by rw [ca]; exact q, g r⟩
/-- a hidden thing is laid -/
theorem Ok.hide {p : Addr} {o : HO} (ok : Ok K Z S H) (h : H p = none) : Ok K (hideA Z p) S (upd H p o) := by
  have ne : ∀ a, S a ≠ none → a ≠ p := fun a n e => n (by rw [e]; exact ok.free h)
  refine ⟨fun a => (ok.cl a).map (fun r => (r.hide (hid_a h)).le (le_new h)) (fun r => (r.hide (hid_a h)).le (le_new h)) fun n => upd_ne (ne a n), fun a z => ?_⟩
  rcases z with z | rfl
  · obtain ⟨n, u, e⟩ := ok.hid a z
    exact ⟨n, u, ((le_new (S := S) (o := o) h) a u e n).1⟩
  · exact ⟨ok.free h, o, upd_same⟩
/-- it changes -/
theorem lz_hid {p : Addr} {o : HO} : LeZ (hideA Z p) S H S (upd H p o) := fun a u e n z => ⟨by rw [upd_ne fun q => z (.inr q)]; exact e, n⟩
theorem Ok.hidSet {p : Addr} {o : HO} (ok : Ok K (hideA Z p) S H) : Ok K (hideA Z p) S (upd H p o) := by
  have ne : ∀ a, S a ≠ none → a ≠ p := fun a n e => n (by rw [e]; exact (ok.hid p (.inr rfl)).1)
  refine ⟨fun a => (ok.cl a).map (fun r => r.lz lz_hid) (fun r => r.lz lz_hid) fun n => upd_ne (ne a n), fun a z => ?_⟩
  obtain ⟨n, u, e⟩ := ok.hid a z
  by_cases q : a = p
  · subst q; exact ⟨n, o, upd_same⟩
  · exact ⟨n, u, by rw [upd_ne q]; exact e⟩
/-- it is shown -/
theorem Ok.show {p : Addr} (ok : Ok K (hideA Z p) S H) : Ok K Z S H :=
  ⟨fun a => (ok.cl a).map (fun r => r.show) (fun r => r.show) fun _ => rfl, fun a z => ok.hid a (.inl z)⟩
end
/-! ### the names of a def -/
inductive FrR (K : PySem.W.Frag) (Z : Addr → Prop) (S : Store) (H : Hp) : List (Option V) → List (Option T) → Prop
  | nil : FrR K Z S H [] []
  | skip {x : Option V} {l : List (Option V)} {m : List (Option T)} (r : FrR K Z S H l m) : FrR K Z S H (x :: l) (none :: m)
  | cons {v : V} {t : T} {l : List (Option V)} {m : List (Option T)} (h : Rep K Z S H v t) (r : FrR K Z S H l m) : FrR K Z S H (some v :: l) (some t :: m)
section
variable {K : PySem.W.Frag} {Z : Addr → Prop} {S S' S2 : Store} {H H' H2 : Hp}
theorem FrR.le {sl : List (Option V)} {σ : List (Option T)} (f : FrR K Z S H sl σ) (l : Le S H S' H') : FrR K Z S' H' sl σ := by
  induction f with
  | nil => exact .nil
  | skip _ ih => exact .skip ih
  | cons h _ ih => exact .cons (h.le l) ih
theorem FrR.get {sl : List (Option V)} {σ : List (Option T)} {i : Nat} {t : T} (f : FrR K Z S H sl σ) (h : σ[i]? = some (some t)) : ∃ v, sl[i]? = some (some v) ∧ Rep K Z S H v t := by
  induction f generalizing i with
  | nil => cases h
  | skip _ ih =>
    cases i with
    | zero => cases h
    | succ i => exact ih h
  | cons q _ ih =>
    cases i with
    | zero => cases h; exact ⟨_, rfl, q⟩
    | succ i => exact ih h
theorem FrR.set {sl : List (Option V)} {σ : List (Option T)} {v : V} {t : T} (i : Nat) (f : FrR K Z S H sl σ) (h : Rep K Z S H v t) : FrR K Z S H (sl.set i (some v)) (σ.set i (some t)) := by
  induction f generalizing i with
  | nil => exact .nil
  | skip r ih =>
    cases i with
    | zero => exact .cons h r
    | succ i => exact .skip (ih i)
  | cons q r ih =>
    cases i with
    | zero => exact .cons h r
    | succ i => exact .cons q (ih i)
theorem FrR.hide {Z' : Addr → Prop} {sl : List (Option V)} {σ : List (Option T)} (x : Hid H Z Z') (f : FrR K Z S H sl σ) : FrR K Z' S H sl σ := by
  induction f with
  | nil => exact .nil
  | skip _ ih => exact .skip ih
  | cons h _ ih => exact .cons (h.hide x) ih
theorem FrR.lz {sl : List (Option V)} {σ : List (Option T)} (f : FrR K Z S H sl σ) (l : LeZ Z S H S' H') : FrR K Z S' H' sl σ := by
  induction f with
  | nil => exact .nil
  | skip _ ih => exact .skip ih
  | cons h _ ih => exact .cons (h.lz l) ih
theorem FrR.length {sl : List (Option V)} {σ : List (Option T)} (f : FrR K Z S H sl σ) : sl.length = σ.length := by
  induction f with
  | nil => rfl
  | skip _ ih => simp [ih]
  | cons _ _ ih => simp [ih]
def startT (N : List Str) (ts : List T) : List (Option T) := ts.map some ++ List.replicate (N.length - ts.length) none
theorem FrR.reps {vs : List V} {ts : List T} (r : Reps K Z S H vs ts) {l : List (Option V)} {m : List (Option T)} (f : FrR K Z S H l m) : FrR K Z S H (vs.map some ++ l) (ts.map some ++ m) := by
  induction ts generalizing vs with
  | nil => cases r; exact f
  | cons t ts ih => cases r with | cons h r => exact .cons h (ih r)
theorem FrR.nones (n : Nat) : FrR K Z S H (List.replicate n none) (List.replicate n none) := by
  induction n with
  | zero => exact .nil
  | succ n ih => exact .skip ih
theorem FrR.start {N : List Str} {vs : List V} {ts : List T} (r : Reps K Z S H vs ts) : FrR K Z S H (start N vs) (startT N ts) := by
  unfold L2.start startT
  rw [r.length]
  exact FrR.reps r (FrR.nones _)
end

theorem pe_weak {X : Cx} {e : Expr} {t t' : TE} (he : PE X e t) (imp : ∀ sl H Q, t' sl H Q → t sl H Q) : PE X e t' := ⟨fun pins s sl H Q inv h => he.run pins s sl H Q inv (imp sl H Q h)⟩
/-! ### what trees are to fulfil -/
abbrev Fm := List (Option T)
abbrev XT := Addr → List (Str × T) → Store → Prop
abbrev TR := Fm → Store → (T → Store → Prop) → XT → Prop
abbrev TRB := Fm → Store → (Bool → Store → Prop) → XT → Prop
abbrev TRA := Fm → Store → (List T → Store → Prop) → XT → Prop
structure EnT where
  nx : Fm → Store → Prop
  rt : T → Store → Prop
  ex : XT
  bk : Fm → Store → Prop := fun _ _ => False
  ct : Fm → Store → Prop := fun _ _ => False
abbrev TRS := EnT → Fm → Store → Prop
def XD (H : Hp) (od : Option Addr) (fs : List (Str × V)) : Prop := match od with
  | some d => H d = some (.xd fs)
  | none => fs = []
section
variable (K : PySem.W.Frag) (Z : Addr → Prop) (S : Store) (H : Hp)
def XOk (RE : XT) (E : XK) : Prop := ∀ C gs S' od fs H', RE C gs S' → Le S H S' H' → Ok K Z S' H' → XD H' od fs → RepF K Z S' H' fs gs → E (.ref C) od H'
def PO (R : T → Store → Prop) (Q : VK) : Prop := ∀ t S' v H', R t S' → Le S H S' H' → Ok K Z S' H' → Rep K Z S' H' v t → Q v H'
def POB (R : Bool → Store → Prop) (Q : Bool → Hp → Prop) : Prop := ∀ b S' H', R b S' → Le S H S' H' → Ok K Z S' H' → Q b H'
def POA (R : List T → Store → Prop) (Q : List V → Hp → Prop) : Prop := ∀ ts S' vs H', R ts S' → Le S H S' H' → Ok K Z S' H' → Reps K Z S' H' vs ts → Q vs H'
def POF (R : Fm → Store → Prop) (Q : L2.St → Hp → Prop) : Prop := ∀ σ S' sl H', R σ S' → Le S H S' H' → Ok K Z S' H' → FrR K Z S' H' sl σ → Q sl H'
end
structure UpE (K : PySem.W.Frag) (E : XK) (r : TR) (sl : L2.St) (H : Hp) (Q : VK) : Prop where
  ex : ∃ Z σ S R RE, FrR K Z S H sl σ ∧ Ok K Z S H ∧ r σ S R RE ∧ PO K Z S H R Q ∧ XOk K Z S H RE E
structure UpB (K : PySem.W.Frag) (E : XK) (r : TRB) (sl : L2.St) (H : Hp) (Q : Bool → Hp → Prop) : Prop where
  ex : ∃ Z σ S R RE, FrR K Z S H sl σ ∧ Ok K Z S H ∧ r σ S R RE ∧ POB K Z S H R Q ∧ XOk K Z S H RE E
structure UpA (K : PySem.W.Frag) (E : XK) (r : TRA) (sl : L2.St) (H : Hp) (Q : List V → Hp → Prop) : Prop where
  ex : ∃ Z σ S R RE, FrR K Z S H sl σ ∧ Ok K Z S H ∧ r σ S R RE ∧ POA K Z S H R Q ∧ XOk K Z S H RE E
structure EO (K : PySem.W.Frag) (Z : Addr → Prop) (S : Store) (H : Hp) (DT : EnT) (D : Ends) : Prop where
  nx : POF K Z S H DT.nx D.nx
  rt : PO K Z S H DT.rt D.rt
  bk : POF K Z S H DT.bk D.bk
  ct : POF K Z S H DT.ct D.ct
structure UpS (K : PySem.W.Frag) (E : XK) (r : TRS) (D : Ends) (sl : L2.St) (H : Hp) : Prop where
  ex : ∃ Z σ S DT, FrR K Z S H sl σ ∧ Ok K Z S H ∧ r DT σ S ∧ EO K Z S H DT D ∧ XOk K Z S H DT.ex E
structure ET (X : Cx) (E : XK) (e : Expr) (r : TR) : Prop where
  pe : PE X e (UpE X.K E r)
structure TT' (X : Cx) (E : XK) (e : Expr) (r : TRB) : Prop where
  pt : PT X e (UpB X.K E r)
structure TW' (X : Cx) (E : XK) (e : Expr) (r : TRB) : Prop where
  pw : PW X e (UpB X.K E r)
structure AT (X : Cx) (E : XK) (es : List Expr) (r : TRA) : Prop where
  pa : PA X es (UpA X.K E r)
structure SS (X : Cx) (E : XK) (st : Stmt) (r : TRS) : Prop where
  ps : PS X st (UpS X.K E r)
structure BS (X : Cx) (E : XK) (st : List Stmt) (r : TRS) : Prop where
  ps : PSs X st (UpS X.K E r)
section
variable {K : PySem.W.Frag} {Z : Addr → Prop} {S S1 S2 : Store} {H H1 H2 : Hp} {E : XK} {Q : VK} {sl : L2.St} {ra rb : TR}
theorem XOk.le {RE : XT} (x : XOk K Z S H RE E) (l : Le S H S1 H1) : XOk K Z S1 H1 RE E := fun C gs S' od fs H' r l' ok d rf => x C gs S' od fs H' r (l.trans l') ok d rf
theorem PO.le {R : T → Store → Prop} (x : PO K Z S H R Q) (l : Le S H S1 H1) : PO K Z S1 H1 R Q := fun t S' v H' r l' ok rep => x t S' v H' r (l.trans l') ok rep
theorem POB.le {R : Bool → Store → Prop} {Q : Bool → Hp → Prop} (x : POB K Z S H R Q) (l : Le S H S1 H1) : POB K Z S1 H1 R Q := fun t S' H' r l' ok => x t S' H' r (l.trans l') ok
theorem POA.le {R : List T → Store → Prop} {Q : List V → Hp → Prop} (x : POA K Z S H R Q) (l : Le S H S1 H1) : POA K Z S1 H1 R Q := fun t S' v H' r l' ok rep => x t S' v H' r (l.trans l') ok rep
theorem POF.le {R : Fm → Store → Prop} {Q : L2.St → Hp → Prop} (x : POF K Z S H R Q) (l : Le S H S1 H1) : POF K Z S1 H1 R Q := fun t S' v H' r l' ok rep => x t S' v H' r (l.trans l') ok rep
theorem EO.le {DT : EnT} {D : Ends} (x : EO K Z S H DT D) (l : Le S H S1 H1) : EO K Z S1 H1 DT D := ⟨x.nx.le l, x.rt.le l, x.bk.le l, x.ct.le l⟩
/-- one part, then the rest -/
theorem UpE.one {k : Fm → T → Store → (T → Store → Prop) → XT → Prop} {Q' : VK} (h : UpE K E (fun σ S R RE => ra σ S (fun x S1 => k σ x S1 R RE) RE) sl H Q)
    (step : ∀ Z σ x S1 v H1 R RE, FrR K Z S1 H1 sl σ → Ok K Z S1 H1 → Rep K Z S1 H1 v x → k σ x S1 R RE → PO K Z S1 H1 R Q → XOk K Z S1 H1 RE E → Q' v H1) : UpE K E ra sl H Q' := by
  obtain ⟨Z, σ, S, R, RE, fr, ok, w, po, xo⟩ := h.ex
  exact ⟨_, σ, S, _, RE, fr, ok, w, fun x S1 v H1 kk le ok1 rep => step Z σ x S1 v H1 R RE (fr.le le) ok1 rep kk (po.le le) (xo.le le), xo⟩
/-- two parts, then the rest -/
theorem UpE.two {k : T → T → Store → (T → Store → Prop) → XT → Prop} {Q2 : V → V → Hp → Prop} (h : UpE K E (fun σ S R RE => ra σ S (fun x S1 => rb σ S1 (fun y S2 => k x y S2 R RE) RE) RE) sl H Q)
    (step : ∀ Z x y S2 v u H2 R RE, Ok K Z S2 H2 → Rep K Z S2 H2 v x → Rep K Z S2 H2 u y → k x y S2 R RE → PO K Z S2 H2 R Q → XOk K Z S2 H2 RE E → Q2 v u H2) :
    UpE K E ra sl H (fun v H1 => UpE K E rb sl H1 (fun u H2 => Q2 v u H2)) := by
  obtain ⟨Z, σ, S, R, RE, fr, ok, w, po, xo⟩ := h.ex
  refine ⟨_, σ, S, _, RE, fr, ok, w, fun x S1 v H1 kk le ok1 rep => ?_, xo⟩
  exact ⟨_, σ, S1, _, RE, fr.le le, ok1, kk, fun y S2 u H2 k2 le2 ok2 rep2 => step Z x y S2 v u H2 R RE ok2 (rep.le le2) rep2 k2 ((po.le le).le le2) ((xo.le le).le le2), xo.le le⟩
theorem UpA.args {t : TRA} {k : List T → Store → (T → Store → Prop) → XT → Prop} {Q' : List V → Hp → Prop} (h : UpE K E (fun σ S R RE => t σ S (fun x S1 => k x S1 R RE) RE) sl H Q)
    (step : ∀ Z x S1 v H1 R RE, Ok K Z S1 H1 → Reps K Z S1 H1 v x → k x S1 R RE → PO K Z S1 H1 R Q → XOk K Z S1 H1 RE E → Q' v H1) : UpA K E t sl H Q' := by
  obtain ⟨Z, σ, S, R, RE, fr, ok, w, po, xo⟩ := h.ex
  exact ⟨_, σ, S, _, RE, fr, ok, w, fun x S1 v H1 kk le ok1 rep => step Z x S1 v H1 R RE ok1 rep kk (po.le le) (xo.le le), xo⟩
end
section
variable {X : Cx} {E : XK} {e a b c : Expr} {es : List Expr} {pos : Pos} {ra rb rc : TR}
/-! ### names, constants -/
def rVar (i : Nat) : TR := fun σ S R _ => ∃ t, σ[i]? = some (some t) ∧ R t S
theorem et_var {i : Nat} (h : PE X e (tVar i)) : ET X E e (rVar i) := ⟨pe_weak h fun sl H Q ⟨⟨Z, σ, S, R, RE, fr, ok, ⟨t, hi, r⟩, po, _⟩⟩ => by
  obtain ⟨v, hv, rep⟩ := fr.get hi
  exact ⟨v, hv, po t S v H r .refl ok rep⟩⟩
/-- a name whose list changes no more -/
def rFrz (i : Nat) : TR := fun σ S R _ => ∃ a ts, σ[i]? = some (some (.cell a)) ∧ S a = some (.lst ts) ∧ R (.lst ts) (S.drop a)
theorem et_frz {i : Nat} (h : PE X e (tVar i)) : ET X E e (rFrz i) := ⟨pe_weak h fun sl H Q ⟨⟨Z, σ, S, R, RE, fr, ok, ⟨a, ts, hi, hs, r⟩, po, _⟩⟩ => by
  obtain ⟨v, hv, rep⟩ := fr.get hi
  cases rep
  exact ⟨_, hv, po _ (S.drop a) _ H r le_drop ok.drop (.frz ok hs)⟩⟩
def rC (t : T) : TR := fun _ S R _ => R t S
theorem et_c {v : V} {t : T} (h : PE X e (tC v)) (rep : ∀ Z S H, Rep X.K Z S H v t) : ET X E e (rC t) := ⟨pe_weak h fun sl H Q ⟨⟨Z, σ, S, R, RE, fr, ok, r, po, _⟩⟩ => po t S v H r .refl ok (rep Z S H)⟩
theorem et_int {i : Int} {j} : ET X E (.Constant (.int i) j pos) (rC (.int i)) := et_c pe_int fun _ _ _ => .int i
theorem et_bl {i : Bool} {j} : ET X E (.Constant (.bool i) j pos) (rC (.bl i)) := et_c pe_bl fun _ _ _ => .bl i
theorem et_non {j} : ET X E (.Constant .none j pos) (rC .non) := et_c pe_non fun _ _ _ => .non
theorem et_str {z : Str} {j} : ET X E (.Constant (.str z) j pos) (rC (.str z)) := et_c pe_str fun _ _ _ => .str z
theorem et_glob {x : Str} {a : Addr} (hg : Gl X x) (hm : X.mg x = some (.ref a)) (hd : (x == ("__debug__" : Str)) = false := by decide) : ET X E (.Name x pos) (rC (.st a)) := et_c (pe_glob (v := .ref a) hg hm rfl hd) fun _ _ _ => .st a
theorem et_globI {x : Str} {i : Int} {tk : Tok} (hg : Gl X x) (hm : X.mg x = some (.int i tk)) (hd : (x == ("__debug__" : Str)) = false := by decide) : ET X E (.Name x pos) (rC (.int i)) := et_c (pe_glob (v := .int i) hg hm ⟨_, rfl⟩ hd) fun _ _ _ => .int i
theorem et_blty {x : Str} {n : String} (hg : Gl X x) (hm : X.mg x = none) (hv : bootBuiltins x = some (.type n)) (hn : x ≠ "__name__" := by decide) (hd : (x == ("__debug__" : Str)) = false := by decide) : ET X E (.Name x pos) (rC (.ty n)) :=
  et_c (pe_bltn (v := .ty n) hg hm hv rfl hn hd) fun _ _ _ => .ty n
/-! ### operators, by values -/
def rBin (k : T → T → Store → (T → Store → Prop) → XT → Prop) (ra rb : TR) : TR := fun σ S R RE => ra σ S (fun x S1 => rb σ S1 (fun y S2 => k x y S2 R RE) RE) RE
/-- an operator's rule in the layer follows from one about trees -/
def Conv (K : PySem.W.Frag) (E : XK) (k : T → T → Store → (T → Store → Prop) → XT → Prop) (r : R2) : Prop := ∀ Z x y S v u H R RE Q, Ok K Z S H → Rep K Z S H v x → Rep K Z S H u y → k x y S R RE → PO K Z S H R Q → XOk K Z S H RE E → r v u H Q
theorem et_op {op : Operator} {r : R2} {k} (ho : OpR X (binaryOp op) r) (cv : Conv X.K E k r) (ha : ET X E a ra) (hb : ET X E b rb) : ET X E (.BinOp a op b pos) (rBin k ra rb) :=
  ⟨pe_weak (pe_op ho ha.pe hb.pe) fun sl H Q h => UpE.two h fun Z x y S2 v u H2 R RE ok rx ry kk po xo => cv Z x y S2 v u H2 R RE Q ok rx ry kk po xo⟩
theorem et_cmp {op : CmpOp} {r : R2} {k} (ho : OpR X (compareOp op) r) (cv : Conv X.K E k r) (ha : ET X E a ra) (hb : ET X E b rb) (hm : behindInMarks op b = false) : ET X E (.Compare a [op] [b] pos) (rBin k ra rb) :=
  ⟨pe_weak (pe_cmpR ho ha.pe hb.pe hm) fun sl H Q h => UpE.two h fun Z x y S2 v u H2 R RE ok rx ry kk po xo => cv Z x y S2 v u H2 R RE Q ok rx ry kk po xo⟩
theorem et_ix {r : R2} {k} (ho : IxR X r) (cv : Conv X.K E k r) (ha : ET X E a ra) (hb : ET X E b rb) (hs : PlainIx b) : ET X E (.Subscript a b pos) (rBin k ra rb) :=
  ⟨pe_weak (pe_ix ho ha.pe hb.pe hs) fun sl H Q h => UpE.two h fun Z x y S2 v u H2 R RE ok rx ry kk po xo => cv Z x y S2 v u H2 R RE Q ok rx ry kk po xo⟩
/-- a bool from a value -/
def rTest (ra : TR) : TRB := fun σ S R RE => ra σ S (fun x S1 => ∃ c, x = .bl c ∧ R c S1) RE
theorem UpB.test {K : PySem.W.Frag} {sl : L2.St} {H : Hp} {Q : Bool → Hp → Prop} (h : UpB K E (rTest ra) sl H Q) : UpE K E ra sl H (fun x H1 => ∃ c, x = .bl c ∧ Q c H1) := by
  obtain ⟨Z, σ, S, R, RE, fr, ok, w, po, xo⟩ := h.ex
  refine ⟨_, σ, S, _, RE, fr, ok, w, fun x S1 v H1 kk le ok1 rep => ?_, xo⟩
  obtain ⟨c, rfl, r⟩ := kk
  cases rep
  exact ⟨c, rfl, po c S1 H1 r le ok1⟩
theorem tt_val (ha : ET X E a ra) (he : ∀ whole, isTrue a X.env whole = (do let v ← whole; standAt a.pos; holding [v] (truthy v)) := by intro _; rfl) : TT' X E a (rTest ra) :=
  ⟨⟨fun pins s sl H Q I h => (pt_val ha.pe he).run pins s sl H Q I h.test⟩⟩
theorem tt_cmp {op : CmpOp} {r : R2} {k} (ho : OpR X (compareOp op) r) (cv : Conv X.K E k r) (ha : ET X E a ra) (hb : ET X E b rb) (hm : behindInMarks op b = false) : TT' X E (.Compare a [op] [b] pos) (rTest (rBin k ra rb)) :=
  ⟨⟨fun pins s sl H Q I h => (pt_cmpR ho ha.pe hb.pe hm).run pins s sl H Q I (UpE.two (k := k) h.test fun Z x y S2 v u H2 R RE ok rx ry kk po xo => cv Z x y S2 v u H2 R RE _ ok rx ry kk po xo)⟩⟩
/-! ### and, or, not -/
variable {rest : List Expr} {ta tb tc : TRB}
def bAnd (ta tb : TRB) : TRB := fun σ S R RE => ta σ S (fun c S1 => if c = true then tb σ S1 R RE else R false S1) RE
def bOr (ta tb : TRB) : TRB := fun σ S R RE => ta σ S (fun c S1 => if c = true then R true S1 else tb σ S1 R RE) RE
def bNot (ta : TRB) : TRB := fun σ S R RE => ta σ S (fun c S1 => R (!c) S1) RE
theorem tw_and1 (h : TT' X E a ta) : TW' X E (.BoolOp .And [a] pos) ta := ⟨pw_and1 h.pt⟩
theorem tw_or1 (h : TT' X E a ta) : TW' X E (.BoolOp .Or [a] pos) ta := ⟨pw_or1 h.pt⟩
theorem tw_and (ha : TT' X E a ta) (hb : TW' X E (.BoolOp .And (b :: rest) pos) tb) : TW' X E (.BoolOp .And (a :: b :: rest) pos) (bAnd ta tb) := by
  refine ⟨⟨fun wh pins s sl H Q I h => (pw_and ha.pt hb.pw).run wh pins s sl H Q I ?_⟩⟩
  obtain ⟨Z, σ, S, R, RE, fr, ok, w, po, xo⟩ := h.ex
  refine ⟨_, σ, S, _, RE, fr, ok, w, fun c S1 H1 kk le ok1 => ?_, xo⟩
  cases c with
  | true => exact ⟨_, σ, S1, R, RE, fr.le le, ok1, kk, po.le le, xo.le le⟩
  | false => exact po false S1 H1 kk le ok1
theorem tw_or (ha : TT' X E a ta) (hb : TW' X E (.BoolOp .Or (b :: rest) pos) tb) : TW' X E (.BoolOp .Or (a :: b :: rest) pos) (bOr ta tb) := by
  refine ⟨⟨fun wh pins s sl H Q I h => (pw_or ha.pt hb.pw).run wh pins s sl H Q I ?_⟩⟩
  obtain ⟨Z, σ, S, R, RE, fr, ok, w, po, xo⟩ := h.ex
  refine ⟨_, σ, S, _, RE, fr, ok, w, fun c S1 H1 kk le ok1 => ?_, xo⟩
  cases c with
  | false => exact ⟨_, σ, S1, R, RE, fr.le le, ok1, kk, po.le le, xo.le le⟩
  | true => exact po true S1 H1 kk le ok1
theorem tt_w (h : TW' X E a ta) : TT' X E a ta := ⟨h.pw.pt⟩
theorem tt_not (ha : TT' X E a ta) : TT' X E (.UnaryOp .Not a pos) (bNot ta) := by
  refine ⟨⟨fun pins s sl H Q I h => (pt_not ha.pt).run pins s sl H Q I ?_⟩⟩
  obtain ⟨Z, σ, S, R, RE, fr, ok, w, po, xo⟩ := h.ex
  exact ⟨_, σ, S, _, RE, fr, ok, w, fun c S1 H1 kk le ok1 => po _ S1 H1 kk le ok1, xo⟩
/-- .. as values -/
def vAnd (ra rb : TR) : TR := fun σ S R RE => ra σ S (fun x S1 => ∃ c, x = .bl c ∧ if c = true then rb σ S1 R RE else R (.bl false) S1) RE
def vOr (ra rb : TR) : TR := fun σ S R RE => ra σ S (fun x S1 => ∃ c, x = .bl c ∧ if c = true then R (.bl true) S1 else rb σ S1 R RE) RE
def vNot (ra : TR) : TR := fun σ S R RE => ra σ S (fun x S1 => ∃ c, x = .bl c ∧ R (.bl (!c)) S1) RE
theorem et_one {op} (h : ET X E a ra) : ET X E (.BoolOp op [a] pos) ra := ⟨pe_one h.pe⟩
theorem et_and (ha : ET X E a ra) (hb : ET X E (.BoolOp .And (b :: rest) pos) rb) : ET X E (.BoolOp .And (a :: b :: rest) pos) (vAnd ra rb) :=
  ⟨pe_weak (pe_and ha.pe hb.pe) fun sl H Q h => UpE.one (k := fun σ x S1 R RE => ∃ c, x = .bl c ∧ if c = true then rb σ S1 R RE else R (.bl false) S1) h fun Z σ x S1 v H1 R RE fr ok rx kk po xo => by
    obtain ⟨c, rfl, kk⟩ := kk
    cases rx
    refine ⟨c, rfl, ?_⟩
    cases c with
    | true => exact ⟨_, σ, S1, R, RE, fr, ok, kk, po, xo⟩
    | false => exact po _ S1 _ H1 kk .refl ok (.bl false)⟩
theorem et_or (ha : ET X E a ra) (hb : ET X E (.BoolOp .Or (b :: rest) pos) rb) : ET X E (.BoolOp .Or (a :: b :: rest) pos) (vOr ra rb) :=
  ⟨pe_weak (pe_or ha.pe hb.pe) fun sl H Q h => UpE.one (k := fun σ x S1 R RE => ∃ c, x = .bl c ∧ if c = true then R (.bl true) S1 else rb σ S1 R RE) h fun Z σ x S1 v H1 R RE fr ok rx kk po xo => by
    obtain ⟨c, rfl, kk⟩ := kk
    cases rx
    refine ⟨c, rfl, ?_⟩
    cases c with
    | false => exact ⟨_, σ, S1, R, RE, fr, ok, kk, po, xo⟩
    | true => exact po _ S1 _ H1 kk .refl ok (.bl true)⟩
theorem et_not (ha : ET X E a ra) : ET X E (.UnaryOp .Not a pos) (vNot ra) :=
  ⟨pe_weak (pe_not ha.pe) fun sl H Q h => UpE.one (k := fun σ x S1 R RE => ∃ c, x = .bl c ∧ R (.bl (!c)) S1) h fun Z σ x S1 v H1 R RE fr ok rx kk po xo => by
    obtain ⟨c, rfl, kk⟩ := kk
    cases rx
    exact ⟨c, rfl, po _ S1 _ H1 kk .refl ok (.bl _)⟩⟩
def rIf (tc : TRB) (ra rb : TR) : TR := fun σ S R RE => tc σ S (fun c S1 => if c = true then ra σ S1 R RE else rb σ S1 R RE) RE
theorem et_if (hc : TT' X E c tc) (ha : ET X E a ra) (hb : ET X E b rb) : ET X E (.IfExp c a b pos) (rIf tc ra rb) := by
  refine ⟨pe_weak (pe_ifExp hc.pt ha.pe hb.pe) fun sl H Q h => ?_⟩
  obtain ⟨Z, σ, S, R, RE, fr, ok, w, po, xo⟩ := h.ex
  refine ⟨_, σ, S, _, RE, fr, ok, w, fun c S1 H1 kk le ok1 => ?_, xo⟩
  cases c with
  | true => exact ⟨_, σ, S1, R, RE, fr.le le, ok1, kk, po.le le, xo.le le⟩
  | false => exact ⟨_, σ, S1, R, RE, fr.le le, ok1, kk, po.le le, xo.le le⟩
/-! ### argument lists, displays -/
def aNil : TRA := fun _ S R _ => R [] S
def aCons (ra : TR) (t : TRA) : TRA := fun σ S R RE => ra σ S (fun x S1 => t σ S1 (fun xs S2 => R (x :: xs) S2) RE) RE
theorem at_nil : AT X E [] aNil := ⟨⟨fun pos pins s sl H Q I h => pa_nil.run pos pins s sl H Q I (by
  obtain ⟨Z, σ, S, R, RE, fr, ok, w, po, xo⟩ := h.ex
  exact po [] S [] H w .refl ok .nil)⟩⟩
theorem at_cons {t : TRA} (ha : ET X E e ra) (hr : AT X E es t) (hs : starEach (e :: es) X.env = (false, eval e X.env) :: starEach es X.env := by rfl) : AT X E (e :: es) (aCons ra t) := ⟨⟨fun pos pins s sl H Q I h => (pa_cons ha.pe hr.pa hs).run pos pins s sl H Q I (by
  obtain ⟨Z, σ, S, R, RE, fr, ok, w, po, xo⟩ := h.ex
  refine ⟨_, σ, S, _, RE, fr, ok, w, fun x S1 v H1 kk le ok1 rep => ?_, xo⟩
  exact ⟨_, σ, S1, _, RE, fr.le le, ok1, kk, fun xs S2 vs H2 k2 le2 ok2 rs => po (x :: xs) S2 (v :: vs) H2 k2 (le.trans le2) ok2 (.cons (rep.le le2) rs), xo.le le⟩)⟩⟩
def rTup (t : TRA) : TR := fun σ S R RE => t σ S (fun xs S1 => xs.length ≤ sizeLine ∧ R (.tup xs) S1) RE
def rLst (t : TRA) : TR := fun σ S R RE => t σ S (fun xs S1 => xs.length ≤ sizeLine ∧ R (.lst xs) S1) RE
def rLstC (t : TRA) : TR := fun σ S R RE => t σ S (fun xs S1 => xs.length ≤ sizeLine ∧ ∀ a, S1 a = none → R (.cell a) (S1.put a (.lst xs))) RE
variable {t : TRA}
theorem et_tup {x1} (h : AT X E es t) : ET X E (.Tuple es x1 pos) (rTup t) :=
  ⟨pe_weak (pe_tup h.pa) fun sl H Q h => UpA.args (k := fun xs S1 R RE => xs.length ≤ sizeLine ∧ R (.tup xs) S1) h fun Z xs S1 vs H1 R RE ok rs kk po xo =>
    ⟨by rw [rs.length]; exact kk.1, fun p hp => po _ S1 _ _ kk.2 (le_new hp) (ok.new hp) (.tupN ok hp rs)⟩⟩
theorem et_lst (h : AT X E es t) : ET X E (.List es pos) (rLst t) :=
  ⟨pe_weak (pe_lst h.pa) fun sl H Q h => UpA.args (k := fun xs S1 R RE => xs.length ≤ sizeLine ∧ R (.lst xs) S1) h fun Z xs S1 vs H1 R RE ok rs kk po xo =>
    ⟨by rw [rs.length]; exact kk.1, fun p hp => po _ S1 _ _ kk.2 (le_new hp) (ok.new hp) (.lstN ok hp rs)⟩⟩
theorem et_lstC (h : AT X E es t) : ET X E (.List es pos) (rLstC t) :=
  ⟨pe_weak (pe_lst h.pa) fun sl H Q h => UpA.args (k := fun xs S1 R RE => xs.length ≤ sizeLine ∧ ∀ a, S1 a = none → R (.cell a) (S1.put a (.lst xs))) h fun Z xs S1 vs H1 R RE ok rs kk po xo =>
    ⟨by rw [rs.length]; exact kk.1, fun p hp => by
      have l := le_newc (S := S1) (o := .lst vs) (c := .lst xs) hp
      exact po _ _ _ _ (kk.2 p (ok.free hp)) l (ok.put l (ok.nz hp) ⟨vs, upd_same, rs.le l⟩) (.cell p)⟩⟩
/-- a built-in called with values -/
def rArgs (k : List T → Store → (T → Store → Prop) → XT → Prop) (t : TRA) : TR := fun σ S R RE => t σ S (fun xs S1 => k xs S1 R RE) RE
def ConvA (K : PySem.W.Frag) (E : XK) (k : List T → Store → (T → Store → Prop) → XT → Prop) (r : List V → Hp → VK → Prop) : Prop := ∀ Z xs S vs H R RE Q, Ok K Z S H → Reps K Z S H vs xs → k xs S R RE → PO K Z S H R Q → XOk K Z S H RE E → r vs H Q
theorem et_blt {id : String} {x : Str} {p : Pos} {r : List V → Hp → VK → Prop} {k} (hc : CallR X (.builtin id) r) (cv : ConvA X.K E k r) (hg : Gl X x) (hm : X.mg x = none) (hv : bootBuiltins x = some (.builtin id)) (ha : AT X E (e :: es) t) (hn : x ≠ "__name__" := by decide) (hdb : (x == ("__debug__" : Str)) = false := by decide)
    (he : starEach (e :: es) X.env = (false, eval e X.env) :: starEach es X.env := by rfl) (hpl : (backTo pos (starEach es X.env)).any (·.1) = false := by rfl) : ET X E (.Call (.Name x p) (e :: es) [] pos) (rArgs k t) :=
  ⟨pe_weak (pe_callB hc hg hm hv ha.pa hn hdb he hpl) fun sl H Q h => UpA.args h fun Z xs S1 vs H1 R RE ok rs kk po xo => cv Z xs S1 vs H1 R RE Q ok rs kk po xo⟩
theorem et_typ {T' : String} {x : Str} {p : Pos} {r : List V → Hp → VK → Prop} {k} (hc : CallR X (.type T') r) (cv : ConvA X.K E k r) (hg : Gl X x) (hm : X.mg x = none) (hv : bootBuiltins x = some (.type T')) (ha : AT X E (e :: es) t) (hn : x ≠ "__name__" := by decide) (hdb : (x == ("__debug__" : Str)) = false := by decide)
    (he : starEach (e :: es) X.env = (false, eval e X.env) :: starEach es X.env := by rfl) (hpl : (backTo pos (starEach es X.env)).any (·.1) = false := by rfl) : ET X E (.Call (.Name x p) (e :: es) [] pos) (rArgs k t) :=
  ⟨pe_weak (pe_callTy hc hg hm hv ha.pa hn hdb he hpl) fun sl H Q h => UpA.args h fun Z xs S1 vs H1 R RE ok rs kk po xo => cv Z xs S1 vs H1 R RE Q ok rs kk po xo⟩
end

/-! ### targets -/
abbrev TRG := T → Fm → Store → (Fm → Store → Prop) → XT → Prop
abbrev TRGs := List T → Fm → Store → (Fm → Store → Prop) → XT → Prop
structure UpG (K : PySem.W.Frag) (E : XK) (r : TRG) (v : V) (sl : L2.St) (H : Hp) (Q : L2.St → Hp → Prop) : Prop where
  ex : ∃ Z σ S t R RE, FrR K Z S H sl σ ∧ Ok K Z S H ∧ Rep K Z S H v t ∧ r t σ S R RE ∧ POF K Z S H R Q ∧ XOk K Z S H RE E
structure UpGs (K : PySem.W.Frag) (E : XK) (r : TRGs) (vs : List V) (sl : L2.St) (H : Hp) (Q : L2.St → Hp → Prop) : Prop where
  ex : ∃ Z σ S ts R RE, FrR K Z S H sl σ ∧ Ok K Z S H ∧ Reps K Z S H vs ts ∧ r ts σ S R RE ∧ POF K Z S H R Q ∧ XOk K Z S H RE E
structure GT (X : Cx) (E : XK) (tg : Expr) (r : TRG) : Prop where
  pg : PG X tg (UpG X.K E r)
structure GTs (X : Cx) (E : XK) (ts : List Expr) (r : TRGs) : Prop where
  pg : PGs X ts (UpGs X.K E r)
section
variable {X : Cx} {E : XK} {e a b c : Expr} {es : List Expr} {pos : Pos} {ra rb rc : TR} {g : TRG} {gs : TRGs} {t : TRA}
def gNameT (i : Nat) : TRG := fun t σ S R _ => R (σ.set i (some t)) S
theorem pg_weak {X : Cx} {e : Expr} {t t' : TG} (he : PG X e t) (imp : ∀ v sl H Q, t' v sl H Q → t v sl H Q) : PG X e t' := ⟨fun pins s sl H v u Q inv r h => he.run pins s sl H v u Q inv r (imp v sl H Q h)⟩
theorem gt_name {i : Nat} (h : PG X e (gName i)) : GT X E e (gNameT i) := ⟨pg_weak h fun v sl H Q ⟨⟨Z, σ, S, t, R, RE, fr, ok, rep, r, po, _⟩⟩ => po _ S _ H r .refl ok (fr.set i rep)⟩
def gNilT : TRGs := fun ts σ S R _ => ts = [] ∧ R σ S
def gConsT (g : TRG) (gs : TRGs) : TRGs := fun ts σ S R RE => ∃ x r, ts = x :: r ∧ g x σ S (fun σ1 S1 => gs r σ1 S1 R RE) RE
theorem gts_nil : GTs X E [] gNilT := ⟨⟨fun pins s sl H vs us Q I r ⟨⟨Z, σ, S, ts, R, RE, fr, ok, rep, ⟨e, w⟩, po, _⟩⟩ => by
  subst e
  cases rep
  exact pgs_nil.run pins s sl H [] us Q I r ⟨rfl, po σ S sl H w .refl ok fr⟩⟩⟩
theorem gts_cons (h1 : GT X E e g) (h2 : GTs X E es gs) (hs : (assignEach (e :: es) X.env).map (·.2) = assign e X.env :: (assignEach es X.env).map (·.2) := by rfl) : GTs X E (e :: es) (gConsT g gs) :=
  ⟨⟨fun pins s sl H vs us Q I r ⟨⟨Z, σ, S, ts, R, RE, fr, ok, rep, ⟨x, xs, e, w⟩, po, xo⟩⟩ => by
    subst e
    cases rep with
    | cons rx rr =>
      refine (pgs_cons h1.pg h2.pg hs).run pins s sl H _ us Q I r ⟨_, _, rfl, _, σ, S, x, _, RE, fr, ok, rx, w, fun σ1 S1 sl1 H1 k le ok1 fr1 => ?_, xo⟩
      exact ⟨_, σ1, S1, xs, R, RE, fr1, ok1, rr.le le, k, po.le le, xo.le le⟩⟩⟩
def gTupT (n : Nat) (gs : TRGs) : TRG := fun t σ S R RE => ∃ ts, t = .tup ts ∧ ts.length = n ∧ gs ts σ S R RE
theorem gt_tup {k : Nat} {n : Nat} (hc : X.calm = true) (h : GTs X E es gs) (hn : (assignEach es X.env).length = n := by rfl) (hst : (assignEach es X.env).findIdx? (·.1) = none := by rfl) : GT X E (.Tuple es k pos) (gTupT n gs) :=
  ⟨pg_weak (pg_tup hc h.pg hn hst) fun v sl H Q ⟨⟨Z, σ, S, t, R, RE, fr, ok, rep, ⟨ts, e, l, w⟩, po, xo⟩⟩ => by
    subst e
    cases rep with
    | tup h r => exact ⟨_, _, rfl, h.sq, r.length.trans l, _, σ, S, ts, R, RE, fr, ok, r, w, po, xo⟩⟩
/-- xs[i] = .., xs a list that changes -/
def gSubT (ra rb : TR) : TRG := fun t σ S R RE => ra σ S (fun x S1 => rb σ S1 (fun y S2 => ∃ a ts i j, x = .cell a ∧ y = .int i ∧ S2 a = some (.lst ts) ∧ ixN ts.length i = some j ∧ R σ (S2.put a (.lst (ts.set j t)))) RE) RE
theorem gt_sub {o i : Expr} (ho : ET X E o ra) (hi : ET X E i rb) (ha : ∀ v, assign (.Subscript o i pos) X.env v = (do
      let ov ← holding [v] (eval o X.env)
      let iv ← holding [v, ov] (eval i X.env)
      standAt pos
      holding [v, ov, iv] (setItem ov iv v)
      release [v, ov, iv] []) := by intro _; rfl) : GT X E (.Subscript o i pos) (gSubT ra rb) :=
  ⟨pg_weak (pg_sub ho.pe hi.pe set_list ha) fun v sl H Q ⟨⟨Z, σ, S, t, R, RE, fr, ok, rep, w, po, xo⟩⟩ => by
    refine ⟨_, σ, S, _, RE, fr, ok, w, fun x S1 vx H1 k1 le1 ok1 rx => ?_, xo⟩
    refine ⟨_, σ, S1, _, RE, fr.le le1, ok1, k1, fun y S2 vy H2 k2 le2 ok2 ry => ?_, xo.le le1⟩
    obtain ⟨a, ts, i, j, rfl, rfl, hs, hj, w⟩ := k2
    cases rx; cases ry
    have ca := ok2.cl a
    rw [hs] at ca
    obtain ⟨vs, hv, rs⟩ := ca
    refine ⟨a, vs, i, j, rfl, rfl, hv, by rw [rs.length]; exact hj, ?_⟩
    have l3 : Le S2 H2 (S2.put a (.lst (ts.set j t))) (upd H2 a (.lst (vs.set j v))) := le_setc hs
    exact po _ _ _ _ w ((le1.trans le2).trans l3) (ok2.put l3 (ok2.nzc hs) ⟨_, upd_same, (rs.le l3).set j (((rep.le le1).le le2).le l3)⟩) (((fr.le le1).le le2).le l3)⟩
/-! ### statements -/
def sAsg (ra : TR) (g : TRG) : TRS := fun D σ S => ra σ S (fun x S1 => g x σ S1 D.nx D.ex) D.ex
theorem ps_weak {X : Cx} {e : Stmt} {t t' : TS} (he : PS X e t) (imp : ∀ D sl H, t' D sl H → t D sl H) : PS X e t' := ⟨fun pins s sl H D inv h => he.run pins s sl H D inv (imp D sl H h)⟩
theorem pss_weak {X : Cx} {e : List Stmt} {t t' : TS} (he : PSs X e t) (imp : ∀ D sl H, t' D sl H → t D sl H) : PSs X e t' := ⟨fun pins s sl H D inv h => he.run pins s sl H D inv (imp D sl H h)⟩
theorem ss_asg {tg : Expr} (he : ET X E e ra) (hg : GT X E tg g) (hs : swapsWithSole [tg] e pos.line X.env = pure false := by rfl) (hw : swappedStores [tg] e X.env = pure none := by rfl)
    (h1 : (assignEach [tg] X.env).map (·.2) = [assign tg X.env] := by rfl) : SS X E (.Assign [tg] e pos) (sAsg ra g) :=
  ⟨ps_weak (ps_asg he.pe hg.pg hs hw h1) fun D sl H ⟨⟨Z, σ, S, DT, fr, ok, w, eo, xo⟩⟩ =>
    ⟨_, σ, S, _, DT.ex, fr, ok, w, fun x S1 v H1 k le ok1 rep => ⟨_, σ, S1, x, DT.nx, DT.ex, fr.le le, ok1, rep, k, eo.nx.le le, xo.le le⟩, xo⟩⟩
theorem ss_set {i : Nat} {x : Str} {pos' : Pos} (hN : X.N.Nodup) (hi : X.N[i]? = some x) (hx : Loc X.env.scope x) (he : ET X E e ra) (hs : swapsWith e (some (.Name x pos')) pos.line X.env = pure false := by rfl)
    (hf : X.fn x = true ∨ X.env.scope.names.lookup x = some .local := by first | exact .inl rfl | exact .inr rfl | assumption) : SS X E (.Assign [.Name x pos'] e pos) (sAsg ra (gNameT i)) :=
  ⟨ps_weak (ps_set hN hi hx he.pe hs hf) fun D sl H ⟨⟨Z, σ, S, DT, fr, ok, w, eo, xo⟩⟩ =>
    ⟨_, σ, S, _, DT.ex, fr, ok, w, fun x S1 v H1 k le ok1 rep => eo.nx _ S1 _ H1 k le ok1 ((fr.le le).set i rep), xo⟩⟩
/-- a, b = e1, e2 -/
def sPar (i j : Nat) (t : TRA) : TRS := fun D σ S => t σ S (fun ts S1 => ∃ x y, ts = [x, y] ∧ D.nx ((σ.set i (some x)).set j (some y)) S1) D.ex
theorem ss_par {i j : Nat} {x y : Str} {px py pt : Pos} {kt k2 pt2} (hc : X.calm = true) (hN : X.N.Nodup) (hi : X.N[i]? = some x) (hj : X.N[j]? = some y) (hij : i ≠ j)
    (hx : X.env.scope.names.lookup x = some .local) (hy : X.env.scope.names.lookup y = some .local) (ha : AT X E [a, b] t)
    (hw : swappedStores [.Tuple [.Name x px, .Name y py] kt pt] (.Tuple [a, b] k2 pt2) X.env = pure (some [x, y]))
    (hs : swapsWithSole [.Tuple [.Name x px, .Name y py] kt pt] (.Tuple [a, b] k2 pt2) pos.line X.env = pure false := by rfl) :
    SS X E (.Assign [.Tuple [.Name x px, .Name y py] kt pt] (.Tuple [a, b] k2 pt2) pos) (sPar i j t) :=
  ⟨ps_weak (ps_par hc hN hi hj hij hx hy ha.pa hw hs) fun D sl H ⟨⟨Z, σ, S, DT, fr, ok, w, eo, xo⟩⟩ =>
    ⟨_, σ, S, _, DT.ex, fr, ok, w, fun xs S1 vs H1 k le ok1 rep => by
      obtain ⟨x, y, rfl, k⟩ := k
      cases rep with
      | cons r1 rr =>
        cases rr with
        | cons r2 rr =>
          cases rr
          exact ⟨_, _, rfl, eo.nx _ S1 _ H1 k le ok1 (((fr.le le).set i r1).set j r2)⟩, xo⟩⟩
def sDrop (ra : TR) : TRS := fun D σ S => ra σ S (fun _ S1 => D.nx σ S1) D.ex
theorem ss_expr (he : ET X E e ra) (hs : swapsWith e none pos.line X.env = pure false := by rfl) : SS X E (.Expr e pos) (sDrop ra) :=
  ⟨ps_weak (ps_expr he.pe hs) fun D sl H ⟨⟨Z, σ, S, DT, fr, ok, w, eo, xo⟩⟩ => ⟨_, σ, S, _, DT.ex, fr, ok, w, fun x S1 v H1 k le ok1 _ => eo.nx σ S1 sl H1 k le ok1 (fr.le le), xo⟩⟩
def sRet (ra : TR) : TRS := fun D σ S => ra σ S D.rt D.ex
theorem ss_ret (he : ET X E e ra) : SS X E (.Return (some e) pos) (sRet ra) := ⟨ps_weak (ps_ret he.pe) fun D sl H ⟨⟨Z, σ, S, DT, fr, ok, w, eo, xo⟩⟩ => ⟨_, σ, S, _, DT.ex, fr, ok, w, eo.rt, xo⟩⟩
def sRetN : TRS := fun D _ S => D.rt .non S
theorem ss_retN : SS X E (.Return none pos) sRetN := ⟨ps_weak ps_retN fun D sl H ⟨⟨Z, σ, S, DT, fr, ok, w, eo, xo⟩⟩ => eo.rt _ S _ H w .refl ok .non⟩
def sIf (tc : TRB) (ra rb : TRS) : TRS := fun D σ S => tc σ S (fun c S1 => if c = true then ra D σ S1 else rb D σ S1) D.ex
theorem ss_if {ta : TRB} {sa sb : TRS} {as bs : List Stmt} (hc : TT' X E c ta) (ha : BS X E as sa) (hb : BS X E bs sb) : SS X E (.If c as bs pos) (sIf ta sa sb) :=
  ⟨ps_weak (ps_if hc.pt ha.ps hb.ps) fun D sl H ⟨⟨Z, σ, S, DT, fr, ok, w, eo, xo⟩⟩ => ⟨_, σ, S, _, DT.ex, fr, ok, w, fun c S1 H1 k le ok1 => by
    cases c with
    | true => exact ⟨_, σ, S1, DT, fr.le le, ok1, k, eo.le le, xo.le le⟩
    | false => exact ⟨_, σ, S1, DT, fr.le le, ok1, k, eo.le le, xo.le le⟩, xo⟩⟩
def sNext : TRS := fun D σ S => D.nx σ S
def sSeq (ra rb : TRS) : TRS := fun D σ S => ra { D with nx := rb D } σ S
theorem bs_nil : BS X E [] sNext := ⟨pss_weak pss_nil fun D sl H ⟨⟨Z, σ, S, DT, fr, ok, w, eo, xo⟩⟩ => eo.nx σ S sl H w .refl ok fr⟩
theorem bs_cons {st : Stmt} {rest : List Stmt} {sa sb : TRS} (h1 : SS X E st sa) (h2 : BS X E rest sb) : BS X E (st :: rest) (sSeq sa sb) :=
  ⟨pss_weak (pss_cons h1.ps h2.ps) fun D sl H ⟨⟨Z, σ, S, DT, fr, ok, w, eo, xo⟩⟩ => ⟨_, σ, S, { DT with nx := sb DT }, fr, ok, w,
    ⟨fun σ1 S1 sl1 H1 k le ok1 fr1 => ⟨_, σ1, S1, DT, fr1, ok1, k, eo.le le, xo.le le⟩, eo.rt, eo.bk, eo.ct⟩, xo⟩⟩
theorem bs_one {st : Stmt} {sa : TRS} (h1 : SS X E st sa) : BS X E [st] sa :=
  ⟨pss_weak (pss_one h1.ps) fun D sl H h => h⟩
/-! ### what is walked -/
abbrev TRI := Fm → Store → (List T → Store → Prop) → XT → Prop
/-- J walks the things ts, whatever is made meanwhile -/
def SrcOk (K : PySem.W.Frag) (Z : Addr → Prop) (S0 : Store) (H0 : Hp) (J : It) (ts : List T) : Prop := ∀ Z' S H, Hid H0 Z Z' → Le S0 H0 S H → Ok K Z' S H →
  (∀ i t, ts[i]? = some t → J.go i H ∧ ∀ x H', J.yld i H x H' → Le S H S H' ∧ Ok K Z' S H' ∧ Rep K Z' S H' x t) ∧ ∀ i, ts.length ≤ i → J.stop i H
structure UpI (K : PySem.W.Frag) (E : XK) (r : TRI) (sl : L2.St) (H : Hp) (Q : It → Hp → Prop) : Prop where
  ex : ∃ Z σ S R RE, FrR K Z S H sl σ ∧ Ok K Z S H ∧ r σ S R RE ∧ (∀ ts S' J H', R ts S' → Le S H S' H' → Ok K Z S' H' → SrcOk K Z S' H' J ts → Q J H') ∧ XOk K Z S H RE E
structure IT (X : Cx) (E : XK) (tg it : Expr) (r : TRI) : Prop where
  pi : PI X tg it (UpI X.K E r)
def seqOf : T → Option (List T)
  | .lst ts => some ts
  | .scr ts => some ts
  | .tup ts => some ts
  | _ => none
def iSeq (ra : TR) : TRI := fun σ S R RE => ra σ S (fun t S1 => ∃ ts, seqOf t = some ts ∧ R ts S1) RE
theorem src_list {K : PySem.W.Frag} {Z : Addr → Prop} {S : Store} {H : Hp} {p : Addr} {vs : List V} {ts : List T} (h : LstAt Z S H p vs) (r : Reps K Z S H vs ts) : SrcOk K Z S H (Itl K p) ts := fun Z' S1 H1 hz le ok => by
  replace h := h.hide hz
  replace r := r.hide hz
  refine ⟨fun i t hi => ?_, fun i hi => ⟨vs, (h.le le).sq, by rw [r.length]; exact hi⟩⟩
  obtain ⟨v, hv, rep⟩ := r.get hi
  refine ⟨⟨vs, v, (h.le le).sq, hv⟩, fun x H' ⟨e, y⟩ => ?_⟩
  subst e
  have := y vs (h.le le).sq
  rw [hv] at this
  cases this
  exact ⟨.refl, ok, rep.le le⟩
theorem src_scr {K : PySem.W.Frag} {Z : Addr → Prop} {S : Store} {H : Hp} {p : Addr} {vs : List V} {ts : List T} (h : ScrAt K Z S H p vs) (r : Reps K Z S H vs ts) : SrcOk K Z S H (Itl K p) ts := fun Z' S1 H1 hz le ok => by
  replace h := h.hide hz
  replace r := r.hide hz
  refine ⟨fun i t hi => ?_, fun i hi => ⟨vs, (h.le le).sq, by rw [r.length]; exact hi⟩⟩
  obtain ⟨v, hv, rep⟩ := r.get hi
  refine ⟨⟨vs, v, (h.le le).sq, hv⟩, fun x H' ⟨e, y⟩ => ?_⟩
  subst e
  have := y vs (h.le le).sq
  rw [hv] at this
  cases this
  exact ⟨.refl, ok, rep.le le⟩
theorem src_tup {K : PySem.W.Frag} {Z : Addr → Prop} {S : Store} {H : Hp} {p : Addr} {vs : List V} {ts : List T} (h : TupAt K Z S H p vs) (r : Reps K Z S H vs ts) : SrcOk K Z S H (Itt K p) ts := fun Z' S1 H1 hz le ok => by
  replace h := h.hide hz
  replace r := r.hide hz
  refine ⟨fun i t hi => ?_, fun i hi => ⟨vs, (h.le le).sq, by rw [r.length]; exact hi⟩⟩
  obtain ⟨v, hv, rep⟩ := r.get hi
  refine ⟨⟨vs, v, (h.le le).sq, hv⟩, fun x H' ⟨e, y⟩ => ?_⟩
  subst e
  have := y vs (h.le le).sq
  rw [hv] at this
  cases this
  exact ⟨.refl, ok, rep.le le⟩
def iLT (K : PySem.W.Frag) (tl : TE) : TI := fun σ H R => tl σ H fun x H1 => ∃ a, x = .ref a ∧ (((∃ xs, SqL K H1 a xs) ∧ R (Itl K a) H1) ∨ ((∃ xs, SqT K H1 a xs) ∧ R (Itt K a) H1))
theorem pi_lt {tg l : Expr} {tl : TE} (hl : PE X l tl) : PI X tg l (iLT X.K tl) := by
  refine ⟨fun pins s sl H R I h => ?_⟩
  refine thn (hl.run pins s sl H _ I h) fun v s1 ⟨x, H1, I1, r1, q1⟩ => ?_
  obtain ⟨a, e, q⟩ := q1
  subst e
  cases r1
  rcases q with ⟨⟨xs, hq⟩, q⟩ | ⟨⟨xs, hq⟩, q⟩
  · obtain ⟨its, rv, p, hz⟩ := I1.list hq
    refine wpAny_pyIter_list p.isList ?_
    refine ⟨s1.heap.objs.size, [s1.heap.objs.size], _, _, H1, rfl, I1.kept (t' := s1.toks) fun b o e => Heap.get?_push_of_some _ e, turn_list a _, ⟨_, Heap.get?_push_size _ rfl, rfl, rfl⟩, fun b hb => ?_, q⟩
    have e : b = s1.heap.objs.size := by simpa using hb
    subst e
    exact I1.fpOk (Nat.le_refl _) (I1.hok.fresh (Nat.le_refl _))
  · obtain ⟨its, rv, p, hz⟩ := I1.tuple hq
    refine wpAny_pyIter_tuple (show s1.heap.IsTuple a its.toArray from p) ?_
    refine ⟨s1.heap.objs.size, [s1.heap.objs.size], _, _, H1, rfl, I1.kept (t' := s1.toks) fun b o e => Heap.get?_push_of_some _ e, turn_tuple a _, ⟨_, Heap.get?_push_size _ rfl, rfl, rfl⟩, fun b hb => ?_, q⟩
    have e : b = s1.heap.objs.size := by simpa using hb
    subst e
    exact I1.fpOk (Nat.le_refl _) (I1.hok.fresh (Nat.le_refl _))
theorem pi_weak {X : Cx} {tg e : Expr} {t t' : TI} (he : PI X tg e t) (imp : ∀ sl H Q, t' sl H Q → t sl H Q) : PI X tg e t' := ⟨fun pins s sl H R inv h => he.run pins s sl H R inv (imp sl H R h)⟩
theorem it_seq {tg : Expr} (ha : ET X E a ra) : IT X E tg a (iSeq ra) := ⟨pi_weak (pi_lt ha.pe) fun sl H Q ⟨⟨Z, σ, S, R, RE, fr, ok, w, po, xo⟩⟩ => by
  refine ⟨_, σ, S, _, RE, fr, ok, w, fun t S1 v H1 k le ok1 rep => ?_, xo⟩
  obtain ⟨ts, e, k⟩ := k
  cases rep <;> try (cases e; done)
  · cases e
    rename_i h r
    exact ⟨_, rfl, .inr ⟨⟨_, h.sq⟩, po ts S1 _ H1 k le ok1 (src_tup h r)⟩⟩
  · cases e
    rename_i h r
    exact ⟨_, rfl, .inl ⟨⟨_, h.sq⟩, po ts S1 _ H1 k le ok1 (src_list h r)⟩⟩
  · cases e
    rename_i h r
    exact ⟨_, rfl, .inl ⟨⟨_, h.sq⟩, po ts S1 _ H1 k le ok1 (src_scr h r)⟩⟩⟩
def rangeT (lo hi : Int) : List T := (List.range (hi - lo).toNat).map fun (i : Nat) => T.int (lo + i)
theorem src_range {K : PySem.W.Frag} {Z : Addr → Prop} {S : Store} {H : Hp} {lo : Int} {n : Nat} : SrcOk K Z S H (Itr lo n) ((List.range n).map fun (i : Nat) => T.int (lo + i)) := fun Z' S1 H1 hz le ok => by
  refine ⟨fun i t hi => ?_, fun i hi => by rw [List.length_map, List.length_range] at hi; exact hi⟩
  rw [List.getElem?_map] at hi
  obtain ⟨j, hj, e⟩ := Option.map_eq_some_iff.mp hi
  obtain ⟨l, ej⟩ := List.getElem?_eq_some_iff.mp hj
  rw [List.getElem_range] at ej
  subst ej e
  rw [List.length_range] at l
  refine ⟨l, fun x H' ⟨e1, e2⟩ => ?_⟩
  subst e1 e2
  exact ⟨.refl, ok, .int _⟩
def iRng1T (t : TRA) : TRI := fun σ S R RE => t σ S (fun xs S1 => ∃ j : Int, xs = [.int j] ∧ -(2 ^ 62) ≤ j ∧ j < 2 ^ 62 ∧ R (rangeT 0 j) S1) RE
def iRng2T (t : TRA) : TRI := fun σ S R RE => t σ S (fun xs S1 => ∃ i j : Int, xs = [.int i, .int j] ∧ (-(2 ^ 62) ≤ i ∧ i < 2 ^ 62 ∧ -(2 ^ 62) ≤ j ∧ j < 2 ^ 62) ∧ R (rangeT i j) S1) RE
theorem it_range1 {tg : Expr} {p : Pos} (hg : Gl X "range") (hm : X.mg "range" = none) (ha : AT X E [a] t) (hs : starEach [a] X.env = [(false, eval a X.env)] := by rfl) : IT X E tg (.Call (.Name "range" p) [a] [] pos) (iRng1T t) :=
  ⟨pi_weak (pi_range1 hg hm ha.pa hs) fun sl H Q ⟨⟨Z, σ, S, R, RE, fr, ok, w, po, xo⟩⟩ => ⟨_, σ, S, _, RE, fr, ok, w, fun xs S1 vs H1 k le ok1 rep => by
    obtain ⟨j, rfl, h1, h2, k⟩ := k
    cases rep with
    | cons r rr =>
      cases r; cases rr
      refine ⟨j, rfl, h1, h2, po _ S1 _ H1 k le ok1 ?_⟩
      have := src_range (K := X.K) (Z := Z) (S := S1) (H := H1) (lo := 0) (n := j.toNat)
      unfold rangeT
      rw [Int.sub_zero]
      exact this, xo⟩⟩
theorem it_range2 {tg : Expr} {p : Pos} (hg : Gl X "range") (hm : X.mg "range" = none) (ha : AT X E [a, b] t) (hs : starEach [a, b] X.env = [(false, eval a X.env), (false, eval b X.env)] := by rfl) (hs2 : starEach [b] X.env = [(false, eval b X.env)] := by rfl) : IT X E tg (.Call (.Name "range" p) [a, b] [] pos) (iRng2T t) :=
  ⟨pi_weak (pi_range2 hg hm ha.pa hs hs2) fun sl H Q ⟨⟨Z, σ, S, R, RE, fr, ok, w, po, xo⟩⟩ => ⟨_, σ, S, _, RE, fr, ok, w, fun xs S1 vs H1 k le ok1 rep => by
    obtain ⟨i, j, rfl, h, k⟩ := k
    cases rep with
    | cons r rr =>
      cases r
      cases rr with
      | cons r rr =>
        cases r; cases rr
        exact ⟨i, j, rfl, h, po _ S1 _ H1 k le ok1 src_range⟩, xo⟩⟩
/-! ### for -/
def rLoop (g : TRG) (rb : TRS) (D : EnT) : List T → Fm → Store → Prop
  | [], σ, S => D.nx σ S
  | t :: ts, σ, S => g t σ S (fun σ1 S1 => rb { D with nx := rLoop g rb D ts, ct := rLoop g rb D ts, bk := D.nx } σ1 S1) D.ex
def sFor (ri : TRI) (g : TRG) (rb : TRS) : TRS := fun D σ S => ri σ S (fun ts S1 => rLoop g rb D ts σ S1) D.ex
theorem ss_for {iter tg : Expr} {body : List Stmt} {ri : TRI} {rb : TRS} (hp : PassesOwn (model X.prog X.w) X.A X.env X.xe) (hc : X.calm = true) (hi : IT X E tg iter ri) (hg : GT X E tg g) (hb : BS X E body rb)
    (hs : ∀ x, foldedSetIterable iter X.env x = pure x := by intro _; rfl) : SS X E (.For tg iter body [] pos) (sFor ri g rb) :=
  ⟨ps_weak (ps_for hp hc hi.pi hg.pg hb.ps hs) fun D sl H ⟨⟨Z, σ, S, DT, fr, ok, w, eo, xo⟩⟩ => by
    refine ⟨_, σ, S, _, DT.ex, fr, ok, w, fun ts S1 J H1 k le ok1 src => ?_, xo⟩
    refine ⟨fun i m sl' H' => m = ts.length - i ∧ i ≤ ts.length ∧ ∃ σ' S', FrR X.K Z S' H' sl' σ' ∧ Ok X.K Z S' H' ∧ Le S1 H1 S' H' ∧ rLoop g rb DT (ts.drop i) σ' S', ⟨_, rfl, Nat.zero_le _, σ, S1, fr.le le, ok1, .refl, k⟩, ?_⟩
    rintro i m sl' H' ⟨rfl, hi, σ', S', fr', ok', le', k'⟩
    obtain ⟨go, stop⟩ := src Z S' H' (fun _ z => .inl z) le' ok'
    by_cases hlt : i < ts.length
    · refine .inr ?_
      have hd : ts.drop i = ts[i] :: ts.drop (i + 1) := (List.drop_eq_getElem_cons hlt)
      rw [hd] at k'
      obtain ⟨g1, g2⟩ := go i ts[i] (List.getElem?_eq_getElem hlt)
      refine ⟨g1, fun sl2 H2 => ∃ σ2 S2, FrR X.K Z S2 H2 sl2 σ2 ∧ Ok X.K Z S2 H2 ∧ Le S1 H1 S2 H2 ∧ rLoop g rb DT (ts.drop (i + 1)) σ2 S2, ?_, ?_⟩
      · rintro sl2 H2 ⟨σ2, S2, f2, o2, l2, k2⟩
        exact ⟨_, by omega, rfl, hlt, σ2, S2, f2, o2, l2, k2⟩
      · intro x H2 y
        obtain ⟨l2, o2, rep⟩ := g2 x H2 y
        refine ⟨_, σ', S', ts[i], _, DT.ex, fr'.le l2, o2, rep, k', fun σ3 S3 sl3 H3 k3 l3 o3 f3 => ?_, (xo.le (le.trans le')).le l2⟩
        have lt := (le'.trans l2).trans l3
        refine ⟨_, σ3, S3, _, f3, o3, k3, ⟨fun σ4 S4 sl4 H4 k4 l4 o4 f4 => ⟨σ4, S4, f4, o4, lt.trans l4, k4⟩, (eo.rt.le (le.trans lt)), (eo.nx.le (le.trans lt)), fun σ4 S4 sl4 H4 k4 l4 o4 f4 => ⟨σ4, S4, f4, o4, lt.trans l4, k4⟩⟩, (xo.le (le.trans lt))⟩
    · have e : i = ts.length := by omega
      subst e
      rw [List.drop_length] at k'
      exact .inl ⟨stop _ (Nat.le_refl _), eo.nx σ' S' sl' H' k' (le.trans le') ok' fr'⟩⟩
/-- with an invariant -/
theorem rLoop_inv {rb : TRS} {D : EnT} {ts : List T} {σ : Fm} {S : Store} (P : Nat → Fm → Store → Prop) (h0 : P 0 σ S)
    (hs : ∀ i t σ S, ts[i]? = some t → P i σ S → ∀ N : Fm → Store → Prop, (∀ σ' S', P (i + 1) σ' S' → N σ' S') → g t σ S (fun σ1 S1 => rb { D with nx := N, ct := N, bk := D.nx } σ1 S1) D.ex)
    (hd : ∀ σ S, P ts.length σ S → D.nx σ S) : rLoop g rb D ts σ S := by
  suffices h : ∀ (us : List T) (i : Nat) σ S, ts.drop i = us → i ≤ ts.length → P i σ S → rLoop g rb D us σ S from h ts 0 σ S rfl (Nat.zero_le _) h0
  intro us
  induction us with
  | nil =>
    intro i σ S e hi p
    have : i = ts.length := by
      have := congrArg List.length e
      simp at this
      omega
    subst this
    exact hd σ S p
  | cons u us ih =>
    intro i σ S e hi p
    have hlt : i < ts.length := by
      have := congrArg List.length e
      simp at this
      omega
    rw [List.drop_eq_getElem_cons hlt] at e
    injection e with e1 e2
    exact hs i u σ S (by rw [← e1]; exact List.getElem?_eq_getElem hlt) p _ fun σ' S' p' => ih (i + 1) σ' S' e2 hlt p'
/-! ### while -/
def sWhile (tc : TRB) (rb : TRS) : TRS := fun D σ S => ∃ W : Nat → Fm → Store → Prop, (∃ m, W m σ S) ∧ ∀ m σ S, W m σ S →
  tc σ S (fun c S1 => if c = true then rb { D with nx := fun σ' S' => ∃ m', m' < m ∧ W m' σ' S', ct := fun σ' S' => ∃ m', m' < m ∧ W m' σ' S', bk := D.nx } σ S1 else D.nx σ S1) D.ex
theorem ss_while {body : List Stmt} {ta : TRB} {rb : TRS} (hp : PassesOwn (model X.prog X.w) X.A X.env X.xe) (hc : TT' X E c ta) (hb : BS X E body rb) : SS X E (.While c body [] pos) (sWhile ta rb) :=
  ⟨ps_weak (ps_while hp hc.pt hb.ps) fun D sl H ⟨⟨Z, σ, S, DT, fr, ok, ⟨W, ⟨m0, w0⟩, turn⟩, eo, xo⟩⟩ => by
    refine ⟨fun m sl' H' => ∃ σ' S', FrR X.K Z S' H' sl' σ' ∧ Ok X.K Z S' H' ∧ Le S H S' H' ∧ W m σ' S', ⟨m0, σ, S, fr, ok, .refl, w0⟩, ?_⟩
    rintro m sl' H' ⟨σ', S', fr', ok', le', w'⟩
    refine ⟨_, σ', S', _, DT.ex, fr', ok', turn m σ' S' w', fun c S1 H1 k le1 ok1 => ?_, xo.le le'⟩
    cases c with
    | true =>
      refine ⟨fun sl2 H2 => ∃ σ2 S2, FrR X.K Z S2 H2 sl2 σ2 ∧ Ok X.K Z S2 H2 ∧ Le S H S2 H2 ∧ ∃ m', m' < m ∧ W m' σ2 S2, ?_, ?_⟩
      · rintro sl2 H2 ⟨σ2, S2, f2, o2, l2, m', hm, k2⟩
        exact ⟨m', hm, σ2, S2, f2, o2, l2, k2⟩
      · have lt := le'.trans le1
        exact ⟨_, σ', S1, _, fr'.le le1, ok1, k, ⟨fun σ4 S4 sl4 H4 k4 l4 o4 f4 => ⟨σ4, S4, f4, o4, lt.trans l4, k4⟩, eo.rt.le lt, eo.nx.le lt, fun σ4 S4 sl4 H4 k4 l4 o4 f4 => ⟨σ4, S4, f4, o4, lt.trans l4, k4⟩⟩, xo.le lt⟩
    | false => exact eo.nx σ' S1 sl' H1 k (le'.trans le1) ok1 (fr'.le le1)⟩
end

/-! ### comprehensions -/
def XF : XT := fun _ _ _ => False
def EF : XK := fun _ _ _ => False
theorem XOk.f {K : PySem.W.Frag} {Z : Addr → Prop} {S : Store} {H : Hp} : XOk K Z S H XF EF := fun _ _ _ _ _ _ z => z.elim
structure TTs (X : Cx) (E : XK) (es : List Expr) (r : TRB) : Prop where
  pt : PTs X es (UpB X.K E r)
def bYes : TRB := fun _ S R _ => R true S
def rComp (fr : T → Fm) (tt : TRB) (re : TR) : List T → List T → Store → (List T → Store → Prop) → Prop
  | [], acc, S, R => R acc S
  | t :: ts, acc, S, R => tt (fr t) S (fun b S1 => if b = true then re (fr t) S1 (fun y S2 => acc.length < sizeLine ∧ rComp fr tt re ts (acc ++ [y]) S2 R) XF else rComp fr tt re ts acc S1 R) XF
section
variable {X : Cx} {E : XK} {e a b c : Expr} {es : List Expr} {pos : Pos} {ra rb rc : TR} {g : TRG} {gs : TRGs} {t : TRA}
theorem tts_nil : TTs X E [] bYes := ⟨⟨fun pins s sl H Q I h => pts_nil.run pins s sl H Q I (by
  obtain ⟨Z, σ, S, R, RE, fr, ok, w, po, xo⟩ := h.ex
  exact po true S H w .refl ok)⟩⟩
theorem tts_one {ta : TRB} (h : TT' X E c ta) : TTs X E [c] ta := ⟨pts_one h.pt⟩
def rLc (ri : TRI) (j : Nat) (tt : TRB) (re : TR) : TR := fun σ S R RE => ri σ S (fun ts S1 => rComp (fun t => σ.set j (some t)) tt re ts [] S1 (fun ys S2 => R (.lst ys) S2)) RE
theorem lc_turns {K : PySem.W.Frag} {Z : Addr → Prop} {S1 : Store} {H1 : Hp} {J : It} {ts : List T} {sl : L2.St} {σ : Fm} {g : TG} {vs : List Nat} {fr : T → Fm} {tt : TRB} {re : TR} {Q : VK} {R : List T → Store → Prop}
    (ok1 : Ok K Z S1 H1) (fr1 : FrR K Z S1 H1 sl σ) (src : SrcOk K Z S1 H1 J ts) (k : rComp fr tt re ts [] S1 R)
    (hg : ∀ Z' S H x t (Q' : L2.St → Hp → Prop), FrR K Z' S H sl σ → Rep K Z' S H x t → (∀ sl2, FrR K Z' S H sl2 (fr t) → wipe sl2 vs = wipe sl vs → Q' sl2 H) → g x (wipe sl vs) H Q')
    (po : ∀ ys S' v H', R ys S' → Le S1 H1 S' H' → Ok K Z S' H' → Rep K Z S' H' v (.lst ys) → Q v H') :
    ∀ D, H1 D = none → ∃ W : Nat → Nat → Hp → Prop, (∃ m, W 0 m (upd H1 D (.lst []))) ∧ ∀ i m H, W i m H →
  (J.stop i H ∧ Q (.ref D) H) ∨ (J.go i H ∧ ∃ Nx : Hp → Prop, (∀ H', Nx H' → ∃ m', m' < m ∧ W (i + 1) m' H') ∧ ∀ x H', J.yld i H x H' → g x (wipe sl vs) H' fun σ2 H2 => wipe σ2 vs = wipe sl vs ∧ UpB K EF tt σ2 H2 fun b H3 =>
    if b = true then UpE K EF re σ2 H3 fun y H4 => ∃ acc, H4 D = some (.lst acc) ∧ acc.length < sizeLine ∧ Nx (upd H4 D (.lst (acc ++ [y]))) else Nx H3) := by
  intro D hD
  have hz := hid_a (Z := Z) hD
  -- what holds at each turn
  let In : Nat → Hp → Prop := fun i H' => ∃ S' acc accV, Ok K (hideA Z D) S' H' ∧ FrR K (hideA Z D) S' H' sl σ ∧ Le S1 H1 S' H' ∧ H' D = some (.lst accV) ∧ Reps K (hideA Z D) S' H' accV acc ∧ rComp fr tt re (ts.drop i) acc S' R
  refine ⟨fun i m H' => m = ts.length - i ∧ i ≤ ts.length ∧ In i H', ⟨_, rfl, Nat.zero_le _, S1, [], [], ok1.hide hD, (fr1.hide hz).le (le_new hD), le_new hD, upd_same, .nil, k⟩, ?_⟩
  rintro i m H' ⟨rfl, hi, S', acc, accV, ok', fr', le', hd, rs, k'⟩
  obtain ⟨go, stop⟩ := src _ S' H' hz le' ok'
  by_cases hlt : i < ts.length
  · refine .inr ?_
    obtain ⟨g1, g2⟩ := go i ts[i] (List.getElem?_eq_getElem hlt)
    rw [List.drop_eq_getElem_cons hlt] at k'
    refine ⟨g1, In (i + 1), fun H2 h2 => ⟨_, by omega, rfl, hlt, h2⟩, fun x H2 y => ?_⟩
    obtain ⟨l2, o2, rep⟩ := g2 x H2 y
    refine hg _ S' H2 x ts[i] _ (fr'.le l2) rep fun sl2 f2 we => ⟨we, ?_⟩
    have hd2 := (l2 D _ hd (ok'.hid D (.inr rfl)).1).1
    refine ⟨_, fr ts[i], S', _, XF, f2, o2, k', fun b S3 H3 k3 l3 o3 => ?_, .f⟩
    have hd3 := (l3 D _ hd2 (o2.hid D (.inr rfl)).1).1
    cases b with
    | true =>
      refine ⟨_, fr ts[i], S3, _, XF, f2.le l3, o3, k3, fun y S4 vy H4 k4 l4 o4 ry => ?_, .f⟩
      obtain ⟨z, k4⟩ := k4
      have hd4 := (l4 D _ hd3 (o3.hid D (.inr rfl)).1).1
      have ll := ((l2.trans l3).trans l4)
      have lz : LeZ (hideA Z D) S4 H4 S4 (upd H4 D (.lst (accV ++ [vy]))) := lz_hid
      refine ⟨accV, hd4, by rw [rs.length]; exact z, S4, _, _, o4.hidSet, ((fr'.le ll).lz lz), fun a o h n => ?_, upd_same, ((rs.le ll).append (.cons ry .nil)).lz lz, k4⟩
      have := (le'.trans ll) a o h n
      rw [upd_ne (ne_of_none h hD)]
      exact this
    | false => exact ⟨S3, acc, accV, o3, fr'.le (l2.trans l3), (le'.trans l2).trans l3, hd3, rs.le (l2.trans l3), k3⟩
  · have e : i = ts.length := by omega
    subst e
    rw [List.drop_length] at k'
    refine .inl ⟨stop _ (Nat.le_refl _), po acc S' _ H' k' le' ok'.show ?_⟩
    exact .lst ⟨hd, (ok'.hid D (.inr rfl)).1, fun z => by
      obtain ⟨_, o, e⟩ := ok1.hid D z
      rw [hD] at e; cases e⟩ rs.show
theorem et_lc {elt tg iter : Expr} {ifs : List Expr} {scope : Scope} {x : Str} {j : Nat} {ri : TRI} {tt : TRB} {re : TR} (hc : X.calm = true) (hN : X.N.Nodup) (hi : IT X E tg iter ri) (ok : BlkOk X.N X.env.scope scope [(x, j)])
    (hg : ∀ (s : Shared) (H : Hp) (C : Addr) (cl : List (Str × Addr)) (fp : List Addr), PG (X.blk s H scope (compEnvC scope cl C X.env) fp) tg (gName j)) (ht : ∀ (s : Shared) (H : Hp) (C : Addr) (cl : List (Str × Addr)) (fp : List Addr), TTs (X.blk s H scope (compEnvC scope cl C X.env) fp) EF ifs tt)
    (he : ∀ (s : Shared) (H : Hp) (C : Addr) (cl : List (Str × Addr)) (fp : List Addr), ET (X.blk s H scope (compEnvC scope cl C X.env) fp) EF elt re) (hs : ∀ x, foldedSetIterable iter X.env x = pure x := by intro _; rfl) :
    ET X E (.ListComp elt [⟨tg, iter, ifs, 0⟩] scope pos) (rLc ri j tt re) :=
  ⟨pe_weak (pe_lc hc hN hi.pi ok hg (fun s H C cl fp => (ht s H C cl fp).pt) (fun s H C cl fp => (he s H C cl fp).pe) hs) fun sl H Q h => by
    obtain ⟨Z, σ, S, R, RE, fr, ok, w, po, xo⟩ := h.ex
    refine ⟨Z, σ, S, _, RE, fr, ok, w, fun ts S1 J H1 k le ok1 src => ?_, xo⟩
    refine lc_turns (fr := fun t => σ.set j (some t)) ok1 (fr.le le) src k (fun Z' S' H' x t Q' f r q => q _ ?_ ?_) fun ys S' v H' r l o rep => po _ S' v H' r (le.trans l) o rep
    · show FrR X.K Z' S' H' (((wipe sl []).set j none).set j (some x)) (σ.set j (some t))
      rw [List.set_set]
      exact f.set j r
    · show (((wipe sl []).set j none).set j (some x)).set j none = (wipe sl []).set j none
      rw [List.set_set, List.set_set]⟩
/-- y = [..] -/
theorem ss_setLc {i : Nat} {y : Str} {py spos : Pos} {elt tg iter : Expr} {ifs : List Expr} {scope : Scope} {x : Str} {j : Nat} {ri : TRI} {tt : TRB} {re : TR} (hc : X.calm = true) (hN : X.N.Nodup) (hy : X.N[i]? = some y) (hyl : X.env.scope.names.lookup y = some .local)
    (hsw : swapsWith (.ListComp elt [⟨tg, iter, ifs, 0⟩] scope pos) (some (.Name y py)) spos.line X.env = pure true) (hi : IT X E tg iter ri) (ok : BlkOk X.N X.env.scope scope [(x, j)])
    (hg : ∀ (s : Shared) (H : Hp) (C : Addr) (cl : List (Str × Addr)) (fp : List Addr), PG (X.blk s H scope (compEnvC scope cl C X.env) fp) tg (gName j)) (ht : ∀ (s : Shared) (H : Hp) (C : Addr) (cl : List (Str × Addr)) (fp : List Addr), TTs (X.blk s H scope (compEnvC scope cl C X.env) fp) EF ifs tt)
    (he : ∀ (s : Shared) (H : Hp) (C : Addr) (cl : List (Str × Addr)) (fp : List Addr), ET (X.blk s H scope (compEnvC scope cl C X.env) fp) EF elt re) (hs : ∀ x, foldedSetIterable iter X.env x = pure x := by intro _; rfl) :
    SS X E (.Assign [.Name y py] (.ListComp elt [⟨tg, iter, ifs, 0⟩] scope pos) spos) (sAsg (rLc ri j tt re) (gNameT i)) :=
  ⟨ps_weak (ps_setLc hc hN hy hyl hsw hi.pi ok hg (fun s H C cl fp => (ht s H C cl fp).pt) (fun s H C cl fp => (he s H C cl fp).pe) hs) fun D sl H h => by
    obtain ⟨Z, σ, S, DT, fr, ok, w, eo, xo⟩ := h.ex
    refine ⟨Z, σ, S, _, DT.ex, fr, ok, w, fun ts S1 J H1 k le ok1 src => ?_, xo⟩
    refine lc_turns (fr := fun t => σ.set j (some t)) ok1 (fr.le le) src k (fun Z' S' H' x t Q' f r q => q _ ?_ ?_) fun ys S' v H' r l o rep => eo.nx _ S' _ H' r (le.trans l) o ((fr.le (le.trans l)).set i rep)
    · show FrR X.K Z' S' H' (((wipe sl []).set j none).set j (some x)) (σ.set j (some t))
      rw [List.set_set]
      exact f.set j r
    · show (((wipe sl []).set j none).set j (some x)).set j none = (wipe sl []).set j none
      rw [List.set_set, List.set_set]⟩
/-- by an invariant: all items kept -/
theorem rComp_all {fr : T → Fm} {re : TR} {ts : List T} {S : Store} {R : List T → Store → Prop} (P : Nat → Store → Prop) (F : Nat → T → T → Prop) (h0 : P 0 S) (hl : ts.length ≤ sizeLine)
    (hs : ∀ i t S, ts[i]? = some t → P i S → ∀ N : T → Store → Prop, (∀ y S', F i t y → P (i + 1) S' → N y S') → re (fr t) S N XF)
    (hd : ∀ ys S, ys.length = ts.length → (∀ (i : Nat) t y, ts[i]? = some t → ys[i]? = some y → F i t y) → P ts.length S → R ys S) : rComp fr bYes re ts [] S R := by
  suffices h : ∀ (us : List T) (i : Nat) acc S, ts.drop i = us → i ≤ ts.length → acc.length = i → (∀ (j : Nat) t y, ts[j]? = some t → acc[j]? = some y → F j t y) → P i S → rComp fr bYes re us acc S R from
    h ts 0 [] S rfl (Nat.zero_le _) rfl (fun j t y _ e => by simp at e) h0
  intro us
  induction us with
  | nil =>
    intro i acc S e hi la fa p
    have : i = ts.length := by
      have := congrArg List.length e
      simp at this
      omega
    subst this
    exact hd acc S la fa p
  | cons u us ih =>
    intro i acc S e hi la fa p
    have hlt : i < ts.length := by
      have := congrArg List.length e
      simp at this
      omega
    rw [List.drop_eq_getElem_cons hlt] at e
    injection e with e1 e2
    have hu : ts[i]? = some u := by rw [← e1]; exact List.getElem?_eq_getElem hlt
    refine hs i u S hu p _ fun y S' f p' => ⟨by omega, ih (i + 1) (acc ++ [y]) S' e2 hlt (by simp [la]) (fun j t z ht hz => ?_) p'⟩
    by_cases hj : j < acc.length
    · rw [List.getElem?_append_left hj] at hz
      exact fa j t z ht hz
    · rw [List.getElem?_append_right (by omega)] at hz
      by_cases hj2 : j = acc.length
      · subst hj2
        simp at hz
        subst hz
        rw [la] at ht ⊢
        rw [hu] at ht
        cases ht
        exact f
      · rw [List.getElem?_eq_none (by simp; omega)] at hz
        cases hz
end
/-! ### defs -/
/-- a def's promise: arguments, what changes, what is wanted of the answer, of an error -/
abbrev SpT := List T → Store → (T → Store → Prop) → XT → Prop
structure UpF (K : PySem.W.Frag) (sp : SpT) (vs : List V) (H : Hp) (Q : VK) (E : XK) : Prop where
  ex : ∃ Z ts S R RE, Reps K Z S H vs ts ∧ Ok K Z S H ∧ sp ts S R RE ∧ PO K Z S H R Q ∧ XOk K Z S H RE E
theorem passN {X : Cx} : Passes (L2N.CX X.prog X.w) X EF := fun _ _ _ _ _ _ _ h => by
  obtain ⟨_, _, _, _, _, _, _, _, _, _, _, _, z⟩ := h
  exact z.elim
theorem passL2N {X : Cx} {E : XK} (tk : L2N.Takes X (fun cls d _ H => E cls d H)) : Passes (L2N.CX X.prog X.w) X E := L2N.passes_call tk fun _ _ _ _ h => h
structure FnT (P : Program) (w : World) (K : PySem.W.Frag) (mg : Str → Option Value) (base : Heap) (k : Nat) (f : Addr) (fd : FuncData) (ps : List Str) (sp : SpT) : Prop where
  fn : FnG P w K mg base (L2N.CX P w) k f fd ps (UpF K sp)
section
variable {P : Program} {w : World} {K : PySem.W.Frag} {mg : Str → Option Value} {base : Heap} {k : Nat} {f : Addr} {fd : FuncData} {ps : List Str} {sp : SpT}
theorem FnT.up {j : Nat} (F : FnT P w K mg base j f fd ps sp) (h : j ≤ k) : FnT P w K mg base k f fd ps sp := ⟨F.fn.up h⟩
theorem FnT.imp {sp' : SpT} (F : FnT P w K mg base k f fd ps sp) (h : ∀ ts S R RE, sp' ts S R RE → sp ts S R RE) : FnT P w K mg base k f fd ps sp' :=
  ⟨F.fn.imp fun vs H Q E q => let ⟨Z, ts, S, R, RE, rs, ok, s, po, xo⟩ := q.ex; ⟨Z, ts, S, R, RE, rs, ok, h _ _ _ _ s, po, xo⟩⟩
/-- the context of a def's body -/
abbrev cxT (P : Program) (w : World) (K : PySem.W.Frag) (mg : Str → Option Value) (base : Heap) (N : List Str) (qual : Str) (sc : Scope) (f : Addr) (cdv : Value) (A : Around) (out : List Env) (s : Shared) (H : Hp) (E : XK) : Cx := cxOf (L2N.CX P w) P w K mg base N qual sc f cdv A out s H E
theorem up_body {N : List Str} {X : Cx} {E : XK} {body : List Stmt} {r : TRS} {vs : List V} {H : Hp} {Q : VK} (bs : BS X E body r) (hsp : ∀ ts S R RE, sp ts S R RE → r { nx := fun _ S' => R .non S', rt := R, ex := RE } (startT N ts) S) (q : UpF X.K sp vs H Q E) :
    ∃ t, PSs X body t ∧ t { nx := fun _ H' => Q .non H', rt := Q } (start N vs) H := by
  obtain ⟨Z, ts, S, R, RE, rs, ok, s, po, xo⟩ := q.ex
  refine ⟨_, bs.ps, Z, startT N ts, S, _, FrR.start rs, ok, hsp ts S R RE s, ⟨fun σ' S' sl' H' r' le' ok' _ => po _ S' _ H' r' le' ok' .non, po, fun _ _ _ _ z => z.elim, fun _ _ _ _ z => z.elim⟩, xo⟩
theorem okT {x qual : Str} {st : Stmt} {N : List Str} {r : TRS} (F : Fun K x qual st f fd) (S : FnScope N ps (defScope st)) (len : ∀ ts S R RE, sp ts S R RE → ts.length = ps.length)
    (bs : ∀ (cdv : Value) (A : Around) (out : List Env) (s : Shared) (H : Hp) (E : XK), A.guards = some [] → Room k (A.deeper (envOfC qual (defScope st) s.heap.objs.size f cdv)) → BS (cxT P w K mg base N qual (defScope st) f cdv A out s H E) E (defBody st) r)
    (hsp : ∀ ts S R RE, sp ts S R RE → r { nx := fun _ S' => R .non S', rt := R, ex := RE } (startT N ts) S) : FnT P w K mg base (k + 1) f fd ps sp := by
  obtain ⟨_, _, _, _, _, _, cdv, _, _, e, lk, code⟩ := F.ex
  subst e
  refine ⟨okG0 lk code S (fun vs H Q E q => ?_) fun A out s H vs Q E g rm q => up_body (bs cdv A out s H E g rm) hsp q⟩
  obtain ⟨Z, ts, S, R, RE, rs, ok, s, po, xo⟩ := q.ex
  exact rs.length.trans (len _ _ _ _ s)
theorem okTD {x qual : Str} {st : Stmt} {N : List Str} {r : TRS} {dvs : List V} (F : FunD K x qual (defArgs st) (defBody st) (defScope st) dvs [] f fd) (S : FnScope N ps (defScope st)) (len : ∀ ts S R RE, sp ts S R RE → ts.length = ps.length)
    (bs : ∀ (cdv : Value) (A : Around) (out : List Env) (s : Shared) (H : Hp) (E : XK), A.guards = some [] → Room k (A.deeper (envOfC qual (defScope st) s.heap.objs.size f cdv)) → BS (cxT P w K mg base N qual (defScope st) f cdv A out s H E) E (defBody st) r)
    (hsp : ∀ ts S R RE, sp ts S R RE → r { nx := fun _ S' => R .non S', rt := R, ex := RE } (startT N ts) S) : FnT P w K mg base (k + 1) f fd ps sp := by
  obtain ⟨_, _, _, _, _, _, _, cdv, _, _, e, lk, code, _, _⟩ := F.ex
  subst e
  refine ⟨okG0 lk code S (fun vs H Q E q => ?_) fun A out s H vs Q E g rm q => up_body (bs cdv A out s H E g rm) hsp q⟩
  obtain ⟨Z, ts, S, R, RE, rs, ok, s, po, xo⟩ := q.ex
  exact rs.length.trans (len _ _ _ _ s)
end
section
variable {X : Cx} {E : XK} {k n : Nat} {f : Addr} {fd : FuncData} {ps ks : List Str} {sp : SpT} {dvs : List V} {dts : List T} {ds : List Value} {x : Str} {p pos : Pos} {e : Expr} {es : List Expr} {kws : List Keyword} {t : TRA}
def rCall (sp : SpT) (dts : List T) (t : TRA) : TR := fun σ S R RE => t σ S (fun xs S1 => sp (xs ++ dts) S1 R RE) RE
/-- values that are the same whatever the heap -/
def DefT (K : PySem.W.Frag) (dvs : List V) (dts : List T) : Prop := ∀ Z S H, Reps K Z S H dvs dts
theorem DefT.nil {K : PySem.W.Frag} : DefT K [] [] := fun _ _ _ => .nil
theorem DefT.int {K : PySem.W.Frag} {i : Int} {vs ts} (r : DefT K vs ts) : DefT K (.int i :: vs) (.int i :: ts) := fun Z S H => .cons (.int i) (r Z S H)
theorem DefT.non {K : PySem.W.Frag} {vs ts} (r : DefT K vs ts) : DefT K (.non :: vs) (.non :: ts) := fun Z S H => .cons .non (r Z S H)
theorem DefT.bl {K : PySem.W.Frag} {b : Bool} {vs ts} (r : DefT K vs ts) : DefT K (.bl b :: vs) (.bl b :: ts) := fun Z S H => .cons (.bl b) (r Z S H)
theorem DefT.str {K : PySem.W.Frag} {z : Str} {vs ts} (r : DefT K vs ts) : DefT K (.str z :: vs) (.str z :: ts) := fun Z S H => .cons (.str z) (r Z S H)
theorem et_call (F : FnT X.prog X.w X.K X.mg X.base k f fd ps sp) (gds : X.A.guards = some []) (hr : Room k X.A) (hg : Gl X x) (hm : X.mg x = some (.ref f)) (hk : PySem.W.keepIn X.K (.ref f) = true) (hb : Binds X.K fd ps ds) (hd : Vals dvs ds) (hdt : DefT X.K dvs dts) (hx : Passes (L2N.CX X.prog X.w) X E)
    (ha : AT X E (e :: es) t) (hdb : (x == ("__debug__" : Str)) = false := by decide) (he : starEach (e :: es) X.env = (false, eval e X.env) :: starEach es X.env := by rfl) (hpl : (backTo pos (starEach es X.env)).any (·.1) = false := by rfl) :
    ET X E (.Call (.Name x p) (e :: es) [] pos) (rCall sp dts t) :=
  ⟨pe_weak (callG F.fn gds hr hg hm hk hb hd hx ha.pa hdb he hpl) fun sl H Q h => UpA.args (k := fun xs S1 R RE => sp (xs ++ dts) S1 R RE) h fun Z xs S1 vs H1 R RE ok rs kk po xo =>
    ⟨Z, _, S1, R, RE, rs.append (hdt Z S1 H1), ok, kk, po, xo⟩⟩
theorem et_call0 (F : FnT X.prog X.w X.K X.mg X.base k f fd ps sp) (gds : X.A.guards = some []) (hr : Room k X.A) (hg : Gl X x) (hm : X.mg x = some (.ref f)) (hk : PySem.W.keepIn X.K (.ref f) = true) (hb : Binds X.K fd ps ds) (hd : Vals dvs ds) (hdt : DefT X.K dvs dts) (hx : Passes (L2N.CX X.prog X.w) X E)
    (hdb : (x == ("__debug__" : Str)) = false := by decide) : ET X E (.Call (.Name x p) [] [] pos) (rCall sp dts aNil) :=
  ⟨pe_weak (callG0 F.fn gds hr hg hm hk hb hd hx hdb) fun sl H Q h => by
    obtain ⟨Z, σ, S, R, RE, fr, ok, w, po, xo⟩ := h.ex
    exact ⟨Z, _, S, R, RE, hdt Z S H, ok, w, po, xo⟩⟩
/-! keywords -/
structure KT (X : Cx) (E : XK) (kws : List Keyword) (r : TRA) : Prop where
  pk : PK X kws (UpA X.K E r)
/-- an order of the arguments, the same for trees and values -/
def OrdT (K : PySem.W.Frag) (gV : List V → List V → List V) (gT : List T → List T → List T) : Prop := ∀ Z S H vs ts us ws, Reps K Z S H vs ts → Reps K Z S H us ws → Reps K Z S H (gV vs us) (gT ts ws)
def rCallN (n m : Nat) (sp : SpT) (gT : List T → List T → List T) (t tk : TRA) : TR := fun σ S R RE => t σ S (fun xs S1 => tk σ S1 (fun zs S2 => xs.length = n ∧ zs.length = m ∧ sp (gT xs zs) S2 R RE) RE) RE
variable {g : List Value → List Value → List Value} {gV : List V → List V → List V} {gT : List T → List T → List T} {tk : TRA}
theorem et_callN (F : FnT X.prog X.w X.K X.mg X.base k f fd ps sp) (gds : X.A.guards = some []) (hr : Room k X.A) (hg : Gl X x) (hm : X.mg x = some (.ref f)) (hk : PySem.W.keepIn X.K (.ref f) = true) (hb : KBn X.K fd ps n ks g gV) (ho : OrdT X.K gV gT) (hx : Passes (L2N.CX X.prog X.w) X E)
    (ha : AT X E (e :: es) t) (hkw : KT X E kws tk) (hall : (backToKw pos (keywordEach kws X.env)).all (·.1.isSome) = true := by rfl) (hks : (backToKw pos (keywordEach kws X.env)).filterMap (·.1) = ks := by rfl)
    (hdb : (x == ("__debug__" : Str)) = false := by decide) (he : starEach (e :: es) X.env = (false, eval e X.env) :: starEach es X.env := by rfl)
    (hpl : ((backTo pos (starEach (e :: es) X.env)).any (·.1) || (backToKw pos (keywordEach kws X.env)).any (·.1.isNone)) = false := by rfl) :
    ET X E (.Call (.Name x p) (e :: es) kws pos) (rCallN n ks.length sp gT t tk) :=
  ⟨pe_weak (callGN F.fn gds hr hg hm hk hb hx ha.pa hkw.pk hall hks hdb he hpl) fun sl H Q h => by
    obtain ⟨Z, σ, S, R, RE, fr, ok, w, po, xo⟩ := h.ex
    refine ⟨Z, σ, S, _, RE, fr, ok, w, fun xs S1 vs H1 k1 le1 ok1 r1 => ?_, xo⟩
    refine ⟨Z, σ, S1, _, RE, fr.le le1, ok1, k1, fun zs S2 us H2 k2 le2 ok2 r2 => ?_, xo.le le1⟩
    obtain ⟨l1, l2, s⟩ := k2
    exact ⟨r1.length.trans l1, r2.length.trans l2, Z, _, S2, R, RE, ho _ _ _ _ _ _ _ (r1.le le2) r2, ok2, s, (po.le le1).le le2, (xo.le le1).le le2⟩⟩
theorem et_callK (F : FnT X.prog X.w X.K X.mg X.base k f fd ps sp) (gds : X.A.guards = some []) (hr : Room k X.A) (hg : Gl X x) (hm : X.mg x = some (.ref f)) (hk : PySem.W.keepIn X.K (.ref f) = true) (hb : KBn X.K fd ps 0 ks g gV) (ho : OrdT X.K gV gT) (hx : Passes (L2N.CX X.prog X.w) X E)
    (hkw : KT X E kws tk) (hall : (backToKw pos (keywordEach kws X.env)).all (·.1.isSome) = true := by rfl) (hks : (backToKw pos (keywordEach kws X.env)).filterMap (·.1) = ks := by rfl)
    (hdb : (x == ("__debug__" : Str)) = false := by decide)
    (hpl : ((backTo pos (starEach [] X.env)).any (·.1) || (backToKw pos (keywordEach kws X.env)).any (·.1.isNone)) = false := by rfl) :
    ET X E (.Call (.Name x p) [] kws pos) (rCallN 0 ks.length sp gT aNil tk) :=
  ⟨pe_weak (callGK F.fn gds hr hg hm hk hb hx hkw.pk hall hks hdb hpl) fun sl H Q h => by
    obtain ⟨Z, σ, S, R, RE, fr, ok, w, po, xo⟩ := h.ex
    refine ⟨Z, σ, S, _, RE, fr, ok, w, fun zs S2 us H2 k2 le2 ok2 r2 => ?_, xo⟩
    obtain ⟨l1, l2, s⟩ := k2
    exact ⟨rfl, r2.length.trans l2, Z, _, S2, R, RE, ho _ _ _ _ _ _ _ .nil r2, ok2, s, po.le le2, xo.le le2⟩⟩
end

/-! ### data -/
mutual
def T.dat : T → Option PyData
  | .non => some .none
  | .bl b => some (.bool b)
  | .int i => some (.int i)
  | .str z => some (.str z)
  | .lst l => (T.datL l).map .list
  | .tup l => (T.datL l).map .tuple
  | _ => none
def T.datL : List T → Option (List PyData)
  | [] => some []
  | t :: ts => match t.dat, T.datL ts with
    | some d, some ds => some (d :: ds)
    | _, _ => none
end
section
variable {K : PySem.W.Frag} {Z : Addr → Prop} {S : Store} {H : Hp}
mutual
theorem Rep.dp : ∀ {v : V} {t : T}, Rep K Z S H v t → ∀ {d}, t.dat = some d → Dp K H v d
  | _, _, .non, d, e => by rw [T.dat] at e; cases e; exact .non
  | _, _, .bl b, d, e => by rw [T.dat] at e; cases e; exact .bl b
  | _, _, .int i, d, e => by rw [T.dat] at e; cases e; exact .int i
  | _, _, .str z, d, e => by rw [T.dat] at e; cases e; exact .str z
  | _, _, .ty n, d, e => by rw [T.dat] at e <;> first | cases e | (intros; rename_i h; cases h)
  | _, _, .st a, d, e => by rw [T.dat] at e <;> first | cases e | (intros; rename_i h; cases h)
  | _, _, .cell a, d, e => by rw [T.dat] at e <;> first | cases e | (intros; rename_i h; cases h)
  | _, _, .scr h r, d, e => by rw [T.dat] at e <;> first | cases e | (intros; rename_i h; cases h)
  | _, _, .ins h n r, d, e => by rw [T.dat] at e <;> first | cases e | (intros; rename_i h; cases h)
  | _, _, .tup h r, d, e => by
    rw [T.dat] at e
    obtain ⟨ds, e1, rfl⟩ := Option.map_eq_some_iff.mp e
    exact .tup h.sq (Reps.dp r e1)
  | _, _, .lst h r, d, e => by
    rw [T.dat] at e
    obtain ⟨ds, e1, rfl⟩ := Option.map_eq_some_iff.mp e
    exact .lst h.sq (Reps.dp r e1)
theorem Reps.dp : ∀ {vs : List V} {ts : List T}, Reps K Z S H vs ts → ∀ {ds}, T.datL ts = some ds → DpAll K H vs ds
  | _, _, .nil, ds, e => by rw [T.datL] at e; cases e; exact .nil
  | _, _, .cons h r, ds, e => by
    rw [T.datL] at e
    split at e
    · rename_i d1 ds1 e1 e2
      cases e
      exact .cons (Rep.dp h e1) (Reps.dp r e2)
    · cases e
end
end
/-! ### operators of trees -/
section
variable {X : Cx} {E : XK}
theorem OpR.or {f : Value → Value → Sem Value} {r r' : R2} (h : OpR X f r) (h' : OpR X f r') : OpR X f (fun x y H Q => r x y H Q ∨ r' x y H Q) := fun pins s σ H x y v u Q I rx ry w =>
  w.elim (h pins s σ H x y v u Q I rx ry) (h' pins s σ H x y v u Q I rx ry)
abbrev KB := T → T → Store → (T → Store → Prop) → XT → Prop
def kAdd : KB := fun x y S R _ => match x, y with
  | .int i, .int j => R (.int (i + j)) S
  | .str a, .str b => a.length + b.length ≤ sizeLine ∧ R (.str (a ++ b)) S
  | .lst a, .lst b => a.length + b.length ≤ sizeLine ∧ R (.lst (a ++ b)) S
  | .tup a, .tup b => a ≠ [] ∧ a.length + b.length ≤ sizeLine ∧ R (.tup (a ++ b)) S
  | _, _ => False
def rStrAdd : R2 := fun x y H Q => ∃ i j, x = .str i ∧ y = .str j ∧ i.length + j.length ≤ sizeLine ∧ Q (.str (i ++ j)) H
theorem cv_add : Conv X.K E kAdd (fun x y H Q => (rI0 fun i j => .int (i + j)) x y H Q ∨ (rStrAdd x y H Q ∨ (rCat x y H Q ∨ rCatT X.K x y H Q))) := by
  intro Z x y S v u H R RE Q ok rx ry kk po xo
  unfold kAdd at kk
  split at kk
  · cases rx; cases ry
    exact .inl ⟨_, _, rfl, rfl, po _ _ _ _ kk .refl ok (.int _)⟩
  · cases rx; cases ry
    exact .inr (.inl ⟨_, _, rfl, rfl, kk.1, po _ _ _ _ kk.2 .refl ok (.str _)⟩)
  · cases rx with
    | lst h1 r1 =>
      cases ry with
      | lst h2 r2 => exact .inr (.inr (.inl ⟨_, _, _, _, rfl, rfl, h1.1, h2.1, by rw [r1.length, r2.length]; exact kk.1, fun p hp => po _ _ _ _ kk.2 (le_new hp) (ok.new hp) (.lstN ok hp (r1.append r2))⟩))
  · cases rx with
    | tup h1 r1 =>
      cases ry with
      | @tup p2 vs2 ts2 h2 r2 =>
        refine .inr (.inr (.inr ⟨_, _, _, _, rfl, rfl, h1.sq, h2.sq, fun e => ?_, by rw [r1.length, r2.length]; exact kk.2.1, fun e => ?_, fun _ p hp => po _ _ _ _ kk.2.2 (le_new hp) (ok.new hp) (.tupN ok hp (r1.append r2))⟩))
        · subst e
          cases r1
          exact kk.1 rfl
        · subst e
          cases r2
          have q := kk.2.2
          rw [List.append_nil] at q
          exact po _ _ _ _ q .refl ok (.tup h1 r1)
  · exact kk.elim
theorem op_addG : OpR X (binaryOp .Add) (fun x y H Q => (rI0 fun i j => .int (i + j)) x y H Q ∨ (rStrAdd x y H Q ∨ (rCat x y H Q ∨ rCatT X.K x y H Q))) := op_add.or (OpR.or op_add_str (op_cat.or op_catT))
def kI2 (C : Int → Int → Prop) (g : Int → Int → T) : KB := fun x y S R _ => match x, y with
  | .int i, .int j => C i j ∧ R (g i j) S
  | _, _ => False
theorem cv_I2 {C : Int → Int → Prop} {g : Int → Int → Int} : Conv X.K E (kI2 C fun i j => .int (g i j)) (rI C fun i j => .int (g i j)) := by
  intro Z x y S v u H R RE Q ok rx ry kk po xo
  unfold kI2 at kk
  split at kk
  · cases rx; cases ry
    exact ⟨_, _, rfl, rfl, kk.1, po _ _ _ _ kk.2 .refl ok (.int _)⟩
  · exact kk.elim
def kI2n (g : Int → Int → T) : KB := fun x y S R _ => match x, y with
  | .int i, .int j => R (g i j) S
  | _, _ => False
theorem cv_I2n {g : Int → Int → Int} : Conv X.K E (kI2n fun i j => .int (g i j)) (rI0 fun i j => .int (g i j)) := by
  intro Z x y S v u H R RE Q ok rx ry kk po xo
  unfold kI2n at kk
  split at kk
  · cases rx; cases ry
    exact ⟨_, _, rfl, rfl, po _ _ _ _ kk .refl ok (.int _)⟩
  · exact kk.elim
theorem cv_B2n {g : Int → Int → Bool} : Conv X.K E (kI2n fun i j => .bl (g i j)) (rI0 fun i j => .bl (g i j)) := by
  intro Z x y S v u H R RE Q ok rx ry kk po xo
  unfold kI2n at kk
  split at kk
  · cases rx; cases ry
    exact ⟨_, _, rfl, rfl, po _ _ _ _ kk .refl ok (.bl _)⟩
  · exact kk.elim
def kMul : KB := fun x y S R _ => match x, y with
  | .int i, .int j => IntMulOk i j ∧ R (.int (i * j)) S
  | .lst a, .int k => (-(2 ^ 63) ≤ k ∧ k < 2 ^ 63) ∧ a.length * k.toNat ≤ sizeLine ∧ R (.lst (List.replicate k.toNat a).flatten) S
  | .tup a, .int k => a ≠ [] ∧ 2 ≤ k ∧ k ≤ 1000 ∧ a.length ≤ 1000 ∧ R (.tup (List.replicate k.toNat a).flatten) S
  | _, _ => False
theorem Reps.rep {K : PySem.W.Frag} {Z : Addr → Prop} {S : Store} {H : Hp} {vs : List V} {ts : List T} (r : Reps K Z S H vs ts) : ∀ n : Nat, Reps K Z S H (List.replicate n vs).flatten (List.replicate n ts).flatten
  | 0 => .nil
  | n + 1 => by
    rw [List.replicate_succ, List.replicate_succ, List.flatten_cons, List.flatten_cons]
    exact r.append (Reps.rep r n)
theorem cv_mul : Conv X.K E kMul (fun x y H Q => (rI IntMulOk fun i j => .int (i * j)) x y H Q ∨ (rRep x y H Q ∨ rRepT X.K x y H Q)) := by
  intro Z x y S v u H R RE Q ok rx ry kk po xo
  unfold kMul at kk
  split at kk
  · cases rx; cases ry
    exact .inl ⟨_, _, rfl, rfl, kk.1, po _ _ _ _ kk.2 .refl ok (.int _)⟩
  · cases ry
    cases rx with
    | lst h1 r1 => exact .inr (.inl ⟨_, _, _, rfl, rfl, h1.1, kk.1.1, kk.1.2, by rw [r1.length]; exact kk.2.1, fun p hp => po _ _ _ _ kk.2.2 (le_new hp) (ok.new hp) (.lstN ok hp (r1.rep _))⟩)
  · cases ry
    cases rx with
    | tup h1 r1 => exact .inr (.inr ⟨_, _, _, rfl, rfl, h1.sq, fun e => by subst e; cases r1; exact kk.1 rfl, kk.2.1, kk.2.2.1, by rw [r1.length]; exact kk.2.2.2.1, fun p hp => po _ _ _ _ kk.2.2.2.2 (le_new hp) (ok.new hp) (.tupN ok hp (r1.rep _))⟩)
  · exact kk.elim
theorem op_mulP : OpR X (binaryOp .Mult) (rI IntMulOk fun i j => .int (i * j)) := opI fun _ _ _ _ _ _ _ hc q => mul_int q hc
theorem op_mulG : OpR X (binaryOp .Mult) (fun x y H Q => (rI IntMulOk fun i j => .int (i * j)) x y H Q ∨ (rRep x y H Q ∨ rRepT X.K x y H Q)) := op_mulP.or (op_rep.or op_repT)
/-! comparisons -/
def scalT : T → T → Bool
  | .non, .non => true | .non, .int _ => true | .int _, .non => true | .non, .bl _ => true | .bl _, .non => true | .non, .str _ => true | .str _, .non => true
  | .int _, .int _ => true | .bl _, .bl _ => true | .str _, .str _ => true
  | .int _, .str _ => true | .str _, .int _ => true | .bl _, .str _ => true | .str _, .bl _ => true
  | _, _ => false
def eqS : T → T → Bool
  | .non, .non => true
  | .int i, .int j => decide (i = j)
  | .bl i, .bl j => decide (i = j)
  | .str i, .str j => decide (i = j)
  | _, _ => false
def kEqG (ng : Bool) : KB := fun x y S R _ => (scalT x y = true ∧ R (.bl (ng ^^ eqS x y)) S) ∨ ∃ d e, x.dat = some d ∧ y.dat = some e ∧ SeqAt.shaped d = true ∧ SeqAt.shaped e = true ∧ R (.bl (ng ^^ PyData.eqv d e)) S
theorem scal_rep {K : PySem.W.Frag} {Z : Addr → Prop} {S : Store} {H : Hp} {v u : V} {x y : T} (rx : Rep K Z S H v x) (ry : Rep K Z S H u y) (h : scalT x y = true) : scal v u = true ∧ decide (v = u) = eqS x y := by
  cases rx <;> cases ry <;> first | (cases h; done) | exact ⟨rfl, by simp [eqS]⟩
theorem cv_eq : Conv X.K E (kEqG false) (fun x y H Q => rEq x y H Q ∨ rEqD X.K x y H Q) := by
  intro Z x y S v u H R RE Q ok rx ry kk po xo
  rcases kk with ⟨h, k⟩ | ⟨d, e, hd, he, sd, se, k⟩
  · obtain ⟨h1, h2⟩ := scal_rep rx ry h
    refine .inl ⟨h1, ?_⟩
    rw [h2]
    exact po _ _ _ _ (by simpa using k) .refl ok (.bl _)
  · exact .inr ⟨d, e, rx.dp hd, ry.dp he, sd, se, po _ _ _ _ (by simpa using k) .refl ok (.bl _)⟩
theorem cv_ne : Conv X.K E (kEqG true) (fun x y H Q => rNe x y H Q ∨ rNeD X.K x y H Q) := by
  intro Z x y S v u H R RE Q ok rx ry kk po xo
  rcases kk with ⟨h, k⟩ | ⟨d, e, hd, he, sd, se, k⟩
  · obtain ⟨h1, h2⟩ := scal_rep rx ry h
    refine .inl ⟨h1, ?_⟩
    rw [h2]
    exact po _ _ _ _ (by simpa using k) .refl ok (.bl _)
  · exact .inr ⟨d, e, rx.dp hd, ry.dp he, sd, se, po _ _ _ _ (by simpa using k) .refl ok (.bl _)⟩
theorem op_eqG (hu : X.A.units + 64 < cLine) : OpR X (compareOp .Eq) (fun x y H Q => rEq x y H Q ∨ rEqD X.K x y H Q) := op_eq.or (op_eqD hu)
theorem op_neG (hu : X.A.units + 64 < cLine) : OpR X (compareOp .NotEq) (fun x y H Q => rNe x y H Q ∨ rNeD X.K x y H Q) := op_ne.or (op_neD hu)
def isNon : T → Bool
  | .non => true
  | _ => false
def kIsN (ng : Bool) : KB := fun x y S R _ => y = .non ∧ R (.bl (ng ^^ isNon x)) S
theorem non_rep {K : PySem.W.Frag} {Z : Addr → Prop} {S : Store} {H : Hp} {v : V} {x : T} (rx : Rep K Z S H v x) : decide (v = .non) = isNon x := by
  cases rx <;> simp [isNon]
theorem cv_isN : Conv X.K E (kIsN false) (fun x y H Q => y = .non ∧ Q (.bl (decide (x = .non))) H) := by
  intro Z x y S v u H R RE Q ok rx ry ⟨e, k⟩ po xo
  subst e
  cases ry
  refine ⟨rfl, ?_⟩
  rw [non_rep rx]
  exact po _ _ _ _ (by simpa using k) .refl ok (.bl _)
theorem cv_notN : Conv X.K E (kIsN true) (fun x y H Q => y = .non ∧ Q (.bl (!decide (x = .non))) H) := by
  intro Z x y S v u H R RE Q ok rx ry ⟨e, k⟩ po xo
  subst e
  cases ry
  refine ⟨rfl, ?_⟩
  rw [non_rep rx]
  exact po _ _ _ _ (by simpa using k) .refl ok (.bl _)
/-! a[i] -/
def kIx : KB := fun x y S R _ => match x, y with
  | .lst l, .int i => ∃ t, atI l i = some t ∧ R t S
  | .tup l, .int i => ∃ t, atI l i = some t ∧ R t S
  | .scr l, .int i => ∃ t, atI l i = some t ∧ R t S
  | .str z, .int i => z.length ≤ sizeLine ∧ ∃ c, atI z.cps.toList i = some c ∧ R (.str ⟨#[c]⟩) S
  | .cell a, .int i => ∃ l t, S a = some (.lst l) ∧ atI l i = some t ∧ R t S
  | _, _ => False
theorem Reps.at {K : PySem.W.Frag} {Z : Addr → Prop} {S : Store} {H : Hp} {vs : List V} {ts : List T} {i : Int} {t : T} (r : Reps K Z S H vs ts) (h : atI ts i = some t) : ∃ v, atI vs i = some v ∧ Rep K Z S H v t := by
  unfold atI at h ⊢
  rw [r.length]
  cases e : ixN ts.length i with
  | none => rw [e] at h; cases h
  | some j => rw [e] at h; exact r.get h
theorem cv_ix : Conv X.K E kIx (rIx X.K) := by
  intro Z x y S v u H R RE Q ok rx ry kk po xo
  unfold kIx at kk
  split at kk
  · obtain ⟨t, h, k⟩ := kk
    cases ry
    cases rx with
    | lst h1 r1 =>
      obtain ⟨w, hw, rw'⟩ := r1.at h
      exact .inl ⟨_, _, _, _, rfl, rfl, h1.sq, hw, po _ _ _ _ k .refl ok rw'⟩
  · obtain ⟨t, h, k⟩ := kk
    cases ry
    cases rx with
    | tup h1 r1 =>
      obtain ⟨w, hw, rw'⟩ := r1.at h
      exact .inr (.inl ⟨_, _, _, _, rfl, rfl, h1.sq, hw, po _ _ _ _ k .refl ok rw'⟩)
  · obtain ⟨t, h, k⟩ := kk
    cases ry
    cases rx with
    | scr h1 r1 =>
      obtain ⟨w, hw, rw'⟩ := r1.at h
      exact .inl ⟨_, _, _, _, rfl, rfl, h1.sq, hw, po _ _ _ _ k .refl ok rw'⟩
  · obtain ⟨z, c, h, k⟩ := kk
    cases ry; cases rx
    exact .inr (.inr ⟨_, _, _, rfl, rfl, z, h, po _ _ _ _ k .refl ok (.str _)⟩)
  · obtain ⟨l, t, hs, h, k⟩ := kk
    cases ry; cases rx
    rename_i a i
    have c := ok.cl a
    rw [hs] at c
    obtain ⟨vs, hv, r1⟩ := c
    obtain ⟨w, hw, rw'⟩ := r1.at h
    exact .inl ⟨_, _, _, _, rfl, rfl, .of hv, hw, po _ _ _ _ k .refl ok rw'⟩
  · exact kk.elim
/-! len, truth, built-ins -/
abbrev KA := List T → Store → (T → Store → Prop) → XT → Prop
def lenT : T → Store → Option Nat
  | .lst l, _ => some l.length
  | .tup l, _ => some l.length
  | .scr l, _ => some l.length
  | .str z, _ => if z.length ≤ sizeLine then some z.length else none
  | .cell a, S => match S a with
    | some (.lst l) => some l.length
    | _ => none
  | _, _ => none
def kLen : KA := fun xs S R _ => ∃ x n, xs = [x] ∧ lenT x S = some n ∧ R (.int (n : Nat)) S
theorem len_rep {K : PySem.W.Frag} {Z : Addr → Prop} {S : Store} {H : Hp} {v : V} {x : T} {n : Nat} (ok : Ok K Z S H) (rx : Rep K Z S H v x) (h : lenT x S = some n) : LenV K v H n := by
  cases rx with
  | str z =>
    simp only [lenT] at h
    split at h
    · cases h; exact ⟨by assumption, rfl⟩
    · cases h
  | tup h1 r1 => cases h; exact .inr ⟨_, h1.sq, r1.length.symm⟩
  | lst h1 r1 => cases h; exact .inl ⟨_, h1.sq, r1.length.symm⟩
  | scr h1 r1 => cases h; exact .inl ⟨_, h1.sq, r1.length.symm⟩
  | cell a =>
    simp only [lenT] at h
    have c := ok.cl a
    split at h
    · rename_i l e
      rw [e] at c
      obtain ⟨vs, hv, r⟩ := c
      cases h
      exact .inl ⟨_, .of hv, r.length.symm⟩
    · cases h
  | _ => cases h
theorem cv_len : ConvA X.K E kLen (fun xs H Q => ∃ x n, xs = [x] ∧ LenV X.K x H n ∧ Q (.int n) H) := by
  intro Z xs S vs H R RE Q ok rs ⟨x, n, e, h, k⟩ po xo
  subst e
  cases rs with
  | cons r rr =>
    cases rr
    exact ⟨_, n, rfl, len_rep ok r h, po _ _ _ _ k .refl ok (.int _)⟩
def kU (g : Int → T) : KA := fun xs S R _ => ∃ i, xs = [.int i] ∧ R (g i) S
theorem cv_U {g : Int → Int} : ConvA X.K E (kU fun i => .int (g i)) (fun xs H Q => ∃ i, xs = [.int i] ∧ Q (.int (g i)) H) := by
  intro Z xs S vs H R RE Q ok rs ⟨i, e, k⟩ po xo
  subst e
  cases rs with
  | cons r rr =>
    cases rr; cases r
    exact ⟨_, rfl, po _ _ _ _ k .refl ok (.int _)⟩
def kA2 (g : Int → Int → T) : KA := fun xs S R _ => ∃ i j, xs = [.int i, .int j] ∧ R (g i j) S
theorem cv_A2 {g : Int → Int → Int} : ConvA X.K E (kA2 fun i j => .int (g i j)) (fun xs H Q => ∃ i j, xs = [.int i, .int j] ∧ Q (.int (g i j)) H) := by
  intro Z xs S vs H R RE Q ok rs ⟨i, j, e, k⟩ po xo
  subst e
  cases rs with
  | cons r rr =>
    cases r
    cases rr with
    | cons r rr =>
      cases r; cases rr
      exact ⟨_, _, rfl, po _ _ _ _ k .refl ok (.int _)⟩
def kDm : KA := fun xs S R _ => ∃ i j, xs = [.int i, .int j] ∧ CDivP i j ∧ R (.tup [.int (i / j), .int (i % j)]) S
theorem cv_dm : ConvA X.K E kDm (fun xs H Q => ∃ i j, xs = [.int i, .int j] ∧ CDivP i j ∧ ∀ p, H p = none → Q (.ref p) (upd H p (.tup [.int (i / j), .int (i % j)]))) := by
  intro Z xs S vs H R RE Q ok rs ⟨i, j, e, c, k⟩ po xo
  subst e
  cases rs with
  | cons r rr =>
    cases r
    cases rr with
    | cons r rr =>
      cases r; cases rr
      exact ⟨_, _, rfl, c, fun p hp => po _ _ _ _ k (le_new hp) (ok.new hp) (.tupN ok hp (.cons (.int _) (.cons (.int _) .nil)))⟩
def kStrI : KA := fun xs S R _ => ∃ i, xs = [.int i] ∧ i.natAbs.log2 < 1920 ∧ R (.str (toString i)) S
theorem cv_strI : ConvA X.K E kStrI (fun xs H Q => ∃ i, xs = [.int i] ∧ i.natAbs.log2 < 1920 ∧ Q (.str (toString i)) H) := by
  intro Z xs S vs H R RE Q ok rs ⟨i, e, c, k⟩ po xo
  subst e
  cases rs with
  | cons r rr =>
    cases rr; cases r
    exact ⟨_, rfl, c, po _ _ _ _ k .refl ok (.str _)⟩
/-- all, any of a list of truths -/
def kAll (f : List Bool → Bool) : KA := fun xs S R _ => ∃ bs : List Bool, xs = [.lst (bs.map .bl)] ∧ R (.bl (f bs)) S
theorem reps_bl {K : PySem.W.Frag} {Z : Addr → Prop} {S : Store} {H : Hp} : ∀ {bs : List Bool} {vs : List V}, Reps K Z S H vs (bs.map .bl) → vs = bs.map .bl
  | [], _, .nil => rfl
  | b :: bs, _, .cons h r => by cases h; rw [reps_bl r]; rfl
theorem cv_all {f : List Bool → Bool} : ConvA X.K E (kAll f) (fun vs H Q => ∃ (a : Addr) (bs : List Bool), vs = [V.ref a] ∧ SqL X.K H a (bs.map V.bl) ∧ Q (.bl (f bs)) H) := by
  intro Z xs S vs H R RE Q ok rs ⟨bs, e, k⟩ po xo
  subst e
  cases rs with
  | cons r rr =>
    cases rr
    cases r with
    | lst h1 r1 =>
      rw [reps_bl r1] at h1
      exact ⟨_, bs, rfl, h1.sq, po _ _ _ _ k .refl ok (.bl _)⟩
end

/-! ### slices -/
abbrev TRO := Fm → Store → (Option Int → Store → Prop) → XT → Prop
structure UpO (K : PySem.W.Frag) (E : XK) (r : TRO) (sl : L2.St) (H : Hp) (Q : Option Int → Hp → Prop) : Prop where
  ex : ∃ Z σ S R RE, FrR K Z S H sl σ ∧ Ok K Z S H ∧ r σ S R RE ∧ (∀ o S' H', R o S' → Le S H S' H' → Ok K Z S' H' → Q o H') ∧ XOk K Z S H RE E
structure OT (X : Cx) (E : XK) (e : Option Expr) (r : TRO) : Prop where
  po : L2.PO X e (UpO X.K E r)
theorem po_weak {X : Cx} {e : Option Expr} {t t' : TO} (he : L2.PO X e t) (imp : ∀ sl H Q, t' sl H Q → t sl H Q) : L2.PO X e t' := ⟨fun pins s sl H Q inv h => he.run pins s sl H Q inv (imp sl H Q h)⟩
def oNone : TRO := fun _ S R _ => R none S
def oSome (ra : TR) : TRO := fun σ S R RE => ra σ S (fun x S1 => ∃ i, x = .int i ∧ R (some i) S1) RE
def cutT (l : List T) (lo hi : Option Int) : List T := (l.drop (HT.sIx l.length 0 lo)).take (HT.sIx l.length l.length hi - HT.sIx l.length 0 lo)
section
variable {X : Cx} {E : XK} {e a b c : Expr} {es : List Expr} {pos p2 : Pos} {ra rb rc : TR} {t : TRA} {lo hi : Option Expr} {rl rh : TRO}
theorem ot_none : OT X E none oNone := ⟨po_weak po_none fun sl H Q ⟨⟨Z, σ, S, R, RE, fr, ok, w, po, xo⟩⟩ => po none S H w .refl ok⟩
theorem ot_some (h : ET X E a ra) : OT X E (some a) (oSome ra) := ⟨po_weak (po_some h.pe) fun sl H Q ⟨⟨Z, σ, S, R, RE, fr, ok, w, po, xo⟩⟩ => ⟨Z, σ, S, _, RE, fr, ok, w, fun x S1 v H1 k le ok1 rep => by
  obtain ⟨i, rfl, k⟩ := k
  cases rep
  exact ⟨i, rfl, po _ S1 H1 k le ok1⟩, xo⟩⟩
def kSl : T → Option Int → Option Int → Store → (T → Store → Prop) → Prop := fun x lo hi S R => match x with
  | .lst l => R (.lst (cutT l lo hi)) S
  | .scr l => R (.lst (cutT l lo hi)) S
  | .tup l => ¬ (HT.sIx l.length 0 lo = 0 ∧ HT.sIx l.length l.length hi = l.length) ∧ R (.tup (cutT l lo hi)) S
  | .str z => z.length ≤ sizeLine ∧ R (.str (cutS z lo hi)) S
  | _ => False
def rSl (ra : TR) (rl rh : TRO) : TR := fun σ S R RE => ra σ S (fun x S1 => rl σ S1 (fun l S2 => rh σ S2 (fun h S3 => kSl x l h S3 R) RE) RE) RE
theorem Reps.cut {K : PySem.W.Frag} {Z : Addr → Prop} {S : Store} {H : Hp} {vs : List V} {ts : List T} {l h : Option Int} (r : Reps K Z S H vs ts) : Reps K Z S H (cutV vs l h) (cutT ts l h) := by
  unfold cutV cutT
  rw [r.length]
  exact (r.drop _).take _
theorem et_slice (ha : ET X E a ra) (hl : OT X E lo rl) (hh : OT X E hi rh) : ET X E (.Subscript a (.Slice lo hi none p2) pos) (rSl ra rl rh) :=
  ⟨pe_weak (pe_slice (SlR.or sl_list (SlR.or sl_tup sl_str)) ha.pe hl.po hh.po) fun sl H Q ⟨⟨Z, σ, S, R, RE, fr, ok, w, po, xo⟩⟩ => by
    refine ⟨Z, σ, S, _, RE, fr, ok, w, fun x S1 v H1 k1 le1 ok1 rep => ?_, xo⟩
    refine ⟨Z, σ, S1, _, RE, fr.le le1, ok1, k1, fun l S2 H2 k2 le2 ok2 => ?_, xo.le le1⟩
    refine ⟨Z, σ, S2, _, RE, (fr.le le1).le le2, ok2, k2, fun h S3 H3 k3 le3 ok3 => ?_, (xo.le le1).le le2⟩
    have po3 := ((po.le le1).le le2).le le3
    have rep3 := (rep.le le2).le le3
    unfold kSl at k3
    split at k3
    · cases rep3 with
      | lst h1 r1 => exact .inl ⟨_, _, rfl, h1.sq, fun p hp => po3 _ _ _ _ k3 (le_new hp) (ok3.new hp) (.lstN ok3 hp r1.cut)⟩
    · cases rep3 with
      | scr h1 r1 => exact .inl ⟨_, _, rfl, h1.sq, fun p hp => po3 _ _ _ _ k3 (le_new hp) (ok3.new hp) (.lstN ok3 hp r1.cut)⟩
    · cases rep3 with
      | tup h1 r1 => exact .inr (.inl ⟨_, _, rfl, h1.sq, by rw [r1.length]; exact k3.1, fun p hp => po3 _ _ _ _ k3.2 (le_new hp) (ok3.new hp) (.tupN ok3 hp r1.cut)⟩)
    · cases rep3
      exact .inr (.inr ⟨_, rfl, k3.1, po3 _ _ _ _ k3.2 .refl ok3 (.str _)⟩)
    · exact k3.elim⟩
/-! ### xs.append(e) and the like: methods of a list that changes -/
def rMut (k : Addr → List T → List T → Store → (T → Store → Prop) → Prop) (ra : TR) (t : TRA) : TR := fun σ S R RE => ra σ S (fun x S1 => ∃ a, x = .cell a ∧ (∃ l, S1 a = some (.lst l)) ∧ t σ S1 (fun xs S2 => ∃ l, S2 a = some (.lst l) ∧ k a l xs S2 R) RE) RE
theorem et_mut {name : Str} {id : String} {apos cpos : Pos} {o : Expr} {r : V → List V → Hp → VK → Prop} {k} (slot : Slot "list" name id) (hty : typeOf (.builtin id) = pure (.type "method_descriptor")) (hm : MtR X id r)
    (cv : ∀ Z a l xs S vs H R Q, Ok X.K Z S H → Reps X.K Z S H vs xs → S a = some (.lst l) → k a l xs S R → PO X.K Z S H R Q → r (.ref a) vs H Q) (ho : ET X E o ra) (ha : AT X E (e :: es) t)
    (hbase : attributeBase o name X.env (eval o X.env) = eval o X.env := by rfl)
    (hfew : ((backTo cpos (starEach (e :: es) X.env)).all (fun x => !x.1) && (backToKw cpos (keywordEach [] X.env)).all (fun x => x.1.isSome)
      && decide ((e :: es).length + ([] : List Keyword).length + (if ([] : List Keyword).isEmpty then 0 else 1) < 30)) = true := by rfl)
    (hline : (apos.endLine == cpos.line) = true := by rfl) (hs : starEach (e :: es) X.env = (false, eval e X.env) :: starEach es X.env := by rfl) (hplain : (backTo cpos (starEach es X.env)).any (·.1) = false := by rfl) :
    ET X E (.Call (.Attribute o name apos) (e :: es) [] cpos) (rMut k ra t) :=
  ⟨pe_weak (pe_bm PySem.F.plainAttrs_list slot hty hm ho.pe ha.pa hbase hfew hline hs hplain) fun sl H Q ⟨⟨Z, σ, S, R, RE, fr, ok, w, po, xo⟩⟩ => by
    refine ⟨Z, σ, S, _, RE, fr, ok, w, fun x S1 v H1 k1 le1 ok1 rep => ?_, xo⟩
    obtain ⟨a, rfl, ⟨l, hl⟩, k1⟩ := k1
    cases rep
    have c := ok1.cl a
    rw [hl] at c
    obtain ⟨vs, hv, _⟩ := c
    refine ⟨.inl ⟨rfl, _, SqL.of hv⟩, Z, σ, S1, _, RE, fr.le le1, ok1, k1, fun xs S2 ws H2 k2 le2 ok2 rs => ?_, xo.le le1⟩
    obtain ⟨l2, hl2, k2⟩ := k2
    exact cv Z a l2 xs S2 ws H2 R Q ok2 rs hl2 k2 ((po.le le1).le le2)⟩
def kAppend : Addr → List T → List T → Store → (T → Store → Prop) → Prop := fun a l xs S R => ∃ x, xs = [x] ∧ l.length < sizeLine ∧ R .non (S.put a (.lst (l ++ [x])))
theorem cv_append : ∀ Z a l xs S vs H R Q, Ok X.K Z S H → Reps X.K Z S H vs xs → S a = some (.lst l) → kAppend a l xs S R → PO X.K Z S H R Q → rAppend (.ref a) vs H Q := by
  intro Z a l xs S vs H R Q ok rs hs ⟨x, e, z, k⟩ po
  subst e
  cases rs with
  | @cons v _ _ _ r rr =>
    cases rr
    have c := ok.cl a
    rw [hs] at c
    obtain ⟨ws, hv, r1⟩ := c
    have l3 : Le S H (S.put a (.lst (l ++ [x]))) (upd H a (.lst (ws ++ [v]))) := le_setc hs
    exact ⟨a, ws, _, rfl, rfl, hv, by rw [r1.length]; exact z, po _ _ _ _ k l3 (ok.put l3 (ok.nzc hs) ⟨_, upd_same, (r1.append (.cons r .nil)).le l3⟩) .non⟩
def kExtend : Addr → List T → List T → Store → (T → Store → Prop) → Prop := fun a l xs S R => ∃ m, xs = [.lst m] ∧ l.length + m.length ≤ sizeLine ∧ R .non (S.put a (.lst (l ++ m)))
theorem cv_extend : ∀ Z a l xs S vs H R Q, Ok X.K Z S H → Reps X.K Z S H vs xs → S a = some (.lst l) → kExtend a l xs S R → PO X.K Z S H R Q → rExtend (.ref a) vs H Q := by
  intro Z a l xs S vs H R Q ok rs hs ⟨m, e, z, k⟩ po
  subst e
  cases rs with
  | cons r rr =>
    cases rr
    cases r with
    | lst h2 r2 =>
      have c := ok.cl a
      rw [hs] at c
      obtain ⟨ws, hv, r1⟩ := c
      have l3 := fun vs => (le_setc hs : Le S H (S.put a (.lst (l ++ m))) (upd H a (.lst (ws ++ vs))))
      exact ⟨a, _, ws, _, rfl, rfl, hv, h2.1, by rw [r1.length, r2.length]; exact z, po _ _ _ _ k (l3 _) (ok.put (l3 _) (ok.nzc hs) ⟨_, upd_same, (r1.append r2).le (l3 _)⟩) .non⟩
/-! ### repr of data -/
structure SmT (k n : Nat) (t : T) : Prop where
  ex : ∃ d, t.dat = some d ∧ d.showable = true ∧ d.hasDict = false ∧ d.depth ≤ k ∧ d.shown.length ≤ n
def shownT (t : T) : Str := match t.dat with
  | some d => d.shown
  | none => Str.empty
def isDispT : T → Bool
  | .lst _ => true
  | .tup _ => true
  | _ => false
def kRepr : KA := fun xs S R _ => ∃ x k n, xs = [x] ∧ isDispT x = true ∧ SmT k n x ∧ k ≤ 64 ∧ n ≤ 16777216 ∧ R (.str (shownT x)) S
theorem cv_repr : ConvA X.K E kRepr (RRepr X.K) := by
  intro Z xs S vs H R RE Q ok rs ⟨x, k, n, e, di, ⟨d, hd, sh, nd, dp, ln⟩, hk, hn, r⟩ po xo
  subst e
  cases rs with
  | cons rx rr =>
    cases rr
    refine ⟨_, d, rfl, rx.dp hd, ?_, sh, nd, Nat.le_trans dp hk, Nat.le_trans ln (by rw [sizeLine_eq]; exact hn), ?_⟩
    · cases x <;> first | (cases di; done) | (rw [T.dat] at hd; obtain ⟨ds, _, rfl⟩ := Option.map_eq_some_iff.mp hd; rfl)
    · refine po _ _ _ _ r .refl ok ?_
      unfold shownT
      rw [hd]
      exact .str _
/-! ### tuple(..), list(..) -/
def kTuple : KA := fun xs S R _ => ∃ x l, xs = [x] ∧ (x = .lst l ∨ x = .tup l) ∧ R (.tup l) S
theorem cv_tuple : ConvA X.K E kTuple (fun xs H Q => ∃ p ys, xs = [.ref p] ∧ ((SqL X.K H p ys ∧ ∀ l, H l = none → Q (.ref l) (upd H l (.tup ys))) ∨ (SqT X.K H p ys ∧ Q (.ref p) H))) := by
  intro Z xs S vs H R RE Q ok rs ⟨x, l, e, hx, k⟩ po xo
  subst e
  cases rs with
  | cons r rr =>
    cases rr
    rcases hx with rfl | rfl
    · cases r with
      | lst h1 r1 => exact ⟨_, _, rfl, .inl ⟨h1.sq, fun p hp => po _ _ _ _ k (le_new hp) (ok.new hp) (.tupN ok hp r1)⟩⟩
    · cases r with
      | tup h1 r1 => exact ⟨_, _, rfl, .inr ⟨h1.sq, po _ _ _ _ k .refl ok (.tup h1 r1)⟩⟩
def kList : KA := fun xs S R _ => ∃ x l, xs = [x] ∧ seqOf x = some l ∧ R (.lst l) S
theorem cv_list : ConvA X.K E kList (fun xs H Q => ∃ p ys, xs = [.ref p] ∧ (SqL X.K H p ys ∨ SqT X.K H p ys) ∧ ∀ l, H l = none → Q (.ref l) (upd H l (.lst ys))) := by
  intro Z xs S vs H R RE Q ok rs ⟨x, l, e, hx, k⟩ po xo
  subst e
  cases rs with
  | cons r rr =>
    cases rr
    cases r <;> try (cases hx; done)
    · rename_i h1 r1
      cases hx
      exact ⟨_, _, rfl, .inr h1.sq, fun p hp => po _ _ _ _ k (le_new hp) (ok.new hp) (.lstN ok hp r1)⟩
    · rename_i h1 r1
      cases hx
      exact ⟨_, _, rfl, .inl h1.sq, fun p hp => po _ _ _ _ k (le_new hp) (ok.new hp) (.lstN ok hp r1)⟩
    · rename_i h1 r1
      cases hx
      exact ⟨_, _, rfl, .inl h1.sq, fun p hp => po _ _ _ _ k (le_new hp) (ok.new hp) (.lstN ok hp r1)⟩
end
/-! keywords -/
section
variable {X : Cx} {E : XK} {e : Expr} {ra : TR} {tk : TRA}
theorem kt_nil : KT X E [] aNil := ⟨⟨fun pos pins s sl H Q I h => pk_nil.run pos pins s sl H Q I (by
  obtain ⟨Z, σ, S, R, RE, fr, ok, w, po, xo⟩ := h.ex
  exact po [] S [] H w .refl ok .nil)⟩⟩
theorem kt_cons {nm : Option Str} {kpos : Pos} {kws : List Keyword} (ha : ET X E e ra) (hr : KT X E kws tk) : KT X E (⟨nm, e, kpos⟩ :: kws) (aCons ra tk) := ⟨⟨fun pos pins s sl H Q I h => (pk_cons ha.pe hr.pk).run pos pins s sl H Q I (by
  obtain ⟨Z, σ, S, R, RE, fr, ok, w, po, xo⟩ := h.ex
  refine ⟨Z, σ, S, _, RE, fr, ok, w, fun x S1 v H1 kk le ok1 rep => ?_, xo⟩
  exact ⟨Z, σ, S1, _, RE, fr.le le, ok1, kk, fun xs S2 vs H2 k2 le2 ok2 rs => po (x :: xs) S2 (v :: vs) H2 k2 (le.trans le2) ok2 (.cons (rep.le le2) rs), xo.le le⟩)⟩⟩
end
/-! ### isinstance -/
/-- what isinstance asks of a class of one's own -/
structure InsC (K : PySem.W.Frag) (C : Addr) : Prop where
  cl : Cls K C
  c1 : PySem.W.findIn K (.ref C) "__class__" = some (some (.builtin "object.__class__"))
  c2 : PySem.W.specialIn K (.builtin "object.__class__") "__get__" = some (some (.builtin "getset_descriptor.__get__"))
  c3 : PySem.W.takesIn K (.builtin "object.__class__") = some true
  c4 : PySem.W.mroIn K C (.type "object") = some true
inductive TyT (K : PySem.W.Frag) (S : Store) : T → Value → Prop
  | non : TyT K S .non (.type "NoneType")
  | bl (x : Bool) : TyT K S (.bl x) (.type "bool")
  | int (i : Int) : TyT K S (.int i) (.type "int")
  | str (x : Str) : TyT K S (.str x) (.type "str")
  | lst (l : List T) : TyT K S (.lst l) (.type "list")
  | scr (l : List T) : TyT K S (.scr l) (.type "list")
  | tup (l : List T) : TyT K S (.tup l) (.type "tuple")
  | cell {a : Addr} {l : List T} (h : S a = some (.lst l)) : TyT K S (.cell a) (.type "list")
  | ins {C : Addr} {gs : List (Str × T)} (h : InsC K C) : TyT K S (.ins C gs) (.ref C)
  | cins {a C : Addr} {gs : List (Str × T)} (h : InsC K C) (e : S a = some (.ins C gs)) : TyT K S (.cell a) (.ref C)
inductive ClT : T → Value → Prop
  | ty (n : String) : ClT (.ty n) (.type n)
  | st (a : Addr) : ClT (.st a) (.ref a)
section
variable {X : Cx} {E : XK}
theorem ty_rep {K : PySem.W.Frag} {Z : Addr → Prop} {S : Store} {H : Hp} {v : V} {x : T} {t : Value} (ok : Ok K Z S H) (rx : Rep K Z S H v x) (h : TyT K S x t) : TyX K H v t := by
  cases h with
  | non => cases rx; exact .base .non
  | bl b => cases rx; exact .base (.bl b)
  | int i => cases rx; exact .base (.int i)
  | str z => cases rx; exact .base (.str z)
  | lst l => cases rx with | lst h r => exact .base (.lst h.1)
  | scr l =>
    cases rx with
    | scr h r =>
      rcases h with ⟨⟨o, h⟩, _⟩ | ⟨o, its, n, h, c, _⟩
      · exact .base (.frz h)
      · exact .kList h c
  | tup l =>
    cases rx with
    | tup h r =>
      rcases h with ⟨h | ⟨o, h⟩, _⟩ | ⟨o, its, n, h, c, _⟩
      · exact .base (.tup h)
      · exact .fTuple h
      · exact .kTuple h c
  | @cell a l h =>
    cases rx
    have c := ok.cl a
    rw [h] at c
    obtain ⟨vs, hv, _⟩ := c
    exact .base (.lst hv)
  | ins h => cases rx with | ins h2 n r => exact .base (.ins h2 h.cl h.c1 h.c2 h.c3 h.c4)
  | @cins a C gs h e =>
    cases rx
    have c := ok.cl a
    rw [e] at c
    obtain ⟨dx, fs, hv, _⟩ := c
    exact .base (.ins hv h.cl h.c1 h.c2 h.c3 h.c4)
def kIsi (K : PySem.W.Frag) : KA := fun xs S R _ => ∃ x c t u b, xs = [x, c] ∧ ClT c u ∧ TyT K S x t ∧ PySem.W.kitOne K t u = some b ∧ R (.bl b) S
theorem cv_isi {K : PySem.W.Frag} : ConvA K E (kIsi K) (rIsi K) := by
  intro Z xs S vs H R RE Q ok rs ⟨x, c, t, u, b, e, hc, ht, hk, k⟩ po xo
  subst e
  cases rs with
  | cons r rr =>
    cases rr with
    | cons r2 rr =>
      cases rr
      refine ⟨_, _, t, u, b, rfl, ?_, ty_rep ok r ht, hk, po _ _ _ _ k .refl ok (.bl b)⟩
      cases hc with
      | ty n => cases r2; exact .ty n
      | st a => cases r2; exact .own a
end

/-! an own error with one field, made and raised: the class's text, C(e) for L2N, raise C(e) -/
section
open PySem.W PySem.Calls PyProof.Rows PySem.HandSPX
def evArgs (p1 p2 : Pos) : Arguments := { posonlyargs := [], args := [{ arg := "self", annotation := none, pos := p1 }, { arg := "value", annotation := none, pos := p2 }], vararg := none, kwonlyargs := [], kw_defaults := [], kwarg := none, defaults := [] }
def evBody (q1 q2 q3 q4 : Pos) : List Stmt := [.Assign [.Attribute (.Name "self" q1) "value" q2] (.Name "value" q3) q4]
def evScope : Scope := { kind := .function, names := [(PySem.Str.ofString "self", .local), (PySem.Str.ofString "value", .local)], isGenerator := false, isCoroutine := false, more := [] }
/-- what the top says of the class at C and of its __init__ at fI -/
structure EvTxt (K : Frag) (C fI : Addr) (qi : Str) : Prop where
  cls : ∃ nm q N bs bm sn sub ab col dd k0 k1 k2 k3 k5, K.lookup C = some (excClassObj nm q C N bs bm true sn sub ab col dd k0 k1 k2 k3 k5 "ValueError.__new__") ∧ refsVE bm = true
  sa : findIn K (.ref C) "__setattr__" = some (some (.builtin "object.__setattr__"))
  ga : findIn K (.ref C) "__getattribute__" = some (some (.builtin "BaseException.__getattribute__"))
  gg : findIn K (.ref C) "__getattr__" = some none
  noN : findIn K (.ref C) "value" = some none
  iC : findIn K (.ref C) "__init__" = some (some (.ref fI))
  tC : typeIn K (.ref fI) = some (.type "function")
  kC : keepIn K (.ref C) = true
  exC : subIn K (.ref C) (.type "BaseException") = some true
  tyC : typeIn K (.ref C) = some (.type "type")
  hdC : hasDictIn K C = true
  fn : ∃ (oc : Value) (od : Option Addr) (doc pm : Value) (an : Option Addr) (cdv ct : Value) (osl : Array (Option Value)) (p1 p2 q1 q2 q3 q4 : Pos),
    K.lookup fI = some ⟨oc, od, .func (fnOf "__init__" qi (evArgs p1 p2) (evBody q1 q2 q3 q4) evScope .none .none doc pm an cdv ct), osl⟩ ∧ codeIn K cdv qi = true
theorem one_fits (u : Value) : [u].length ≤ sizeLine := by
  show 1 ≤ sizeLine
  rw [sizeLine_eq]
  decide
theorem ev_name {M : Model} {s0 : Shared} {nm : Str} {sc : Scope} {fr a : Addr} {cd : Value} {m : Str → Option Value} {y : Str} {ps : Pos} {u : Value} {Q : Value → Shared → Prop} {A : Around} {E : Value → Shared → Prop} (hns : s0.heap.Ns fr m) (hu : m y = some u) (fin : Q u s0)
    (isf : sc.kind = .function := by rfl) (isl : (envOfC nm sc fr a cd).kindOf y = some .local := by rfl) (dbg : (y == ("__debug__" : Str)) = false := by decide) :
    wpAny M A (eval (.Name y ps) (envOfC nm sc fr a cd)) Q E s0 := wpAny_Name (wpAny_loadName_local isf isl hns hu fin) dbg
/-- what __init__ leaves of the new error at x -/
structure EvEnd (h h' : Heap) (x C dx t1 : Addr) (u : Value) : Prop where
  keep : ∀ b o, b ≠ x → h.get? b = some o → h'.get? b = some o
  obj : h'.get? x = some { cls := .ref C, dict := some dx, data := .fields #[.ref t1, .none, .none, .none, .bool false, .none] }
  dbig : h.objs.size ≤ dx
  dne : dx ≠ x
  ns : h'.Ns1 dx (fun y => if y = "value" then some u else none)
structure EvMade (h h' : Heap) (e C d : Addr) (u : Value) : Prop where
  keep : ∀ b o, h.get? b = some o → h'.get? b = some o
  new : h.objs.size ≤ e
  obj : ∃ oe t1, h'.get? e = some oe ∧ oe.cls = .ref C ∧ oe.dict = some d ∧ oe.data = .fields #[.ref t1, .none, .none, .none, .bool false, .none]
  dbig : h.objs.size ≤ d
  dne : d ≠ e
  ns : h'.Ns1 d (fun y => if y = "value" then some u else none)
section
variable {prog : Program} {w : World} {A : Around} {E : Value → Shared → Prop} {R : Result → Shared → Prop} {s0 : Shared} {K : Frag} {C fI : Addr} {qi : Str}
theorem ev_init (Z : EvTxt K C fI qi) {x t0 : Addr} {u : Value} (inK : K.In s0.heap) (lim : s0.heap.NoLimit) (hx : s0.heap.get? x = some (excO C t0)) (room : A.depth < recursionLimit)
    (fin : ∀ h' tk dx, EvEnd s0.heap h' x C dx t0 u → R (.ok (.ret .none)) { s0 with heap := h', toks := tk }) :
    codeAny (model prog w) A (.call (.ref fI) ⟨[.ref x, u], []⟩) R s0 := by
  obtain ⟨oc, od, doc, pm, an, cdv, ct, osl, p1, p2, q1, q2, q3, q4, lk, code⟩ := Z.fn
  obtain ⟨cn, cq, cN, cb, cm, csn, csb, cab, ccol, cdd, j0, j1, j2, j3, j5, lkC, refs⟩ := Z.cls
  have cdat : clsIn K C = some { name := cn, bases := cb, mro := .ref C :: cm, ns := cN, qualname := cq, hasDict := true, slotNames := csn, subclasses := csb, abstract := cab, collection := ccol, hasDel := false } := by
    unfold clsIn
    rw [lkC] <;> rfl
  refine Att.call_fn (binds := [("self", .ref x), ("value", u)]) inK lim lk code room (BindsTo.of_eq (by first | rfl | with_unfolding_all rfl)) (by first | rfl | decide | with_unfolding_all rfl) (fun s1 inC => ?_) rfl rfl rfl
  obtain ⟨h1, tk1, rfl⟩ := inC.toInCall.same
  have kp : ∀ b o, s0.heap.get? b = some o → h1.get? b = some o := inC.toInCall.keep
  have hns := inC.toInCall.ns
  have inK1 : K.In h1 := inK.keeps kp
  have hx1 := kp _ _ hx
  show wpAny _ _ (execs _ _) _ _ _
  refine wpAny_execs_cons (plainObj_wpAny_Assign_Attribute ?_)
  refine ev_name (u := u) hns (by first | rfl | with_unfolding_all rfl | kernel_rfl) (ev_name (u := .ref x) hns (by first | rfl | with_unfolding_all rfl | kernel_rfl) ?_)
  refine set_plain inK1 (ox := excO C t0) (od := none) ⟨hx1, rfl, rfl, trivial⟩ Z.sa ?_
  refine exc_osa inK1 hx1 cdat (show refsVE (.ref C :: cm) = true from refs) rfl Z.noN (fun h3 tk3 dx kp3 dbig dne hx3 ns3 => ?_)
  show wpAny _ _ (execs _ _) _ _ _
  have lt : s0.heap.objs.size < h1.objs.size := hns.lt
  exact wpAny_execs_nil (fin h3 tk3 dx ⟨fun b o hb e => kp3 b o hb (kp b o e), hx3, Nat.le_of_lt (Nat.lt_of_lt_of_le lt dbig), dne, ns3⟩)
theorem ev_made (Z : EvTxt K C fI qi) {u : Value} (inK : K.In s0.heap) (lim : s0.heap.NoLimit) (room : A.depth + 1 < recursionLimit)
    (fin : ∀ h' tk e d, EvMade s0.heap h' e C d u → R (.ok (.ret (.ref e))) { s0 with heap := h', toks := tk }) :
    codeAny (model prog w) A (.call (.ref C) ⟨[u], []⟩) R s0 := by
  obtain ⟨cn, cq, cN, cb, cm, csn, csb, cab, ccol, cdd, j0, j1, j2, j3, j5, lkC, refs⟩ := Z.cls
  obtain ⟨hp, gn, dr, tk, os⟩ := s0
  have kp : ∀ b o, hp.get? b = some o → ((hp.push (kdv_tup [u])).push (excO C hp.objs.size)).get? b = some o := fun b o e => Heap.get?_push_of_some _ (Heap.get?_push_of_some _ e)
  have got : ((hp.push (kdv_tup [u])).push (excO C hp.objs.size)).get? (hp.objs.size + 1) = some (excO C hp.objs.size) := by heap_get
  refine call_own F.excBase_ValueError (fun Y => refsVE_contains Y cm refs) (inK _ _ lkC) (looks_findIn inK Z.iC) (fun self => bind_fn inK self Z.tC) (one_fits u) ?_
  refine ev_init (s0 := ⟨(hp.push (kdv_tup [u])).push (excO C hp.objs.size), gn, dr, tk, os⟩) Z (inK.keeps kp) (lim.keeps kp) got ?_ fun h' tk' dx made => ?_
  · show A.depth + 1 < recursionLimit
    exact room
  · have old : ∀ b o, hp.get? b = some o → h'.get? b = some o := fun b o e => made.keep b o (Nat.ne_of_lt (Nat.lt_succ_of_lt (Heap.lt_size e))) (kp b o e)
    have far : hp.objs.size + 1 + 1 ≤ dx := by
      have q := made.dbig
      first
        | exact q
        | (rw [Heap.size_push, Heap.size_push] at q; exact q)
        | simpa only [Heap.size_push] using q
    exact ⟨rfl, fin h' tk' (hp.objs.size + 1) dx ⟨old, Nat.le_succ _, ⟨_, _, made.obj, rfl, rfl, rfl⟩, Nat.le_trans (Nat.le_trans (Nat.le_succ _) (Nat.le_succ _)) far, made.dne, made.ns⟩⟩
end
end
theorem relO_ev {v : V} {u : Value} (r : RelV v u) (y : Str) : RelO (List.lookup y [(("value" : Str), v)]) (if y = "value" then some u else none) := by
  by_cases hy : y = "value"
  · subst hy
    rw [if_pos rfl, show List.lookup ("value" : Str) [(("value" : Str), v)] = some v by simp [List.lookup]]
    exact r
  · have ny : (y == ("value" : Str)) = false := by simpa using hy
    rw [if_neg hy, show List.lookup y [(("value" : Str), v)] = none by simp [List.lookup, ny]]
    trivial
section
variable {X : Cx} {C fI : Addr} {qi : Str}
/-- C(e): the error's own dict is new -/
def tEv (C : Addr) (ta : TA) : L2.St → Hp → XK → Prop := fun sl H Q => ta sl H fun vs H1 => ∃ v, vs = [v] ∧ ∀ d, H1 d = none → Q (.ref C) (some d) (upd H1 d (.xd [(("value" : Str), v)]))
theorem pmk_ev {nm : Str} {a : Expr} {ta : TA} {p pos : Pos} {k : Nat} (Z : EvTxt X.K C fI qi) (hm : X.mg nm = some (.ref C)) (room : Room k X.A) (ha : PA X [a] ta) (hg : Gl X nm) (dbg : (nm == ("__debug__" : Str)) = false := by decide)
    (hst : starEach (a :: []) X.env = (false, eval a X.env) :: starEach [] X.env := by rfl) (hpl : (backTo pos (starEach [] X.env)).any (·.1) = false := by rfl) :
    L2N.PMk X (.Call (.Name nm p) [a] [] pos) (tEv C ta) := by
  intro pins st sl H Q inv want
  refine wpAny_Call_Name_kw (ld_glob inv hg hm ?_ dbg)
  refine PySem.W.callWith_K (h₀ := X.base) inv.ok.mod.kin Z.kC (thn (ha.run pos pins st sl H _ inv want) fun us st1 got => ?_) hst hpl
  obtain ⟨vs, H1, inv1, rel, v, ev, q⟩ := got
  subst ev
  refine ⟨inv1.kIn, ?_⟩
  obtain ⟨u, rfl, rv⟩ := vals1 rel
  show wpAny _ _ (call (.ref C) [u]) _ _ _
  have lim := inv1.nolimit
  obtain ⟨hp, gn, dr, tk, os⟩ := st1
  refine wpAny_call (ev_made Z inv1.kIn lim (by have := room.dp; omega) fun h' tk' e d made => ?_)
  show L2N.MkP X pins sl Q (.ref e) ⟨h', gn, dr, tk', os⟩
  obtain ⟨oe, t1, hoe, ec, ed, edat⟩ := made.obj
  obtain ⟨G, g1, g2⟩ := restrict h' fun b => decide (b ≠ e)
  have same : ∀ b, b ≠ e → G.get? b = h'.get? b := fun b hb => g1 b (decide_eq_true hb)
  have gone : G.get? e = none := g2 e (by simp)
  have old : ∀ b o, hp.get? b = some o → G.get? b = some o := fun b o z => (same b (Nat.ne_of_lt (Nat.lt_of_lt_of_le (Heap.lt_size z) made.new))).trans (made.keep b o z)
  have ok : ObjOk X.prog X.w (upd H1 d (.xd [(("value" : Str), v)])) G d (.xd [(("value" : Str), v)]) := ⟨_, made.ns.at fun o z => (same d made.dne).trans z, fun y => relO_ev rv y⟩
  have inv2 : Inv X pins sl (upd H1 d (.xd [(("value" : Str), v)])) ⟨G, gn, dr, tk', os⟩ := inv1.laid (t' := tk') old made.dbig ok
  refine ⟨e, oe, _, ⟨G, gn, dr, tk', os⟩, _, .ref C, some d, rfl, inv2, fun b o z => ?_, gone, hoe, ⟨ec, ed, fun vs hv => ?_⟩, edat, rfl, ?_, rfl, inv1.bare, raises_own Z.exC Z.tyC, q d (inv1.hok.fresh made.dbig)⟩
  · by_cases hb : b = e
    · have z' : G.get? b = some o := z
      rw [hb, gone] at z'
      cases z'
    · exact (same b hb).symm.trans z
  · rw [edat] at hv
    cases hv
    rfl
  · rw [upd_ne (Ne.symm made.dne)]
    exact inv1.hok.fresh made.new
/-- raise C(e) -/
theorem ps_ev {nm : Str} {a : Expr} {ta : TA} {W : WX} {p pos pos2 : Pos} {k : Nat} (calm : X.calm = true) (Z : EvTxt X.K C fI qi) (hm : X.mg nm = some (.ref C)) (room : Room k X.A) (tk : L2N.Takes X W) (ha : PA X [a] ta) (hg : Gl X nm) (dbg : (nm == ("__debug__" : Str)) = false := by decide)
    (hst : starEach (a :: []) X.env = (false, eval a X.env) :: starEach [] X.env := by rfl) (hpl : (backTo pos (starEach [] X.env)).any (·.1) = false := by rfl) :
    PS X (.Raise (some (.Call (.Name nm p) [a] [] pos)) none pos2) (fun _ sl H => tEv C ta sl H fun cls d H' => W cls d sl H') := L2N.ps_raise calm tk (pmk_ev Z hm room ha hg dbg hst hpl)
end


/-! ### places of written sequences -/
section
variable {α : Type} {a0 a1 a2 a3 a4 a5 a6 a7 : α} {l : List α}
theorem at_0 : atI (a0 :: l) 0 = some a0 := by
  unfold atI ixN
  have h : (0 : Int) < (((a0 :: l).length : Nat) : Int) := by simp only [List.length_cons]; omega
  simp [h]
theorem atI_ofNat {xs : List α} {j : Nat} {v : α} (h : xs[j]? = some v) : atI xs (j : Int) = some v := by
  have hl : j < xs.length := (List.getElem?_eq_some_iff.mp h).1
  unfold atI ixN
  have h1 : ((j : Int) < ((xs.length : Nat) : Int)) := by omega
  simp [h1, h]
theorem at_1 : atI (a0 :: a1 :: l) 1 = some a1 := atI_ofNat (j := 1) rfl
theorem at_2 : atI (a0 :: a1 :: a2 :: l) 2 = some a2 := atI_ofNat (j := 2) rfl
theorem at_3 : atI (a0 :: a1 :: a2 :: a3 :: l) 3 = some a3 := atI_ofNat (j := 3) rfl
theorem at_4 : atI (a0 :: a1 :: a2 :: a3 :: a4 :: l) 4 = some a4 := atI_ofNat (j := 4) rfl
theorem at_5 : atI (a0 :: a1 :: a2 :: a3 :: a4 :: a5 :: l) 5 = some a5 := atI_ofNat (j := 5) rfl
theorem at_6 : atI (a0 :: a1 :: a2 :: a3 :: a4 :: a5 :: a6 :: l) 6 = some a6 := atI_ofNat (j := 6) rfl
theorem at_7 : atI (a0 :: a1 :: a2 :: a3 :: a4 :: a5 :: a6 :: a7 :: l) 7 = some a7 := atI_ofNat (j := 7) rfl
end
theorem ix_1_0 : ixN 1 0 = some 0 := by decide
theorem ix_2_0 : ixN 2 0 = some 0 := by decide
theorem ix_2_1 : ixN 2 1 = some 1 := by decide
theorem ix_3_0 : ixN 3 0 = some 0 := by decide
theorem ix_3_1 : ixN 3 1 = some 1 := by decide
theorem ix_3_2 : ixN 3 2 = some 2 := by decide
theorem ix_4_0 : ixN 4 0 = some 0 := by decide
theorem ix_4_1 : ixN 4 1 = some 1 := by decide
theorem ix_4_2 : ixN 4 2 = some 2 := by decide
theorem ix_4_3 : ixN 4 3 = some 3 := by decide
/-! ### the rest of the operators -/
section
variable {X : Cx} {E : XK} {e a b c : Expr} {es : List Expr} {pos : Pos} {ra rb rc : TR} {t : TRA}
theorem op_fdivP : OpR X (binaryOp .FloorDiv) (rI CDivP fun i j => .int (i / j)) := opI fun i j _ _ _ _ _ hc q => by
  have h1 : (0 : Int) < j := hc.1
  refine floordiv_int (by omega) ?_ (.inl hc.2)
  rw [Int.fdiv_eq_ediv_of_nonneg i (by omega)]
  exact q
def rNeg (ra : TR) : TR := fun σ S R RE => ra σ S (fun x S1 => ∃ i, x = .int i ∧ R (.int (-i)) S1) RE
theorem et_neg (ha : ET X E a ra) : ET X E (.UnaryOp .USub a pos) (rNeg ra) :=
  ⟨pe_weak (pe_un un_neg ha.pe) fun sl H Q h => UpE.one (k := fun σ x S1 R RE => ∃ i, x = .int i ∧ R (.int (-i)) S1) h fun Z σ x S1 v H1 R RE fr ok rx kk po xo => by
    obtain ⟨i, rfl, kk⟩ := kk
    cases rx
    exact ⟨i, rfl, po _ S1 _ H1 kk .refl ok (.int _)⟩⟩
/-! in, not in -/
def flatT : T → Bool
  | .non => true
  | .bl _ => true
  | .int _ => true
  | .str _ => true
  | _ => false
def eqT : T → T → Bool
  | .non, .non => true
  | .bl a, .bl b => a == b
  | .bl a, .int b => (if a then 1 else 0) == b
  | .int a, .bl b => a == (if b then 1 else 0)
  | .int a, .int b => a == b
  | .str a, .str b => a == b
  | _, _ => false
def inT (x : T) (l : List T) : Bool := l.any fun y => eqT y x
theorem flat_rep {K : PySem.W.Frag} {Z : Addr → Prop} {S : Store} {H : Hp} {v : V} {x : T} (r : Rep K Z S H v x) : flatT x = true → flatV v = true := by
  cases r <;> intro h <;> first | rfl | (cases h; done)
theorem eq_rep {K : PySem.W.Frag} {Z : Addr → Prop} {S : Store} {H : Hp} {v u : V} {x y : T} (r : Rep K Z S H v x) (q : Rep K Z S H u y) (fx : flatT x = true) (fy : flatT y = true) : eqV v u = eqT x y := by
  cases r <;> cases q <;> first | rfl | (cases fx; done) | (cases fy; done)
theorem in_rep {K : PySem.W.Frag} {Z : Addr → Prop} {S : Store} {H : Hp} {v : V} {x : T} (rx : Rep K Z S H v x) (fx : flatT x = true) : ∀ {vs : List V} {l : List T}, Reps K Z S H vs l → l.all flatT = true → vs.all flatV = true ∧ inV v vs = inT x l
  | _, _, .nil, _ => ⟨rfl, rfl⟩
  | _, _, .cons r rr, f => by
    rw [List.all_cons, Bool.and_eq_true] at f
    obtain ⟨a, b⟩ := in_rep rx fx rr f.2
    refine ⟨by rw [List.all_cons, flat_rep r f.1, a]; rfl, ?_⟩
    unfold inV inT at b ⊢
    rw [List.any_cons, List.any_cons, eq_rep r rx f.1 fx, b]
def kIn (ng : Bool) : KB := fun x y S R _ => ∃ l, seqOf y = some l ∧ flatT x = true ∧ l.all flatT = true ∧ R (.bl (ng ^^ inT x l)) S
theorem cv_inX (ng : Bool) : Conv X.K E (kIn ng) (rIn X.K ng) := by
  intro Z x y S v u H R RE Q ok rx ry ⟨l, hl, fx, fl, k⟩ po xo
  have fv := flat_rep rx fx
  have fin : ∀ {vs : List V}, Reps X.K Z S H vs l → vs.all flatV = true ∧ Q (.bl (if ng then !inV v vs else inV v vs)) H := fun r => by
    obtain ⟨a, b⟩ := in_rep rx fx r fl
    refine ⟨a, ?_⟩
    rw [b]
    refine po _ _ _ _ k .refl ok ?_
    cases ng <;> simp <;> exact .bl _
  cases ry <;> try (cases hl; done)
  · rename_i h r
    cases hl
    exact ⟨_, _, rfl, .inr h.sq, fv, (fin r).1, (fin r).2⟩
  · rename_i h r
    cases hl
    exact ⟨_, _, rfl, .inl h.sq, fv, (fin r).1, (fin r).2⟩
  · rename_i h r
    cases hl
    exact ⟨_, _, rfl, .inl h.sq, fv, (fin r).1, (fin r).2⟩
theorem cv_in : Conv X.K E (kIn false) (rIn X.K false) := cv_inX false
theorem cv_notin : Conv X.K E (kIn true) (rIn X.K true) := cv_inX true
theorem op_inG : OpR X (compareOp .In) (rIn X.K false) := op_in_seq
theorem op_notinG : OpR X (compareOp .NotIn) (rIn X.K true) := op_notIn_seq
/-! raise C(e) -/
def sRaise (C : Addr) (t : TRA) : TRS := fun D σ S => t σ S (fun xs S1 => ∃ x, xs = [x] ∧ D.ex C [("value", x)] S1) D.ex
theorem ss_raise {C fI : Addr} {qi nm : Str} {p pos2 : Pos} {k : Nat} (Zt : EvTxt X.K C fI qi) (calm : X.calm = true) (hm : X.mg nm = some (.ref C)) (room : Room k X.A) (tk : L2N.Takes X (fun cls d _ H => E cls d H)) (ha : AT X E [a] t) (hg : Gl X nm := by rfl) (dbg : (nm == ("__debug__" : Str)) = false := by decide)
    (hst : starEach (a :: []) X.env = (false, eval a X.env) :: starEach [] X.env := by rfl) (hpl : (backTo pos (starEach [] X.env)).any (·.1) = false := by rfl) : SS X E (.Raise (some (.Call (.Name nm p) [a] [] pos)) none pos2) (sRaise C t) :=
  ⟨ps_weak (ps_ev calm Zt hm room tk ha.pa hg dbg hst hpl) fun D sl H h => by
    obtain ⟨Z, σ, S, DT, fr, ok, w, eo, xo⟩ := h.ex
    refine ⟨Z, σ, S, _, DT.ex, fr, ok, w, fun xs S1 vs H1 k le ok1 rs => ?_, xo⟩
    obtain ⟨x, rfl, k⟩ := k
    cases rs with
    | cons r rr =>
      cases rr
      exact ⟨_, rfl, fun d hd => xo C _ S1 (some d) _ _ k (le.trans (le_new hd)) (ok1.new hd) upd_same (.cons (r.le (le_new hd)) .nil)⟩⟩
end
/-! ### how arguments come -/
structure CallD (K : PySem.W.Frag) (fd : FuncData) (ps : List Str) (dts : List T) : Prop where
  ex : ∃ (ds : List Value) (dvs : List V), Binds K fd ps ds ∧ Vals dvs ds ∧ DefT K dvs dts
theorem CallD.all {K : PySem.W.Frag} {fd : FuncData} {ps : List Str} (b : Binds K fd ps []) : CallD K fd ps [] := ⟨[], [], b, .nil, .nil⟩
/-- k keywords behind n values -/
structure CallB (K : PySem.W.Frag) (fd : FuncData) (ps : List Str) (n : Nat) (ks : List Str) (gT : List T → List T → List T) : Prop where
  ex : ∃ (g : List Value → List Value → List Value) (gV : List V → List V → List V), KBn K fd ps n ks g gV ∧ OrdT K gV gT
def selG {α : Type} (w : Nat) (us its ws : List α) : List α := match w with
  | 0 => us
  | 1 => its
  | _ => ws
def pickG {α : Type} : List (Nat × Nat) → List α → List α → List α → List α
  | [], _, _, _ => []
  | (w, i) :: pk, us, its, ws => match (selG w us its ws)[i]? with
    | some x => x :: pickG pk us its ws
    | none => pickG pk us its ws
theorem valsAt {vs : List V} {us : List Value} (r : Vals vs us) (i : Nat) : (vs[i]? = none ∧ us[i]? = none) ∨ ∃ v u, vs[i]? = some v ∧ us[i]? = some u ∧ RelV v u := by
  induction r generalizing i with
  | nil => exact .inl ⟨rfl, rfl⟩
  | cons a r ih =>
    cases i with
    | zero => exact .inr ⟨_, _, rfl, rfl, a⟩
    | succ i => exact ih i
theorem repsAt {K : PySem.W.Frag} {Z : Addr → Prop} {S : Store} {H : Hp} {vs : List V} {us : List T} (r : Reps K Z S H vs us) (i : Nat) : (vs[i]? = none ∧ us[i]? = none) ∨ ∃ v u, vs[i]? = some v ∧ us[i]? = some u ∧ Rep K Z S H v u := by
  induction us generalizing vs i with
  | nil => cases r; exact .inl ⟨rfl, rfl⟩
  | cons u us ih =>
    cases r with
    | cons a r =>
      cases i with
      | zero => exact .inr ⟨_, _, rfl, rfl, a⟩
      | succ i => exact ih r i
theorem pick_vals {vs ds zs : List V} {us its ws : List Value} (r1 : Vals vs us) (r2 : Vals ds its) (r3 : Vals zs ws) : ∀ pk, Vals (pickG pk vs ds zs) (pickG pk us its ws)
  | [] => .nil
  | (w, i) :: pk => by
    have ih := pick_vals r1 r2 r3 pk
    have r : Vals (selG w vs ds zs) (selG w us its ws) := by
      match w with
      | 0 => exact r1
      | 1 => exact r2
      | _ + 2 => exact r3
    unfold pickG
    rcases valsAt r i with ⟨h1, h2⟩ | ⟨v, u, h1, h2, rv⟩
    · rw [h1, h2]; exact ih
    · rw [h1, h2]; exact .cons rv ih
theorem pick_reps {K : PySem.W.Frag} {Z : Addr → Prop} {S : Store} {H : Hp} {vs ds zs : List V} {us its ws : List T} (r1 : Reps K Z S H vs us) (r2 : Reps K Z S H ds its) (r3 : Reps K Z S H zs ws) : ∀ pk, Reps K Z S H (pickG pk vs ds zs) (pickG pk us its ws)
  | [] => .nil
  | (w, i) :: pk => by
    have ih := pick_reps r1 r2 r3 pk
    have r : Reps K Z S H (selG w vs ds zs) (selG w us its ws) := by
      match w with
      | 0 => exact r1
      | 1 => exact r2
      | _ + 2 => exact r3
    unfold pickG
    rcases repsAt r i with ⟨h1, h2⟩ | ⟨v, u, h1, h2, rv⟩
    · rw [h1, h2]; exact ih
    · rw [h1, h2]; exact .cons rv ih
theorem pick_ord {K : PySem.W.Frag} {dvs : List V} {dts : List T} (d : DefT K dvs dts) (pk : List (Nat × Nat)) : OrdT K (fun vs zs => pickG pk vs dvs zs) (fun ts zs => pickG pk ts dts zs) :=
  fun Z S H _ _ _ _ r1 r3 => pick_reps r1 (d Z S H) r3 pk
section
variable {X : Cx} {E : XK} {k n : Nat} {f : Addr} {fd : FuncData} {ps ks : List Str} {sp : SpT} {dts : List T} {x : Str} {p pos : Pos} {e : Expr} {es : List Expr} {kws : List Keyword} {t tk : TRA} {gT : List T → List T → List T}
theorem et_callD (F : FnT X.prog X.w X.K X.mg X.base k f fd ps sp) (gds : X.A.guards = some []) (hr : Room k X.A) (hg : Gl X x) (hm : X.mg x = some (.ref f)) (hk : PySem.W.keepIn X.K (.ref f) = true) (cd : CallD X.K fd ps dts) (hx : Passes (L2N.CX X.prog X.w) X E)
    (ha : AT X E (e :: es) t) (hdb : (x == ("__debug__" : Str)) = false := by decide) (he : starEach (e :: es) X.env = (false, eval e X.env) :: starEach es X.env := by rfl) (hpl : (backTo pos (starEach es X.env)).any (·.1) = false := by rfl) :
    ET X E (.Call (.Name x p) (e :: es) [] pos) (rCall sp dts t) := by
  obtain ⟨ds, dvs, hb, hd, hdt⟩ := cd.ex
  exact et_call F gds hr hg hm hk hb hd hdt hx ha hdb he hpl
theorem et_call0D (F : FnT X.prog X.w X.K X.mg X.base k f fd ps sp) (gds : X.A.guards = some []) (hr : Room k X.A) (hg : Gl X x) (hm : X.mg x = some (.ref f)) (hk : PySem.W.keepIn X.K (.ref f) = true) (cd : CallD X.K fd ps dts) (hx : Passes (L2N.CX X.prog X.w) X E)
    (hdb : (x == ("__debug__" : Str)) = false := by decide) : ET X E (.Call (.Name x p) [] [] pos) (rCall sp dts aNil) := by
  obtain ⟨ds, dvs, hb, hd, hdt⟩ := cd.ex
  exact et_call0 F gds hr hg hm hk hb hd hdt hx hdb
theorem et_callNB (F : FnT X.prog X.w X.K X.mg X.base k f fd ps sp) (gds : X.A.guards = some []) (hr : Room k X.A) (hg : Gl X x) (hm : X.mg x = some (.ref f)) (hk : PySem.W.keepIn X.K (.ref f) = true) (cb : CallB X.K fd ps n ks gT) (hx : Passes (L2N.CX X.prog X.w) X E)
    (ha : AT X E (e :: es) t) (hkw : KT X E kws tk) (hall : (backToKw pos (keywordEach kws X.env)).all (·.1.isSome) = true := by rfl) (hks : (backToKw pos (keywordEach kws X.env)).filterMap (·.1) = ks := by rfl)
    (hdb : (x == ("__debug__" : Str)) = false := by decide) (he : starEach (e :: es) X.env = (false, eval e X.env) :: starEach es X.env := by rfl)
    (hpl : ((backTo pos (starEach (e :: es) X.env)).any (·.1) || (backToKw pos (keywordEach kws X.env)).any (·.1.isNone)) = false := by rfl) :
    ET X E (.Call (.Name x p) (e :: es) kws pos) (rCallN n ks.length sp gT t tk) := by
  obtain ⟨g, gV, hb, ho⟩ := cb.ex
  exact et_callN F gds hr hg hm hk hb ho hx ha hkw hall hks hdb he hpl
theorem et_callKB (F : FnT X.prog X.w X.K X.mg X.base k f fd ps sp) (gds : X.A.guards = some []) (hr : Room k X.A) (hg : Gl X x) (hm : X.mg x = some (.ref f)) (hk : PySem.W.keepIn X.K (.ref f) = true) (cb : CallB X.K fd ps 0 ks gT) (hx : Passes (L2N.CX X.prog X.w) X E)
    (hkw : KT X E kws tk) (hall : (backToKw pos (keywordEach kws X.env)).all (·.1.isSome) = true := by rfl) (hks : (backToKw pos (keywordEach kws X.env)).filterMap (·.1) = ks := by rfl)
    (hdb : (x == ("__debug__" : Str)) = false := by decide)
    (hpl : ((backTo pos (starEach [] X.env)).any (·.1) || (backToKw pos (keywordEach kws X.env)).any (·.1.isNone)) = false := by rfl) :
    ET X E (.Call (.Name x p) [] kws pos) (rCallN 0 ks.length sp gT aNil tk) := by
  obtain ⟨g, gV, hb, ho⟩ := cb.ex
  exact et_callK F gds hr hg hm hk hb ho hx hkw hall hks hdb hpl
end

/-! ### instances -/
def insOf : T → Store → Option (Addr × List (Str × T))
  | .ins C gs, _ => some (C, gs)
  | .cell a, S => match S a with
    | some (.ins C gs) => some (C, gs)
    | _ => none
  | _, _ => none
def putT (f : Str) (t : T) : List (Str × T) → List (Str × T)
  | [] => [(f, t)]
  | (g, x) :: r => if g = f then (g, t) :: r else (g, x) :: putT f t r
section
variable {K : PySem.W.Frag} {Z : Addr → Prop} {S S1 : Store} {H H1 : Hp}
theorem ins_rep {v : V} {x : T} {C : Addr} {gs : List (Str × T)} (ok : Ok K Z S H) (r : Rep K Z S H v x) (h : insOf x S = some (C, gs)) : ∃ a dx fs, v = .ref a ∧ H a = some (.ins C dx fs) ∧ RepF K Z S H fs gs := by
  cases r <;> try (cases h; done)
  · rename_i a
    have c := ok.cl a
    simp only [insOf] at h
    split at h
    · rename_i C' gs' e
      cases h
      rw [e] at c
      obtain ⟨dx, fs, q, rf⟩ := c
      exact ⟨a, dx, fs, rfl, q, rf⟩
    · cases h
  · rename_i p C' dx fs gs' h1 n rf
    cases h
    exact ⟨p, dx, fs, rfl, h1, rf⟩
theorem RepF.put {fs : List (Str × V)} {gs : List (Str × T)} {f : Str} {v : V} {t : T} (r : RepF K Z S H fs gs) (h : Rep K Z S H v t) : RepF K Z S H (putF f v fs) (putT f t gs) := by
  induction gs generalizing fs with
  | nil => cases r; exact .cons h .nil
  | cons g gs ih =>
    cases r with
    | @cons n w u vs ts q r =>
      unfold putF putT
      by_cases e : n = f
      · rw [if_pos e, if_pos e]; exact .cons h r
      · rw [if_neg e, if_neg e]; exact .cons q (ih r)
end
/-- what the class at C says of an attribute of its instances -/
structure InF (K : PySem.W.Frag) (C : Addr) (f : Str) : Prop where
  cl : Cls K C
  na : NoAttr K C f
/-- .. of a constant of its own -/
structure InC (K : PySem.W.Frag) (C : Addr) (f : Str) (t : T) : Prop where
  cl : Cls K C
  ex : ∃ v u, Con K C f v u ∧ ∀ Z S H, Rep K Z S H v t
section
variable {X : Cx} {E : XK} {a e o : Expr} {es : List Expr} {pos apos cpos : Pos} {ra rb : TR} {t tk : TRA} {f m : Str} {C : Addr}
def rFld (K : PySem.W.Frag) (f : Str) (ra : TR) : TR := fun σ S R RE => ra σ S (fun x S1 => ∃ C gs t, insOf x S1 = some (C, gs) ∧ InF K C f ∧ gs.lookup f = some t ∧ R t S1) RE
theorem et_fld (ha : ET X E a ra) (hb : attributeBase a f X.env (eval a X.env) = eval a X.env := by rfl) : ET X E (.Attribute a f pos) (rFld X.K f ra) :=
  ⟨pe_weak (pe_fld ha.pe hb) fun sl H Q h => UpE.one (k := fun σ x S1 R RE => ∃ C gs t, insOf x S1 = some (C, gs) ∧ InF X.K C f ∧ gs.lookup f = some t ∧ R t S1) h fun Z σ x S1 v H1 R RE fr ok rx kk po xo => by
    obtain ⟨C, gs, t, hi, nf, hl, k⟩ := kk
    obtain ⟨b, dx, fs, rfl, hH, rf⟩ := ins_rep ok rx hi
    obtain ⟨u, hu, ru⟩ := rf.look hl
    exact ⟨b, C, dx, fs, u, rfl, hH, nf.cl, nf.na, hu, po _ _ _ _ k .refl ok ru⟩⟩
def rCon (K : PySem.W.Frag) (f : Str) (ra : TR) : TR := fun σ S R RE => ra σ S (fun x S1 => ∃ C gs t, insOf x S1 = some (C, gs) ∧ InC K C f t ∧ gs.lookup f = none ∧ R t S1) RE
theorem et_con (ha : ET X E a ra) (hb : attributeBase a f X.env (eval a X.env) = eval a X.env := by rfl) : ET X E (.Attribute a f pos) (rCon X.K f ra) :=
  ⟨pe_weak (pe_con ha.pe hb) fun sl H Q h => UpE.one (k := fun σ x S1 R RE => ∃ C gs t, insOf x S1 = some (C, gs) ∧ InC X.K C f t ∧ gs.lookup f = none ∧ R t S1) h fun Z σ x S1 v H1 R RE fr ok rx kk po xo => by
    obtain ⟨C, gs, t, hi, ⟨cl, w, u, cn, rp⟩, hl, k⟩ := kk
    obtain ⟨b, dx, fs, rfl, hH, rf⟩ := ins_rep ok rx hi
    exact ⟨b, C, dx, fs, w, u, rfl, hH, cl, cn, rf.lookN hl, po _ _ _ _ k .refl ok (rp _ _ _)⟩⟩
/-- C.f, f a constant of the class -/
theorem et_cval {mc u : Value} {v : V} {x : Str} {p : Pos} {tt : T} (r : ClX.CRead X.K C mc) (k : ClX.CVal X.K C mc f v u) (rep : ∀ Z S H, Rep X.K Z S H v tt) (hg : Gl X x) (hm : X.mg x = some (.ref C)) (hd : (x == ("__debug__" : Str)) = false := by decide)
    (hb : attributeBase (.Name x p) f X.env (eval (.Name x p) X.env) = eval (.Name x p) X.env := by rfl) : ET X E (.Attribute (.Name x p) f pos) (rC tt) :=
  ⟨pe_weak (ClX.pe_cval (pe_glob (v := .ref C) hg hm rfl hd) hb) fun sl H Q ⟨⟨Z, σ, S, R, RE, fr, ok, w, po, xo⟩⟩ => ⟨C, mc, v, u, rfl, r, k, po _ _ _ _ w .refl ok (rep _ _ _)⟩⟩
/-- o.f = e -/
def sFldT (K : PySem.W.Frag) (f : Str) (rv ra : TR) : TRS := fun D σ S => rv σ S (fun y S1 => ra σ S1 (fun x S2 => ∃ a C gs, x = .cell a ∧ S2 a = some (.ins C gs) ∧ InF K C f ∧ gs.length < 1000 ∧ D.nx σ (S2.put a (.ins C (putT f y gs)))) D.ex) D.ex
theorem ss_fld (ha : ET X E o ra) (hv : ET X E e rb) (hs : swapsWith e (some (.Attribute o f apos)) pos.line X.env = pure false := by rfl) : SS X E (.Assign [.Attribute o f apos] e pos) (sFldT X.K f rb ra) :=
  ⟨ps_weak (ps_fld ha.pe hv.pe hs) fun D sl H h => by
    obtain ⟨Z, σ, S, DT, fr, ok, w, eo, xo⟩ := h.ex
    refine ⟨Z, σ, S, _, DT.ex, fr, ok, w, fun y S1 v H1 k1 le1 ok1 ry => ?_, xo⟩
    refine ⟨Z, σ, S1, _, DT.ex, fr.le le1, ok1, k1, fun x S2 u H2 k2 le2 ok2 rx => ?_, xo.le le1⟩
    obtain ⟨b, C, gs, rfl, hs, nf, hl, k⟩ := k2
    cases rx
    have c := ok2.cl b
    rw [hs] at c
    obtain ⟨dx, fs, hH, rf⟩ := c
    have l3 : Le S2 H2 (S2.put b (.ins C (putT f y gs))) (upd H2 b (.ins C dx (putF f v fs))) := le_setc hs
    exact ⟨b, C, dx, fs, rfl, hH, nf.cl, nf.na, by rw [rf.length]; exact hl, eo.nx _ _ _ _ k ((le1.trans le2).trans l3) (ok2.put l3 (ok2.nzc hs) ⟨dx, _, upd_same, (rf.put (ry.le le2)).le l3⟩) (((fr.le le1).le le2).le l3)⟩⟩
end
/-! ### calls -/
section
variable {X : Cx} {E : XK} {k n : Nat} {f C : Addr} {fd : FuncData} {ps ks : List Str} {sp : SpT} {dts : List T} {x m : Str} {p pos apos : Pos} {e o : Expr} {es : List Expr} {kws : List Keyword} {t tk : TRA} {ra : TR} {gT : List T → List T → List T}
theorem goT {pins : List (Addr × Obj)} {sl : L2.St} {H : Hp} {s : Shared} {Q : VK} {us0 us : List Value} {kw : List (Str × Value)} {vs : List V} (F : FnT X.prog X.w X.K X.mg X.base k f fd ps sp) (gds : X.A.guards = some []) (hr : Room k X.A) (hx : Passes (L2N.CX X.prog X.w) X E)
    (inv : Inv X pins sl H s) (b : BindsTo s fd ⟨us0, kw⟩ (ps.zip us)) (r : Vals vs us) (want : UpF X.K sp vs H Q E) : wpAny (model X.prog X.w) X.A (call (.ref f) us0 kw) (EP X pins sl Q) X.xe s := goG F.fn gds hr hx inv b r want
/-- what a new instance is made by: its __init__ -/
theorem make_t {pins : List (Addr × Obj)} {sl : L2.St} {H : Hp} {s : Shared} {Q : VK} {us : List Value} {kw : List (Str × Value)} {all : Addr → List Value} {vsA : Addr → List V} {G : Addr → List T} {Z : Addr → Prop} {S : Store} {R : T → Store → Prop} {RE : XT}
    (M : Mk X.K C f) (F : FnT X.prog X.w X.K X.mg X.base k f fd ps sp) (gds : X.A.guards = some []) (hr : Room (k + 1) X.A) (hx : Passes (L2N.CX X.prog X.w) X E) (inv : Inv X pins sl H s)
    (b : ∀ (s' : Shared) (u : Addr), X.K.In s'.heap → (all u).length = ps.length → BindsTo s' fd ⟨.ref u :: us, kw⟩ (ps.zip (all u))) (r : ∀ u, Vals (vsA u) (all u)) (ok : Ok X.K Z S H)
    (rp : ∀ u S' H', Le S H S' H' → Reps X.K Z S' H' (vsA u) (G u))
    (want : ∀ u, S u = none → sp (G u) (S.put u (.ins C [])) (fun z S2 => z = .non ∧ ∃ gs, S2 u = some (.ins C gs) ∧ R (.ins C gs) (S2.drop u)) RE) (po : PO X.K Z S H R Q) (xo : XOk X.K Z S H RE E) :
    wpAny (model X.prog X.w) X.A (call (.ref C) us kw) (EP X pins sl Q) X.xe s := by
  have nx : H (s.heap.objs.size + 1) = none := inv.hok.fresh (Nat.le_succ _)
  have nd : H s.heap.objs.size = none := inv.hok.fresh (Nat.le_refl _)
  have ne : s.heap.objs.size + 1 ≠ s.heap.objs.size := Nat.succ_ne_self _
  have I2 := Inv.made (C := C) inv
  have ok1 : Ok X.K Z S (upd H s.heap.objs.size (.own (s.heap.objs.size + 1))) := ok.new nd
  have nx1 : upd H s.heap.objs.size (.own (s.heap.objs.size + 1)) (s.heap.objs.size + 1) = none := by rw [upd_ne ne]; exact nx
  have l2 : Le S (upd H s.heap.objs.size (.own (s.heap.objs.size + 1))) (S.put (s.heap.objs.size + 1) (.ins C [])) (upd (upd H s.heap.objs.size (.own (s.heap.objs.size + 1))) (s.heap.objs.size + 1) (.ins C s.heap.objs.size [])) := le_newc nx1
  have ok2 : Ok X.K Z (S.put (s.heap.objs.size + 1) (.ins C [])) (upd (upd H s.heap.objs.size (.own (s.heap.objs.size + 1))) (s.heap.objs.size + 1) (.ins C s.heap.objs.size [])) := ok1.put l2 (ok1.nz nx1) ⟨_, [], upd_same, .nil⟩
  have le : Le S H (S.put (s.heap.objs.size + 1) (.ins C [])) (upd (upd H s.heap.objs.size (.own (s.heap.objs.size + 1))) (s.heap.objs.size + 1) (.ins C s.heap.objs.size [])) := (le_new nd).trans l2
  have up : UpF X.K sp (vsA (s.heap.objs.size + 1)) (upd (upd H s.heap.objs.size (.own (s.heap.objs.size + 1))) (s.heap.objs.size + 1) (.ins C s.heap.objs.size [])) (fun v H2 => v = .non ∧ Q (.ref (s.heap.objs.size + 1)) H2) E := by
    refine ⟨Z, G _, _, _, RE, rp _ _ _ le, ok2, want _ (ok.free nx), fun z S3 v H3 w l3 ok3 rep => ?_, xo.le le⟩
    obtain ⟨rfl, gs, hs, w⟩ := w
    cases rep
    exact ⟨rfl, po _ _ _ _ w ((le.trans l3).trans le_drop) ok3.drop (.frzI ok3 hs)⟩
  refine wpAny_call (make_map (f := f) inv.kIn M.makes M.init (beq_iff_eq.mp M.fn) (codeAny_mono (F.fn.go _ X.stack _ _ ⟨Value.ref (s.heap.objs.size + 1) :: us, kw⟩ _ _ _ E (by first | exact gds | simpa [Around.under] using gds) (hr.make C us kw) (I2.env0.make C us kw) (b _ _ I2.kIn ((r _).length.symm.trans (F.fn.len _ _ _ _ up))) (r _) up) fun q s' hq => ?_))
  cases q with
  | error er => exact hx pins sl _ _ er s' I2 hq
  | ok fl =>
    cases fl with
    | ret u =>
      obtain ⟨v, H', I3, rv, rfl, q3⟩ := I2.after hq
      exact ⟨rv, V.ref (s.heap.objs.size + 1), H', I3, rfl, q3⟩
    | next => exact hq.elim
    | brk => exact hq.elim
    | cont => exact hq.elim
def rMake (C : Addr) (sp : SpT) (dts : List T) (t : TRA) : TR := fun σ S R RE => t σ S (fun xs S1 => ∀ u, S1 u = none → sp (.cell u :: (xs ++ dts)) (S1.put u (.ins C [])) (fun z S2 => z = .non ∧ ∃ gs, S2 u = some (.ins C gs) ∧ R (.ins C gs) (S2.drop u)) RE) RE
theorem cell_reps {K : PySem.W.Frag} {Z : Addr → Prop} {S : Store} {H : Hp} {u : Addr} {vs : List V} {ts : List T} (r : Reps K Z S H vs ts) : Reps K Z S H (.ref u :: vs) (.cell u :: ts) := .cons (.cell u) r
theorem et_make (M : Mk X.K C f) (F : FnT X.prog X.w X.K X.mg X.base k f fd ps sp) (gds : X.A.guards = some []) (hr : Room (k + 1) X.A) (hg : Gl X x) (hm : X.mg x = some (.ref C)) (cd : CallD X.K fd ps dts) (hx : Passes (L2N.CX X.prog X.w) X E)
    (ha : AT X E (e :: es) t) (hdb : (x == ("__debug__" : Str)) = false := by decide) (he : starEach (e :: es) X.env = (false, eval e X.env) :: starEach es X.env := by rfl) (hpl : (backTo pos (starEach es X.env)).any (·.1) = false := by rfl) :
    ET X E (.Call (.Name x p) (e :: es) [] pos) (rMake C sp dts t) := by
  refine ⟨⟨fun pins s sl H Q I h => ?_⟩⟩
  obtain ⟨Z, σ, S, R, RE, fr, ok, w, po, xo⟩ := h.ex
  obtain ⟨ds, dvs, hb, hd, hdt⟩ := cd.ex
  refine wpAny_Call_Name_kw (ld_glob I hg hm ?_ hdb)
  refine PySem.W.callWith_K (h₀ := X.base) I.ok.mod.kin M.kp (thn (ha.pa.run pos pins s sl H (fun vs H1 => ∃ xs S1, (∀ u, S1 u = none → sp (.cell u :: (xs ++ dts)) (S1.put u (.ins C [])) (fun z S2 => z = .non ∧ ∃ gs, S2 u = some (.ins C gs) ∧ R (.ins C gs) (S2.drop u)) RE) ∧ Le S H S1 H1 ∧ Ok X.K Z S1 H1 ∧ Reps X.K Z S1 H1 vs xs) I
    ⟨Z, σ, S, _, RE, fr, ok, w, fun xs S1 vs H1 k1 l1 o1 r1 => ⟨xs, S1, k1, l1, o1, r1⟩, xo⟩) fun us s1 hu => ?_) he hpl
  obtain ⟨vs, H1, I1, rv, xs, S1, k1, l1, o1, r1⟩ := hu
  refine ⟨I1.kIn, ?_⟩
  exact make_t (us := us) (kw := []) (all := fun u => (Value.ref u :: us) ++ ds) (vsA := fun u => .ref u :: (vs ++ dvs)) (G := fun u => .cell u :: (xs ++ dts)) M F gds hr hx I1 (fun s' u hK hl => hb s' (.ref u :: us) hK hl) (fun u => .cons rfl (rv.append hd)) o1
    (fun u S' H' l => cell_reps ((r1.le l).append (hdt _ _ _))) k1 (po.le l1) (xo.le l1)
theorem et_make0 (M : Mk X.K C f) (F : FnT X.prog X.w X.K X.mg X.base k f fd ps sp) (gds : X.A.guards = some []) (hr : Room (k + 1) X.A) (hg : Gl X x) (hm : X.mg x = some (.ref C)) (cd : CallD X.K fd ps dts) (hx : Passes (L2N.CX X.prog X.w) X E)
    (hdb : (x == ("__debug__" : Str)) = false := by decide) : ET X E (.Call (.Name x p) [] [] pos) (rMake C sp dts aNil) := by
  refine ⟨⟨fun pins s sl H Q I h => ?_⟩⟩
  obtain ⟨Z, σ, S, R, RE, fr, ok, w, po, xo⟩ := h.ex
  obtain ⟨ds, dvs, hb, hd, hdt⟩ := cd.ex
  refine wpAny_Call_Name_kw (ld_glob I hg hm ?_ hdb)
  refine PySem.W.callWith_K0 I.kIn M.kp ?_
  exact make_t (us := []) (kw := []) (all := fun u => [Value.ref u] ++ ds) (vsA := fun u => .ref u :: ([] ++ dvs)) (G := fun u => .cell u :: ([] ++ dts)) M F gds hr hx I (fun s' u hK hl => hb s' [.ref u] hK hl) (fun u => .cons rfl hd) ok
    (fun u S' H' l => cell_reps (hdt _ _ _)) w po xo
/-- with keywords; gT puts the new one and the values in order -/
def rMakeN (C : Addr) (n m : Nat) (sp : SpT) (gT : List T → List T → List T) (t tk : TRA) : TR := fun σ S R RE => t σ S (fun xs S1 => tk σ S1 (fun zs S2 => xs.length = n ∧ zs.length = m ∧
  ∀ u, S2 u = none → sp (gT (.cell u :: xs) zs) (S2.put u (.ins C [])) (fun z S3 => z = .non ∧ ∃ gs, S3 u = some (.ins C gs) ∧ R (.ins C gs) (S3.drop u)) RE) RE) RE
theorem et_makeN (M : Mk X.K C f) (F : FnT X.prog X.w X.K X.mg X.base k f fd ps sp) (gds : X.A.guards = some []) (hr : Room (k + 1) X.A) (hg : Gl X x) (hm : X.mg x = some (.ref C)) (cb : CallB X.K fd ps (n + 1) ks gT) (hx : Passes (L2N.CX X.prog X.w) X E)
    (ha : AT X E (e :: es) t) (hkw : KT X E kws tk) (hall : (backToKw pos (keywordEach kws X.env)).all (·.1.isSome) = true := by rfl) (hks : (backToKw pos (keywordEach kws X.env)).filterMap (·.1) = ks := by rfl)
    (hdb : (x == ("__debug__" : Str)) = false := by decide) (he : starEach (e :: es) X.env = (false, eval e X.env) :: starEach es X.env := by rfl)
    (hpl : ((backTo pos (starEach (e :: es) X.env)).any (·.1) || (backToKw pos (keywordEach kws X.env)).any (·.1.isNone)) = false := by rfl) :
    ET X E (.Call (.Name x p) (e :: es) kws pos) (rMakeN C n ks.length sp gT t tk) := by
  refine ⟨⟨fun pins s sl H Q I h => ?_⟩⟩
  obtain ⟨Z, σ, S, R, RE, fr, ok, w, po, xo⟩ := h.ex
  obtain ⟨g, gV, hb, ho⟩ := cb.ex
  refine wpAny_Call_Name_kw (ld_glob I hg hm ?_ hdb)
  refine PySem.W.callWith_KW (h₀ := X.base) I.ok.mod.kin M.kp hall (thn (ha.pa.run pos pins s sl H (fun vs H1 => ∃ xs S1, tk σ S1 _ RE ∧ Le S H S1 H1 ∧ Ok X.K Z S1 H1 ∧ Reps X.K Z S1 H1 vs xs) I
    ⟨Z, σ, S, _, RE, fr, ok, w, fun xs S1 vs H1 k1 l1 o1 r1 => ⟨xs, S1, k1, l1, o1, r1⟩, xo⟩) fun us s1 hu => ?_) hpl he
  obtain ⟨vs, H1, I1, rv, xs, S1, k1, l1, o1, r1⟩ := hu
  refine thn (hkw.pk.run pos pins s1 sl H1 (fun zvs H2 => ∃ zs S2, (xs.length = n ∧ zs.length = ks.length ∧
    ∀ u, S2 u = none → sp (gT (.cell u :: xs) zs) (S2.put u (.ins C [])) (fun z S3 => z = .non ∧ ∃ gs, S3 u = some (.ins C gs) ∧ R (.ins C gs) (S3.drop u)) RE) ∧ Le S1 H1 S2 H2 ∧ Ok X.K Z S2 H2 ∧ Reps X.K Z S2 H2 zvs zs) I1
    ⟨Z, σ, S1, _, RE, fr.le l1, o1, k1, fun zs S2 zvs H2 k2 l2 o2 r2 => ⟨zs, S2, k2, l2, o2, r2⟩, xo.le l1⟩) fun ws s2 hu => ?_
  obtain ⟨zvs, H2, I2, rz, zs, S2, ⟨e1, e2, k2⟩, l2, o2, r2⟩ := hu
  refine ⟨I2.kIn, ?_⟩
  rw [hks]
  have lu : us.length = n := (rv.length.symm.trans r1.length).trans e1
  have lw : ws.length = ks.length := (rz.length.symm.trans r2.length).trans e2
  exact make_t (us := us) (kw := ks.zip ws) (all := fun u => g (Value.ref u :: us) ws) (vsA := fun u => gV (.ref u :: vs) zvs) (G := fun u => gT (.cell u :: xs) zs) M F gds hr hx I2 (fun s' u hK hl => hb.to s' (.ref u :: us) ws hK (by simp [lu]) lw) (fun u => hb.rel (.cons rfl rv) rz) o2
    (fun u S' H' l => ho _ _ _ _ _ _ _ (cell_reps ((r1.le l2).le l)) (r2.le l)) k2 (po.le (l1.trans l2)) (xo.le (l1.trans l2))
theorem et_makeK0 (M : Mk X.K C f) (F : FnT X.prog X.w X.K X.mg X.base k f fd ps sp) (gds : X.A.guards = some []) (hr : Room (k + 1) X.A) (hg : Gl X x) (hm : X.mg x = some (.ref C)) (cb : CallB X.K fd ps 1 ks gT) (hx : Passes (L2N.CX X.prog X.w) X E)
    (hkw : KT X E kws tk) (hall : (backToKw pos (keywordEach kws X.env)).all (·.1.isSome) = true := by rfl) (hks : (backToKw pos (keywordEach kws X.env)).filterMap (·.1) = ks := by rfl)
    (hdb : (x == ("__debug__" : Str)) = false := by decide)
    (hpl : ((backTo pos (starEach [] X.env)).any (·.1) || (backToKw pos (keywordEach kws X.env)).any (·.1.isNone)) = false := by rfl) :
    ET X E (.Call (.Name x p) [] kws pos) (rMakeN C 0 ks.length sp gT aNil tk) := by
  refine ⟨⟨fun pins s sl H Q I h => ?_⟩⟩
  obtain ⟨Z, σ, S, R, RE, fr, ok, w, po, xo⟩ := h.ex
  obtain ⟨g, gV, hb, ho⟩ := cb.ex
  refine wpAny_Call_Name_kw (ld_glob I hg hm ?_ hdb)
  refine PySem.W.callWith_KW0 (h₀ := X.base) I.ok.mod.kin M.kp hall ?_ hpl
  refine thn (hkw.pk.run pos pins s sl H (fun zvs H2 => ∃ zs S2, (([] : List T).length = 0 ∧ zs.length = ks.length ∧
    ∀ u, S2 u = none → sp (gT [.cell u] zs) (S2.put u (.ins C [])) (fun z S3 => z = .non ∧ ∃ gs, S3 u = some (.ins C gs) ∧ R (.ins C gs) (S3.drop u)) RE) ∧ Le S H S2 H2 ∧ Ok X.K Z S2 H2 ∧ Reps X.K Z S2 H2 zvs zs) I
    ⟨Z, σ, S, _, RE, fr, ok, w, fun zs S2 zvs H2 k2 l2 o2 r2 => ⟨zs, S2, k2, l2, o2, r2⟩, xo⟩) fun ws s2 hu => ?_
  obtain ⟨zvs, H2, I2, rz, zs, S2, ⟨e1, e2, k2⟩, l2, o2, r2⟩ := hu
  refine ⟨I2.kIn, ?_⟩
  rw [hks]
  have lw : ws.length = ks.length := (rz.length.symm.trans r2.length).trans e2
  exact make_t (us := []) (kw := ks.zip ws) (all := fun u => g [Value.ref u] ws) (vsA := fun u => gV [.ref u] zvs) (G := fun u => gT [.cell u] zs) M F gds hr hx I2 (fun s' u hK hl => hb.to s' [.ref u] ws hK rfl lw) (fun u => hb.rel (.cons rfl .nil) rz) o2
    (fun u S' H' l => ho _ _ _ _ _ _ _ (cell_reps .nil) (r2.le l)) k2 (po.le l2) (xo.le l2)
/-! methods; D tells which promise the method has at which class -/
structure MetD (X : Cx) (m : Str) (dts : List T) (D : Addr → SpT → Prop) : Prop where
  at_ : ∀ C sp, D C sp → ∃ k f fd ps, Cls X.K C ∧ Meth X.K C m f ∧ FnT X.prog X.w X.K X.mg X.base k f fd ps sp ∧ Room k X.A ∧ CallD X.K fd ps dts
/-- just one class -/
def one (C : Addr) (sp : SpT) : Addr → SpT → Prop := fun C' sp' => C' = C ∧ sp' = sp
theorem MetD.one (c : Cls X.K C) (hm : Meth X.K C m f) (F : FnT X.prog X.w X.K X.mg X.base k f fd ps sp) (hr : Room k X.A) (cd : CallD X.K fd ps dts) : MetD X m dts (one C sp) := ⟨fun C' sp' ⟨e1, e2⟩ => by
  subst e1 e2
  exact ⟨k, f, fd, ps, c, hm, F, hr, cd⟩⟩
def rMeth (D : Addr → SpT → Prop) (m : Str) (dts : List T) (ra : TR) (t : TRA) : TR := fun σ S R RE => ra σ S (fun x S1 => ∃ C gs sp, insOf x S1 = some (C, gs) ∧ D C sp ∧ gs.lookup m = none ∧ t σ S1 (fun xs S2 => sp (x :: (xs ++ dts)) S2 R RE) RE) RE
variable {D : Addr → SpT → Prop}
theorem et_meth {pl : Sem Bool} (M : MetD X m dts D) (gds : X.A.guards = some []) (hx : Passes (L2N.CX X.prog X.w) X E) (ho : ET X E o ra) (ha : AT X E (e :: es) t)
    (hst : starEach (e :: es) X.env = (false, eval e X.env) :: starEach es X.env := by rfl) (hpl : (backTo pos (starEach es X.env)).any (·.1) = false := by rfl)
    (ht : eval (.Call (.Attribute o m apos) (e :: es) [] pos) X.env = ((eval o X.env) >>= fun ov => standAt apos.atName >>= fun _ => holding [ov] (getMethod ov m pl) >>= fun g => callWith pos g.1 g.2 (backTo pos (starEach (e :: es) X.env)) (backToKw pos (keywordEach [] X.env))) := by rfl) :
    ET X E (.Call (.Attribute o m apos) (e :: es) [] pos) (rMeth D m dts ra t) := by
  refine ⟨⟨fun pins s sl H Q I h => ?_⟩⟩
  obtain ⟨Z, σ, S, R, RE, fr, ok, w, po, xo⟩ := h.ex
  refine PySem.W.methodCall_KW (pl := pl) (thn (ho.pe.run pins s sl H (fun v H1 => ∃ x S1, _ ∧ Le S H S1 H1 ∧ Ok X.K Z S1 H1 ∧ Rep X.K Z S1 H1 v x) I ⟨Z, σ, S, _, RE, fr, ok, w, fun x S1 v H1 k1 l1 o1 r1 => ⟨x, S1, k1, l1, o1, r1⟩, xo⟩) fun u s1 hu => ?_) ht
  obtain ⟨v, H1, I1, rv, x, S1, ⟨C, gs, sp, hi, hD, hn, k1⟩, l1, o1, r1⟩ := hu
  obtain ⟨a, dx, fs, rfl, hH, rf⟩ := ins_rep o1 r1 hi
  obtain rfl : u = Value.ref a := rv
  obtain ⟨kk, g, fd, ps, c, hm, F, hr, cd⟩ := M.at_ C sp hD
  obtain ⟨ds, dvs, hb, hd, hdt⟩ := cd.ex
  refine getmeth_ok I1 hH c hm (rf.lookN hn) ?_
  refine PySem.W.callWith_K (first := [.ref a]) (h₀ := X.base) I.ok.mod.kin hm.kp (thn (ha.pa.run pos pins s1 sl H1 (fun vs H2 => ∃ xs S2, _ ∧ Le S1 H1 S2 H2 ∧ Ok X.K Z S2 H2 ∧ Reps X.K Z S2 H2 vs xs) I1 ⟨Z, σ, S1, _, RE, fr.le l1, o1, k1, fun xs S2 vs H2 k2 l2 o2 r2 => ⟨xs, S2, k2, l2, o2, r2⟩, xo.le l1⟩) fun us s2 hu => ?_) hst hpl
  obtain ⟨vs, H2, I2, rvs, xs, S2, k2, l2, o2, r2⟩ := hu
  refine ⟨I2.kIn, ?_⟩
  have up : UpF X.K sp (.ref a :: (vs ++ dvs)) H2 Q E := ⟨Z, _, S2, R, RE, .cons (r1.le l2) (r2.append (hdt _ _ _)), o2, k2, (po.le l1).le l2, (xo.le l1).le l2⟩
  have vv : Vals (V.ref a :: (vs ++ dvs)) ((Value.ref a :: us) ++ ds) := .cons rfl (rvs.append hd)
  exact goT F gds hr hx I2 (hb s2 (.ref a :: us) I2.kIn (vv.length.symm.trans (F.fn.len _ _ _ _ up))) vv up
theorem et_meth0 {pl : Sem Bool} (M : MetD X m dts D) (gds : X.A.guards = some []) (hx : Passes (L2N.CX X.prog X.w) X E) (ho : ET X E o ra)
    (ht : eval (.Call (.Attribute o m apos) [] [] pos) X.env = ((eval o X.env) >>= fun ov => standAt apos.atName >>= fun _ => holding [ov] (getMethod ov m pl) >>= fun g => callWith pos g.1 g.2 (backTo pos (starEach [] X.env)) (backToKw pos (keywordEach [] X.env))) := by rfl) :
    ET X E (.Call (.Attribute o m apos) [] [] pos) (rMeth D m dts ra aNil) := by
  refine ⟨⟨fun pins s sl H Q I h => ?_⟩⟩
  obtain ⟨Z, σ, S, R, RE, fr, ok, w, po, xo⟩ := h.ex
  refine PySem.W.methodCall_KW (pl := pl) (thn (ho.pe.run pins s sl H (fun v H1 => ∃ x S1, _ ∧ Le S H S1 H1 ∧ Ok X.K Z S1 H1 ∧ Rep X.K Z S1 H1 v x) I ⟨Z, σ, S, _, RE, fr, ok, w, fun x S1 v H1 k1 l1 o1 r1 => ⟨x, S1, k1, l1, o1, r1⟩, xo⟩) fun u s1 hu => ?_) ht
  obtain ⟨v, H1, I1, rv, x, S1, ⟨C, gs, sp, hi, hD, hn, k1⟩, l1, o1, r1⟩ := hu
  obtain ⟨a, dx, fs, rfl, hH, rf⟩ := ins_rep o1 r1 hi
  obtain rfl : u = Value.ref a := rv
  obtain ⟨kk, g, fd, ps, c, hm, F, hr, cd⟩ := M.at_ C sp hD
  obtain ⟨ds, dvs, hb, hd, hdt⟩ := cd.ex
  refine getmeth_ok I1 hH c hm (rf.lookN hn) ?_
  refine PySem.W.callWith_K0 (first := [.ref a]) I1.kIn hm.kp ?_
  have up : UpF X.K sp (.ref a :: dvs) H1 Q E := ⟨Z, _, S1, R, RE, .cons r1 (hdt _ _ _), o1, k1, po.le l1, xo.le l1⟩
  have vv : Vals (V.ref a :: dvs) ([Value.ref a] ++ ds) := .cons rfl hd
  exact goT F gds hr hx I1 (hb s1 [.ref a] I1.kIn (vv.length.symm.trans (F.fn.len _ _ _ _ up))) vv up
/-- .. with keywords alone -/
structure MetB (X : Cx) (m : Str) (ks : List Str) (gT : List T → List T → List T) (D : Addr → SpT → Prop) : Prop where
  at_ : ∀ C sp, D C sp → ∃ k f fd ps, Cls X.K C ∧ Meth X.K C m f ∧ FnT X.prog X.w X.K X.mg X.base k f fd ps sp ∧ Room k X.A ∧ CallB X.K fd ps 1 ks gT
def rMethK (D : Addr → SpT → Prop) (m : Str) (n : Nat) (gT : List T → List T → List T) (ra : TR) (tk : TRA) : TR := fun σ S R RE => ra σ S (fun x S1 => ∃ C gs sp, insOf x S1 = some (C, gs) ∧ D C sp ∧ gs.lookup m = none ∧ tk σ S1 (fun zs S2 => zs.length = n ∧ sp (gT [x] zs) S2 R RE) RE) RE
theorem et_methK {pl : Sem Bool} (M : MetB X m ks gT D) (gds : X.A.guards = some []) (hx : Passes (L2N.CX X.prog X.w) X E) (ho : ET X E o ra) (hkw : KT X E kws tk)
    (hall : (backToKw pos (keywordEach kws X.env)).all (·.1.isSome) = true := by rfl) (hks : (backToKw pos (keywordEach kws X.env)).filterMap (·.1) = ks := by rfl)
    (hpl : ((backTo pos (starEach [] X.env)).any (·.1) || (backToKw pos (keywordEach kws X.env)).any (·.1.isNone)) = false := by rfl)
    (ht : eval (.Call (.Attribute o m apos) [] kws pos) X.env = ((eval o X.env) >>= fun ov => standAt apos.atName >>= fun _ => holding [ov] (getMethod ov m pl) >>= fun g => callWith pos g.1 g.2 (backTo pos (starEach [] X.env)) (backToKw pos (keywordEach kws X.env))) := by rfl) :
    ET X E (.Call (.Attribute o m apos) [] kws pos) (rMethK D m ks.length gT ra tk) := by
  refine ⟨⟨fun pins s sl H Q I h => ?_⟩⟩
  obtain ⟨Z, σ, S, R, RE, fr, ok, w, po, xo⟩ := h.ex
  refine PySem.W.methodCall_KW (pl := pl) (thn (ho.pe.run pins s sl H (fun v H1 => ∃ x S1, _ ∧ Le S H S1 H1 ∧ Ok X.K Z S1 H1 ∧ Rep X.K Z S1 H1 v x) I ⟨Z, σ, S, _, RE, fr, ok, w, fun x S1 v H1 k1 l1 o1 r1 => ⟨x, S1, k1, l1, o1, r1⟩, xo⟩) fun u s1 hu => ?_) ht
  obtain ⟨v, H1, I1, rv, x, S1, ⟨C, gs, sp, hi, hD, hn, k1⟩, l1, o1, r1⟩ := hu
  obtain ⟨a, dx, fs, rfl, hH, rf⟩ := ins_rep o1 r1 hi
  obtain rfl : u = Value.ref a := rv
  obtain ⟨kk, g, fd, ps, c, hm, F, hr, cb⟩ := M.at_ C sp hD
  obtain ⟨g2, gV, hb, hor⟩ := cb.ex
  refine getmeth_ok I1 hH c hm (rf.lookN hn) ?_
  refine PySem.W.callWith_KW0 (first := [.ref a]) (h₀ := X.base) I.ok.mod.kin hm.kp hall ?_ hpl
  refine thn (hkw.pk.run pos pins s1 sl H1 (fun zvs H2 => ∃ zs S2, (zs.length = ks.length ∧ sp (gT [x] zs) S2 R RE) ∧ Le S1 H1 S2 H2 ∧ Ok X.K Z S2 H2 ∧ Reps X.K Z S2 H2 zvs zs) I1 ⟨Z, σ, S1, _, RE, fr.le l1, o1, k1, fun zs S2 zvs H2 k2 l2 o2 r2 => ⟨zs, S2, k2, l2, o2, r2⟩, xo.le l1⟩) fun ws s2 hu => ?_
  obtain ⟨zvs, H2, I2, rz, zs, S2, ⟨e2, k2⟩, l2, o2, r2⟩ := hu
  refine ⟨I2.kIn, ?_⟩
  rw [hks]
  have lw : ws.length = ks.length := (rz.length.symm.trans r2.length).trans e2
  have up : UpF X.K sp (gV [.ref a] zvs) H2 Q E := ⟨Z, _, S2, R, RE, hor _ _ _ _ _ _ _ (.cons (r1.le l2) .nil) r2, o2, k2, (po.le l1).le l2, (xo.le l1).le l2⟩
  exact goT F gds hr hx I2 (hb.to s2 [.ref a] ws I2.kIn rfl lw) (hb.rel (vs := [V.ref a]) (.cons rfl .nil) rz) up
end

section
variable {X : Cx} {E : XK} {k n : Nat} {f g C q : Addr} {fd : FuncData} {ps ks : List Str} {sp : SpT} {dts : List T} {x m : Str} {p pos apos : Pos} {e o a b : Expr} {es : List Expr} {kws : List Keyword} {t tk : TRA} {ra rb : TR}
/-! ### properties -/
structure PrpD (X : Cx) (m : Str) (D : Addr → SpT → Prop) : Prop where
  at_ : ∀ C sp, D C sp → ∃ k p g fd ps, Cls X.K C ∧ PropOf X.K C m p g ∧ FnT X.prog X.w X.K X.mg X.base k g fd ps sp ∧ Room (k + 1) X.A ∧ Binds X.K fd ps []
theorem PrpD.one (c : Cls X.K C) (hp : PropOf X.K C m q g) (F : FnT X.prog X.w X.K X.mg X.base k g fd ps sp) (hr : Room (k + 1) X.A) (hb : Binds X.K fd ps []) : PrpD X m (one C sp) := ⟨fun C' sp' ⟨e1, e2⟩ => by
  subst e1 e2
  exact ⟨k, q, g, fd, ps, c, hp, F, hr, hb⟩⟩
def rProp (D : Addr → SpT → Prop) (ra : TR) : TR := fun σ S R RE => ra σ S (fun x S1 => ∃ C gs sp, insOf x S1 = some (C, gs) ∧ D C sp ∧ sp [x] S1 R XF) RE
variable {D : Addr → SpT → Prop}
theorem et_prop (M : PrpD X m D) (gds : X.A.guards = some []) (ha : ET X E a ra) (hab : attributeBase a m X.env (eval a X.env) = eval a X.env := by rfl) : ET X E (.Attribute a m pos) (rProp D ra) := by
  refine ⟨⟨fun pins s sl H Q I h => ?_⟩⟩
  obtain ⟨Z, σ, S, R, RE, fr, ok, w, po, xo⟩ := h.ex
  refine attr_of hab (thn (ha.pe.run pins s sl H (fun v H1 => ∃ x S1, _ ∧ Le S H S1 H1 ∧ Ok X.K Z S1 H1 ∧ Rep X.K Z S1 H1 v x) I ⟨Z, σ, S, _, RE, fr, ok, w, fun x S1 v H1 k1 l1 o1 r1 => ⟨x, S1, k1, l1, o1, r1⟩, xo⟩) fun u s1 hu => ?_)
  obtain ⟨v, H1, I1, rv, x, S1, ⟨C, gs, sp, hi, hD, k1⟩, l1, o1, r1⟩ := hu
  obtain ⟨i, dx, fs, rfl, hH, rf⟩ := ins_rep o1 r1 hi
  obtain rfl : u = Value.ref i := rv
  obtain ⟨kk, pp, gg, fd, ps, c, hp, F, hr, hb⟩ := M.at_ C sp hD
  obtain ⟨mA, O, _⟩ := ins_get I1.hok hH
  obtain ⟨od, J, _⟩ := O.look
  obtain ⟨rest, hrec⟩ := hp.rec_
  have I2 := I1.tok (s1.toks + 1)
  have hc : (PySem.W.clsIn X.K C).isSome = true := by
    obtain ⟨cd, e1, _⟩ := PySem.W.any_some c.hd
    rw [e1]
    rfl
  have up : UpF X.K sp [.ref i] H1 Q EF := ⟨Z, _, S1, R, XF, .cons r1 .nil, o1, k1, po.le l1, fun _ _ _ _ _ _ z => z.elim⟩
  refine PySem.W.get_bind I1.kIn J (PySem.W.plainGet_of (c.get m)).1 (PySem.W.findObj_data hc hp.at_ hp.get hp.tak) (PySem.W.plainGet_of (c.get m)).2 (wpAny_call (PySem.W.prop_get (s := { s1 with toks := s1.toks + 1 }) I1.kIn hrec ?_))
  refine codeAny_mono (F.fn.go X.A.in1 X.stack { s1 with toks := s1.toks + 1 } H1 ⟨[.ref i], []⟩ ([Value.ref i] ++ []) [V.ref i] Q EF (by first | exact gds | simpa [Around.in1] using gds) hr.in1 I2.env0.in1 (hb _ [.ref i] I2.kIn (F.fn.len _ _ _ _ up)) (show Vals [V.ref i] [Value.ref i] from .cons rfl .nil) up) fun z s' hq => ?_
  cases z with
  | error er => exact (passN (X := X.nox) pins sl H1 { s1 with toks := s1.toks + 1 } er s' (I2.wish _) hq).elim
  | ok fl =>
    cases fl with
    | ret u =>
      obtain ⟨v, H', I3, rv, q3⟩ := I2.after hq
      show wpAny _ _ (handedOut u) _ _ _
      rw [PySem.W.handedOut_of (handed_of rv)]
      exact wpAny_pure ⟨v, H', I3, rv, q3⟩
    | next => exact hq.elim
    | brk => exact hq.elim
    | cont => exact hq.elim
/-! ### C.f(..), f a plain def of the class; C.m(..), m a classmethod -/
def rClsFn (sp : SpT) (dts : List T) (t : TRA) : TR := fun σ S R RE => t σ S (fun xs S1 => sp (xs ++ dts) S1 R RE) RE
theorem et_clsfn {mc : Value} {pl : Sem Bool} (r : ClX.CRead X.K C mc) (hv : PySem.W.findCls X.K (.ref C) mc m = some (.val (.ref f))) (hk : PySem.W.keepIn X.K (.ref f) = true) (F : FnT X.prog X.w X.K X.mg X.base k f fd ps sp) (cd : CallD X.K fd ps dts) (hr : Room k X.A) (gds : X.A.guards = some []) (hx : Passes (L2N.CX X.prog X.w) X E)
    (hg : Gl X x) (hm : X.mg x = some (.ref C)) (ha : AT X E (e :: es) t) (hd : (x == ("__debug__" : Str)) = false := by decide)
    (hst : starEach (e :: es) X.env = (false, eval e X.env) :: starEach es X.env := by rfl) (hpl : (backTo pos (starEach es X.env)).any (·.1) = false := by rfl)
    (ht : eval (.Call (.Attribute (.Name x p) m apos) (e :: es) [] pos) X.env = ((eval (.Name x p) X.env) >>= fun ov => standAt apos.atName >>= fun _ => holding [ov] (getMethod ov m pl) >>= fun g => callWith pos g.1 g.2 (backTo pos (starEach (e :: es) X.env)) (backToKw pos (keywordEach [] X.env))) := by rfl) :
    ET X E (.Call (.Attribute (.Name x p) m apos) (e :: es) [] pos) (rClsFn sp dts t) := by
  refine ⟨⟨fun pins s sl H Q I h => ?_⟩⟩
  obtain ⟨Z, σ, S, R, RE, fr, ok, w, po, xo⟩ := h.ex
  obtain ⟨ds, dvs, hb, hd2, hdt⟩ := cd.ex
  refine PySem.W.methodCall_KW (pl := pl) (thn ((pe_glob (pos := p) (v := .ref C) hg hm rfl hd).run pins s sl H (fun v H1 => v = .ref C ∧ H1 = H) I ⟨rfl, rfl⟩) fun u s1 hu => ?_) ht
  obtain ⟨v, H1, I1, rv, rfl, rfl⟩ := hu
  obtain rfl : u = Value.ref C := rv
  refine PySem.W.method_cls I1.kIn r.ga (PySem.W.cls_value I1.kIn r.rd hv (handed_of (v := .ref f) rfl) ?_)
  have I2 := I1.tok (s1.toks + 1)
  refine PySem.W.callWith_K (first := []) (h₀ := X.base) I.ok.mod.kin hk (thn (ha.pa.run pos pins _ sl _ (fun vs H2 => ∃ xs S2, _ ∧ Le S H1 S2 H2 ∧ Ok X.K Z S2 H2 ∧ Reps X.K Z S2 H2 vs xs) I2 ⟨Z, σ, S, _, RE, fr, ok, w, fun xs S2 vs H2 k2 l2 o2 r2 => ⟨xs, S2, k2, l2, o2, r2⟩, xo⟩) fun us s2 hu => ?_) hst hpl
  obtain ⟨vs, H2, I3, rvs, xs, S2, k2, l2, o2, r2⟩ := hu
  refine ⟨I3.kIn, ?_⟩
  have up : UpF X.K sp (vs ++ dvs) H2 Q E := ⟨Z, _, S2, R, RE, r2.append (hdt _ _ _), o2, k2, po.le l2, xo.le l2⟩
  have vv : Vals (vs ++ dvs) (us ++ ds) := rvs.append hd2
  exact goT F gds hr hx I3 (hb s2 us I3.kIn (vv.length.symm.trans (F.fn.len _ _ _ _ up))) vv up
end

theorem cxUpN {P : Program} {w : World} : StX.CXUp (L2N.CX P w) := by
  intro outer s H s2 H2 E e s' un kp same cx
  obtain ⟨a, B, H', cls, d, ea, fl, hok, ub, na, os, ag, he⟩ := cx
  refine ⟨a, B, H', cls, d, ea, fl, hok, ?_, na, os.trans same, ag, he⟩
  exact {
    keep := fun b o q n hb => ub.keep b o (kp b o q) (un.free b o q n (by simp)) hb
    slot := fun b o q hb => ub.slot b o (kp b o q) hb
    free := fun b o q n => ub.free b o (kp b o q) (un.free b o q n (by simp))
    there := fun b o q hb => ub.there b o (kp b o q) hb
    tups := fun b xs q => ub.tups b xs (un.tups b xs q)
    frzs := fun b o xs q => ub.frzs b o xs (un.frzs b o xs q)
    tbls := fun b ps q => by
      obtain ⟨m1, e1⟩ := un.tbls b ps q
      obtain ⟨m2, e2⟩ := ub.tbls b _ e1
      exact ⟨m1 ++ m2, by rw [e2, Array.append_assoc]⟩ }

/-! ### defs with *args alone -/
structure FnS (P : Program) (w : World) (K : PySem.W.Frag) (mg : Str → Option Value) (base : Heap) (k : Nat) (f : Addr) (sp : SpT) : Prop where
  go : ∀ (A : Around) (out : List Env) (s : Shared) (H : Hp) (us : List Value) (vs : List V) (Q : VK) (E : XK), A.guards = some [] → Room k A → Env0 P w K mg base A out s H → Vals vs us → UpF K sp vs H Q E →
    codeAny (model P w) A (.call (.ref f) ⟨us, []⟩) (CR (L2N.CX P w) out P w H s Q E) s
section
variable {P : Program} {w : World} {K : PySem.W.Frag} {mg : Str → Option Value} {base : Heap} {k : Nat} {f : Addr} {fd : FuncData} {sp : SpT}
theorem okTS {x qual pv : Str} {st : Stmt} {N : List Str} {r : TRS} (F : Fun K x qual st f fd) (S : FnScope N [pv] (defScope st))
    (hb : ∀ us : List Value, bindArgs fd ⟨us, []⟩ = (newTuple us >>= fun t => pure [(pv, t)]))
    (bs : ∀ (cdv : Value) (A : Around) (out : List Env) (s : Shared) (H : Hp) (E : XK), A.guards = some [] → Room k (A.deeper (envOfC qual (defScope st) s.heap.objs.size f cdv)) → BS (cxT P w K mg base N qual (defScope st) f cdv A out s H E) E (defBody st) r)
    (hsp : ∀ ts S R RE, sp ts S R RE → ts.length ≤ sizeLine ∧ r { nx := fun _ S' => R .non S', rt := R, ex := RE } (startT N [.tup ts]) S) : FnS P w K mg base (k + 1) f sp := by
  obtain ⟨_, _, _, _, _, _, cdv, _, _, e, lk, code⟩ := F.ex
  subst e
  refine ⟨fun A out s H us vs Q E gds hr e0 rv up => ?_⟩
  obtain ⟨Z, ts, S0, R, RE, rs, ok, h, po, xo⟩ := up.ex
  obtain ⟨hl, h⟩ := hsp ts S0 R RE h
  have lv : vs.length ≤ sizeLine := by rw [rs.length]; exact hl
  have lu : us.length ≤ sizeLine := by rw [← rv.length]; exact lv
  have hn : H s.heap.objs.size = Option.none := e0.hok.fresh (Nat.le_refl _)
  refine StX.run_bnd lk code S hr e0 (G := fun xs H2 => ∃ p, H p = Option.none ∧ xs = [V.ref p] ∧ H2 = upd H p (.tup vs)) (fun A' Ex Q' g => ?_) fun s2 H2 xs ⟨p, hp, ex, eH⟩ hr' => ?_
  · rw [hb us]
    refine wpAny_bind (wpAny_newTuple (wpAny_pure ?_) lu)
    have made : ObjOk P w (upd H s.heap.objs.size (.tup vs)) (s.heap.push ({ cls := .type "tuple", data := .seq us.toArray } : Obj)) s.heap.objs.size (.tup vs) := ⟨lv, us, rv, ⟨_, Heap.get?_push_size _ rfl, rfl, _, rfl⟩⟩
    have un := StX.un_laid (fs := frs out) (s := s) (o := ({ cls := .type "tuple", data := .seq us.toArray } : Obj)) (u := .tup vs) hn
    exact g _ _ [V.ref s.heap.objs.size] [Value.ref s.heap.objs.size] (StX.env0_laid e0 made) un rfl (fun e s' => cxUpN out s H _ _ E e s' un (fun b o q => Heap.get?_push_of_some _ q) rfl) (.cons rfl .nil) rfl ⟨_, hn, rfl, rfl⟩
  · subst ex eH
    refine ⟨_, (bs cdv A out s2 _ E gds hr').ps, Z, startT N [.tup ts], S0, _, FrR.start (.cons (.tupN ok hp rs) .nil), ok.new hp, h, ⟨fun σ' S' sl' H' r' le' ok' _ => po _ S' _ H' r' ((le_new hp).trans le') ok' .non, po.le (le_new hp), fun _ _ _ _ z => z.elim, fun _ _ _ _ z => z.elim⟩, xo.le (le_new hp)⟩
end
section
variable {X : Cx} {E : XK} {k : Nat} {f : Addr} {sp : SpT} {x : Str} {p pos : Pos} {e : Expr} {es : List Expr} {t : TRA}
theorem goS {pins : List (Addr × Obj)} {sl : L2.St} {H : Hp} {s : Shared} {Q : VK} {us : List Value} {vs : List V} (F : FnS X.prog X.w X.K X.mg X.base k f sp) (gds : X.A.guards = some []) (hr : Room k X.A) (hx : Passes (L2N.CX X.prog X.w) X E)
    (inv : Inv X pins sl H s) (r : Vals vs us) (want : UpF X.K sp vs H Q E) : wpAny (model X.prog X.w) X.A (call (.ref f) us) (EP X pins sl Q) X.xe s := by
  refine wpAny_call (codeAny_mono (F.go X.A X.stack s H us vs Q E gds hr inv.env0 r want) fun r s' got => ?_)
  cases r with
  | error er => exact hx pins sl H s er s' inv got
  | ok fl =>
    cases fl with
    | ret u => exact inv.after got
    | next => exact got.elim
    | brk => exact got.elim
    | cont => exact got.elim
def rCallS (sp : SpT) (t : TRA) : TR := fun σ S R RE => t σ S (fun xs S1 => sp xs S1 R RE) RE
theorem et_callS (F : FnS X.prog X.w X.K X.mg X.base k f sp) (gds : X.A.guards = some []) (hr : Room k X.A) (hg : Gl X x) (hm : X.mg x = some (.ref f)) (hk : PySem.W.keepIn X.K (.ref f) = true) (hx : Passes (L2N.CX X.prog X.w) X E)
    (ha : AT X E (e :: es) t) (hdb : (x == ("__debug__" : Str)) = false := by decide) (he : starEach (e :: es) X.env = (false, eval e X.env) :: starEach es X.env := by rfl) (hpl : (backTo pos (starEach es X.env)).any (·.1) = false := by rfl) :
    ET X E (.Call (.Name x p) (e :: es) [] pos) (rCallS sp t) := by
  refine ⟨⟨fun pins s sl H Q I h => ?_⟩⟩
  obtain ⟨Z, σ, S, R, RE, fr, ok, w, po, xo⟩ := h.ex
  refine wpAny_Call_Name_kw (ld_glob I hg hm ?_ hdb)
  refine PySem.W.callWith_K (h₀ := X.base) I.ok.mod.kin hk (thn (ha.pa.run pos pins s sl H (fun vs H1 => ∃ xs S1, sp xs S1 R RE ∧ Le S H S1 H1 ∧ Ok X.K Z S1 H1 ∧ Reps X.K Z S1 H1 vs xs) I
    ⟨Z, σ, S, _, RE, fr, ok, w, fun xs S1 vs H1 k1 l1 o1 r1 => ⟨xs, S1, k1, l1, o1, r1⟩, xo⟩) fun us s1 hu => ?_) he hpl
  obtain ⟨vs, H1, I1, rv, xs, S1, k1, l1, o1, r1⟩ := hu
  exact ⟨I1.kIn, goS F gds hr hx I1 rv ⟨Z, xs, S1, R, RE, r1, o1, k1, po.le l1, xo.le l1⟩⟩
end
/-! x * y where x's class has the def and y is of a built-in type, or of that class too -/
section
open PySem.W PySem.Calls PyProof.Rows
variable {prog : Program} {w : World} {A : Around} {E : Value → Shared → Prop} {s : Shared} {K : Frag} {x C L f : Addr} {h₀ : Heap} {m : Str → Option Value} {ox : Obj} {od : Option Obj} {T : String}
theorem binT {op : Operator} {b : Value} {fo ro rc : Option Value} {Q : Value → Shared → Prop} (F : PyProof.Rows.Fr h₀ L s.heap m) (X₀ : K.In h₀) (I : InstAt s.heap x ox C od) (ty : Looks (model prog w) s.heap (typeOf b) (.type T)) (first_ : selfFirst K C = true)
    (at_ : findIn K (.ref C) (PySem.dunder op.info.2) = some (some (.ref f))) (fn : isFn K (.ref f) = true) (right_ : findIn K (.ref C) (dunderR op.info.2) = some rc) (rp : rc = none ∨ ∃ g : Addr, rc = some (.ref g))
    (t1 : findIn K (.type T) (PySem.dunder op.info.2) = some fo) (t2 : findIn K (.type T) (dunderR op.info.2) = some ro) (no : subIn K (.type T) (.ref C) = some false)
    (h : wpAny (model prog w) A (call (.ref f) [.ref x, b]) (PySem.W.CmpBack Q) E s) : wpAny (model prog w) A (binaryOp op (.ref x) b) Q E s := by
  have X := X₀.keeps F.keep
  obtain ⟨cd, rest, hcd, hm⟩ := ksp_first first_
  rcases hi : op.info with ⟨sym, nm'⟩
  rw [hi] at at_ right_ t1 t2
  dsimp only at at_ right_ t1 t2
  have one := ksp_try X I at_ fn h
  obtain ⟨hh, g, d, tt, os⟩ := s
  have L1 : Looks (model prog w) hh (typeOf (.ref x)) (.ref C) := I.type
  have L2 : Looks (model prog w) hh (typeOf b) (.type T) := ty
  have L3 : Looks (model prog w) hh (fillsNumberSlot (.ref C) nm') true := fills_K X hcd hm at_
  have L4 : Looks (model prog w) hh (fillsNumberSlot (.type T) nm') ((fo.isSome && !isSeqSlot fo) || (ro.isSome && !isSeqSlot ro)) := ksp_fillsT X t1 t2
  have L5 : Looks (model prog w) hh (isSubtype (.type T) (.ref C)) false := looks_subIn X no
  have L6 : Looks (model prog w) hh (numberSlotInPython (.ref C) nm') true := ksp_inPy X at_ right_ rp
  have L7 : Looks (model prog w) hh (numberSlotInPython (.type T) nm') false := Looks.of_pure rfl
  have L8 : Looks (model prog w) hh (typeLookup (.type T) (dunderR nm')) ro := looks_findIn X t2
  generalize ((fo.isSome && !isSeqSlot fo) || (ro.isSome && !isSeqSlot ro)) = right at L4
  have ne : (Value.ref C == Value.type T) = false := Bool.eq_false_iff.mpr fun q => by cases beq_iff_eq.mp q
  simp only [binaryOp, hi]
  refine wpAny_holding (wpAny_bind ?_)
  unfold binaryOp1
  refine wpAny_bind (L1.at (wpAny_bind (L2.at (wpAny_bind (L3.at ?_)))))
  simp only [ne, Bool.false_eq_true, if_false]
  cases right with
  | false =>
    ksp_lk
    refine wpAny_mono one (fun r s' got => ?_) fun _ _ e => e
    obtain ⟨v, rfl, q⟩ := got
    ksp_lk
    exact q
  | true =>
    ksp_lk
    refine wpAny_mono one (fun r s' got => ?_) fun _ _ e => e
    obtain ⟨v, rfl, q⟩ := got
    ksp_lk
    exact q
end
/-- what the class at C says of its operator -/
structure BinOwn (K : PySem.W.Frag) (C f : Addr) (op : Operator) : Prop where
  first_ : PySem.W.selfFirst K C = true
  at_ : PySem.W.findIn K (.ref C) (PySem.dunder op.info.2) = some (some (.ref f))
  fn : PySem.W.isFn K (.ref f) = true
  right_ : ∃ rc, PySem.W.findIn K (.ref C) (PySem.dunderR op.info.2) = some rc ∧ (rc = none ∨ ∃ g : Addr, rc = some (.ref g))
/-- what a built-in type says of it -/
structure BinTy (K : PySem.W.Frag) (C : Addr) (op : Operator) (T : String) : Prop where
  l : ∃ fo, PySem.W.findIn K (.type T) (PySem.dunder op.info.2) = some fo
  r : ∃ ro, PySem.W.findIn K (.type T) (PySem.dunderR op.info.2) = some ro
  no : PySem.W.subIn K (.type T) (.ref C) = some false
/-- what may stand right of it -/
def BinArg (K : PySem.W.Frag) (C : Addr) (op : Operator) (H : Hp) (y : V) : Prop := (∃ T, TyX K H y (.type T) ∧ BinTy K C op T) ∨ ∃ b dx fs, y = .ref b ∧ H b = some (.ins C dx fs)

/-! ### x * y by the class's own def -/
structure BinT (K : PySem.W.Frag) (C : Addr) (op : Operator) (y : T) (S : Store) : Prop where
  ok : (∃ ty, TyT K S y (.type ty) ∧ BinTy K C op ty) ∨ ∃ gs, insOf y S = some (C, gs)
def rOpOwn (K : PySem.W.Frag) (C : Addr) (op : Operator) (sp : SpT) : KB := fun x y S R RE => (∃ gs, insOf x S = some (C, gs)) ∧ BinT K C op y S ∧ sp [x, y] S (fun z S' => (∃ C' gs', z = .ins C' gs') ∧ R z S') RE
theorem et_opOwn {X : Cx} {E : XK} {op : Operator} {C f : Addr} {fd : FuncData} {k : Nat} {ps : List Str} {sp : SpT} {a b : Expr} {pos : Pos} {ra rb : TR} (S : BinOwn X.K C f op) (F : FnT X.prog X.w X.K X.mg X.base k f fd ps sp) (gds : X.A.guards = some []) (hr : Room k X.A) (hb : Binds X.K fd ps []) (hx : Passes (L2N.CX X.prog X.w) X E)
    (ha : ET X E a ra) (hbb : ET X E b rb) : ET X E (.BinOp a op b pos) (rBin (rOpOwn X.K C op sp) ra rb) := by
  have run : OpR X (binaryOp op) (fun v u H Q => ∃ Z x y S0 R RE, Ok X.K Z S0 H ∧ Rep X.K Z S0 H v x ∧ Rep X.K Z S0 H u y ∧ rOpOwn X.K C op sp x y S0 R RE ∧ PO X.K Z S0 H R Q ∧ XOk X.K Z S0 H RE E) := by
    intro pins s sl H v w u1 u2 Q inv rx ry want
    obtain ⟨Z, x, y, S0, R, RE, ok, r1, r2, ⟨⟨gs, hi⟩, ⟨arg⟩, kk⟩, po, xo⟩ := want
    obtain ⟨i, dx, fs, rfl, hH, rf⟩ := ins_rep ok r1 hi
    obtain rfl : u1 = Value.ref i := rx
    obtain ⟨mA, O, _⟩ := ins_get inv.hok hH
    obtain ⟨od, J, _⟩ := O.look
    obtain ⟨m, fr⟩ := inv.fr
    have up : UpF X.K sp [.ref i, w] H (fun v H' => (∃ b, v = .ref b) ∧ Q v H') E := ⟨Z, [x, y], S0, _, RE, .cons r1 (.cons r2 .nil), ok, kk, fun z S' v H' kz le ok' rep => by
      obtain ⟨⟨C', gs', rfl⟩, kz⟩ := kz
      refine ⟨?_, po _ _ _ _ kz le ok' rep⟩
      cases rep
      exact ⟨_, rfl⟩, xo⟩
    have vv : Vals [V.ref i, w] [Value.ref i, u2] := .cons rfl (.cons ry .nil)
    have hl : ([Value.ref i, u2] ++ []).length = ps.length := vv.length.symm.trans (F.fn.len _ _ _ _ up)
    have run : wpAny (model X.prog X.w) X.A (call (.ref f) [.ref i, u2]) (PySem.W.CmpBack (EP X pins sl Q)) X.xe s := by
      refine thn (goT F gds hr hx inv (hb s [.ref i, u2] inv.kIn hl) vv up) fun z s' got => ?_
      obtain ⟨v, H', I3, rz, ⟨b, eb⟩, q3⟩ := got
      subst eb
      obtain rfl : z = Value.ref b := rz
      exact ⟨.ref b, H', I3, rfl, q3⟩
    rcases arg with ⟨ty, ht, B⟩ | ⟨gs2, hi2⟩
    · obtain ⟨KP, kx, kp, _⟩ := kit_of inv ry (ty_rep ok r2 ht)
      obtain ⟨fo, l⟩ := B.l
      obtain ⟨ro, r⟩ := B.r
      obtain ⟨rc, r3, r4⟩ := S.right_
      exact binT fr inv.ok.mod.kin J (kx.ty _ _ inv.kIn kp) S.first_ S.at_ S.fn r3 r4 l r B.no run
    · obtain ⟨b2, dx2, fs2, rfl, hb2, _⟩ := ins_rep ok r2 hi2
      obtain rfl : u2 = Value.ref b2 := ry
      obtain ⟨mB, OB, _⟩ := ins_get inv.hok hb2
      obtain ⟨od2, JB, _⟩ := OB.look
      exact PySem.W.binop_K fr inv.ok.mod.kin J JB.type S.first_ S.at_ S.fn run
  exact ⟨pe_weak (pe_op run ha.pe hbb.pe) fun sl H Q h => UpE.two h fun Z x y S2 v u H2 R RE ok rx ry kk po xo => ⟨Z, x, y, S2, R, RE, ok, rx, ry, kk, po, xo⟩⟩

section
variable {X : Cx} {E : XK} {k : Nat} {f C : Addr} {fd : FuncData} {ps ks : List Str} {sp : SpT} {dts : List T} {m : Str} {p pos : Pos} {e a b c : Expr} {gT : List T → List T → List T} {D1 D2 : Addr → SpT → Prop} {ra : TR}
/-! what is never reached -/
def rNo : TR := fun _ _ _ _ => False
def sNo : TRS := fun _ _ _ => False
theorem et_never : ET X E e rNo := ⟨⟨fun _ _ _ _ _ _ h => by
  obtain ⟨_, _, _, _, _, _, _, w, _, _⟩ := h.ex
  exact w.elim⟩⟩
theorem ss_never {st : Stmt} : SS X E st sNo := ⟨⟨fun _ _ _ _ _ _ h => by
  obtain ⟨_, _, _, _, _, _, w, _, _⟩ := h.ex
  exact w.elim⟩⟩
theorem MetD.or (h1 : MetD X m dts D1) (h2 : MetD X m dts D2) : MetD X m dts (fun C sp => D1 C sp ∨ D2 C sp) := ⟨fun C sp d => d.elim (h1.at_ C sp) (h2.at_ C sp)⟩
theorem MetB.one (c : Cls X.K C) (hm : Meth X.K C m f) (F : FnT X.prog X.w X.K X.mg X.base k f fd ps sp) (hr : Room k X.A) (cb : CallB X.K fd ps 1 ks gT) : MetB X m ks gT (one C sp) := ⟨fun C' sp' ⟨e1, e2⟩ => by
  subst e1 e2
  exact ⟨k, f, fd, ps, c, hm, F, hr, cb⟩⟩
theorem MetB.or (h1 : MetB X m ks gT D1) (h2 : MetB X m ks gT D2) : MetB X m ks gT (fun C sp => D1 C sp ∨ D2 C sp) := ⟨fun C sp d => d.elim (h1.at_ C sp) (h2.at_ C sp)⟩
/-- C.f is the constant t -/
structure CValT (K : PySem.W.Frag) (C : Addr) (f : Str) (t : T) : Prop where
  ex : ∃ v u, ClX.CVal K C (.type "type") f v u ∧ ∀ Z S H, Rep K Z S H v t
theorem et_cvalT {x : Str} {tt : T} (r : ClX.CRead X.K C (.type "type")) (k : CValT X.K C m tt) (hg : Gl X x) (hm : X.mg x = some (.ref C)) (hd : (x == ("__debug__" : Str)) = false := by decide)
    (hb : attributeBase (.Name x p) m X.env (eval (.Name x p) X.env) = eval (.Name x p) X.env := by rfl) : ET X E (.Attribute (.Name x p) m pos) (rC tt) := by
  obtain ⟨v, u, cv, rep⟩ := k.ex
  exact et_cval r cv rep hg hm hd hb
theorem bs_pass : BS X E [.Pass pos] sNext := ⟨pss_weak (pss_cons ps_pass pss_nil) fun D sl H ⟨⟨Z, σ, S, DT, fr, ok, w, eo, xo⟩⟩ => eo.nx σ S sl H w .refl ok fr⟩
/-! the same, the written part named -/
theorem et_fldK (K : PySem.W.Frag) (hK : X.K = K) (ha : ET X E a ra) (hb : attributeBase a m X.env (eval a X.env) = eval a X.env := by rfl) : ET X E (.Attribute a m pos) (rFld K m ra) := by
  subst hK
  exact et_fld ha hb
theorem et_conK (K : PySem.W.Frag) (hK : X.K = K) (ha : ET X E a ra) (hb : attributeBase a m X.env (eval a X.env) = eval a X.env := by rfl) : ET X E (.Attribute a m pos) (rCon K m ra) := by
  subst hK
  exact et_con ha hb
theorem ss_fldK (K : PySem.W.Frag) (hK : X.K = K) {rb : TR} {apos : Pos} (ha : ET X E a ra) (hv : ET X E e rb) (hs : swapsWith e (some (.Attribute a m apos)) pos.line X.env = pure false := by rfl) : SS X E (.Assign [.Attribute a m apos] e pos) (sFldT K m rb ra) := by
  subst hK
  exact ss_fld ha hv hs
theorem et_opOwnK (K : PySem.W.Frag) (hK : X.K = K) {op : Operator} {rb : TR} (S : BinOwn X.K C f op) (F : FnT X.prog X.w X.K X.mg X.base k f fd ps sp) (gds : X.A.guards = some []) (hr : Room k X.A) (hb : Binds X.K fd ps []) (hx : Passes (L2N.CX X.prog X.w) X E)
    (ha : ET X E a ra) (hbb : ET X E b rb) : ET X E (.BinOp a op b pos) (rBin (rOpOwn K C op sp) ra rb) := by
  subst hK
  exact et_opOwn S F gds hr hb hx ha hbb
theorem tt_never : TT' X E e (fun _ _ _ _ => False) := ⟨⟨fun _ _ _ _ _ _ h => by
  obtain ⟨_, _, _, _, _, _, _, w, _, _⟩ := h.ex
  exact w.elim⟩⟩
/-! a test that is a conditional expression -/
def bIf (tc ta tb : TRB) : TRB := fun σ S R RE => tc σ S (fun c S1 => if c = true then ta σ S1 R RE else tb σ S1 R RE) RE
theorem tt_ifExp {tc ta tb : TRB} (hc : TT' X E c tc) (ha : TT' X E a ta) (hb : TT' X E b tb) : TT' X E (.IfExp c a b pos) (bIf tc ta tb) := by
  refine ⟨⟨fun pins s sl H Q I h => ?_⟩⟩
  obtain ⟨Z, σ, S, R, RE, fr, ok, w, po, xo⟩ := h.ex
  refine isTrue_IfExp (thn (hc.pt.run pins s sl H (fun d H1 => ∃ S1, (if d = true then ta σ S1 R RE else tb σ S1 R RE) ∧ Le S H S1 H1 ∧ Ok X.K Z S1 H1) I ⟨Z, σ, S, _, RE, fr, ok, w, fun d S1 H1 k1 l1 o1 => ⟨S1, k1, l1, o1⟩, xo⟩) fun d s1 ⟨H1, I1, q1⟩ => ?_)
  obtain ⟨S1, k1, l1, o1⟩ := q1
  cases d with
  | true => exact ha.pt.run pins s1 sl H1 Q I1 ⟨Z, σ, S1, R, RE, fr.le l1, o1, k1, po.le l1, xo.le l1⟩
  | false => exact hb.pt.run pins s1 sl H1 Q I1 ⟨Z, σ, S1, R, RE, fr.le l1, o1, k1, po.le l1, xo.le l1⟩
end
/-! ### the end -/
section
variable {P : Program} {w : World} {K : PySem.W.Frag} {mg : Str → Option Value} {base : Heap} {k : Nat} {f : Addr} {fd : FuncData} {ps : List Str} {sp : SpT}
/-- a def that lets nothing out, as the end wants it -/
theorem FnT.cx0 (F : FnT P w K mg base k f fd ps sp) : FnG P w K mg base CX0 k f fd ps (fun vs H Q _ => UpF K sp vs H Q EF) := by
  refine ⟨fun vs H Q E h => F.fn.len _ _ _ _ h, fun A out st H as us vs Q E gds hr e0 b r h => ?_⟩
  refine codeAny_mono (F.fn.go A out st H as us vs Q EF gds hr e0 b r h) fun z s' got => ?_
  cases z with
  | error er =>
    obtain ⟨_, _, _, _, _, _, _, _, _, _, _, _, q⟩ := got
    exact q.elim
  | ok fl =>
    cases fl with
    | ret u => exact got
    | next => exact got
    | brk => exact got
    | cont => exact got
end
/-- what a law promises -/
def sp_law : SpT := fun ts S R _ => match ts with
  | [.scr l] => (∃ ns : List Int, l = ns.map T.int ∧ ns.length ≤ 63) ∧ ∀ S', R (.bl true) S'
  | _ => False
theorem reps_ints {K : PySem.W.Frag} {Z : Addr → Prop} {S : Store} {H : Hp} : ∀ ns : List Int, Reps K Z S H (ns.map V.int) (ns.map T.int)
  | [] => .nil
  | n :: ns => .cons (.int n) (reps_ints ns)
theorem law_want (K : PySem.W.Frag) (H : Hp) (a : Addr) (ns : List Int) (hl : ns.length ≤ 63) (only : Only H) (hS : SqL K H a (ns.map V.int)) : UpF K sp_law [.ref a] H (fun v _ => v = .bl true) EF := by
  have sc : ScrAt K (fun _ => False) (fun _ => none) H a (ns.map V.int) := by
    rcases hS with h | h
    · refine .inl ⟨?_, rfl, id⟩
      rcases h with h | h
      · rcases only a with z | ⟨o, xs, z⟩
        · rw [h] at z; cases z
        · rw [h] at z; cases z
      · exact h
    · exact .inr h
  refine ⟨fun _ => False, [.scr (ns.map T.int)], fun _ => none, fun t _ => t = .bl true, XF, .cons (.scr sc (reps_ints ns)) .nil, ⟨fun _ => trivial, fun _ z => z.elim⟩, ⟨⟨ns, rfl, hl⟩, fun _ => rfl⟩, ?_, fun _ _ _ _ _ _ z => z.elim⟩
  intro t S' v H' e _ _ rep
  subst e
  cases rep
  rfl
theorem walkT {l : PySem.W.OpenLaw} {k : Nat} {q : Program} {loose : List Str} {XP : (Str → Option Value) → Heap → Prop} {YP : World → Heap → Prop} {d : DefRec} {K : Params → PySem.W.Frag} {x : Str}
    (hn : l.most = some 63) (hdf : d.params.defaults = []) (hr : Room k callerA) (hY : ∀ (w : World) (h : Heap), YP w h → (K w.params).In h)
    (F : ∀ (w : World) (mg : Str → Option Value) (fa : Addr) (h : Heap), (K w.params).In h → h.Ns mainGlobals mg → mg d.name = some (.ref fa) →
      ∃ fd : FuncData, (∀ (s : Shared) (u : Value), BindsTo s fd ⟨[u], []⟩ [(x, u)]) ∧ ∀ base : Heap, (K w.params).In base → base.Ns mainGlobals mg → FnT l.prog w (K w.params) mg base k fa fd [x] sp_law) :
    PySem.W.WalkO q loose XP YP l.row.toRowW d [] (fun f vs => PySem.call f vs) :=
  walkG hn (by rw [sizeLine_eq]; decide) hdf hr hY (sp := fun K vs H Q _ => UpF K sp_law vs H Q EF) (fun w mg fa h a b c => let ⟨fd, e, g⟩ := F w mg fa h a b c; ⟨fd, e, fun base i n => (g base i n).cx0⟩) fun K H a ns hl o s => law_want K H a ns hl o s

theorem roomR {k : Nat} {A : Around} (r : Room k A) : A.units + 70 < cLine := by have := r.un; omega
section
variable {P : Program} {w : World} {K : PySem.W.Frag} {mg : Str → Option Value} {base : Heap} {k : Nat} {f : Addr} {fd : FuncData} {ps : List Str} {sp : SpT}
/-- a def with keyword-only defaults -/
theorem okTK {x qual : Str} {st : Stmt} {N : List Str} {r : TRS} {dvs : List V} {kws : List (Str × V)} (F : FunD K x qual (defArgs st) (defBody st) (defScope st) dvs kws f fd) (S : FnScope N ps (defScope st)) (len : ∀ ts S R RE, sp ts S R RE → ts.length = ps.length)
    (bs : ∀ (cdv : Value) (A : Around) (out : List Env) (s : Shared) (H : Hp) (E : XK), A.guards = some [] → Room k (A.deeper (envOfC qual (defScope st) s.heap.objs.size f cdv)) → BS (cxT P w K mg base N qual (defScope st) f cdv A out s H E) E (defBody st) r)
    (hsp : ∀ ts S R RE, sp ts S R RE → r { nx := fun _ S' => R .non S', rt := R, ex := RE } (startT N ts) S) : FnT P w K mg base (k + 1) f fd ps sp := by
  obtain ⟨_, _, _, _, _, _, _, cdv, _, _, e, lk, code, _, _⟩ := F.ex
  subst e
  refine ⟨okG0 lk code S (fun vs H Q E q => ?_) fun A out s H vs Q E g rm q => up_body (bs cdv A out s H E g rm) hsp q⟩
  obtain ⟨Z, ts, S, R, RE, rs, ok, s, po, xo⟩ := q.ex
  exact rs.length.trans (len _ _ _ _ s)
end
section
variable {K : PySem.W.Frag} {x qual : Str} {st : Stmt} {f : Addr} {fd : FuncData} {ps : List Str} {dvs : List V} {dts : List T} {kws : List (Str × V)}
theorem Fun.cb (F : Fun K x qual st f fd) (n : Nat) (ks : List Str) (pk : List (Nat × Nat))
    (h : ∀ (kV doc pm : Value) (an : Option Addr) (cdv ct : Value) (us ws : List Value), us.length = n → ws.length = ks.length → bindArgs (PySem.W.fnOf x qual (defArgs st) (defBody st) (defScope st) .none kV doc pm an cdv ct) ⟨us, ks.zip ws⟩ = pure (ps.zip (pickG pk us [] ws))) :
    CallB K fd ps n ks (fun ts zs => pickG pk ts [] zs) := by
  obtain ⟨oc, od, kV, doc, pm, an, cdv, ct, osl, e, lk, hcd⟩ := F.ex
  subst e
  exact ⟨fun us ws => pickG pk us [] ws, fun vs zs => pickG pk vs [] zs, ⟨fun s us ws _ l1 l2 => .of_eq (h kV doc pm an cdv ct us ws l1 l2), fun r1 r2 => pick_vals r1 .nil r2 pk⟩, pick_ord DefT.nil pk⟩
theorem FunK.cb (F : FunD K x qual (defArgs st) (defBody st) (defScope st) [] kws f fd) (n : Nat) (ks : List Str) (pk : List (Nat × Nat))
    (h : ∀ (kV doc pm : Value) (an : Option Addr) (cdv ct : Value) (us ws : List Value), us.length = n → ws.length = ks.length → bindArgs (PySem.W.fnOf x qual (defArgs st) (defBody st) (defScope st) .none kV doc pm an cdv ct) ⟨us, ks.zip ws⟩ = pure (ps.zip (pickG pk us [] ws))) :
    CallB K fd ps n ks (fun ts zs => pickG pk ts [] zs) := by
  obtain ⟨oc, od, dV, kV, doc, pm, an, cdv, ct, osl, e, lk, hcd, hD, hK⟩ := F.ex
  subst e
  rcases hD with ⟨_, e⟩ | ⟨e, _⟩
  · subst e
    exact ⟨fun us ws => pickG pk us [] ws, fun vs zs => pickG pk vs [] zs, ⟨fun s us ws _ l1 l2 => .of_eq (h kV doc pm an cdv ct us ws l1 l2), fun r1 r2 => pick_vals r1 .nil r2 pk⟩, pick_ord DefT.nil pk⟩
  · exact absurd rfl e
theorem FunK.cd (F : FunD K x qual (defArgs st) (defBody st) (defScope st) [] kws f fd) (n : Nat) (hk : kws ≠ []) (hn : n + kws.length = ps.length) (d : DefT K (kws.map (·.2)) dts)
    (h : ∀ (D : Addr) (doc pm : Value) (an : Option Addr) (cdv ct : Value) (us ks : List Value), us.length = n → ks.length = kws.length →
      KwChain D ((kws.map (·.1)).zip ks) (bindArgs (PySem.W.fnOf x qual (defArgs st) (defBody st) (defScope st) .none (.ref D) doc pm an cdv ct) ⟨us, []⟩) (ps.zip (us ++ ks))) : CallD K fd ps dts := by
  obtain ⟨ds, r, b⟩ := F.binds0 n hk hn h
  exact ⟨ds, _, b, r, d⟩
theorem FunP.cd (F : FunD K x qual (defArgs st) (defBody st) (defScope st) dvs [] f fd) (n j : Nat) (hd : dvs ≠ []) (hn : n + (dvs.length - j) = ps.length) (d : DefT K (dvs.drop j) dts)
    (h : ∀ (T : Addr) (kV doc pm : Value) (an : Option Addr) (cdv ct : Value) (us its : List Value), us.length = n → its.length = dvs.length →
      ∃ k, bindArgs (PySem.W.fnOf x qual (defArgs st) (defBody st) (defScope st) (.ref T) kV doc pm an cdv ct) ⟨us, []⟩ = seqItems? (.ref T) >>= k ∧ k (some its.toArray) = pure (ps.zip (us ++ its.drop j))) : CallD K fd ps dts := by
  obtain ⟨ds, r, b⟩ := F.binds1 n j hd hn h
  exact ⟨ds, _, b, r, d⟩
theorem FunP.cb (F : FunD K x qual (defArgs st) (defBody st) (defScope st) dvs [] f fd) (n : Nat) (ks : List Str) (pk : List (Nat × Nat)) (hd : dvs ≠ []) (d : DefT K dvs dts)
    (h : ∀ (T : Addr) (kV doc pm : Value) (an : Option Addr) (cdv ct : Value) (us its ws : List Value), us.length = n → its.length = dvs.length → ws.length = ks.length →
      ∃ k, bindArgs (PySem.W.fnOf x qual (defArgs st) (defBody st) (defScope st) (.ref T) kV doc pm an cdv ct) ⟨us, ks.zip ws⟩ = seqItems? (.ref T) >>= k ∧ k (some its.toArray) = pure (ps.zip (pickG pk us its ws))) :
    CallB K fd ps n ks (fun ts zs => pickG pk ts dts zs) := by
  obtain ⟨oc, od, dV, kV, doc, pm, an, cdv, ct, osl, e, lk, hcd, hD, hK⟩ := F.ex
  subst e
  rcases hD with ⟨e, _⟩ | ⟨_, A, o, its, m, e, lT, oT, rT⟩
  · exact absurd e hd
  · subst e
    refine ⟨fun us ws => pickG pk us its ws, fun vs zs => pickG pk vs dvs zs, ⟨fun s us ws inK l1 l2 => ?_, fun r1 r2 => pick_vals r1 rT r2 pk⟩, pick_ord d pk⟩
    obtain ⟨k, e1, e2⟩ := h A kV doc pm an cdv ct us its ws l1 rT.length.symm l2
    refine BindsTo.of_looks fun M => ?_
    rw [e1]
    exact looks_items inK lT oT (.of_pure e2)
end

/-! a != b where the class has an own __eq__ and no own __ne__ -/
namespace NeOwn
open PySem PySem.Calls PyProof.Rows
section
variable {prog : Program} {w : World} {A : Around} {E : Value → Shared → Prop} {s : Shared} {K : PySem.W.Frag} {x C f : Addr} {ox : Obj} {od : Option Obj} {b tb : Value}
/-- the answer of __eq__, turned about -/
def Neg (Q : Value → Shared → Prop) (r : Value) (s' : Shared) : Prop := ∃ c, r = .bool c ∧ Q (.bool (!c)) s'
theorem body {Q : Fin → Shared → Prop} (inK : K.In s.heap) (I : PySem.W.InstAt s.heap x ox C od) (hu : A.units < cLine) (he : PySem.W.findIn K (.ref C) "__eq__" = some (some (.ref f))) (hf : PySem.W.isFn K (.ref f) = true)
    (hc : wpAny (model prog w) A (call (.ref f) [.ref x, b]) (Neg fun r s' => Q (.done (.ret r)) s') E s) : wpAny (model prog w) A (Builtin.«object.__ne__» ⟨[.ref x, b], []⟩) Q E s := by
  unfold Builtin.«object.__ne__»
  repeat (first
    | with_reducible refine wpAny_cRoomFor hu ?_
    | (refine wpAny_bind (m := callSpecialIfBound? (.ref x) (Str.ofString "__eq__") [b]) (PySem.W.ifBound_K inK I he hf (wpAny_mono hc (fun r s' got => by
          obtain ⟨c, rfl, hq⟩ := got
          repeat (first | exact hq | exact wpAny_pure hq | exact wpAny_truthy_bool hq | (refine wpAny_bind (m := truthy (.bool _)) (wpAny_truthy_bool ?_)) | wp_step)) fun _ _ z => z)))
    | wp_step)
theorem slot {args : List Value} {Q : Option Value → Shared → Prop} (inK : K.In s.heap) (I : PySem.W.InstAt s.heap x ox C od) (hs : PySem.W.findIn K (.ref C) "__ne__" = some (some (.builtin "object.__ne__")))
    (hc : wpAny (model prog w) A (call (.builtin "object.__ne__") (.ref x :: args)) (fun r => Q (some r)) E s) : wpAny (model prog w) A (callSpecialIfBound? (.ref x) "__ne__" args) Q E s := by
  simp only [callSpecialIfBound?, bindSpecialIfBound?]
  have last : wpAny (model prog w) A (call (.builtin "object.__ne__") ([.ref x] ++ args) >>= fun r => pure (some r)) Q E s := wpAny_bind (wpAny_mono hc (fun r s' z => wpAny_pure z) fun _ _ z => z)
  have bd := PySem.F.cmp_object.ne.bind (Value.ref x)
  refine wpAny_holding (wpAny_bind (wpAny_bind (wpAny_bind (I.type.here ((PySem.W.looks_findIn inK hs).here (wpAny_bind (wpAny_askSetting (wpAny_ite ?_))))))))
  split
  · exact wpAny_bind (wpAny_of_eq bd (wpAny_pure (by exact last)))
  · exact wpAny_tryCatch (wpAny_bind (wpAny_of_eq bd (wpAny_pure (by exact last))))
theorem ne_K {Q : Value → Shared → Prop} (hu : A.units + 1 < cLine) (inK : K.In s.heap) (I : PySem.W.InstAt s.heap x ox C od) (hb : PySem.W.Looks (model prog w) s.heap (typeOf b) (.ref C))
    (hs : PySem.W.findIn K (.ref C) "__ne__" = some (some (.builtin "object.__ne__"))) (hm : PySem.W.mroIn K C (.type "object") = some true) (he : PySem.W.findIn K (.ref C) "__eq__" = some (some (.ref f))) (hf : PySem.W.isFn K (.ref f) = true)
    (hc : wpAny (model prog w) A.in1 (call (.ref f) [.ref x, b]) (Neg Q) E s) : wpAny (model prog w) A (richCompare .NotEq (.ref x) b) Q E s := by
  have once : wpAny (model prog w) A (tryCompare (.ref x) "__ne__" b) (fun r s' => ∃ c, r = some (.bool c) ∧ Q (.bool c) s') E s := by
    simp only [tryCompare]
    refine wpAny_bind (slot inK I hs (wpAny_call (codeAny_call_builtin PySem.F.cmp_object.ne.plain PySem.F.cmpEntry_ne (PySem.W.check_slot PySem.F.cmpKind_ne PySem.F.cmpSplit_ne (I.type.andThen (PySem.W.looks_mroIn inK hm)) (PySem.F.cmpArgs_ne _ _)
      (body (A := A.in1) inK I hu he hf (wpAny_mono hc (fun r s' got => ?_) fun _ _ z => z))))))
    obtain ⟨c, rfl, hq⟩ := got
    exact ⟨c, rfl, wpAny_pure ⟨!c, rfl, hq⟩⟩
  unfold richCompare
  simp only [oneThing_ref]
  refine wpAny_holding (wpAny_bind (wpAny_cRoomFor (Nat.lt_of_succ_lt hu) (wpAny_bind (I.type.here (wpAny_bind (hb.here ?_))))))
  split
  · rename_i q
    exact absurd q (by simp)
  · refine wpAny_bind (wpAny_pure ?_)
    rw [if_neg Bool.false_ne_true]
    refine wpAny_bind (wpAny_mono once (fun r s' got => ?_) fun _ _ z => z)
    obtain ⟨c, rfl, hq⟩ := got
    exact wpAny_pure hq
end
end NeOwn
/-- an operator's rule told of trees -/
def RK (K : PySem.W.Frag) (E : XK) (k : KB) : R2 := fun v u H Q => ∃ Z x y S R RE, Ok K Z S H ∧ Rep K Z S H v x ∧ Rep K Z S H u y ∧ k x y S R RE ∧ PO K Z S H R Q ∧ XOk K Z S H RE E
theorem cv_RK {K : PySem.W.Frag} {E : XK} {k : KB} : Conv K E k (RK K E k) := fun Z x y S _ _ _ R RE _ ok rx ry kk po xo => ⟨Z, x, y, S, R, RE, ok, rx, ry, kk, po, xo⟩
/-- what the class at C says of == and != -/
structure EqO (K : PySem.W.Frag) (C f : Addr) : Prop where
  eq : PySem.W.findIn K (.ref C) "__eq__" = some (some (.ref f))
  fn : PySem.W.isFn K (.ref f) = true
  ne : PySem.W.findIn K (.ref C) "__ne__" = some (some (.builtin "object.__ne__"))
  mro : PySem.W.mroIn K C (.type "object") = some true
def kEqOwn (C : Addr) (sp : SpT) (ng : Bool) : KB := fun x y S R RE => (∃ gs, insOf x S = some (C, gs)) ∧ (∃ gs, insOf y S = some (C, gs)) ∧ sp [x, y] S (fun z S' => ∃ c, z = .bl c ∧ R (.bl (ng ^^ c)) S') RE
section
variable {X : Cx} {E : XK} {C f : Addr} {fd : FuncData} {k : Nat} {ps : List Str} {sp : SpT}
theorem op_eqOwnT (O : EqO X.K C f) (F : FnT X.prog X.w X.K X.mg X.base k f fd ps sp) (gds : X.A.guards = some []) (hr : Room k X.A) (hb : Binds X.K fd ps []) (hx : Passes (L2N.CX X.prog X.w) X E) : OpR X (compareOp .Eq) (RK X.K E (kEqOwn C sp false)) := by
  intro pins s sl H v u w z Q inv rv ru want
  obtain ⟨Z, x, y, S, R, RE, ok, rx, ry, ⟨⟨gs, hi⟩, ⟨gs2, hi2⟩, kk⟩, po, xo⟩ := want
  obtain ⟨a, dx, fs, rfl, hH, _⟩ := ins_rep ok rx hi
  obtain ⟨b, dy, fs2, rfl, hH2, _⟩ := ins_rep ok ry hi2
  obtain rfl : w = Value.ref a := rv
  obtain rfl : z = Value.ref b := ru
  obtain ⟨mA, OA, _⟩ := ins_get inv.hok hH
  obtain ⟨od, J, _⟩ := OA.look
  obtain ⟨mB, OB, _⟩ := ins_get inv.hok hH2
  obtain ⟨od2, J2, _⟩ := OB.look
  obtain ⟨m, fr⟩ := inv.fr
  have up : UpF X.K sp [.ref a, .ref b] H (fun v H' => ∃ c, v = .bl c ∧ Q (.bl c) H') E := ⟨Z, [x, y], S, _, RE, .cons rx (.cons ry .nil), ok, kk, fun t S' v H' kt le ok' rep => by
    obtain ⟨c, rfl, kt⟩ := kt
    rw [Bool.false_xor] at kt
    cases rep
    exact ⟨c, rfl, po _ _ _ _ kt le ok' (.bl c)⟩, xo⟩
  have vv : Vals [V.ref a, V.ref b] [Value.ref a, Value.ref b] := .cons rfl (.cons rfl .nil)
  have hl : ([Value.ref a, Value.ref b] ++ []).length = ps.length := vv.length.symm.trans (F.fn.len _ _ _ _ up)
  show wpAny (model X.prog X.w) X.A (richCompare .Eq (.ref a) (.ref b)) (EP X pins sl Q) X.xe s
  refine PySem.W.cmp_K (op := .Eq) (tb := .ref C) (by have := hr.un; omega) fr inv.ok.mod.kin J J2.type (by simp [PySem.W.notFirst]) O.eq O.fn ?_
  refine thn (goT F gds hr hx inv (hb s [.ref a, .ref b] inv.kIn hl) vv up) fun r s' got => ?_
  obtain ⟨v, H', I2, r2, c, rfl, q⟩ := got
  cases r2
  exact ⟨.bl c, H', I2, rfl, q⟩
theorem op_neOwnT (O : EqO X.K C f) (F : FnT X.prog X.w X.K X.mg X.base k f fd ps sp) (gds : X.A.guards = some []) (hr : Room (k + 1) X.A) (hb : Binds X.K fd ps []) (hx : Passes (L2N.CX X.prog X.w) X E) : OpR X (compareOp .NotEq) (RK X.K E (kEqOwn C sp true)) := by
  intro pins s sl H v u w z Q inv rv ru want
  obtain ⟨Z, x, y, S, R, RE, ok, rx, ry, ⟨⟨gs, hi⟩, ⟨gs2, hi2⟩, kk⟩, po, xo⟩ := want
  obtain ⟨a, dx, fs, rfl, hH, _⟩ := ins_rep ok rx hi
  obtain ⟨b, dy, fs2, rfl, hH2, _⟩ := ins_rep ok ry hi2
  obtain rfl : w = Value.ref a := rv
  obtain rfl : z = Value.ref b := ru
  obtain ⟨mA, OA, _⟩ := ins_get inv.hok hH
  obtain ⟨od, J, _⟩ := OA.look
  obtain ⟨mB, OB, _⟩ := ins_get inv.hok hH2
  obtain ⟨od2, J2, _⟩ := OB.look
  have up : UpF X.K sp [.ref a, .ref b] H (fun v H' => ∃ c, v = .bl c ∧ Q (.bl (!c)) H') E := ⟨Z, [x, y], S, _, RE, .cons rx (.cons ry .nil), ok, kk, fun t S' v H' kt le ok' rep => by
    obtain ⟨c, rfl, kt⟩ := kt
    rw [Bool.true_xor] at kt
    cases rep
    exact ⟨c, rfl, po _ _ _ _ kt le ok' (.bl _)⟩, xo⟩
  have vv : Vals [V.ref a, V.ref b] [Value.ref a, Value.ref b] := .cons rfl (.cons rfl .nil)
  have hl : ([Value.ref a, Value.ref b] ++ []).length = ps.length := vv.length.symm.trans (F.fn.len _ _ _ _ up)
  show wpAny (model X.prog X.w) X.A (richCompare .NotEq (.ref a) (.ref b)) (EP X pins sl Q) X.xe s
  refine NeOwn.ne_K (by have := hr.un; omega) inv.kIn J J2.type O.ne O.mro O.eq O.fn ?_
  refine wpAny_call (codeAny_mono (F.fn.go X.A.in1 X.stack s H ⟨[.ref a, .ref b], []⟩ ([Value.ref a, Value.ref b] ++ []) [V.ref a, V.ref b] _ E (by first | exact gds | simpa [Around.in1] using gds) hr.in1 inv.env0.in1 (hb s [.ref a, .ref b] inv.kIn hl) (by rw [List.append_nil]; exact vv) up) fun r s' got => ?_)
  cases r with
  | error er => exact hx pins sl H s er s' inv got
  | ok fl =>
    cases fl with
    | ret t =>
      obtain ⟨v, H', I3, rz, c, rfl, q⟩ := inv.after got
      cases rz
      exact ⟨c, rfl, .bl (!c), H', I3, rfl, q⟩
    | next => exact got.elim
    | brk => exact got.elim
    | cont => exact got.elim
end
section
variable {X : Cx} {E : XK} {C : Addr} {x : Str} {p pos : Pos}
/-- a class that is made without an __init__ -/
structure MkP (K : PySem.W.Frag) (D : Addr) : Prop where
  mks : PySem.W.makesIn K D = true
  kp : PySem.W.keepIn K (.ref D) = true
  hi : PySem.W.findIn K (.ref D) "__init__" = some (some (.builtin "object.__init__"))
  mr : PySem.W.mroIn K D (.type "object") = some true
def rMakeP (C : Addr) : TR := fun _ S R _ => R (.ins C []) S
set_option maxHeartbeats 1000000 in
theorem et_makeP (M : MkP X.K C)
    (hg : Gl X x) (hm : X.mg x = some (.ref C)) (hdb : (x == ("__debug__" : Str)) = false := by decide) : ET X E (.Call (.Name x p) [] [] pos) (rMakeP C) := by
  obtain ⟨hmk, kp, hi, hmr⟩ := M
  refine ⟨⟨fun pins s sl H Q I h => ?_⟩⟩
  obtain ⟨Z, σ, S, R, RE, fr, ok, w, po, xo⟩ := h.ex
  refine wpAny_Call_Name_kw (ld_glob I hg hm ?_ hdb)
  refine PySem.W.callWith_K0 I.kIn kp (wpAny_call ?_)
  have nx : H (s.heap.objs.size + 1) = none := I.hok.fresh (Nat.le_succ _)
  have nd : H s.heap.objs.size = none := I.hok.fresh (Nat.le_refl _)
  have I2 := Inv.made (C := C) I
  have nx1 : upd H s.heap.objs.size (.own (s.heap.objs.size + 1)) (s.heap.objs.size + 1) = none := by rw [upd_ne (Nat.succ_ne_self _)]; exact nx
  have ok1 : Ok X.K Z S (upd H s.heap.objs.size (.own (s.heap.objs.size + 1))) := ok.new nd
  have at_ : upd (upd H s.heap.objs.size (.own (s.heap.objs.size + 1))) (s.heap.objs.size + 1) (.ins C s.heap.objs.size []) (s.heap.objs.size + 1) = some (.ins C s.heap.objs.size []) := upd_same
  obtain ⟨mA, O, _⟩ := ins_get I2.hok at_
  obtain ⟨od, J, _⟩ := O.look
  refine make_map0 I.kIn hmk hi (fun self => PySem.W.Looks.of_pure (PySem.W.oi_bind self)) ?_
  have isO : PySem.W.Looks (model X.prog X.w) _ (isInstance (.ref (s.heap.objs.size + 1)) (.type "object")) true := J.type.andThen (PySem.W.looks_mroIn I2.kIn hmr)
  refine codeAny_call_builtin PySem.W.oi_plain PySem.W.entry_oi (@PySem.W.check_slot (model X.prog X.w) _ _ _ "object.__init__" "object" "__init__" (.ref (s.heap.objs.size + 1)) [] [] _ PySem.W.oi_kind PySem.W.oi_split isO (PySem.W.oi_args (.ref (s.heap.objs.size + 1))) ?_)
  rw [PySem.W.oi_run]
  have le2 : Le S H S (upd (upd H s.heap.objs.size (.own (s.heap.objs.size + 1))) (s.heap.objs.size + 1) (.ins C s.heap.objs.size [])) := (le_new nd).trans (le_new nx1)
  have rp : Rep X.K Z S (upd (upd H s.heap.objs.size (.own (s.heap.objs.size + 1))) (s.heap.objs.size + 1) (.ins C s.heap.objs.size [])) (.ref (s.heap.objs.size + 1)) (.ins C []) := .ins upd_same ⟨ok1.free nx1, ok1.nz nx1⟩ .nil
  have qq := po _ S _ _ w le2 (ok1.new nx1) rp
  exact wpAny_pure ⟨rfl, V.ref (s.heap.objs.size + 1), _, I2, rfl, qq⟩
end
section
variable {K : PySem.W.Frag} {x qual : Str} {st : Stmt} {f : Addr} {fd : FuncData} {ps : List Str} {dvs : List V}
/-- a def with defaults, every parameter written -/
theorem FunP.b (F : FunD K x qual (defArgs st) (defBody st) (defScope st) dvs [] f fd) (hd : dvs ≠ [])
    (h : ∀ (T : Addr) (kV doc pm : Value) (an : Option Addr) (cdv ct : Value) (us its : List Value), us.length = ps.length → its.length = dvs.length →
      ∃ k, bindArgs (PySem.W.fnOf x qual (defArgs st) (defBody st) (defScope st) (.ref T) kV doc pm an cdv ct) ⟨us, []⟩ = seqItems? (.ref T) >>= k ∧ k (some its.toArray) = pure (ps.zip us)) : Binds K fd ps [] := by
  obtain ⟨ds, r, b⟩ := F.binds1 (ps := ps) ps.length dvs.length hd (by omega) fun T kV doc pm an cdv ct us its l1 l2 => by
    obtain ⟨k, e1, e2⟩ := h T kV doc pm an cdv ct us its l1 l2
    exact ⟨k, e1, by rw [e2, ← l2, List.drop_length, List.append_nil]⟩
  rw [List.drop_length] at r
  cases r
  exact b
end

/-! a in (b, c), by the class's own __eq__ -/
namespace InOwn
open PySem PySem.Calls PyProof.Rows
section
variable {prog : Program} {w : World} {A : Around} {E : Value → Shared → Prop} {s : Shared} {l x : Addr} {items : Array Value}
theorem body {Q : Fin → Shared → Prop} (hl : IsTup s.heap l items) (I : List Value → Shared → Prop)
    (turn : ∀ y rest s, I (y :: rest) s → wpAny (model prog w) A (eqBool y (.ref x)) (fun r s' => if r = true then Q (.done (.ret (.bool true))) s' else I rest s') E s)
    (fin : ∀ s, I [] s → Q (.done (.ret (.bool false))) s) (h : I items.toList s) : wpAny (model prog w) A (Builtin.«tuple.__contains__» ⟨[.ref l, .ref x], []⟩) Q E s := by
  show wpAny _ _ (Builtin.Tuple.tupleItemsOf (.ref l) >>= _) _ _ s
  refine wpAny_bind (tupleItemsOf_ hl ?_)
  refine wpAny_bind (forIn_array_ _ (fun rest b s' => b.1 = none ∧ I rest s') _ ?_ ?_ items _ ⟨rfl, h⟩)
  · rintro y rest b s' ⟨hb, hI⟩
    refine wpAny_bind (wpAny_mono (turn y rest s' hI) (fun r s2 got => ?_) fun _ _ z => z)
    cases r with
    | true => exact wpAny_bind (wpAny_pure (wpAny_pure (wpAny_pure (by simpa using got))))
    | false => exact wpAny_pure ⟨rfl, by simpa using got⟩
  · rintro ⟨b1, b2⟩ s' ⟨hb, hI⟩
    simp only at hb
    subst hb
    exact wpAny_pure (fin s' hI)
theorem has {Q : Bool → Shared → Prop} (hl : IsTup s.heap l items) (I : List Value → Shared → Prop)
    (turn : ∀ y rest s, I (y :: rest) s → wpAny (model prog w) A.in1 (eqBool y (.ref x)) (fun r s' => if r = true then Q true s' else I rest s') E s)
    (fin : ∀ s, I [] s → Q false s) (h : I items.toList s) : wpAny (model prog w) A (contains (.ref l) (.ref x)) Q E s := by
  unfold contains
  refine wpAny_holding ?_
  refine wpAny_bind (wpAny_specialOf hl.typeIs slot_tuple_contains.lookup ?_)
  rw [if_neg (by decide)]
  exact wpAny_bind (wpAny_callSpecialUnlessNone?_slot (name := Str.ofString "__contains__") hl.typeIs slot_tuple_contains
    (wpAny_call_entry slot_tuple_contains hl.typeIs entry_tuple_contains (body hl I (fun y rest s' z => wpAny_mono (turn y rest s' z) (fun r s2 q => by
      cases r with
      | true => exact ⟨_, rfl, wpAny_truthy_bool (by simpa using q)⟩
      | false => simpa using q) fun _ _ z => z) (fun s' z => ⟨_, rfl, wpAny_truthy_bool (fin s' z)⟩) h) (args_tuple_contains _ _)))
end
end InOwn
/-! x in o by the class's own __contains__ -/
structure InO (K : PySem.W.Frag) (C f : Addr) : Prop where
  at_ : PySem.W.findIn K (.ref C) "__contains__" = some (some (.ref f))
  fn : PySem.W.isFn K (.ref f) = true
def kInOwn (C : Addr) (sp : SpT) (ng : Bool) : KB := fun x y S R RE => (∃ gs, insOf y S = some (C, gs)) ∧ sp [y, x] S (fun z S' => ∃ c, z = .bl c ∧ R (.bl (ng ^^ c)) S') RE
section
variable {X : Cx} {E : XK} {C f : Addr} {fd : FuncData} {k : Nat} {ps : List Str} {sp : SpT}
theorem op_inOwnT (O : InO X.K C f) (F : FnT X.prog X.w X.K X.mg X.base k f fd ps sp) (gds : X.A.guards = some []) (hr : Room k X.A) (hb : Binds X.K fd ps []) (hx : Passes (L2N.CX X.prog X.w) X E) : OpR X (compareOp .In) (RK X.K E (kInOwn C sp false)) := by
  intro pins s sl H v u w z Q inv rv ru want
  obtain ⟨Z, x, y, S, R, RE, ok, rx, ry, ⟨⟨gs, hi⟩, kk⟩, po, xo⟩ := want
  obtain ⟨b, dy, fs2, rfl, hH2, _⟩ := ins_rep ok ry hi
  obtain rfl : z = Value.ref b := ru
  obtain ⟨mB, OB, _⟩ := ins_get inv.hok hH2
  obtain ⟨od2, J2, _⟩ := OB.look
  obtain ⟨m, fr⟩ := inv.fr
  have up : UpF X.K sp [.ref b, v] H (fun v H' => ∃ c, v = .bl c ∧ Q (.bl c) H') E := ⟨Z, [y, x], S, _, RE, .cons ry (.cons rx .nil), ok, kk, fun t S' v H' kt le ok' rep => by
    obtain ⟨c, rfl, kt⟩ := kt
    rw [Bool.false_xor] at kt
    cases rep
    exact ⟨c, rfl, po _ _ _ _ kt le ok' (.bl c)⟩, xo⟩
  have vv : Vals [V.ref b, v] [Value.ref b, w] := .cons rfl (.cons rv .nil)
  have hl : ([Value.ref b, w] ++ []).length = ps.length := vv.length.symm.trans (F.fn.len _ _ _ _ up)
  refine PySem.W.in_K fr inv.ok.mod.kin J2 O.at_ O.fn (thn (goT F gds hr hx inv (hb s [.ref b, w] inv.kIn hl) vv up) fun r s' got => ?_)
  obtain ⟨v, H', I2, r2, c, rfl, q⟩ := got
  cases r2
  exact wpAny_truthy_bool ⟨.bl c, H', I2, rfl, q⟩
theorem op_ninOwnT (O : InO X.K C f) (F : FnT X.prog X.w X.K X.mg X.base k f fd ps sp) (gds : X.A.guards = some []) (hr : Room k X.A) (hb : Binds X.K fd ps []) (hx : Passes (L2N.CX X.prog X.w) X E) : OpR X (compareOp .NotIn) (RK X.K E (kInOwn C sp true)) := by
  intro pins s sl H v u w z Q inv rv ru want
  obtain ⟨Z, x, y, S, R, RE, ok, rx, ry, ⟨⟨gs, hi⟩, kk⟩, po, xo⟩ := want
  obtain ⟨b, dy, fs2, rfl, hH2, _⟩ := ins_rep ok ry hi
  obtain rfl : z = Value.ref b := ru
  obtain ⟨mB, OB, _⟩ := ins_get inv.hok hH2
  obtain ⟨od2, J2, _⟩ := OB.look
  obtain ⟨m, fr⟩ := inv.fr
  have up : UpF X.K sp [.ref b, v] H (fun v H' => ∃ c, v = .bl c ∧ Q (.bl (!c)) H') E := ⟨Z, [y, x], S, _, RE, .cons ry (.cons rx .nil), ok, kk, fun t S' v H' kt le ok' rep => by
    obtain ⟨c, rfl, kt⟩ := kt
    rw [Bool.true_xor] at kt
    cases rep
    exact ⟨c, rfl, po _ _ _ _ kt le ok' (.bl _)⟩, xo⟩
  have vv : Vals [V.ref b, v] [Value.ref b, w] := .cons rfl (.cons rv .nil)
  have hl : ([Value.ref b, w] ++ []).length = ps.length := vv.length.symm.trans (F.fn.len _ _ _ _ up)
  refine PySem.W.notIn_K fr inv.ok.mod.kin J2 O.at_ O.fn (thn (goT F gds hr hx inv (hb s [.ref b, w] inv.kIn hl) vv up) fun r s' got => ?_)
  obtain ⟨v, H', I2, r2, c, rfl, q⟩ := got
  cases r2
  exact wpAny_truthy_bool ⟨.bl (!c), H', I2, rfl, q⟩
end
/-! x in (a, b, ..) by the elements' own __eq__; one thing is itself, whatever __eq__ says -/
def inOwnL (C : Addr) (sp : SpT) (x : T) (R : Bool → Store → Prop) (RE : XT) : List T → Store → Prop
  | [], S => R false S
  | y :: ys, S => R true S ∧ (∃ gs, insOf y S = some (C, gs)) ∧ sp [y, x] S (fun z S' => ∃ c, z = .bl c ∧ if c = true then R true S' else inOwnL C sp x R RE ys S') RE
def kInTup (C : Addr) (sp : SpT) : KB := fun x y S R RE => ∃ l, y = .tup l ∧ (∃ gs, x = .ins C gs) ∧ inOwnL C sp x (fun b S' => R (.bl b) S') RE l S
section
variable {X : Cx} {E : XK} {C f : Addr} {fd : FuncData} {k : Nat} {ps : List Str} {sp : SpT}
theorem op_inTupT (O : EqO X.K C f) (F : FnT X.prog X.w X.K X.mg X.base k f fd ps sp) (gds : X.A.guards = some []) (hr : Room (k + 1) X.A) (hb : Binds X.K fd ps []) (hx : Passes (L2N.CX X.prog X.w) X E) : OpR X (compareOp .In) (RK X.K E (kInTup C sp)) := by
  intro pins s sl H v u w z Q inv rv ru want
  obtain ⟨Z, x, y, S, R, RE, ok, rx, ry, ⟨l, rfl, ⟨gx, rfl⟩, kk⟩, po, xo⟩ := want
  obtain ⟨xa, dx, fs, rfl, hH, _⟩ := ins_rep ok rx (rfl : insOf (.ins C gx) S = some (C, gx))
  obtain rfl : w = Value.ref xa := rv
  cases ry with
  | @tup p vs ts h1 r1 =>
    obtain rfl : z = Value.ref p := ru
    obtain ⟨its, rv1, pl, _⟩ := inv.tuple h1.sq
    refine wpAny_bind (InOwn.has (items := its.toArray) pl (fun rest s' => ∃ H' S' vs' ts', Inv X pins sl H' s' ∧ Ok X.K Z S' H' ∧ Le S H S' H' ∧ Vals vs' rest ∧ Reps X.K Z S' H' vs' ts' ∧ Rep X.K Z S' H' (.ref xa) (.ins C gx) ∧ inOwnL C sp (.ins C gx) (fun b S' => R (.bl b) S') RE ts' S')
      ?_ ?_ ⟨H, S, vs, l, inv, ok, .refl, by simpa using rv1, r1, rx, kk⟩)
    · rintro yv rest s' ⟨H', S', vs', ts', inv', ok', le', rv', rs', rx', kk'⟩
      cases rv' with
      | @cons v1 u1 vs1 us1 e1 e2 =>
        cases rs' with
        | @cons _ y1 _ ts1 ry1 rs1 =>
          obtain ⟨kT, ⟨gs1, hi1⟩, kS⟩ := kk'
          obtain ⟨b, dy, fy, rfl, hb1, _⟩ := ins_rep ok' ry1 hi1
          obtain rfl : yv = Value.ref b := e1
          obtain ⟨a2, dx2, fx2, ea, hHx, _⟩ := ins_rep ok' rx' (rfl : insOf (.ins C gx) S' = some (C, gx))
          cases ea
          have fin : ∀ H2 S2 s2, Inv X pins sl H2 s2 → Ok X.K Z S2 H2 → Le S H S2 H2 → R (.bl true) S2 → EP X pins sl Q (.bool true) s2 := fun H2 S2 s2 I2 o2 l2 k2 => ⟨.bl true, H2, I2, rfl, po _ _ _ _ k2 l2 o2 (.bl true)⟩
          by_cases same : b = xa
          · subst same
            have e : ((Value.ref b) == (Value.ref b)) = true := by simp
            unfold eqBool
            refine wpAny_holding ?_
            rw [if_pos e]
            refine wpAny_bind (wpAny_rule ?_)
            refine wpAny_pure ?_
            rw [if_pos rfl]
            exact wpAny_pure (fin H' S' _ inv' ok' le' kT)
          · obtain ⟨mA, OA, _⟩ := ins_get inv'.hok hb1
            obtain ⟨od, J, _⟩ := OA.look
            obtain ⟨mB, OB, _⟩ := ins_get inv'.hok hHx
            obtain ⟨od2, J2, _⟩ := OB.look
            obtain ⟨m, fr⟩ := inv'.fr
            have up : UpF X.K sp [.ref b, .ref xa] H' (fun v H2 => ∃ c, v = .bl c ∧ ∃ S2, Le S' H' S2 H2 ∧ Ok X.K Z S2 H2 ∧ if c = true then R (.bl true) S2 else inOwnL C sp (.ins C gx) (fun b S' => R (.bl b) S') RE ts1 S2) E := ⟨Z, [y1, .ins C gx], S', _, RE, .cons ry1 (.cons rx' .nil), ok', kS, fun t S2 v H2 kt le2 ok2 rep => by
              obtain ⟨c, rfl, kt⟩ := kt
              cases rep
              exact ⟨c, rfl, S2, le2, ok2, kt⟩, xo.le le'⟩
            have vv : Vals [V.ref b, V.ref xa] [Value.ref b, Value.ref xa] := .cons rfl (.cons rfl .nil)
            have hl : ([Value.ref b, Value.ref xa] ++ []).length = ps.length := vv.length.symm.trans (F.fn.len _ _ _ _ up)
            refine GQ.eqBool_refG same ?_
            refine PySem.W.cmp_K (op := .Eq) (tb := .ref C) (by have := hr.in1.un; omega) fr inv'.ok.mod.kin J J2.type (by simp [PySem.W.notFirst]) O.eq O.fn ?_
            refine wpAny_call (codeAny_mono (F.fn.go X.A.in1 X.stack s' H' ⟨[.ref b, .ref xa], []⟩ ([Value.ref b, Value.ref xa] ++ []) [V.ref b, V.ref xa] _ E (by first | exact gds | simpa [Around.in1] using gds) hr.in1 inv'.env0.in1 (hb s' [.ref b, .ref xa] inv'.kIn hl) (by rw [List.append_nil]; exact vv) up) fun r s2 got => ?_)
            cases r with
            | error er => exact hx pins sl H' s' er s2 inv' got
            | ok fl =>
              cases fl with
              | ret t =>
                obtain ⟨v, H2, I3, rz, c, rfl, S2, l2, o2, q⟩ := inv'.after got
                cases rz
                refine ⟨c, rfl, ?_⟩
                cases c with
                | true => exact wpAny_pure (fin H2 S2 _ I3 o2 (le'.trans l2) q)
                | false => exact ⟨H2, S2, vs1, ts1, I3, o2, le'.trans l2, e2, rs1.le l2, rx'.le l2, q⟩
              | next => exact got.elim
              | brk => exact got.elim
              | cont => exact got.elim
    · rintro s' ⟨H', S', vs', ts', inv', ok', le', rv', rs', rx', kk'⟩
      cases rv'
      cases rs'
      exact wpAny_pure ⟨.bl false, H', inv', rfl, po _ _ _ _ kk' le' ok' (.bl false)⟩
end

section
variable {X : Cx} {E : XK} {a b c : Expr} {pos : Pos} {t : TRA}
/-! a, b, c = .. -/
def sPar3 (i j l : Nat) (t : TRA) : TRS := fun D σ S => t σ S (fun ts S1 => ∃ x y z, ts = [x, y, z] ∧ D.nx (((σ.set i (some x)).set j (some y)).set l (some z)) S1) D.ex
theorem ss_par3 {i j l : Nat} {x y z : Str} {px py pz pt : Pos} {kt k2 pt2} (hc : X.calm = true) (hN : X.N.Nodup) (hi : X.N[i]? = some x) (hj : X.N[j]? = some y) (hl : X.N[l]? = some z) (hij : i ≠ j) (hil : i ≠ l) (hjl : j ≠ l)
    (hx : X.env.scope.names.lookup x = some .local) (hy : X.env.scope.names.lookup y = some .local) (hz : X.env.scope.names.lookup z = some .local) (ha : AT X E [a, b, c] t)
    (hw : swappedStores [.Tuple [.Name x px, .Name y py, .Name z pz] kt pt] (.Tuple [a, b, c] k2 pt2) X.env = pure (some [x, y, z]))
    (hs : swapsWithSole [.Tuple [.Name x px, .Name y py, .Name z pz] kt pt] (.Tuple [a, b, c] k2 pt2) pos.line X.env = pure false := by rfl) :
    SS X E (.Assign [.Tuple [.Name x px, .Name y py, .Name z pz] kt pt] (.Tuple [a, b, c] k2 pt2) pos) (sPar3 i j l t) :=
  ⟨ps_weak (ps_par3 hc hN hi hj hl hij hil hjl hx hy hz ha.pa hw hs) fun D sl H ⟨⟨Z, σ, S, DT, fr, ok, w, eo, xo⟩⟩ =>
    ⟨_, σ, S, _, DT.ex, fr, ok, w, fun xs S1 vs H1 k le ok1 rep => by
      obtain ⟨x, y, z, rfl, k⟩ := k
      cases rep with
      | cons r1 rr =>
        cases rr with
        | cons r2 rr =>
          cases rr with
          | cons r3 rr =>
            cases rr
            exact ⟨_, _, _, rfl, eo.nx _ S1 _ H1 k le ok1 ((((fr.le le).set i r1).set j r2).set l r3)⟩, xo⟩⟩
end

/-! the text -/
/-! numbers -/
def gcdI (a b : Int) : Int := (Int.gcd a b : Int)
theorem gcdI_step {a b : Int} (hb : 0 < b) : gcdI b (a % b) = gcdI a b := by
  unfold gcdI
  rw [Int.gcd_comm a b, Int.emod_def, Int.mul_comm b, Int.gcd_sub_mul_right_right]
theorem gcdI_zero {a : Int} (ha : 0 < a) : gcdI a 0 = a := by
  unfold gcdI
  rw [Int.gcd_zero_right]
  omega
theorem gcdI_pos {a b : Int} (ha : 0 < a) : 0 < gcdI a b := by
  unfold gcdI
  have := Int.gcd_pos_of_ne_zero_left b (show a ≠ 0 by omega)
  omega
theorem gcdI_le {a b : Int} (ha : 0 < a) : gcdI a b ≤ a := by
  unfold gcdI
  exact Int.le_of_dvd ha (Int.gcd_dvd_left ..)
theorem gcdI_comm (a b : Int) : gcdI a b = gcdI b a := by unfold gcdI; rw [Int.gcd_comm]
theorem gcdI_one {a : Int} : gcdI a 1 = 1 := by
  unfold gcdI
  rw [Int.gcd_one_right]
  rfl
theorem emod_lt {a b : Int} (hb : 0 < b) : 0 ≤ a % b ∧ a % b < b := ⟨Int.emod_nonneg _ (by omega), Int.emod_lt_of_pos _ hb⟩
/-- within n bits, above 0 -/
structure Pn (n : Nat) (a : Int) : Prop where
  pos : 0 < a
  lt : a.natAbs < 2 ^ n
theorem Pn.up {n m : Nat} {a : Int} (h : Pn n a) (le : n ≤ m) : Pn m a := ⟨h.pos, Nat.lt_of_lt_of_le h.lt (Nat.pow_le_pow_right (by decide) le)⟩
theorem Pn.of {n : Nat} {a : Int} (h : 0 < a) (l : a < 2 ^ n) : Pn n a := ⟨h, by
  have e : ((2 ^ n : Nat) : Int) = (2 : Int) ^ n := by norm_cast
  omega⟩
theorem Pn.le {n : Nat} {a b : Int} (h : Pn n b) (p : 0 < a) (l : a ≤ b) : Pn n a := ⟨p, wide_le (by omega) l h.lt⟩
theorem Pn.mul {n m : Nat} {a b : Int} (h : Pn n a) (k : Pn m b) : Pn (n + m) (a * b) := ⟨Int.mul_pos h.pos k.pos, wide_lt h.lt k.lt⟩
theorem Pn.mulW {n m : Nat} {a b : Int} (h : Pn n a) (k : Pn m b) (l : n + m ≤ 1000000 := by decide) (hn : 0 < n := by decide) (hm : 0 < m := by decide) : IntMulOk a b := (wide_mul h.lt k.lt hn hm l).ok
theorem mulW_of {a b : Int} {n m : Nat} (h : a.natAbs < 2 ^ n) (k : b.natAbs < 2 ^ m) (l : n + m ≤ 1000000 := by decide) (hn : 0 < n := by decide) (hm : 0 < m := by decide) : IntMulOk a b := (wide_mul h k hn hm l).ok
/-- the left one within 64 bits -/
theorem mulL {a b : Int} (h : -(2 ^ 64) < a ∧ a < 2 ^ 64) : IntMulOk a b := CMul.ok (.inl h)
theorem mulR {a b : Int} (h : -(2 ^ 64) < b ∧ b < 2 ^ 64) : IntMulOk a b := CMul.ok (.inr h)
theorem Pn.divW {n : Nat} {b : Int} (h : Pn n b) (x : Int) (l : n ≤ 9000 := by decide) (hn : 0 < n := by decide) : CDivP x b := ⟨h.pos, PyProof.noPylong_of_log2 (wide_div (i := x) h.pos h.lt hn l).2⟩
theorem div_small {b : Int} (h : 0 < b) (l : b < 2 ^ 64) (x : Int) : CDivP x b := (Pn.of (n := 64) h l).divW x
theorem Pn.gcd {n : Nat} {a b : Int} (h : Pn n a) : Pn n (gcdI a b) := h.le (gcdI_pos h.pos) (gcdI_le h.pos)
/-! lowest terms -/
def lwA (a b : Int) : Int := a / gcdI a b
def lwB (a b : Int) : Int := b / gcdI a b
theorem Pn.lwA {n : Nat} {a b : Int} (h : Pn n a) : Pn n (lwA a b) :=
  h.le (Int.ediv_pos_of_pos_of_dvd h.pos (by have := gcdI_pos (b := b) h.pos; omega) (Int.gcd_dvd_left ..)) (Int.ediv_le_self _ (by have := h.pos; omega))
theorem Pn.lwB {n : Nat} {a b : Int} (ha : 0 < a) (h : Pn n b) : Pn n (lwB a b) :=
  h.le (Int.ediv_pos_of_pos_of_dvd h.pos (by have := gcdI_pos (b := b) ha; omega) (Int.gcd_dvd_right ..)) (Int.ediv_le_self _ (by have := h.pos; omega))
theorem gcd_low {a b : Int} (ha : 0 < a) : gcdI (lwA a b) (lwB a b) = 1 := by
  have h := gcdI_pos (b := b) ha
  unfold lwA lwB
  unfold gcdI at h ⊢
  rw [Int.gcd_ediv_gcd_ediv_gcd (by omega)]
  rfl
theorem lwA_one {a : Int} : lwA a 1 = a := by unfold lwA; rw [gcdI_one, Int.ediv_one]
theorem lwB_one {a : Int} : lwB a 1 = 1 := by unfold lwB; rw [gcdI_one]; rfl
/-- a fraction in lowest terms, both parts within n bits -/
structure Fr (n : Nat) (x y : Int) : Prop where
  a : Pn n x
  b : Pn n y
  g : gcdI x y = 1
theorem Fr.up {n m : Nat} {a b : Int} (h : Fr n a b) (le : n ≤ m) : Fr m a b := ⟨h.a.up le, h.b.up le, h.g⟩
theorem Fr.low {n : Nat} {a b : Int} (ha : Pn n a) (hb : Pn n b) : Fr n (lwA a b) (lwB a b) := ⟨ha.lwA, hb.lwB ha.pos, gcd_low ha.pos⟩
theorem Fr.lwA {n : Nat} {a b : Int} (h : Fr n a b) : lwA a b = a := by unfold Gd.lwA; rw [h.g, Int.ediv_one]
theorem Fr.lwB {n : Nat} {a b : Int} (h : Fr n a b) : lwB a b = b := by unfold Gd.lwB; rw [h.g, Int.ediv_one]
/-- a tree of it -/
def frT (a b : Int) : T := .tup [.int a, .int b]
/-! while, by an invariant and a measure -/
theorem while_inv {tc : TRB} {rb : TRS} {D : EnT} {σ : Fm} {S : Store} (I : Fm → Store → Prop) (μ : Fm → Store → Nat) (h0 : I σ S)
    (turn : ∀ σ S, I σ S → ∀ N : Fm → Store → Prop, (∀ σ' S', I σ' S' → μ σ' S' < μ σ S → N σ' S') → tc σ S (fun c S1 => if c = true then rb { D with nx := N, ct := N, bk := D.nx } σ S1 else D.nx σ S1) D.ex) : sWhile tc rb D σ S :=
  ⟨fun m σ S => I σ S ∧ μ σ S = m, ⟨_, h0, rfl⟩, fun m σ S ⟨i, e⟩ => turn σ S i _ fun σ' S' i' l => ⟨μ σ' S', by omega, i', rfl⟩⟩
theorem ite_d {c : Prop} [Decidable c] {A B : Prop} (h : c → A) (h' : ¬ c → B) : if (decide c) = true then A else B := by
  by_cases e : c
  · rw [if_pos (decide_eq_true e)]; exact h e
  · rw [if_neg (by simp [e])]; exact h' e
/-- one statement, then the rest -/
theorem sSeq_i {ra rb : TRS} {D : EnT} {σ : Fm} {S : Store} (h : ∀ N : Fm → Store → Prop, (∀ σ' S', rb D σ' S' → N σ' S') → ra { D with nx := N } σ S) : sSeq ra rb D σ S := h _ fun _ _ q => q
theorem sc_common_divisor : FnScope ["one", "other"] ["one", "other"] (defScope s_common_divisor) := ⟨rfl, rfl, rfl, by decide +kernel, rfl, by decide +kernel, by decide +kernel⟩
def sp_common_divisor : SpT := fun ts S R _ => match ts with
  | [.int a, .int b] => 0 < a ∧ 0 ≤ b ∧ R (.int (gcdI a b)) S
  | _ => False
theorem ok_common_divisor {P : Program} {w : World} {K : PySem.W.Frag} {mg : Str → Option Value} {base : Heap} {f : Addr} {fd : FuncData}   (F : Fun K "common_divisor" "common_divisor" s_common_divisor f fd)
    : FnT P w K mg base 1 f fd ["one", "other"] sp_common_divisor := by
  refine okT F sc_common_divisor (by intro ts S R RE h; unfold sp_common_divisor at h; split at h <;> first | rfl | exact h.elim) (fun cdv A out s H E hg hr => (bs_cons (ss_while (passes_of rfl) (tt_cmp op_gt cv_B2n (et_var (pv 1)) et_int (nomark _)) (bs_one (ss_par (i := 0) (j := 1) (by rfl) sc_common_divisor.nd rfl rfl (by decide) rfl rfl (at_cons (et_var (pv 1)) (at_cons (et_op op_mod cv_I2 (et_var (pv 0)) (et_var (pv 1))) at_nil)) (by rfl))))
    (bs_one (ss_ret (et_var (pv 0)))))) ?_
  intro ts S R RE h
  unfold sp_common_divisor at h
  split at h
  · rename_i a b
    obtain ⟨ha, hb, q⟩ := h
    refine while_inv (fun σ S' => S' = S ∧ ∃ x y : Int, σ = [some (.int x), some (.int y)] ∧ 0 < x ∧ 0 ≤ y ∧ gcdI x y = gcdI a b) (fun σ _ => match σ with | [_, some (.int y)] => y.toNat | _ => 0) ⟨rfl, a, b, rfl, ha, hb, rfl⟩ ?_
    rintro σ S' ⟨rfl, x, y, rfl, hx, hy, g⟩ N hN
    simp only [sSeq, sAsg, sDrop, sRet, sRetN, sIf, sNext, sPar, sPar3, sFor, sRaise, sFldT, sNo, rNo, rVar, rFrz, rC, rBin, rTest, bAnd, bOr, bNot, bIf, vAnd, vOr, vNot, rIf, rNeg, aNil, aCons, rTup, rLst, rLstC, rArgs, gNameT, gNilT, gConsT, gTupT, gSubT, iSeq, iRng1T, iRng2T, rLc, rCall, rCallN, rCallS, rFld, rCon, rMake, rMakeN, rMakeP, rMeth, rMethK, rProp, rClsFn, rOpOwn, rSl, oNone, oSome, rMut, kAdd, kI2, kI2n, kMul, kIx, kIn, kLen, kU, kA2, kDm, kStrI, kAll, kSl, kAppend, kExtend, kTuple, kList, lenT, seqOf, bYes, startT, one, pickG, selG, insOf, putT, flatT, Bool.false_xor, Bool.true_xor, List.all_cons, List.all_nil, Bool.and_self, T.int.injEq, T.bl.injEq, T.str.injEq, T.lst.injEq, T.tup.injEq, T.cell.injEq, T.ins.injEq, Cell.lst.injEq, Cell.ins.injEq, Prod.mk.injEq, List.cons.injEq, Option.some.injEq, List.map_cons, List.map_nil, List.length_cons, List.length_nil, List.cons_append, List.nil_append, List.append_nil, List.getElem?_cons_zero, List.getElem?_cons_succ, List.set_cons_zero, List.set_cons_succ, List.replicate_succ, List.replicate_zero, exists_eq_left, exists_eq_left', exists_and_left, and_true, true_and, and_self, and_assoc, Nat.sub_self, Nat.reduceAdd, Nat.reduceSub, Nat.zero_add, put_put, put_same, reduceIte, Bool.false_eq_true, Bool.true_eq_false, Bool.not_true, Bool.not_false, at_0, at_1, at_2, at_3, at_4, at_5, at_6, at_7, ix_1_0, ix_2_0, ix_2_1, ix_3_0, ix_3_1, ix_3_2, ix_4_0, ix_4_1, ix_4_2, ix_4_3]
    refine ite_d (fun c => ?_) (fun c => ?_)
    · have := emod_lt (a := x) c
      exact ⟨c, hN _ _ ⟨rfl, y, _, rfl, c, this.1, (gcdI_step c).trans g⟩ (by show (x % y).toNat < y.toNat; omega)⟩
    · have e : y = 0 := by omega
      subst e
      rw [gcdI_zero hx] at g
      subst g
      exact q
  · exact h.elim
theorem sc_lowest_terms : FnScope ["top", "bottom", "divisor"] ["top", "bottom"] (defScope s_lowest_terms) := ⟨rfl, rfl, rfl, by decide +kernel, rfl, by decide +kernel, by decide +kernel⟩
def sp_lowest_terms : SpT := fun ts S R _ => match ts with
  | [.int a, .int b] => Pn 8000 a ∧ 0 < b ∧ R (frT (lwA a b) (lwB a b)) S
  | _ => False
theorem ok_lowest_terms {P : Program} {w : World} {K : PySem.W.Frag} {mg : Str → Option Value} {base : Heap} {f : Addr} {fd : FuncData} {g_common_divisor : Addr} {gd_common_divisor : FuncData} (F : Fun K "lowest_terms" "lowest_terms" s_lowest_terms f fd)
    (G_common_divisor : FnT P w K mg base 1 g_common_divisor gd_common_divisor ["one", "other"] sp_common_divisor)
    (m_common_divisor : mg "common_divisor" = some (.ref g_common_divisor))
    (k_common_divisor : PySem.W.keepIn K (.ref g_common_divisor) = true)
    (b_common_divisor : Binds K gd_common_divisor ["one", "other"] [])
    : FnT P w K mg base 2 f fd ["top", "bottom"] sp_lowest_terms := by
  refine okT F sc_lowest_terms (by intro ts S R RE h; unfold sp_lowest_terms at h; split at h <;> first | rfl | exact h.elim) (fun cdv A out s H E hg hr => (bs_cons (ss_set (i := 2) sc_lowest_terms.nd rfl (by first | exact Or.inl rfl | exact Or.inr rfl) (et_callD G_common_divisor hg (hr.mono (by decide)) (by rfl) m_common_divisor k_common_divisor (CallD.all b_common_divisor) (passL2N (L2N.takes_of rfl rfl rfl rfl)) (at_cons (et_var (pv 0)) (at_cons (et_var (pv 1)) at_nil))))
    (bs_one (ss_ret (et_tup (at_cons (et_op op_fdivP cv_I2 (et_var (pv 0)) (et_var (pv 2))) (at_cons (et_op op_fdivP cv_I2 (et_var (pv 1)) (et_var (pv 2))) at_nil))))))) ?_
  intro ts S R RE h
  unfold sp_lowest_terms at h
  split at h
  · rename_i a b
    obtain ⟨ha, hb, q⟩ := h
    simp only [sSeq, sAsg, sDrop, sRet, sRetN, sIf, sNext, sPar, sPar3, sFor, sRaise, sFldT, sNo, rNo, rVar, rFrz, rC, rBin, rTest, bAnd, bOr, bNot, bIf, vAnd, vOr, vNot, rIf, rNeg, aNil, aCons, rTup, rLst, rLstC, rArgs, gNameT, gNilT, gConsT, gTupT, gSubT, iSeq, iRng1T, iRng2T, rLc, rCall, rCallN, rCallS, rFld, rCon, rMake, rMakeN, rMakeP, rMeth, rMethK, rProp, rClsFn, rOpOwn, rSl, oNone, oSome, rMut, kAdd, kI2, kI2n, kMul, kIx, kIn, kLen, kU, kA2, kDm, kStrI, kAll, kSl, kAppend, kExtend, kTuple, kList, lenT, seqOf, bYes, startT, one, pickG, selG, insOf, putT, flatT, Bool.false_xor, Bool.true_xor, List.all_cons, List.all_nil, Bool.and_self, T.int.injEq, T.bl.injEq, T.str.injEq, T.lst.injEq, T.tup.injEq, T.cell.injEq, T.ins.injEq, Cell.lst.injEq, Cell.ins.injEq, Prod.mk.injEq, List.cons.injEq, Option.some.injEq, List.map_cons, List.map_nil, List.length_cons, List.length_nil, List.cons_append, List.nil_append, List.append_nil, List.getElem?_cons_zero, List.getElem?_cons_succ, List.set_cons_zero, List.set_cons_succ, List.replicate_succ, List.replicate_zero, exists_eq_left, exists_eq_left', exists_and_left, and_true, true_and, and_self, and_assoc, Nat.sub_self, Nat.reduceAdd, Nat.reduceSub, Nat.zero_add, put_put, put_same, reduceIte, Bool.false_eq_true, Bool.true_eq_false, Bool.not_true, Bool.not_false, at_0, at_1, at_2, at_3, at_4, at_5, at_6, at_7, ix_1_0, ix_2_0, ix_2_1, ix_3_0, ix_3_1, ix_3_2, ix_4_0, ix_4_1, ix_4_2, ix_4_3]
    refine ⟨ha.pos, by omega, ?_⟩
    simp only [sSeq, sAsg, sDrop, sRet, sRetN, sIf, sNext, sPar, sPar3, sFor, sRaise, sFldT, sNo, rNo, rVar, rFrz, rC, rBin, rTest, bAnd, bOr, bNot, bIf, vAnd, vOr, vNot, rIf, rNeg, aNil, aCons, rTup, rLst, rLstC, rArgs, gNameT, gNilT, gConsT, gTupT, gSubT, iSeq, iRng1T, iRng2T, rLc, rCall, rCallN, rCallS, rFld, rCon, rMake, rMakeN, rMakeP, rMeth, rMethK, rProp, rClsFn, rOpOwn, rSl, oNone, oSome, rMut, kAdd, kI2, kI2n, kMul, kIx, kIn, kLen, kU, kA2, kDm, kStrI, kAll, kSl, kAppend, kExtend, kTuple, kList, lenT, seqOf, bYes, startT, one, pickG, selG, insOf, putT, flatT, Bool.false_xor, Bool.true_xor, List.all_cons, List.all_nil, Bool.and_self, T.int.injEq, T.bl.injEq, T.str.injEq, T.lst.injEq, T.tup.injEq, T.cell.injEq, T.ins.injEq, Cell.lst.injEq, Cell.ins.injEq, Prod.mk.injEq, List.cons.injEq, Option.some.injEq, List.map_cons, List.map_nil, List.length_cons, List.length_nil, List.cons_append, List.nil_append, List.append_nil, List.getElem?_cons_zero, List.getElem?_cons_succ, List.set_cons_zero, List.set_cons_succ, List.replicate_succ, List.replicate_zero, exists_eq_left, exists_eq_left', exists_and_left, and_true, true_and, and_self, and_assoc, Nat.sub_self, Nat.reduceAdd, Nat.reduceSub, Nat.zero_add, put_put, put_same, reduceIte, Bool.false_eq_true, Bool.true_eq_false, Bool.not_true, Bool.not_false, at_0, at_1, at_2, at_3, at_4, at_5, at_6, at_7, ix_1_0, ix_2_0, ix_2_1, ix_3_0, ix_3_1, ix_3_2, ix_4_0, ix_4_1, ix_4_2, ix_4_3]
    exact ⟨ha.gcd.divW _, ha.gcd.divW _, by decide, q⟩
  · exact h.elim
/-! of what kind a value is -/
def kindsT : List String := ["int", "bool", "str", "tuple", "list"]
def isK : T → String → Bool
  | .int _, n => n == "int"
  | .bl _, n => n == "bool" || n == "int"
  | .str _, n => n == "str"
  | .tup _, n => n == "tuple"
  | .lst _, n => n == "list"
  | .scr _, n => n == "list"
  | .cell _, n => n == "list"
  | _, _ => false
/-- a value of which the kind is known -/
def ValT (K : PySem.W.Frag) (S : Store) (x : T) : Prop := ∃ t, TyT K S x t ∧ ∀ n ∈ kindsT, PySem.W.kitOne K t (.type n) = some (isK x n)
theorem kind_of {K : PySem.W.Frag} {S : Store} {x : T} {ty : String} (h : TyT K S x (.type ty)) (e : kindsT.all (fun n => kitB ty n == some (isK x n)) = true) : ValT K S x :=
  ⟨_, h, fun n m => kit_ty (by have := List.all_eq_true.mp e n m; simpa using this)⟩
section
variable {K : PySem.W.Frag} {S : Store}
theorem ValT.non : ValT K S .non := kind_of .non (by decide +kernel)
theorem ValT.bl {b : Bool} : ValT K S (.bl b) := kind_of (.bl b) (by show (kindsT.all fun n => kitB "bool" n == some (isK (.bl true) n)) = true; decide +kernel)
theorem ValT.int {i : Int} : ValT K S (.int i) := kind_of (.int i) (by show (kindsT.all fun n => kitB "int" n == some (isK (.int 0) n)) = true; decide +kernel)
theorem ValT.str {z : Str} : ValT K S (.str z) := kind_of (.str z) (by show (kindsT.all fun n => kitB "str" n == some (isK (.str Str.empty) n)) = true; decide +kernel)
theorem ValT.tup {l : List T} : ValT K S (.tup l) := kind_of (.tup l) (by show (kindsT.all fun n => kitB "tuple" n == some (isK (.tup []) n)) = true; decide +kernel)
theorem ValT.lst {l : List T} : ValT K S (.lst l) := kind_of (.lst l) (by show (kindsT.all fun n => kitB "list" n == some (isK (.lst []) n)) = true; decide +kernel)
theorem ValT.is {x : T} {n : String} (h : ValT K S x) (m : n ∈ kindsT) {R : T → Store → Prop} {RE : XT} (q : R (.bl (isK x n)) S) : kIsi K [x, .ty n] S R RE := by
  obtain ⟨t, ty, k⟩ := h
  exact ⟨x, .ty n, t, .type n, _, rfl, .ty n, ty, k n m, q⟩
end
def isInt : T → Bool
  | .int _ => true
  | _ => false
def isPos : T → Bool
  | .int i => decide (0 < i)
  | _ => false
theorem sc_is_integer : FnScope ["value"] ["value"] (defScope s_is_integer) := ⟨rfl, rfl, rfl, by decide +kernel, rfl, by decide +kernel, by decide +kernel⟩
def sp_is_integer (K : PySem.W.Frag) : SpT := fun ts S R _ => match ts with
  | [x] => ValT K S x ∧ R (.bl (isInt x)) S
  | _ => False
theorem ok_is_integer {P : Program} {w : World} {K : PySem.W.Frag} {mg : Str → Option Value} {base : Heap} {f : Addr} {fd : FuncData}   (F : Fun K "is_integer" "is_integer" s_is_integer f fd)
    (n_isinstance : mg "isinstance" = none)
    (n_bool : mg "bool" = none)
    (n_int : mg "int" = none)
    : FnT P w K mg base 1 f fd ["value"] (sp_is_integer K) := by
  refine okT F sc_is_integer (by intro ts S R RE h; unfold sp_is_integer at h; split at h <;> first | rfl | exact h.elim) (fun cdv A out s H E hg hr => (bs_one (ss_ret (et_and (et_blt call_isi (cv_isi (K := K)) (by rfl) n_isinstance PyProof.Rows.boot_isinstance (at_cons (et_var (pv 0)) (at_cons (et_blty (by rfl) n_int PyProof.Rows.boot_int) at_nil))) (et_one (et_not (et_blt call_isi (cv_isi (K := K)) (by rfl) n_isinstance PyProof.Rows.boot_isinstance (at_cons (et_var (pv 0)) (at_cons (et_blty (by rfl) n_bool PyProof.Rows.boot_bool) at_nil))))))))) ?_
  intro ts S R RE h
  unfold sp_is_integer at h
  split at h
  · rename_i x
    obtain ⟨hv, q⟩ := h
    simp only [sSeq, sAsg, sDrop, sRet, sRetN, sIf, sNext, sPar, sPar3, sFor, sRaise, sFldT, sNo, rNo, rVar, rFrz, rC, rBin, rTest, bAnd, bOr, bNot, bIf, vAnd, vOr, vNot, rIf, rNeg, aNil, aCons, rTup, rLst, rLstC, rArgs, gNameT, gNilT, gConsT, gTupT, gSubT, iSeq, iRng1T, iRng2T, rLc, rCall, rCallN, rCallS, rFld, rCon, rMake, rMakeN, rMakeP, rMeth, rMethK, rProp, rClsFn, rOpOwn, rSl, oNone, oSome, rMut, kAdd, kI2, kI2n, kMul, kIx, kIn, kLen, kU, kA2, kDm, kStrI, kAll, kSl, kAppend, kExtend, kTuple, kList, lenT, seqOf, bYes, startT, one, pickG, selG, insOf, putT, flatT, Bool.false_xor, Bool.true_xor, List.all_cons, List.all_nil, Bool.and_self, T.int.injEq, T.bl.injEq, T.str.injEq, T.lst.injEq, T.tup.injEq, T.cell.injEq, T.ins.injEq, Cell.lst.injEq, Cell.ins.injEq, Prod.mk.injEq, List.cons.injEq, Option.some.injEq, List.map_cons, List.map_nil, List.length_cons, List.length_nil, List.cons_append, List.nil_append, List.append_nil, List.getElem?_cons_zero, List.getElem?_cons_succ, List.set_cons_zero, List.set_cons_succ, List.replicate_succ, List.replicate_zero, exists_eq_left, exists_eq_left', exists_and_left, and_true, true_and, and_self, and_assoc, Nat.sub_self, Nat.reduceAdd, Nat.reduceSub, Nat.zero_add, put_put, put_same, reduceIte, Bool.false_eq_true, Bool.true_eq_false, Bool.not_true, Bool.not_false, at_0, at_1, at_2, at_3, at_4, at_5, at_6, at_7, ix_1_0, ix_2_0, ix_2_1, ix_3_0, ix_3_1, ix_3_2, ix_4_0, ix_4_1, ix_4_2, ix_4_3]
    refine hv.is (n := "int") (by decide) ?_
    refine ⟨_, rfl, ?_⟩
    cases e : isK x "int" with
    | true =>
      rw [if_pos rfl]
      refine hv.is (n := "bool") (by decide) ?_
      refine ⟨_, rfl, ?_⟩
      have : (!isK x "bool") = isInt x := by cases x <;> first | rfl | (cases e; done)
      rw [this]
      exact q
    | false =>
      have : isInt x = false := by cases x <;> first | rfl | (cases e; done)
      rw [this] at q
      exact q
  · exact h.elim
theorem sc_is_positive : FnScope ["value"] ["value"] (defScope s_is_positive) := ⟨rfl, rfl, rfl, by decide +kernel, rfl, by decide +kernel, by decide +kernel⟩
def sp_is_positive (K : PySem.W.Frag) : SpT := fun ts S R _ => match ts with
  | [x] => ValT K S x ∧ R (.bl (isPos x)) S
  | _ => False
theorem ok_is_positive {P : Program} {w : World} {K : PySem.W.Frag} {mg : Str → Option Value} {base : Heap} {f : Addr} {fd : FuncData} {g_is_integer : Addr} {gd_is_integer : FuncData} (F : Fun K "is_positive" "is_positive" s_is_positive f fd)
    (G_is_integer : FnT P w K mg base 1 g_is_integer gd_is_integer ["value"] (sp_is_integer K))
    (m_is_integer : mg "is_integer" = some (.ref g_is_integer))
    (k_is_integer : PySem.W.keepIn K (.ref g_is_integer) = true)
    (b_is_integer : Binds K gd_is_integer ["value"] [])
    : FnT P w K mg base 2 f fd ["value"] (sp_is_positive K) := by
  refine okT F sc_is_positive (by intro ts S R RE h; unfold sp_is_positive at h; split at h <;> first | rfl | exact h.elim) (fun cdv A out s H E hg hr => (bs_one (ss_ret (et_and (et_callD G_is_integer hg (hr.mono (by decide)) (by rfl) m_is_integer k_is_integer (CallD.all b_is_integer) (passL2N (L2N.takes_of rfl rfl rfl rfl)) (at_cons (et_var (pv 0)) at_nil)) (et_one (et_cmp op_gt cv_B2n (et_var (pv 0)) et_int (nomark _))))))) ?_
  intro ts S R RE h
  unfold sp_is_positive at h
  split at h
  · rename_i x
    obtain ⟨hv, q⟩ := h
    simp only [sp_is_integer, sSeq, sAsg, sDrop, sRet, sRetN, sIf, sNext, sPar, sPar3, sFor, sRaise, sFldT, sNo, rNo, rVar, rFrz, rC, rBin, rTest, bAnd, bOr, bNot, bIf, vAnd, vOr, vNot, rIf, rNeg, aNil, aCons, rTup, rLst, rLstC, rArgs, gNameT, gNilT, gConsT, gTupT, gSubT, iSeq, iRng1T, iRng2T, rLc, rCall, rCallN, rCallS, rFld, rCon, rMake, rMakeN, rMakeP, rMeth, rMethK, rProp, rClsFn, rOpOwn, rSl, oNone, oSome, rMut, kAdd, kI2, kI2n, kMul, kIx, kIn, kLen, kU, kA2, kDm, kStrI, kAll, kSl, kAppend, kExtend, kTuple, kList, lenT, seqOf, bYes, startT, one, pickG, selG, insOf, putT, flatT, Bool.false_xor, Bool.true_xor, List.all_cons, List.all_nil, Bool.and_self, T.int.injEq, T.bl.injEq, T.str.injEq, T.lst.injEq, T.tup.injEq, T.cell.injEq, T.ins.injEq, Cell.lst.injEq, Cell.ins.injEq, Prod.mk.injEq, List.cons.injEq, Option.some.injEq, List.map_cons, List.map_nil, List.length_cons, List.length_nil, List.cons_append, List.nil_append, List.append_nil, List.getElem?_cons_zero, List.getElem?_cons_succ, List.set_cons_zero, List.set_cons_succ, List.replicate_succ, List.replicate_zero, exists_eq_left, exists_eq_left', exists_and_left, and_true, true_and, and_self, and_assoc, Nat.sub_self, Nat.reduceAdd, Nat.reduceSub, Nat.zero_add, put_put, put_same, reduceIte, Bool.false_eq_true, Bool.true_eq_false, Bool.not_true, Bool.not_false, at_0, at_1, at_2, at_3, at_4, at_5, at_6, at_7, ix_1_0, ix_2_0, ix_2_1, ix_3_0, ix_3_1, ix_3_2, ix_4_0, ix_4_1, ix_4_2, ix_4_3]
    refine ⟨hv, ?_⟩
    cases x <;> first | exact q | (simp only [isInt, isPos, sSeq, sAsg, sDrop, sRet, sRetN, sIf, sNext, sPar, sPar3, sFor, sRaise, sFldT, sNo, rNo, rVar, rFrz, rC, rBin, rTest, bAnd, bOr, bNot, bIf, vAnd, vOr, vNot, rIf, rNeg, aNil, aCons, rTup, rLst, rLstC, rArgs, gNameT, gNilT, gConsT, gTupT, gSubT, iSeq, iRng1T, iRng2T, rLc, rCall, rCallN, rCallS, rFld, rCon, rMake, rMakeN, rMakeP, rMeth, rMethK, rProp, rClsFn, rOpOwn, rSl, oNone, oSome, rMut, kAdd, kI2, kI2n, kMul, kIx, kIn, kLen, kU, kA2, kDm, kStrI, kAll, kSl, kAppend, kExtend, kTuple, kList, lenT, seqOf, bYes, startT, one, pickG, selG, insOf, putT, flatT, Bool.false_xor, Bool.true_xor, List.all_cons, List.all_nil, Bool.and_self, T.int.injEq, T.bl.injEq, T.str.injEq, T.lst.injEq, T.tup.injEq, T.cell.injEq, T.ins.injEq, Cell.lst.injEq, Cell.ins.injEq, Prod.mk.injEq, List.cons.injEq, Option.some.injEq, List.map_cons, List.map_nil, List.length_cons, List.length_nil, List.cons_append, List.nil_append, List.append_nil, List.getElem?_cons_zero, List.getElem?_cons_succ, List.set_cons_zero, List.set_cons_succ, List.replicate_succ, List.replicate_zero, exists_eq_left, exists_eq_left', exists_and_left, and_true, true_and, and_self, and_assoc, Nat.sub_self, Nat.reduceAdd, Nat.reduceSub, Nat.zero_add, put_put, put_same, reduceIte, Bool.false_eq_true, Bool.true_eq_false, Bool.not_true, Bool.not_false, at_0, at_1, at_2, at_3, at_4, at_5, at_6, at_7, ix_1_0, ix_2_0, ix_2_1, ix_3_0, ix_3_1, ix_3_2, ix_4_0, ix_4_1, ix_4_2, ix_4_3] at q ⊢; exact q)
  · exact h.elim
theorem sc_fraction : FnScope ["top", "bottom", "part"] ["top", "bottom"] (defScope s_fraction) := ⟨rfl, rfl, rfl, by decide +kernel, rfl, by decide +kernel, by decide +kernel⟩
def sp_fraction (K : PySem.W.Frag) (C : Addr) : SpT := fun ts S R RE => match ts with
  | [x, y] => ValT K S x ∧ ValT K S y ∧ if isPos x = true then (if isPos y = true then ∃ a b, x = .int a ∧ y = .int b ∧ Pn 8000 a ∧ R (frT (lwA a b) (lwB a b)) S else RE C [("value", y)] S) else RE C [("value", x)] S
  | _ => False
theorem ok_fraction {P : Program} {w : World} {K : PySem.W.Frag} {mg : Str → Option Value} {base : Heap} {f : Addr} {fd : FuncData} {g_lowest_terms g_is_positive C_InvalidFraction fI_InvalidFraction : Addr} {gd_lowest_terms : FuncData} {gd_is_positive : FuncData} (F : FunD K "fraction" "fraction" (defArgs s_fraction) (defBody s_fraction) (defScope s_fraction) [.int 1] [] f fd)
    (G_lowest_terms : FnT P w K mg base 2 g_lowest_terms gd_lowest_terms ["top", "bottom"] sp_lowest_terms)
    (m_lowest_terms : mg "lowest_terms" = some (.ref g_lowest_terms))
    (k_lowest_terms : PySem.W.keepIn K (.ref g_lowest_terms) = true)
    (b_lowest_terms : Binds K gd_lowest_terms ["top", "bottom"] [])
    (G_is_positive : FnT P w K mg base 2 g_is_positive gd_is_positive ["value"] (sp_is_positive K))
    (m_is_positive : mg "is_positive" = some (.ref g_is_positive))
    (k_is_positive : PySem.W.keepIn K (.ref g_is_positive) = true)
    (b_is_positive : Binds K gd_is_positive ["value"] [])
    (Z_InvalidFraction : EvTxt K C_InvalidFraction fI_InvalidFraction "InvalidFraction.__init__")
    (m_InvalidFraction : mg "InvalidFraction" = some (.ref C_InvalidFraction))
    : FnT P w K mg base 3 f fd ["top", "bottom"] (sp_fraction K C_InvalidFraction) := by
  refine okTK F sc_fraction (by intro ts S R RE h; unfold sp_fraction at h; split at h <;> first | rfl | exact h.elim) (fun cdv A out s H E hg hr => (bs_cons (ss_for (passes_of rfl) rfl (it_seq (et_tup (at_cons (et_var (pv 0)) (at_cons (et_var (pv 1)) at_nil)))) (gt_name (pg_name (i := 2) sc_fraction.nd rfl (by first | exact Or.inl rfl | exact Or.inr rfl))) (bs_one (ss_if (tt_not (tt_val (et_callD G_is_positive hg (hr.mono (by decide)) (by rfl) m_is_positive k_is_positive (CallD.all b_is_positive) (passL2N (L2N.takes_of rfl rfl rfl rfl)) (at_cons (et_var (pv 2)) at_nil)))) (bs_one (ss_raise Z_InvalidFraction rfl m_InvalidFraction hr (L2N.takes_of rfl rfl rfl rfl) (hg := by rfl) (at_cons (et_var (pv 2)) at_nil))) bs_nil)))
    (bs_one (ss_ret (et_callD G_lowest_terms hg (hr.mono (by decide)) (by rfl) m_lowest_terms k_lowest_terms (CallD.all b_lowest_terms) (passL2N (L2N.takes_of rfl rfl rfl rfl)) (at_cons (et_var (pv 0)) (at_cons (et_var (pv 1)) at_nil))))))) ?_
  intro ts S R RE h
  unfold sp_fraction at h
  split at h
  · rename_i x y
    obtain ⟨hx, hy, q⟩ := h
    refine sSeq_i fun N hN => ?_
    simp only [sp_is_positive, rLoop, sSeq, sAsg, sDrop, sRet, sRetN, sIf, sNext, sPar, sPar3, sFor, sRaise, sFldT, sNo, rNo, rVar, rFrz, rC, rBin, rTest, bAnd, bOr, bNot, bIf, vAnd, vOr, vNot, rIf, rNeg, aNil, aCons, rTup, rLst, rLstC, rArgs, gNameT, gNilT, gConsT, gTupT, gSubT, iSeq, iRng1T, iRng2T, rLc, rCall, rCallN, rCallS, rFld, rCon, rMake, rMakeN, rMakeP, rMeth, rMethK, rProp, rClsFn, rOpOwn, rSl, oNone, oSome, rMut, kAdd, kI2, kI2n, kMul, kIx, kIn, kLen, kU, kA2, kDm, kStrI, kAll, kSl, kAppend, kExtend, kTuple, kList, lenT, seqOf, bYes, startT, one, pickG, selG, insOf, putT, flatT, Bool.false_xor, Bool.true_xor, List.all_cons, List.all_nil, Bool.and_self, T.int.injEq, T.bl.injEq, T.str.injEq, T.lst.injEq, T.tup.injEq, T.cell.injEq, T.ins.injEq, Cell.lst.injEq, Cell.ins.injEq, Prod.mk.injEq, List.cons.injEq, Option.some.injEq, List.map_cons, List.map_nil, List.length_cons, List.length_nil, List.cons_append, List.nil_append, List.append_nil, List.getElem?_cons_zero, List.getElem?_cons_succ, List.set_cons_zero, List.set_cons_succ, List.replicate_succ, List.replicate_zero, exists_eq_left, exists_eq_left', exists_and_left, and_true, true_and, and_self, and_assoc, Nat.sub_self, Nat.reduceAdd, Nat.reduceSub, Nat.zero_add, put_put, put_same, reduceIte, Bool.false_eq_true, Bool.true_eq_false, Bool.not_true, Bool.not_false, at_0, at_1, at_2, at_3, at_4, at_5, at_6, at_7, ix_1_0, ix_2_0, ix_2_1, ix_3_0, ix_3_1, ix_3_2, ix_4_0, ix_4_1, ix_4_2, ix_4_3]
    refine ⟨by decide, hx, ?_⟩
    cases ex : isPos x with
    | false =>
      rw [ex] at q
      exact q
    | true =>
      simp only [sSeq, sAsg, sDrop, sRet, sRetN, sIf, sNext, sPar, sPar3, sFor, sRaise, sFldT, sNo, rNo, rVar, rFrz, rC, rBin, rTest, bAnd, bOr, bNot, bIf, vAnd, vOr, vNot, rIf, rNeg, aNil, aCons, rTup, rLst, rLstC, rArgs, gNameT, gNilT, gConsT, gTupT, gSubT, iSeq, iRng1T, iRng2T, rLc, rCall, rCallN, rCallS, rFld, rCon, rMake, rMakeN, rMakeP, rMeth, rMethK, rProp, rClsFn, rOpOwn, rSl, oNone, oSome, rMut, kAdd, kI2, kI2n, kMul, kIx, kIn, kLen, kU, kA2, kDm, kStrI, kAll, kSl, kAppend, kExtend, kTuple, kList, lenT, seqOf, bYes, startT, one, pickG, selG, insOf, putT, flatT, Bool.false_xor, Bool.true_xor, List.all_cons, List.all_nil, Bool.and_self, T.int.injEq, T.bl.injEq, T.str.injEq, T.lst.injEq, T.tup.injEq, T.cell.injEq, T.ins.injEq, Cell.lst.injEq, Cell.ins.injEq, Prod.mk.injEq, List.cons.injEq, Option.some.injEq, List.map_cons, List.map_nil, List.length_cons, List.length_nil, List.cons_append, List.nil_append, List.append_nil, List.getElem?_cons_zero, List.getElem?_cons_succ, List.set_cons_zero, List.set_cons_succ, List.replicate_succ, List.replicate_zero, exists_eq_left, exists_eq_left', exists_and_left, and_true, true_and, and_self, and_assoc, Nat.sub_self, Nat.reduceAdd, Nat.reduceSub, Nat.zero_add, put_put, put_same, reduceIte, Bool.false_eq_true, Bool.true_eq_false, Bool.not_true, Bool.not_false, at_0, at_1, at_2, at_3, at_4, at_5, at_6, at_7, ix_1_0, ix_2_0, ix_2_1, ix_3_0, ix_3_1, ix_3_2, ix_4_0, ix_4_1, ix_4_2, ix_4_3]
      refine ⟨hy, ?_⟩
      rw [ex] at q
      cases ey : isPos y with
      | false =>
        rw [ey] at q
        exact q
      | true =>
        rw [ey] at q
        obtain ⟨a, b, rfl, rfl, ha, q⟩ := q
        have hb : 0 < b := of_decide_eq_true ey
        simp only [sSeq, sAsg, sDrop, sRet, sRetN, sIf, sNext, sPar, sPar3, sFor, sRaise, sFldT, sNo, rNo, rVar, rFrz, rC, rBin, rTest, bAnd, bOr, bNot, bIf, vAnd, vOr, vNot, rIf, rNeg, aNil, aCons, rTup, rLst, rLstC, rArgs, gNameT, gNilT, gConsT, gTupT, gSubT, iSeq, iRng1T, iRng2T, rLc, rCall, rCallN, rCallS, rFld, rCon, rMake, rMakeN, rMakeP, rMeth, rMethK, rProp, rClsFn, rOpOwn, rSl, oNone, oSome, rMut, kAdd, kI2, kI2n, kMul, kIx, kIn, kLen, kU, kA2, kDm, kStrI, kAll, kSl, kAppend, kExtend, kTuple, kList, lenT, seqOf, bYes, startT, one, pickG, selG, insOf, putT, flatT, Bool.false_xor, Bool.true_xor, List.all_cons, List.all_nil, Bool.and_self, T.int.injEq, T.bl.injEq, T.str.injEq, T.lst.injEq, T.tup.injEq, T.cell.injEq, T.ins.injEq, Cell.lst.injEq, Cell.ins.injEq, Prod.mk.injEq, List.cons.injEq, Option.some.injEq, List.map_cons, List.map_nil, List.length_cons, List.length_nil, List.cons_append, List.nil_append, List.append_nil, List.getElem?_cons_zero, List.getElem?_cons_succ, List.set_cons_zero, List.set_cons_succ, List.replicate_succ, List.replicate_zero, exists_eq_left, exists_eq_left', exists_and_left, and_true, true_and, and_self, and_assoc, Nat.sub_self, Nat.reduceAdd, Nat.reduceSub, Nat.zero_add, put_put, put_same, reduceIte, Bool.false_eq_true, Bool.true_eq_false, Bool.not_true, Bool.not_false, at_0, at_1, at_2, at_3, at_4, at_5, at_6, at_7, ix_1_0, ix_2_0, ix_2_1, ix_3_0, ix_3_1, ix_3_2, ix_4_0, ix_4_1, ix_4_2, ix_4_3]
        refine hN _ _ ?_
        simp only [sp_lowest_terms, sSeq, sAsg, sDrop, sRet, sRetN, sIf, sNext, sPar, sPar3, sFor, sRaise, sFldT, sNo, rNo, rVar, rFrz, rC, rBin, rTest, bAnd, bOr, bNot, bIf, vAnd, vOr, vNot, rIf, rNeg, aNil, aCons, rTup, rLst, rLstC, rArgs, gNameT, gNilT, gConsT, gTupT, gSubT, iSeq, iRng1T, iRng2T, rLc, rCall, rCallN, rCallS, rFld, rCon, rMake, rMakeN, rMakeP, rMeth, rMethK, rProp, rClsFn, rOpOwn, rSl, oNone, oSome, rMut, kAdd, kI2, kI2n, kMul, kIx, kIn, kLen, kU, kA2, kDm, kStrI, kAll, kSl, kAppend, kExtend, kTuple, kList, lenT, seqOf, bYes, startT, one, pickG, selG, insOf, putT, flatT, Bool.false_xor, Bool.true_xor, List.all_cons, List.all_nil, Bool.and_self, T.int.injEq, T.bl.injEq, T.str.injEq, T.lst.injEq, T.tup.injEq, T.cell.injEq, T.ins.injEq, Cell.lst.injEq, Cell.ins.injEq, Prod.mk.injEq, List.cons.injEq, Option.some.injEq, List.map_cons, List.map_nil, List.length_cons, List.length_nil, List.cons_append, List.nil_append, List.append_nil, List.getElem?_cons_zero, List.getElem?_cons_succ, List.set_cons_zero, List.set_cons_succ, List.replicate_succ, List.replicate_zero, exists_eq_left, exists_eq_left', exists_and_left, and_true, true_and, and_self, and_assoc, Nat.sub_self, Nat.reduceAdd, Nat.reduceSub, Nat.zero_add, put_put, put_same, reduceIte, Bool.false_eq_true, Bool.true_eq_false, Bool.not_true, Bool.not_false, at_0, at_1, at_2, at_3, at_4, at_5, at_6, at_7, ix_1_0, ix_2_0, ix_2_1, ix_3_0, ix_3_1, ix_3_2, ix_4_0, ix_4_1, ix_4_2, ix_4_3]
        exact ⟨ha, hb, q⟩
  · exact h.elim
/-! the pool -/
def PoolT (S : Store) (p : Addr) : Prop := ∃ x d c : Int, S p = some (.lst [.int x, .int d, .int c]) ∧ 0 ≤ x ∧ x < 2147483137 ∧ 0 ≤ d
theorem cutT_ints (ns : List Int) (lo hi : Option Int) : ∃ ms : List Int, cutT (ns.map T.int) lo hi = ms.map T.int := by
  refine ⟨(ns.drop (HT.sIx (ns.map T.int).length 0 lo)).take (HT.sIx (ns.map T.int).length (ns.map T.int).length hi - HT.sIx (ns.map T.int).length 0 lo), ?_⟩
  unfold cutT
  rw [List.map_take, List.map_drop]
theorem at_ints {ns : List Int} {k : Int} (h0 : 0 ≤ k) (c : k < (ns.length : Int)) : ∃ z, atI (ns.map T.int) k = some (.int z) := by
  have hn : k.toNat < ns.length := by omega
  have := atI_nat (xs := ns.map T.int) (j := k.toNat) (v := .int ns[k.toNat]) (by rw [List.getElem?_map, List.getElem?_eq_getElem hn]; rfl)
  rw [show ((k.toNat : Nat) : Int) = k by omega] at this
  exact ⟨_, this⟩
/-- the pool at p goes on -/
def PS (S : Store) (p : Addr) (S' : Store) : Prop := ∃ x d c : Int, 0 ≤ x ∧ x < 2147483137 ∧ 0 ≤ d ∧ S' = S.put p (.lst [.int x, .int d, .int c])
theorem PS.pool {S S' : Store} {p : Addr} (h : PS S p S') : PoolT S' p := by
  obtain ⟨x, d, c, h1, h2, h3, rfl⟩ := h
  exact ⟨x, d, c, put_same, h1, h2, h3⟩
theorem PS.trans {S S' S2 : Store} {p : Addr} (h : PS S p S') (k : PS S' p S2) : PS S p S2 := by
  obtain ⟨x, d, c, h1, h2, h3, rfl⟩ := h
  obtain ⟨x', d', c', h1, h2, h3, rfl⟩ := k
  exact ⟨x', d', c', h1, h2, h3, put_put⟩
theorem sc_l_cell : FnScope ["_law_script", "_law_k", "_law_state", "_law_figure"] ["_law_script", "_law_k"] (defScope s_l_cell) := ⟨rfl, rfl, rfl, by decide +kernel, rfl, by decide +kernel, by decide +kernel⟩
def sp_l_cell : SpT := fun ts S R _ => match ts with
  | [.scr ts, .int k] => (∃ ns : List Int, ts = ns.map T.int ∧ ns.length ≤ 63) ∧ 0 ≤ k ∧ k < 2 ^ 60 ∧ ∀ z : Int, R (.int z) S
  | _ => False
theorem ok_l_cell {P : Program} {w : World} {K : PySem.W.Frag} {mg : Str → Option Value} {base : Heap} {f : Addr} {fd : FuncData}   (F : Fun K "_law_cell" "_law_cell" s_l_cell f fd)
    (n_len : mg "len" = none)
    : FnT P w K mg base 1 f fd ["_law_script", "_law_k"] sp_l_cell := by
  refine okT F sc_l_cell (by intro ts S R RE h; unfold sp_l_cell at h; split at h <;> first | rfl | exact h.elim) (fun cdv A out s H E hg hr => (bs_cons (ss_if (tt_cmp op_lt cv_B2n (et_var (pv 1)) (et_blt call_len cv_len (by rfl) n_len PySem.boot_len (at_cons (et_var (pv 0)) at_nil)) (nomark _)) (bs_one (ss_ret (et_ix ix_seq cv_ix (et_var (pv 0)) (et_var (pv 1)) (fun _ _ => rfl)))) bs_nil)
    (bs_cons (ss_set (i := 2) sc_l_cell.nd rfl (by first | exact Or.inl rfl | exact Or.inr rfl) (et_op op_mod cv_I2 (et_op op_mulG cv_mul et_int (et_op op_addG cv_add (et_op op_addG cv_add (et_op op_mulG cv_mul (et_var (pv 1)) (et_var (pv 1))) (et_op op_mulG cv_mul et_int (et_var (pv 1)))) et_int)) et_int))
    (bs_cons (ss_for (passes_of rfl) rfl (it_seq (et_slice (et_var (pv 0)) ot_none (ot_some et_int))) (gt_name (pg_name (i := 3) sc_l_cell.nd rfl (by first | exact Or.inl rfl | exact Or.inr rfl))) (bs_one (ss_set (i := 2) sc_l_cell.nd rfl (by first | exact Or.inl rfl | exact Or.inr rfl) (et_op op_mod cv_I2 (et_op op_addG cv_add (et_op op_mulG cv_mul (et_var (pv 2)) et_int) (et_var (pv 3))) et_int))))
    (bs_one (ss_ret (et_var (pv 2)))))))) ?_
  intro ts S R RE h
  unfold sp_l_cell at h
  split at h
  · rename_i ts k
    obtain ⟨⟨ns, rfl, h63⟩, h0, hk, q⟩ := h
    simp only [sSeq, sAsg, sDrop, sRet, sRetN, sIf, sNext, sPar, sPar3, sFor, sRaise, sFldT, sNo, rNo, rVar, rFrz, rC, rBin, rTest, bAnd, bOr, bNot, bIf, vAnd, vOr, vNot, rIf, rNeg, aNil, aCons, rTup, rLst, rLstC, rArgs, gNameT, gNilT, gConsT, gTupT, gSubT, iSeq, iRng1T, iRng2T, rLc, rCall, rCallN, rCallS, rFld, rCon, rMake, rMakeN, rMakeP, rMeth, rMethK, rProp, rClsFn, rOpOwn, rSl, oNone, oSome, rMut, kAdd, kI2, kI2n, kMul, kIx, kIn, kLen, kU, kA2, kDm, kStrI, kAll, kSl, kAppend, kExtend, kTuple, kList, lenT, seqOf, bYes, startT, one, pickG, selG, insOf, putT, flatT, Bool.false_xor, Bool.true_xor, List.all_cons, List.all_nil, Bool.and_self, T.int.injEq, T.bl.injEq, T.str.injEq, T.lst.injEq, T.tup.injEq, T.cell.injEq, T.ins.injEq, Cell.lst.injEq, Cell.ins.injEq, Prod.mk.injEq, List.cons.injEq, Option.some.injEq, List.map_cons, List.map_nil, List.length_cons, List.length_nil, List.cons_append, List.nil_append, List.append_nil, List.getElem?_cons_zero, List.getElem?_cons_succ, List.set_cons_zero, List.set_cons_succ, List.replicate_succ, List.replicate_zero, exists_eq_left, exists_eq_left', exists_and_left, and_true, true_and, and_self, and_assoc, Nat.sub_self, Nat.reduceAdd, Nat.reduceSub, Nat.zero_add, put_put, put_same, reduceIte, Bool.false_eq_true, Bool.true_eq_false, Bool.not_true, Bool.not_false, at_0, at_1, at_2, at_3, at_4, at_5, at_6, at_7, ix_1_0, ix_2_0, ix_2_1, ix_3_0, ix_3_1, ix_3_2, ix_4_0, ix_4_1, ix_4_2, ix_4_3]
    refine ite_d (fun c => ?_) (fun c => ?_)
    · rw [List.length_map] at c
      obtain ⟨z, hz⟩ := at_ints h0 c
      exact ⟨_, hz, q z⟩
    · refine ⟨mulL (by omega), mulL (by decide), mulL (by decide), by decide, ?_⟩
      obtain ⟨ms, em⟩ := cutT_ints ns none (some 3)
      rw [em]
      refine rLoop_inv (fun _ σ S' => S' = S ∧ ∃ (z : Int) (v : Option T), σ = [some (.scr (ns.map T.int)), some (.int k), some (.int z), v] ∧ 0 ≤ z ∧ z < 2147483137) ⟨rfl, _, none, rfl, (emod_lt (by decide)).1, (emod_lt (by decide)).2⟩ ?_ ?_
      · rintro i t σ S' hi ⟨rfl, z, v, rfl, z0, z1⟩ N hN
        rw [List.getElem?_map] at hi
        obtain ⟨y, _, rfl⟩ := Option.map_eq_some_iff.mp hi
        simp only [sSeq, sAsg, sDrop, sRet, sRetN, sIf, sNext, sPar, sPar3, sFor, sRaise, sFldT, sNo, rNo, rVar, rFrz, rC, rBin, rTest, bAnd, bOr, bNot, bIf, vAnd, vOr, vNot, rIf, rNeg, aNil, aCons, rTup, rLst, rLstC, rArgs, gNameT, gNilT, gConsT, gTupT, gSubT, iSeq, iRng1T, iRng2T, rLc, rCall, rCallN, rCallS, rFld, rCon, rMake, rMakeN, rMakeP, rMeth, rMethK, rProp, rClsFn, rOpOwn, rSl, oNone, oSome, rMut, kAdd, kI2, kI2n, kMul, kIx, kIn, kLen, kU, kA2, kDm, kStrI, kAll, kSl, kAppend, kExtend, kTuple, kList, lenT, seqOf, bYes, startT, one, pickG, selG, insOf, putT, flatT, Bool.false_xor, Bool.true_xor, List.all_cons, List.all_nil, Bool.and_self, T.int.injEq, T.bl.injEq, T.str.injEq, T.lst.injEq, T.tup.injEq, T.cell.injEq, T.ins.injEq, Cell.lst.injEq, Cell.ins.injEq, Prod.mk.injEq, List.cons.injEq, Option.some.injEq, List.map_cons, List.map_nil, List.length_cons, List.length_nil, List.cons_append, List.nil_append, List.append_nil, List.getElem?_cons_zero, List.getElem?_cons_succ, List.set_cons_zero, List.set_cons_succ, List.replicate_succ, List.replicate_zero, exists_eq_left, exists_eq_left', exists_and_left, and_true, true_and, and_self, and_assoc, Nat.sub_self, Nat.reduceAdd, Nat.reduceSub, Nat.zero_add, put_put, put_same, reduceIte, Bool.false_eq_true, Bool.true_eq_false, Bool.not_true, Bool.not_false, at_0, at_1, at_2, at_3, at_4, at_5, at_6, at_7, ix_1_0, ix_2_0, ix_2_1, ix_3_0, ix_3_1, ix_3_2, ix_4_0, ix_4_1, ix_4_2, ix_4_3]
        exact ⟨mulL (by omega), by decide, hN _ _ ⟨rfl, _, _, rfl, (emod_lt (by decide)).1, (emod_lt (by decide)).2⟩⟩
      · rintro σ S' ⟨rfl, z, v, rfl, _⟩
        simp only [sSeq, sAsg, sDrop, sRet, sRetN, sIf, sNext, sPar, sPar3, sFor, sRaise, sFldT, sNo, rNo, rVar, rFrz, rC, rBin, rTest, bAnd, bOr, bNot, bIf, vAnd, vOr, vNot, rIf, rNeg, aNil, aCons, rTup, rLst, rLstC, rArgs, gNameT, gNilT, gConsT, gTupT, gSubT, iSeq, iRng1T, iRng2T, rLc, rCall, rCallN, rCallS, rFld, rCon, rMake, rMakeN, rMakeP, rMeth, rMethK, rProp, rClsFn, rOpOwn, rSl, oNone, oSome, rMut, kAdd, kI2, kI2n, kMul, kIx, kIn, kLen, kU, kA2, kDm, kStrI, kAll, kSl, kAppend, kExtend, kTuple, kList, lenT, seqOf, bYes, startT, one, pickG, selG, insOf, putT, flatT, Bool.false_xor, Bool.true_xor, List.all_cons, List.all_nil, Bool.and_self, T.int.injEq, T.bl.injEq, T.str.injEq, T.lst.injEq, T.tup.injEq, T.cell.injEq, T.ins.injEq, Cell.lst.injEq, Cell.ins.injEq, Prod.mk.injEq, List.cons.injEq, Option.some.injEq, List.map_cons, List.map_nil, List.length_cons, List.length_nil, List.cons_append, List.nil_append, List.append_nil, List.getElem?_cons_zero, List.getElem?_cons_succ, List.set_cons_zero, List.set_cons_succ, List.replicate_succ, List.replicate_zero, exists_eq_left, exists_eq_left', exists_and_left, and_true, true_and, and_self, and_assoc, Nat.sub_self, Nat.reduceAdd, Nat.reduceSub, Nat.zero_add, put_put, put_same, reduceIte, Bool.false_eq_true, Bool.true_eq_false, Bool.not_true, Bool.not_false, at_0, at_1, at_2, at_3, at_4, at_5, at_6, at_7, ix_1_0, ix_2_0, ix_2_1, ix_3_0, ix_3_1, ix_3_2, ix_4_0, ix_4_1, ix_4_2, ix_4_3]
        exact q z
  · exact h.elim
theorem sc_l_pool : FnScope ["_law_figure", "_law_digits"] ["_law_figure"] (defScope s_l_pool) := ⟨rfl, rfl, rfl, by decide +kernel, rfl, by decide +kernel, by decide +kernel⟩
def sp_l_pool : SpT := fun ts S R _ => match ts with
  | [.int z] => ∀ p S', S p = none → PS S p S' → R (.cell p) S'
  | _ => False
theorem ok_l_pool {P : Program} {w : World} {K : PySem.W.Frag} {mg : Str → Option Value} {base : Heap} {f : Addr} {fd : FuncData}   (F : Fun K "_law_pool" "_law_pool" s_l_pool f fd)
    (n_abs : mg "abs" = none)
    : FnT P w K mg base 1 f fd ["_law_figure"] sp_l_pool := by
  refine okT F sc_l_pool (by intro ts S R RE h; unfold sp_l_pool at h; split at h <;> first | rfl | exact h.elim) (fun cdv A out s H E hg hr => (bs_cons (ss_set (i := 1) sc_l_pool.nd rfl (by first | exact Or.inl rfl | exact Or.inr rfl) (et_if (tt_w (tw_or (tt_cmp op_lt cv_B2n (et_var (pv 0)) et_int (nomark _)) (tw_or1 (tt_cmp op_ge cv_B2n (et_var (pv 0)) (et_op op_pow cv_I2 et_int et_int) (nomark _))))) (et_blt call_abs cv_U (by rfl) n_abs PyProof.Rows.boot_abs (at_cons (et_var (pv 0)) at_nil)) et_int))
    (bs_one (ss_ret (et_lstC (at_cons (et_op op_mod cv_I2 (et_var (pv 0)) et_int) (at_cons (et_var (pv 1)) (at_cons et_int at_nil)))))))) ?_
  intro ts S R RE h
  unfold sp_l_pool at h
  split at h
  · rename_i z
    have m := emod_lt (a := z) (b := 2147483137) (by decide)
    simp only [sSeq, sAsg, sDrop, sRet, sRetN, sIf, sNext, sPar, sPar3, sFor, sRaise, sFldT, sNo, rNo, rVar, rFrz, rC, rBin, rTest, bAnd, bOr, bNot, bIf, vAnd, vOr, vNot, rIf, rNeg, aNil, aCons, rTup, rLst, rLstC, rArgs, gNameT, gNilT, gConsT, gTupT, gSubT, iSeq, iRng1T, iRng2T, rLc, rCall, rCallN, rCallS, rFld, rCon, rMake, rMakeN, rMakeP, rMeth, rMethK, rProp, rClsFn, rOpOwn, rSl, oNone, oSome, rMut, kAdd, kI2, kI2n, kMul, kIx, kIn, kLen, kU, kA2, kDm, kStrI, kAll, kSl, kAppend, kExtend, kTuple, kList, lenT, seqOf, bYes, startT, one, pickG, selG, insOf, putT, flatT, Bool.false_xor, Bool.true_xor, List.all_cons, List.all_nil, Bool.and_self, T.int.injEq, T.bl.injEq, T.str.injEq, T.lst.injEq, T.tup.injEq, T.cell.injEq, T.ins.injEq, Cell.lst.injEq, Cell.ins.injEq, Prod.mk.injEq, List.cons.injEq, Option.some.injEq, List.map_cons, List.map_nil, List.length_cons, List.length_nil, List.cons_append, List.nil_append, List.append_nil, List.getElem?_cons_zero, List.getElem?_cons_succ, List.set_cons_zero, List.set_cons_succ, List.replicate_succ, List.replicate_zero, exists_eq_left, exists_eq_left', exists_and_left, and_true, true_and, and_self, and_assoc, Nat.sub_self, Nat.reduceAdd, Nat.reduceSub, Nat.zero_add, put_put, put_same, reduceIte, Bool.false_eq_true, Bool.true_eq_false, Bool.not_true, Bool.not_false, at_0, at_1, at_2, at_3, at_4, at_5, at_6, at_7, ix_1_0, ix_2_0, ix_2_1, ix_3_0, ix_3_1, ix_3_2, ix_4_0, ix_4_1, ix_4_2, ix_4_3]
    refine ite_d (fun c => ⟨by decide, by decide, fun p hp => h p _ hp ⟨_, _, _, m.1, m.2, by split <;> omega, rfl⟩⟩) (fun c => ⟨⟨by decide, by decide, by decide⟩, ite_d (fun c => ⟨by decide, by decide, fun p hp => h p _ hp ⟨_, _, _, m.1, m.2, by split <;> omega, rfl⟩⟩) (fun c => ⟨by decide, by decide, fun p hp => h p _ hp ⟨_, _, _, m.1, m.2, by omega, rfl⟩⟩)⟩)
  · exact h.elim
theorem sc_l_draw : FnScope ["_law_pool_here", "_law_most", "_law_state", "_law_digit"] ["_law_pool_here", "_law_most"] (defScope s_l_draw) := ⟨rfl, rfl, rfl, by decide +kernel, rfl, by decide +kernel, by decide +kernel⟩
def sp_l_draw : SpT := fun ts S R _ => match ts with
  | [.cell p, .int m] => PoolT S p ∧ Pn 8000 m ∧ ∀ r S', 0 ≤ r → r < m → PS S p S' → R (.int r) S'
  | _ => False
theorem ok_l_draw {P : Program} {w : World} {K : PySem.W.Frag} {mg : Str → Option Value} {base : Heap} {f : Addr} {fd : FuncData}   (F : Fun K "_law_draw" "_law_draw" s_l_draw f fd)
    (n_divmod : mg "divmod" = none)
    : FnT P w K mg base 1 f fd ["_law_pool_here", "_law_most"] sp_l_draw := by
  refine okT F sc_l_draw (by intro ts S R RE h; unfold sp_l_draw at h; split at h <;> first | rfl | exact h.elim) (fun cdv A out s H E hg hr => (bs_cons (ss_asg (et_op op_addG cv_add (et_ix ix_seq cv_ix (et_var (pv 0)) et_int (fun _ _ => rfl)) et_int) (gt_sub (et_var (pv 0)) et_int))
    (bs_cons (ss_set (i := 2) sc_l_draw.nd rfl (by first | exact Or.inl rfl | exact Or.inr rfl) (et_ix ix_seq cv_ix (et_var (pv 0)) et_int (fun _ _ => rfl)))
    (bs_cons (ss_asg (et_op op_mod cv_I2 (et_op op_addG cv_add (et_op op_mulG cv_mul (et_var (pv 2)) (et_op op_addG cv_add (et_op op_mod cv_I2 (et_var (pv 2)) et_int) et_int)) (et_op op_mulG cv_mul et_int (et_ix ix_seq cv_ix (et_var (pv 0)) et_int (fun _ _ => rfl)))) et_int) (gt_sub (et_var (pv 0)) et_int))
    (bs_cons (ss_if (tt_cmp op_gt cv_B2n (et_ix ix_seq cv_ix (et_var (pv 0)) et_int (fun _ _ => rfl)) et_int (nomark _)) (bs_cons (ss_asg (et_blt call_divmodW cv_dm (by rfl) n_divmod PyProof.Rows.boot_divmod (at_cons (et_ix ix_seq cv_ix (et_var (pv 0)) et_int (fun _ _ => rfl)) (at_cons (et_var (pv 1)) at_nil))) (gt_tup (n := 2) (by rfl) (gts_cons (gt_sub (et_var (pv 0)) et_int) (gts_cons (gt_name (pg_name (i := 3) sc_l_draw.nd rfl (by first | exact Or.inl rfl | exact Or.inr rfl))) gts_nil))))
    (bs_one (ss_ret (et_var (pv 3))))) bs_nil)
    (bs_one (ss_ret (et_op op_mod cv_I2 (et_op op_fdivP cv_I2 (et_ix ix_seq cv_ix (et_var (pv 0)) et_int (fun _ _ => rfl)) et_int) (et_var (pv 1)))))))))) ?_
  intro ts S R RE h
  unfold sp_l_draw at h
  split at h
  · rename_i p m
    obtain ⟨⟨x, d, c, hp, x0, x1, d0⟩, hm, q⟩ := h
    refine sSeq_i fun N hN => ?_
    simp only [hp, sSeq, sAsg, sDrop, sRet, sRetN, sIf, sNext, sPar, sPar3, sFor, sRaise, sFldT, sNo, rNo, rVar, rFrz, rC, rBin, rTest, bAnd, bOr, bNot, bIf, vAnd, vOr, vNot, rIf, rNeg, aNil, aCons, rTup, rLst, rLstC, rArgs, gNameT, gNilT, gConsT, gTupT, gSubT, iSeq, iRng1T, iRng2T, rLc, rCall, rCallN, rCallS, rFld, rCon, rMake, rMakeN, rMakeP, rMeth, rMethK, rProp, rClsFn, rOpOwn, rSl, oNone, oSome, rMut, kAdd, kI2, kI2n, kMul, kIx, kIn, kLen, kU, kA2, kDm, kStrI, kAll, kSl, kAppend, kExtend, kTuple, kList, lenT, seqOf, bYes, startT, one, pickG, selG, insOf, putT, flatT, Bool.false_xor, Bool.true_xor, List.all_cons, List.all_nil, Bool.and_self, T.int.injEq, T.bl.injEq, T.str.injEq, T.lst.injEq, T.tup.injEq, T.cell.injEq, T.ins.injEq, Cell.lst.injEq, Cell.ins.injEq, Prod.mk.injEq, List.cons.injEq, Option.some.injEq, List.map_cons, List.map_nil, List.length_cons, List.length_nil, List.cons_append, List.nil_append, List.append_nil, List.getElem?_cons_zero, List.getElem?_cons_succ, List.set_cons_zero, List.set_cons_succ, List.replicate_succ, List.replicate_zero, exists_eq_left, exists_eq_left', exists_and_left, and_true, true_and, and_self, and_assoc, Nat.sub_self, Nat.reduceAdd, Nat.reduceSub, Nat.zero_add, put_put, put_same, reduceIte, Bool.false_eq_true, Bool.true_eq_false, Bool.not_true, Bool.not_false, at_0, at_1, at_2, at_3, at_4, at_5, at_6, at_7, ix_1_0, ix_2_0, ix_2_1, ix_3_0, ix_3_1, ix_3_2, ix_4_0, ix_4_1, ix_4_2, ix_4_3]
    refine hN _ _ ?_
    refine sSeq_i fun N hN => ?_
    simp only [hp, sSeq, sAsg, sDrop, sRet, sRetN, sIf, sNext, sPar, sPar3, sFor, sRaise, sFldT, sNo, rNo, rVar, rFrz, rC, rBin, rTest, bAnd, bOr, bNot, bIf, vAnd, vOr, vNot, rIf, rNeg, aNil, aCons, rTup, rLst, rLstC, rArgs, gNameT, gNilT, gConsT, gTupT, gSubT, iSeq, iRng1T, iRng2T, rLc, rCall, rCallN, rCallS, rFld, rCon, rMake, rMakeN, rMakeP, rMeth, rMethK, rProp, rClsFn, rOpOwn, rSl, oNone, oSome, rMut, kAdd, kI2, kI2n, kMul, kIx, kIn, kLen, kU, kA2, kDm, kStrI, kAll, kSl, kAppend, kExtend, kTuple, kList, lenT, seqOf, bYes, startT, one, pickG, selG, insOf, putT, flatT, Bool.false_xor, Bool.true_xor, List.all_cons, List.all_nil, Bool.and_self, T.int.injEq, T.bl.injEq, T.str.injEq, T.lst.injEq, T.tup.injEq, T.cell.injEq, T.ins.injEq, Cell.lst.injEq, Cell.ins.injEq, Prod.mk.injEq, List.cons.injEq, Option.some.injEq, List.map_cons, List.map_nil, List.length_cons, List.length_nil, List.cons_append, List.nil_append, List.append_nil, List.getElem?_cons_zero, List.getElem?_cons_succ, List.set_cons_zero, List.set_cons_succ, List.replicate_succ, List.replicate_zero, exists_eq_left, exists_eq_left', exists_and_left, and_true, true_and, and_self, and_assoc, Nat.sub_self, Nat.reduceAdd, Nat.reduceSub, Nat.zero_add, put_put, put_same, reduceIte, Bool.false_eq_true, Bool.true_eq_false, Bool.not_true, Bool.not_false, at_0, at_1, at_2, at_3, at_4, at_5, at_6, at_7, ix_1_0, ix_2_0, ix_2_1, ix_3_0, ix_3_1, ix_3_2, ix_4_0, ix_4_1, ix_4_2, ix_4_3]
    refine hN _ _ ?_
    refine sSeq_i fun N hN => ?_
    simp only [hp, sSeq, sAsg, sDrop, sRet, sRetN, sIf, sNext, sPar, sPar3, sFor, sRaise, sFldT, sNo, rNo, rVar, rFrz, rC, rBin, rTest, bAnd, bOr, bNot, bIf, vAnd, vOr, vNot, rIf, rNeg, aNil, aCons, rTup, rLst, rLstC, rArgs, gNameT, gNilT, gConsT, gTupT, gSubT, iSeq, iRng1T, iRng2T, rLc, rCall, rCallN, rCallS, rFld, rCon, rMake, rMakeN, rMakeP, rMeth, rMethK, rProp, rClsFn, rOpOwn, rSl, oNone, oSome, rMut, kAdd, kI2, kI2n, kMul, kIx, kIn, kLen, kU, kA2, kDm, kStrI, kAll, kSl, kAppend, kExtend, kTuple, kList, lenT, seqOf, bYes, startT, one, pickG, selG, insOf, putT, flatT, Bool.false_xor, Bool.true_xor, List.all_cons, List.all_nil, Bool.and_self, T.int.injEq, T.bl.injEq, T.str.injEq, T.lst.injEq, T.tup.injEq, T.cell.injEq, T.ins.injEq, Cell.lst.injEq, Cell.ins.injEq, Prod.mk.injEq, List.cons.injEq, Option.some.injEq, List.map_cons, List.map_nil, List.length_cons, List.length_nil, List.cons_append, List.nil_append, List.append_nil, List.getElem?_cons_zero, List.getElem?_cons_succ, List.set_cons_zero, List.set_cons_succ, List.replicate_succ, List.replicate_zero, exists_eq_left, exists_eq_left', exists_and_left, and_true, true_and, and_self, and_assoc, Nat.sub_self, Nat.reduceAdd, Nat.reduceSub, Nat.zero_add, put_put, put_same, reduceIte, Bool.false_eq_true, Bool.true_eq_false, Bool.not_true, Bool.not_false, at_0, at_1, at_2, at_3, at_4, at_5, at_6, at_7, ix_1_0, ix_2_0, ix_2_1, ix_3_0, ix_3_1, ix_3_2, ix_4_0, ix_4_1, ix_4_2, ix_4_3]
    have hx2 := emod_lt (a := x) (b := 50023) (by decide)
    have hy := emod_lt (a := x * (x % 50023 + 30013) + 80029 * (c + 1)) (b := 2147483137) (by decide)
    refine ⟨by decide, mulL (by omega), mulL (by decide), by decide, hN _ _ ?_⟩
    generalize (x * (x % 50023 + 30013) + 80029 * (c + 1)) % 2147483137 = y at hy ⊢
    refine sSeq_i fun N hN => ?_
    simp only [sSeq, sAsg, sDrop, sRet, sRetN, sIf, sNext, sPar, sPar3, sFor, sRaise, sFldT, sNo, rNo, rVar, rFrz, rC, rBin, rTest, bAnd, bOr, bNot, bIf, vAnd, vOr, vNot, rIf, rNeg, aNil, aCons, rTup, rLst, rLstC, rArgs, gNameT, gNilT, gConsT, gTupT, gSubT, iSeq, iRng1T, iRng2T, rLc, rCall, rCallN, rCallS, rFld, rCon, rMake, rMakeN, rMakeP, rMeth, rMethK, rProp, rClsFn, rOpOwn, rSl, oNone, oSome, rMut, kAdd, kI2, kI2n, kMul, kIx, kIn, kLen, kU, kA2, kDm, kStrI, kAll, kSl, kAppend, kExtend, kTuple, kList, lenT, seqOf, bYes, startT, one, pickG, selG, insOf, putT, flatT, Bool.false_xor, Bool.true_xor, List.all_cons, List.all_nil, Bool.and_self, T.int.injEq, T.bl.injEq, T.str.injEq, T.lst.injEq, T.tup.injEq, T.cell.injEq, T.ins.injEq, Cell.lst.injEq, Cell.ins.injEq, Prod.mk.injEq, List.cons.injEq, Option.some.injEq, List.map_cons, List.map_nil, List.length_cons, List.length_nil, List.cons_append, List.nil_append, List.append_nil, List.getElem?_cons_zero, List.getElem?_cons_succ, List.set_cons_zero, List.set_cons_succ, List.replicate_succ, List.replicate_zero, exists_eq_left, exists_eq_left', exists_and_left, and_true, true_and, and_self, and_assoc, Nat.sub_self, Nat.reduceAdd, Nat.reduceSub, Nat.zero_add, put_put, put_same, reduceIte, Bool.false_eq_true, Bool.true_eq_false, Bool.not_true, Bool.not_false, at_0, at_1, at_2, at_3, at_4, at_5, at_6, at_7, ix_1_0, ix_2_0, ix_2_1, ix_3_0, ix_3_1, ix_3_2, ix_4_0, ix_4_1, ix_4_2, ix_4_3]
    refine ite_d (fun cc => ⟨hm.divW _, ?_⟩) (fun cc => hN _ _ ?_)
    · exact q _ _ (emod_lt hm.pos).1 (emod_lt hm.pos).2 ⟨_, _, _, hy.1, hy.2, Int.ediv_nonneg d0 (by have := hm.pos; omega), rfl⟩
    · simp only [sSeq, sAsg, sDrop, sRet, sRetN, sIf, sNext, sPar, sPar3, sFor, sRaise, sFldT, sNo, rNo, rVar, rFrz, rC, rBin, rTest, bAnd, bOr, bNot, bIf, vAnd, vOr, vNot, rIf, rNeg, aNil, aCons, rTup, rLst, rLstC, rArgs, gNameT, gNilT, gConsT, gTupT, gSubT, iSeq, iRng1T, iRng2T, rLc, rCall, rCallN, rCallS, rFld, rCon, rMake, rMakeN, rMakeP, rMeth, rMethK, rProp, rClsFn, rOpOwn, rSl, oNone, oSome, rMut, kAdd, kI2, kI2n, kMul, kIx, kIn, kLen, kU, kA2, kDm, kStrI, kAll, kSl, kAppend, kExtend, kTuple, kList, lenT, seqOf, bYes, startT, one, pickG, selG, insOf, putT, flatT, Bool.false_xor, Bool.true_xor, List.all_cons, List.all_nil, Bool.and_self, T.int.injEq, T.bl.injEq, T.str.injEq, T.lst.injEq, T.tup.injEq, T.cell.injEq, T.ins.injEq, Cell.lst.injEq, Cell.ins.injEq, Prod.mk.injEq, List.cons.injEq, Option.some.injEq, List.map_cons, List.map_nil, List.length_cons, List.length_nil, List.cons_append, List.nil_append, List.append_nil, List.getElem?_cons_zero, List.getElem?_cons_succ, List.set_cons_zero, List.set_cons_succ, List.replicate_succ, List.replicate_zero, exists_eq_left, exists_eq_left', exists_and_left, and_true, true_and, and_self, and_assoc, Nat.sub_self, Nat.reduceAdd, Nat.reduceSub, Nat.zero_add, put_put, put_same, reduceIte, Bool.false_eq_true, Bool.true_eq_false, Bool.not_true, Bool.not_false, at_0, at_1, at_2, at_3, at_4, at_5, at_6, at_7, ix_1_0, ix_2_0, ix_2_1, ix_3_0, ix_3_1, ix_3_2, ix_4_0, ix_4_1, ix_4_2, ix_4_3]
      exact ⟨div_small (by decide) (by decide) _, hm.pos, q _ _ (emod_lt hm.pos).1 (emod_lt hm.pos).2 ⟨_, _, _, hy.1, hy.2, d0, rfl⟩⟩
  · exact h.elim
theorem sc_l_low : FnScope ["_law_high_part", "_law_low_part", "_law_one", "_law_rest"] ["_law_high_part", "_law_low_part"] (defScope s_l_low) := ⟨rfl, rfl, rfl, by decide +kernel, rfl, by decide +kernel, by decide +kernel⟩
def sp_l_low : SpT := fun ts S R _ => match ts with
  | [.int a, .int b] => Pn 8000 a ∧ 0 < b ∧ R (frT (lwA a b) (lwB a b)) S
  | _ => False
theorem ok_l_low {P : Program} {w : World} {K : PySem.W.Frag} {mg : Str → Option Value} {base : Heap} {f : Addr} {fd : FuncData}   (F : Fun K "_law_low" "_law_low" s_l_low f fd)
    : FnT P w K mg base 1 f fd ["_law_high_part", "_law_low_part"] sp_l_low := by
  refine okT F sc_l_low (by intro ts S R RE h; unfold sp_l_low at h; split at h <;> first | rfl | exact h.elim) (fun cdv A out s H E hg hr => (bs_cons (ss_par (i := 2) (j := 3) (by rfl) sc_l_low.nd rfl rfl (by decide) rfl rfl (at_cons (et_var (pv 0)) (at_cons (et_var (pv 1)) at_nil)) (by rfl))
    (bs_cons (ss_while (passes_of rfl) (tt_cmp op_gt cv_B2n (et_var (pv 3)) et_int (nomark _)) (bs_one (ss_par (i := 2) (j := 3) (by rfl) sc_l_low.nd rfl rfl (by decide) rfl rfl (at_cons (et_var (pv 3)) (at_cons (et_op op_mod cv_I2 (et_var (pv 2)) (et_var (pv 3))) at_nil)) (by rfl))))
    (bs_one (ss_ret (et_tup (at_cons (et_op op_fdivP cv_I2 (et_var (pv 0)) (et_var (pv 2))) (at_cons (et_op op_fdivP cv_I2 (et_var (pv 1)) (et_var (pv 2))) at_nil)))))))) ?_
  intro ts S R RE h
  unfold sp_l_low at h
  split at h
  · rename_i a b
    obtain ⟨ha, hb, q⟩ := h
    simp only [sSeq, sAsg, sDrop, sRet, sRetN, sIf, sNext, sPar, sPar3, sFor, sRaise, sFldT, sNo, rNo, rVar, rFrz, rC, rBin, rTest, bAnd, bOr, bNot, bIf, vAnd, vOr, vNot, rIf, rNeg, aNil, aCons, rTup, rLst, rLstC, rArgs, gNameT, gNilT, gConsT, gTupT, gSubT, iSeq, iRng1T, iRng2T, rLc, rCall, rCallN, rCallS, rFld, rCon, rMake, rMakeN, rMakeP, rMeth, rMethK, rProp, rClsFn, rOpOwn, rSl, oNone, oSome, rMut, kAdd, kI2, kI2n, kMul, kIx, kIn, kLen, kU, kA2, kDm, kStrI, kAll, kSl, kAppend, kExtend, kTuple, kList, lenT, seqOf, bYes, startT, one, pickG, selG, insOf, putT, flatT, Bool.false_xor, Bool.true_xor, List.all_cons, List.all_nil, Bool.and_self, T.int.injEq, T.bl.injEq, T.str.injEq, T.lst.injEq, T.tup.injEq, T.cell.injEq, T.ins.injEq, Cell.lst.injEq, Cell.ins.injEq, Prod.mk.injEq, List.cons.injEq, Option.some.injEq, List.map_cons, List.map_nil, List.length_cons, List.length_nil, List.cons_append, List.nil_append, List.append_nil, List.getElem?_cons_zero, List.getElem?_cons_succ, List.set_cons_zero, List.set_cons_succ, List.replicate_succ, List.replicate_zero, exists_eq_left, exists_eq_left', exists_and_left, and_true, true_and, and_self, and_assoc, Nat.sub_self, Nat.reduceAdd, Nat.reduceSub, Nat.zero_add, put_put, put_same, reduceIte, Bool.false_eq_true, Bool.true_eq_false, Bool.not_true, Bool.not_false, at_0, at_1, at_2, at_3, at_4, at_5, at_6, at_7, ix_1_0, ix_2_0, ix_2_1, ix_3_0, ix_3_1, ix_3_2, ix_4_0, ix_4_1, ix_4_2, ix_4_3]
    refine while_inv (fun σ S' => S' = S ∧ ∃ x y : Int, σ = [some (.int a), some (.int b), some (.int x), some (.int y)] ∧ 0 < x ∧ 0 ≤ y ∧ gcdI x y = gcdI a b) (fun σ _ => match σ with | [_, _, _, some (.int y)] => y.toNat | _ => 0) ⟨rfl, a, b, rfl, ha.pos, by omega, rfl⟩ ?_
    rintro σ S' ⟨rfl, x, y, rfl, hx, hy, g⟩ N hN
    simp only [sSeq, sAsg, sDrop, sRet, sRetN, sIf, sNext, sPar, sPar3, sFor, sRaise, sFldT, sNo, rNo, rVar, rFrz, rC, rBin, rTest, bAnd, bOr, bNot, bIf, vAnd, vOr, vNot, rIf, rNeg, aNil, aCons, rTup, rLst, rLstC, rArgs, gNameT, gNilT, gConsT, gTupT, gSubT, iSeq, iRng1T, iRng2T, rLc, rCall, rCallN, rCallS, rFld, rCon, rMake, rMakeN, rMakeP, rMeth, rMethK, rProp, rClsFn, rOpOwn, rSl, oNone, oSome, rMut, kAdd, kI2, kI2n, kMul, kIx, kIn, kLen, kU, kA2, kDm, kStrI, kAll, kSl, kAppend, kExtend, kTuple, kList, lenT, seqOf, bYes, startT, one, pickG, selG, insOf, putT, flatT, Bool.false_xor, Bool.true_xor, List.all_cons, List.all_nil, Bool.and_self, T.int.injEq, T.bl.injEq, T.str.injEq, T.lst.injEq, T.tup.injEq, T.cell.injEq, T.ins.injEq, Cell.lst.injEq, Cell.ins.injEq, Prod.mk.injEq, List.cons.injEq, Option.some.injEq, List.map_cons, List.map_nil, List.length_cons, List.length_nil, List.cons_append, List.nil_append, List.append_nil, List.getElem?_cons_zero, List.getElem?_cons_succ, List.set_cons_zero, List.set_cons_succ, List.replicate_succ, List.replicate_zero, exists_eq_left, exists_eq_left', exists_and_left, and_true, true_and, and_self, and_assoc, Nat.sub_self, Nat.reduceAdd, Nat.reduceSub, Nat.zero_add, put_put, put_same, reduceIte, Bool.false_eq_true, Bool.true_eq_false, Bool.not_true, Bool.not_false, at_0, at_1, at_2, at_3, at_4, at_5, at_6, at_7, ix_1_0, ix_2_0, ix_2_1, ix_3_0, ix_3_1, ix_3_2, ix_4_0, ix_4_1, ix_4_2, ix_4_3]
    refine ite_d (fun c => ?_) (fun c => ?_)
    · have := emod_lt (a := x) c
      exact ⟨c, hN _ _ ⟨rfl, y, _, rfl, c, this.1, (gcdI_step c).trans g⟩ (by show (x % y).toNat < y.toNat; omega)⟩
    · have e : y = 0 := by omega
      subst e
      rw [gcdI_zero hx] at g
      subst g
      exact ⟨ha.gcd.divW _, ha.gcd.divW _, by decide, q⟩
  · exact h.elim
/-! fractions, good arguments only -/
def sgn (l r : Int) : Int := if l < r then -1 else if r < l then 1 else 0
theorem sgn_lt {l r : Int} : decide (sgn l r < 0) = decide (l < r) := by
  unfold sgn
  by_cases h1 : l < r
  · simp [h1]
  · by_cases h2 : r < l
    · simp [h1, h2]
    · simp [h1, h2]
theorem sgn_gt {l r : Int} : decide (0 < sgn l r) = decide (r < l) := by
  unfold sgn
  by_cases h1 : l < r
  · have : ¬ r < l := by omega
    simp [h1, this]
  · by_cases h2 : r < l
    · simp [h1, h2]
    · simp [h1, h2]
theorem Pn.isPos {n : Nat} {a : Int} (h : Pn n a) : isPos (.int a) = true := decide_eq_true h.pos
theorem eqI {a b : Int} {S : Store} {R : T → Store → Prop} {RE : XT} {ng : Bool} (q : R (.bl (ng ^^ decide (a = b))) S) : kEqG ng (.int a) (.int b) S R RE := .inl ⟨rfl, q⟩
theorem eqI0 {a b : Int} {S : Store} {R : T → Store → Prop} {RE : XT} (q : R (.bl (decide (a = b))) S) : kEqG false (.int a) (.int b) S R RE := eqI (by simpa using q)
theorem eqI1 {a b : Int} {S : Store} {R : T → Store → Prop} {RE : XT} (q : R (.bl (!decide (a = b))) S) : kEqG true (.int a) (.int b) S R RE := eqI (by simpa using q)
/-- all are fractions -/
def FrL (n : Nat) (l : List T) : Prop := ∀ x ∈ l, ∃ a b, x = frT a b ∧ Fr n a b
theorem FrL.one {n : Nat} {a b : Int} (h : Fr n a b) : FrL n [frT a b] := fun x m => by
  rw [List.mem_singleton.mp m]; exact ⟨a, b, rfl, h⟩
theorem FrL.two {n : Nat} {a b c d : Int} (h : Fr n a b) (k : Fr n c d) : FrL n [frT a b, frT c d] := fun x m => by
  rcases List.mem_cons.mp m with rfl | m
  · exact ⟨a, b, rfl, h⟩
  · rw [List.mem_singleton.mp m]; exact ⟨c, d, rfl, k⟩
theorem sc_is_fraction : FnScope ["value", "top", "bottom"] ["value"] (defScope s_is_fraction) := ⟨rfl, rfl, rfl, by decide +kernel, rfl, by decide +kernel, by decide +kernel⟩
def sp_is_fraction (K : PySem.W.Frag) : SpT := fun ts S R _ => match ts with
  | [.tup [.int a, .int b]] => Fr 8000 a b ∧ R (.bl true) S
  | _ => False
theorem ok_is_fraction {P : Program} {w : World} {K : PySem.W.Frag} {mg : Str → Option Value} {base : Heap} {f : Addr} {fd : FuncData} {g_common_divisor g_is_positive : Addr} {gd_common_divisor : FuncData} {gd_is_positive : FuncData} (F : Fun K "is_fraction" "is_fraction" s_is_fraction f fd)
    (n_len : mg "len" = none)
    (n_isinstance : mg "isinstance" = none)
    (n_tuple : mg "tuple" = none)
    (G_common_divisor : FnT P w K mg base 1 g_common_divisor gd_common_divisor ["one", "other"] sp_common_divisor)
    (m_common_divisor : mg "common_divisor" = some (.ref g_common_divisor))
    (k_common_divisor : PySem.W.keepIn K (.ref g_common_divisor) = true)
    (b_common_divisor : Binds K gd_common_divisor ["one", "other"] [])
    (G_is_positive : FnT P w K mg base 2 g_is_positive gd_is_positive ["value"] (sp_is_positive K))
    (m_is_positive : mg "is_positive" = some (.ref g_is_positive))
    (k_is_positive : PySem.W.keepIn K (.ref g_is_positive) = true)
    (b_is_positive : Binds K gd_is_positive ["value"] [])
    : FnT P w K mg base 3 f fd ["value"] (sp_is_fraction K) := by
  refine okT F sc_is_fraction (by intro ts S R RE h; unfold sp_is_fraction at h; split at h <;> first | rfl | exact h.elim) (fun cdv A out s H E hg hr => (bs_cons (ss_if (tt_w (tw_or (tt_not (tt_val (et_blt call_isi (cv_isi (K := K)) (by rfl) n_isinstance PyProof.Rows.boot_isinstance (at_cons (et_var (pv 0)) (at_cons (et_blty (by rfl) n_tuple PyProof.Rows.boot_tuple) at_nil))))) (tw_or1 (tt_cmp (op_neG hr.units) cv_ne (et_blt call_len cv_len (by rfl) n_len PySem.boot_len (at_cons (et_var (pv 0)) at_nil)) et_int (nomark _))))) (bs_one (ss_ret et_bl)) bs_nil)
    (bs_cons (ss_asg (et_var (pv 0)) (gt_tup (n := 2) (by rfl) (gts_cons (gt_name (pg_name (i := 1) sc_is_fraction.nd rfl (by first | exact Or.inl rfl | exact Or.inr rfl))) (gts_cons (gt_name (pg_name (i := 2) sc_is_fraction.nd rfl (by first | exact Or.inl rfl | exact Or.inr rfl))) gts_nil))))
    (bs_cons (ss_if (tt_w (tw_or (tt_not (tt_val (et_callD G_is_positive hg (hr.mono (by decide)) (by rfl) m_is_positive k_is_positive (CallD.all b_is_positive) (passL2N (L2N.takes_of rfl rfl rfl rfl)) (at_cons (et_var (pv 1)) at_nil)))) (tw_or1 (tt_not (tt_val (et_callD G_is_positive hg (hr.mono (by decide)) (by rfl) m_is_positive k_is_positive (CallD.all b_is_positive) (passL2N (L2N.takes_of rfl rfl rfl rfl)) (at_cons (et_var (pv 2)) at_nil))))))) (bs_one (ss_ret et_bl)) bs_nil)
    (bs_one (ss_ret (et_cmp (op_eqG hr.units) cv_eq (et_callD G_common_divisor hg (hr.mono (by decide)) (by rfl) m_common_divisor k_common_divisor (CallD.all b_common_divisor) (passL2N (L2N.takes_of rfl rfl rfl rfl)) (at_cons (et_var (pv 1)) (at_cons (et_var (pv 2)) at_nil))) et_int (nomark _)))))))) ?_
  intro ts S R RE h
  unfold sp_is_fraction at h
  split at h
  · rename_i a b
    obtain ⟨fr, q⟩ := h
    refine sSeq_i fun N hN => ?_
    simp only [sSeq, sAsg, sDrop, sRet, sRetN, sIf, sNext, sPar, sPar3, sFor, sRaise, sFldT, sNo, rNo, rVar, rFrz, rC, rBin, rTest, bAnd, bOr, bNot, bIf, vAnd, vOr, vNot, rIf, rNeg, aNil, aCons, rTup, rLst, rLstC, rArgs, gNameT, gNilT, gConsT, gTupT, gSubT, iSeq, iRng1T, iRng2T, rLc, rCall, rCallN, rCallS, rFld, rCon, rMake, rMakeN, rMakeP, rMeth, rMethK, rProp, rClsFn, rOpOwn, rSl, oNone, oSome, rMut, kAdd, kI2, kI2n, kMul, kIx, kIn, kLen, kU, kA2, kDm, kStrI, kAll, kSl, kAppend, kExtend, kTuple, kList, lenT, seqOf, bYes, startT, one, pickG, selG, insOf, putT, flatT, Bool.false_xor, Bool.true_xor, List.all_cons, List.all_nil, Bool.and_self, T.int.injEq, T.bl.injEq, T.str.injEq, T.lst.injEq, T.tup.injEq, T.cell.injEq, T.ins.injEq, Cell.lst.injEq, Cell.ins.injEq, Prod.mk.injEq, List.cons.injEq, Option.some.injEq, List.map_cons, List.map_nil, List.length_cons, List.length_nil, List.cons_append, List.nil_append, List.append_nil, List.getElem?_cons_zero, List.getElem?_cons_succ, List.set_cons_zero, List.set_cons_succ, List.replicate_succ, List.replicate_zero, exists_eq_left, exists_eq_left', exists_and_left, and_true, true_and, and_self, and_assoc, Nat.sub_self, Nat.reduceAdd, Nat.reduceSub, Nat.zero_add, put_put, put_same, reduceIte, Bool.false_eq_true, Bool.true_eq_false, Bool.not_true, Bool.not_false, at_0, at_1, at_2, at_3, at_4, at_5, at_6, at_7, ix_1_0, ix_2_0, ix_2_1, ix_3_0, ix_3_1, ix_3_2, ix_4_0, ix_4_1, ix_4_2, ix_4_3]
    refine ValT.tup.is (n := "tuple") (by decide) ⟨true, rfl, ?_⟩
    simp only [sSeq, sAsg, sDrop, sRet, sRetN, sIf, sNext, sPar, sPar3, sFor, sRaise, sFldT, sNo, rNo, rVar, rFrz, rC, rBin, rTest, bAnd, bOr, bNot, bIf, vAnd, vOr, vNot, rIf, rNeg, aNil, aCons, rTup, rLst, rLstC, rArgs, gNameT, gNilT, gConsT, gTupT, gSubT, iSeq, iRng1T, iRng2T, rLc, rCall, rCallN, rCallS, rFld, rCon, rMake, rMakeN, rMakeP, rMeth, rMethK, rProp, rClsFn, rOpOwn, rSl, oNone, oSome, rMut, kAdd, kI2, kI2n, kMul, kIx, kIn, kLen, kU, kA2, kDm, kStrI, kAll, kSl, kAppend, kExtend, kTuple, kList, lenT, seqOf, bYes, startT, one, pickG, selG, insOf, putT, flatT, Bool.false_xor, Bool.true_xor, List.all_cons, List.all_nil, Bool.and_self, T.int.injEq, T.bl.injEq, T.str.injEq, T.lst.injEq, T.tup.injEq, T.cell.injEq, T.ins.injEq, Cell.lst.injEq, Cell.ins.injEq, Prod.mk.injEq, List.cons.injEq, Option.some.injEq, List.map_cons, List.map_nil, List.length_cons, List.length_nil, List.cons_append, List.nil_append, List.append_nil, List.getElem?_cons_zero, List.getElem?_cons_succ, List.set_cons_zero, List.set_cons_succ, List.replicate_succ, List.replicate_zero, exists_eq_left, exists_eq_left', exists_and_left, and_true, true_and, and_self, and_assoc, Nat.sub_self, Nat.reduceAdd, Nat.reduceSub, Nat.zero_add, put_put, put_same, reduceIte, Bool.false_eq_true, Bool.true_eq_false, Bool.not_true, Bool.not_false, at_0, at_1, at_2, at_3, at_4, at_5, at_6, at_7, ix_1_0, ix_2_0, ix_2_1, ix_3_0, ix_3_1, ix_3_2, ix_4_0, ix_4_1, ix_4_2, ix_4_3]
    refine eqI ⟨false, rfl, ?_⟩
    simp only [sSeq, sAsg, sDrop, sRet, sRetN, sIf, sNext, sPar, sPar3, sFor, sRaise, sFldT, sNo, rNo, rVar, rFrz, rC, rBin, rTest, bAnd, bOr, bNot, bIf, vAnd, vOr, vNot, rIf, rNeg, aNil, aCons, rTup, rLst, rLstC, rArgs, gNameT, gNilT, gConsT, gTupT, gSubT, iSeq, iRng1T, iRng2T, rLc, rCall, rCallN, rCallS, rFld, rCon, rMake, rMakeN, rMakeP, rMeth, rMethK, rProp, rClsFn, rOpOwn, rSl, oNone, oSome, rMut, kAdd, kI2, kI2n, kMul, kIx, kIn, kLen, kU, kA2, kDm, kStrI, kAll, kSl, kAppend, kExtend, kTuple, kList, lenT, seqOf, bYes, startT, one, pickG, selG, insOf, putT, flatT, Bool.false_xor, Bool.true_xor, List.all_cons, List.all_nil, Bool.and_self, T.int.injEq, T.bl.injEq, T.str.injEq, T.lst.injEq, T.tup.injEq, T.cell.injEq, T.ins.injEq, Cell.lst.injEq, Cell.ins.injEq, Prod.mk.injEq, List.cons.injEq, Option.some.injEq, List.map_cons, List.map_nil, List.length_cons, List.length_nil, List.cons_append, List.nil_append, List.append_nil, List.getElem?_cons_zero, List.getElem?_cons_succ, List.set_cons_zero, List.set_cons_succ, List.replicate_succ, List.replicate_zero, exists_eq_left, exists_eq_left', exists_and_left, and_true, true_and, and_self, and_assoc, Nat.sub_self, Nat.reduceAdd, Nat.reduceSub, Nat.zero_add, put_put, put_same, reduceIte, Bool.false_eq_true, Bool.true_eq_false, Bool.not_true, Bool.not_false, at_0, at_1, at_2, at_3, at_4, at_5, at_6, at_7, ix_1_0, ix_2_0, ix_2_1, ix_3_0, ix_3_1, ix_3_2, ix_4_0, ix_4_1, ix_4_2, ix_4_3]
    refine hN _ _ ?_
    refine sSeq_i fun N hN => ?_
    simp only [sSeq, sAsg, sDrop, sRet, sRetN, sIf, sNext, sPar, sPar3, sFor, sRaise, sFldT, sNo, rNo, rVar, rFrz, rC, rBin, rTest, bAnd, bOr, bNot, bIf, vAnd, vOr, vNot, rIf, rNeg, aNil, aCons, rTup, rLst, rLstC, rArgs, gNameT, gNilT, gConsT, gTupT, gSubT, iSeq, iRng1T, iRng2T, rLc, rCall, rCallN, rCallS, rFld, rCon, rMake, rMakeN, rMakeP, rMeth, rMethK, rProp, rClsFn, rOpOwn, rSl, oNone, oSome, rMut, kAdd, kI2, kI2n, kMul, kIx, kIn, kLen, kU, kA2, kDm, kStrI, kAll, kSl, kAppend, kExtend, kTuple, kList, lenT, seqOf, bYes, startT, one, pickG, selG, insOf, putT, flatT, Bool.false_xor, Bool.true_xor, List.all_cons, List.all_nil, Bool.and_self, T.int.injEq, T.bl.injEq, T.str.injEq, T.lst.injEq, T.tup.injEq, T.cell.injEq, T.ins.injEq, Cell.lst.injEq, Cell.ins.injEq, Prod.mk.injEq, List.cons.injEq, Option.some.injEq, List.map_cons, List.map_nil, List.length_cons, List.length_nil, List.cons_append, List.nil_append, List.append_nil, List.getElem?_cons_zero, List.getElem?_cons_succ, List.set_cons_zero, List.set_cons_succ, List.replicate_succ, List.replicate_zero, exists_eq_left, exists_eq_left', exists_and_left, and_true, true_and, and_self, and_assoc, Nat.sub_self, Nat.reduceAdd, Nat.reduceSub, Nat.zero_add, put_put, put_same, reduceIte, Bool.false_eq_true, Bool.true_eq_false, Bool.not_true, Bool.not_false, at_0, at_1, at_2, at_3, at_4, at_5, at_6, at_7, ix_1_0, ix_2_0, ix_2_1, ix_3_0, ix_3_1, ix_3_2, ix_4_0, ix_4_1, ix_4_2, ix_4_3]
    refine hN _ _ ?_
    refine sSeq_i fun N hN => ?_
    simp only [sp_is_positive, fr.a.isPos, fr.b.isPos, sSeq, sAsg, sDrop, sRet, sRetN, sIf, sNext, sPar, sPar3, sFor, sRaise, sFldT, sNo, rNo, rVar, rFrz, rC, rBin, rTest, bAnd, bOr, bNot, bIf, vAnd, vOr, vNot, rIf, rNeg, aNil, aCons, rTup, rLst, rLstC, rArgs, gNameT, gNilT, gConsT, gTupT, gSubT, iSeq, iRng1T, iRng2T, rLc, rCall, rCallN, rCallS, rFld, rCon, rMake, rMakeN, rMakeP, rMeth, rMethK, rProp, rClsFn, rOpOwn, rSl, oNone, oSome, rMut, kAdd, kI2, kI2n, kMul, kIx, kIn, kLen, kU, kA2, kDm, kStrI, kAll, kSl, kAppend, kExtend, kTuple, kList, lenT, seqOf, bYes, startT, one, pickG, selG, insOf, putT, flatT, Bool.false_xor, Bool.true_xor, List.all_cons, List.all_nil, Bool.and_self, T.int.injEq, T.bl.injEq, T.str.injEq, T.lst.injEq, T.tup.injEq, T.cell.injEq, T.ins.injEq, Cell.lst.injEq, Cell.ins.injEq, Prod.mk.injEq, List.cons.injEq, Option.some.injEq, List.map_cons, List.map_nil, List.length_cons, List.length_nil, List.cons_append, List.nil_append, List.append_nil, List.getElem?_cons_zero, List.getElem?_cons_succ, List.set_cons_zero, List.set_cons_succ, List.replicate_succ, List.replicate_zero, exists_eq_left, exists_eq_left', exists_and_left, and_true, true_and, and_self, and_assoc, Nat.sub_self, Nat.reduceAdd, Nat.reduceSub, Nat.zero_add, put_put, put_same, reduceIte, Bool.false_eq_true, Bool.true_eq_false, Bool.not_true, Bool.not_false, at_0, at_1, at_2, at_3, at_4, at_5, at_6, at_7, ix_1_0, ix_2_0, ix_2_1, ix_3_0, ix_3_1, ix_3_2, ix_4_0, ix_4_1, ix_4_2, ix_4_3]
    refine ⟨.int, .int, hN _ _ ?_⟩
    simp only [sp_common_divisor, fr.g, sSeq, sAsg, sDrop, sRet, sRetN, sIf, sNext, sPar, sPar3, sFor, sRaise, sFldT, sNo, rNo, rVar, rFrz, rC, rBin, rTest, bAnd, bOr, bNot, bIf, vAnd, vOr, vNot, rIf, rNeg, aNil, aCons, rTup, rLst, rLstC, rArgs, gNameT, gNilT, gConsT, gTupT, gSubT, iSeq, iRng1T, iRng2T, rLc, rCall, rCallN, rCallS, rFld, rCon, rMake, rMakeN, rMakeP, rMeth, rMethK, rProp, rClsFn, rOpOwn, rSl, oNone, oSome, rMut, kAdd, kI2, kI2n, kMul, kIx, kIn, kLen, kU, kA2, kDm, kStrI, kAll, kSl, kAppend, kExtend, kTuple, kList, lenT, seqOf, bYes, startT, one, pickG, selG, insOf, putT, flatT, Bool.false_xor, Bool.true_xor, List.all_cons, List.all_nil, Bool.and_self, T.int.injEq, T.bl.injEq, T.str.injEq, T.lst.injEq, T.tup.injEq, T.cell.injEq, T.ins.injEq, Cell.lst.injEq, Cell.ins.injEq, Prod.mk.injEq, List.cons.injEq, Option.some.injEq, List.map_cons, List.map_nil, List.length_cons, List.length_nil, List.cons_append, List.nil_append, List.append_nil, List.getElem?_cons_zero, List.getElem?_cons_succ, List.set_cons_zero, List.set_cons_succ, List.replicate_succ, List.replicate_zero, exists_eq_left, exists_eq_left', exists_and_left, and_true, true_and, and_self, and_assoc, Nat.sub_self, Nat.reduceAdd, Nat.reduceSub, Nat.zero_add, put_put, put_same, reduceIte, Bool.false_eq_true, Bool.true_eq_false, Bool.not_true, Bool.not_false, at_0, at_1, at_2, at_3, at_4, at_5, at_6, at_7, ix_1_0, ix_2_0, ix_2_1, ix_3_0, ix_3_1, ix_3_2, ix_4_0, ix_4_1, ix_4_2, ix_4_3]
    exact ⟨fr.a.pos, Int.le_of_lt fr.b.pos, eqI q⟩
  · exact h.elim
theorem sc_check_fractions : FnScope ["values", "value"] ["values"] (defScope s_check_fractions) := ⟨rfl, rfl, rfl, by decide +kernel, rfl, by decide +kernel, by decide +kernel⟩
def sp_check_fractions : SpT := fun ts S R _ => match ts with
  | [.tup l] => FrL 8000 l ∧ R .non S
  | _ => False
theorem ok_check_fractions {P : Program} {w : World} {K : PySem.W.Frag} {mg : Str → Option Value} {base : Heap} {f : Addr} {fd : FuncData} {g_is_fraction : Addr} {gd_is_fraction : FuncData} (F : Fun K "check_fractions" "check_fractions" s_check_fractions f fd)
    (G_is_fraction : FnT P w K mg base 3 g_is_fraction gd_is_fraction ["value"] (sp_is_fraction K))
    (m_is_fraction : mg "is_fraction" = some (.ref g_is_fraction))
    (k_is_fraction : PySem.W.keepIn K (.ref g_is_fraction) = true)
    (b_is_fraction : Binds K gd_is_fraction ["value"] [])
    : FnT P w K mg base 4 f fd ["values"] sp_check_fractions := by
  refine okT F sc_check_fractions (by intro ts S R RE h; unfold sp_check_fractions at h; split at h <;> first | rfl | exact h.elim) (fun cdv A out s H E hg hr => (bs_one (ss_for (passes_of rfl) rfl (it_seq (et_var (pv 0))) (gt_name (pg_name (i := 1) sc_check_fractions.nd rfl (by first | exact Or.inl rfl | exact Or.inr rfl))) (bs_one (ss_if (tt_not (tt_val (et_callD G_is_fraction hg (hr.mono (by decide)) (by rfl) m_is_fraction k_is_fraction (CallD.all b_is_fraction) (passL2N (L2N.takes_of rfl rfl rfl rfl)) (at_cons (et_var (pv 1)) at_nil)))) (bs_one ss_never) bs_nil))))) ?_
  intro ts S R RE h
  unfold sp_check_fractions at h
  split at h
  · rename_i l
    obtain ⟨fr, q⟩ := h
    simp only [sSeq, sAsg, sDrop, sRet, sRetN, sIf, sNext, sPar, sPar3, sFor, sRaise, sFldT, sNo, rNo, rVar, rFrz, rC, rBin, rTest, bAnd, bOr, bNot, bIf, vAnd, vOr, vNot, rIf, rNeg, aNil, aCons, rTup, rLst, rLstC, rArgs, gNameT, gNilT, gConsT, gTupT, gSubT, iSeq, iRng1T, iRng2T, rLc, rCall, rCallN, rCallS, rFld, rCon, rMake, rMakeN, rMakeP, rMeth, rMethK, rProp, rClsFn, rOpOwn, rSl, oNone, oSome, rMut, kAdd, kI2, kI2n, kMul, kIx, kIn, kLen, kU, kA2, kDm, kStrI, kAll, kSl, kAppend, kExtend, kTuple, kList, lenT, seqOf, bYes, startT, one, pickG, selG, insOf, putT, flatT, Bool.false_xor, Bool.true_xor, List.all_cons, List.all_nil, Bool.and_self, T.int.injEq, T.bl.injEq, T.str.injEq, T.lst.injEq, T.tup.injEq, T.cell.injEq, T.ins.injEq, Cell.lst.injEq, Cell.ins.injEq, Prod.mk.injEq, List.cons.injEq, Option.some.injEq, List.map_cons, List.map_nil, List.length_cons, List.length_nil, List.cons_append, List.nil_append, List.append_nil, List.getElem?_cons_zero, List.getElem?_cons_succ, List.set_cons_zero, List.set_cons_succ, List.replicate_succ, List.replicate_zero, exists_eq_left, exists_eq_left', exists_and_left, and_true, true_and, and_self, and_assoc, Nat.sub_self, Nat.reduceAdd, Nat.reduceSub, Nat.zero_add, put_put, put_same, reduceIte, Bool.false_eq_true, Bool.true_eq_false, Bool.not_true, Bool.not_false, at_0, at_1, at_2, at_3, at_4, at_5, at_6, at_7, ix_1_0, ix_2_0, ix_2_1, ix_3_0, ix_3_1, ix_3_2, ix_4_0, ix_4_1, ix_4_2, ix_4_3]
    refine rLoop_inv (fun _ σ S' => S' = S ∧ ∃ v, σ = [some (.tup l), v]) ⟨rfl, none, rfl⟩ ?_ ?_
    · rintro i t σ S' hi ⟨rfl, v, rfl⟩ N hN
      obtain ⟨a, b, rfl, f⟩ := fr t (List.mem_of_getElem? hi)
      simp only [sp_is_fraction, frT, sSeq, sAsg, sDrop, sRet, sRetN, sIf, sNext, sPar, sPar3, sFor, sRaise, sFldT, sNo, rNo, rVar, rFrz, rC, rBin, rTest, bAnd, bOr, bNot, bIf, vAnd, vOr, vNot, rIf, rNeg, aNil, aCons, rTup, rLst, rLstC, rArgs, gNameT, gNilT, gConsT, gTupT, gSubT, iSeq, iRng1T, iRng2T, rLc, rCall, rCallN, rCallS, rFld, rCon, rMake, rMakeN, rMakeP, rMeth, rMethK, rProp, rClsFn, rOpOwn, rSl, oNone, oSome, rMut, kAdd, kI2, kI2n, kMul, kIx, kIn, kLen, kU, kA2, kDm, kStrI, kAll, kSl, kAppend, kExtend, kTuple, kList, lenT, seqOf, bYes, startT, one, pickG, selG, insOf, putT, flatT, Bool.false_xor, Bool.true_xor, List.all_cons, List.all_nil, Bool.and_self, T.int.injEq, T.bl.injEq, T.str.injEq, T.lst.injEq, T.tup.injEq, T.cell.injEq, T.ins.injEq, Cell.lst.injEq, Cell.ins.injEq, Prod.mk.injEq, List.cons.injEq, Option.some.injEq, List.map_cons, List.map_nil, List.length_cons, List.length_nil, List.cons_append, List.nil_append, List.append_nil, List.getElem?_cons_zero, List.getElem?_cons_succ, List.set_cons_zero, List.set_cons_succ, List.replicate_succ, List.replicate_zero, exists_eq_left, exists_eq_left', exists_and_left, and_true, true_and, and_self, and_assoc, Nat.sub_self, Nat.reduceAdd, Nat.reduceSub, Nat.zero_add, put_put, put_same, reduceIte, Bool.false_eq_true, Bool.true_eq_false, Bool.not_true, Bool.not_false, at_0, at_1, at_2, at_3, at_4, at_5, at_6, at_7, ix_1_0, ix_2_0, ix_2_1, ix_3_0, ix_3_1, ix_3_2, ix_4_0, ix_4_1, ix_4_2, ix_4_3]
      exact ⟨f, hN _ _ ⟨rfl, _, rfl⟩⟩
    · rintro σ S' ⟨rfl, v, rfl⟩
      exact q
  · exact h.elim
theorem sc_as_fraction : FnScope ["side"] ["side"] (defScope s_as_fraction) := ⟨rfl, rfl, rfl, by decide +kernel, rfl, by decide +kernel, by decide +kernel⟩
/-- a side stands for a fraction -/
inductive Side (n : Nat) : T → Int → Int → Prop
  | int {a : Int} (h : Pn n a) : Side n (.int a) a 1
  | fr {a b : Int} (h : Fr n a b) : Side n (frT a b) a b
theorem Side.is {n : Nat} {x : T} {a b : Int} (h : Side n x a b) : Fr n a b := by
  cases h with
  | @int a h => exact ⟨h, ⟨by decide, Nat.lt_of_le_of_lt (by have := h.pos; omega) h.lt⟩, gcdI_one⟩
  | fr h => exact h
theorem ValT.fr {K : PySem.W.Frag} {S : Store} {a b : Int} : ValT K S (frT a b) := .tup
def sp_as_fraction (K : PySem.W.Frag) : SpT := fun ts S R _ => match ts with
  | [x] => ∃ a b, Side 8000 x a b ∧ R (frT a b) S
  | _ => False
theorem ok_as_fraction {P : Program} {w : World} {K : PySem.W.Frag} {mg : Str → Option Value} {base : Heap} {f : Addr} {fd : FuncData} {g_check_fractions g_is_positive : Addr} {gd_check_fractions : FuncData} {gd_is_positive : FuncData} (F : Fun K "as_fraction" "as_fraction" s_as_fraction f fd)
    (G_check_fractions : FnT P w K mg base 4 g_check_fractions gd_check_fractions ["values"] sp_check_fractions)
    (m_check_fractions : mg "check_fractions" = some (.ref g_check_fractions))
    (k_check_fractions : PySem.W.keepIn K (.ref g_check_fractions) = true)
    (b_check_fractions : Binds K gd_check_fractions ["values"] [])
    (G_is_positive : FnT P w K mg base 2 g_is_positive gd_is_positive ["value"] (sp_is_positive K))
    (m_is_positive : mg "is_positive" = some (.ref g_is_positive))
    (k_is_positive : PySem.W.keepIn K (.ref g_is_positive) = true)
    (b_is_positive : Binds K gd_is_positive ["value"] [])
    : FnT P w K mg base 5 f fd ["side"] (sp_as_fraction K) := by
  refine okT F sc_as_fraction (by intro ts S R RE h; unfold sp_as_fraction at h; split at h <;> first | rfl | exact h.elim) (fun cdv A out s H E hg hr => (bs_cons (ss_if (tt_val (et_callD G_is_positive hg (hr.mono (by decide)) (by rfl) m_is_positive k_is_positive (CallD.all b_is_positive) (passL2N (L2N.takes_of rfl rfl rfl rfl)) (at_cons (et_var (pv 0)) at_nil))) (bs_one (ss_ret (et_tup (at_cons (et_var (pv 0)) (at_cons et_int at_nil))))) bs_nil)
    (bs_cons (ss_expr (et_callD G_check_fractions hg (hr.mono (by decide)) (by rfl) m_check_fractions k_check_fractions (CallD.all b_check_fractions) (passL2N (L2N.takes_of rfl rfl rfl rfl)) (at_cons (et_tup (at_cons (et_var (pv 0)) at_nil)) at_nil)))
    (bs_one (ss_ret (et_var (pv 0))))))) ?_
  intro ts S R RE h
  unfold sp_as_fraction at h
  split at h
  · rename_i x
    obtain ⟨a, b, sd, q⟩ := h
    refine sSeq_i fun N hN => ?_
    simp only [sp_is_positive, sSeq, sAsg, sDrop, sRet, sRetN, sIf, sNext, sPar, sPar3, sFor, sRaise, sFldT, sNo, rNo, rVar, rFrz, rC, rBin, rTest, bAnd, bOr, bNot, bIf, vAnd, vOr, vNot, rIf, rNeg, aNil, aCons, rTup, rLst, rLstC, rArgs, gNameT, gNilT, gConsT, gTupT, gSubT, iSeq, iRng1T, iRng2T, rLc, rCall, rCallN, rCallS, rFld, rCon, rMake, rMakeN, rMakeP, rMeth, rMethK, rProp, rClsFn, rOpOwn, rSl, oNone, oSome, rMut, kAdd, kI2, kI2n, kMul, kIx, kIn, kLen, kU, kA2, kDm, kStrI, kAll, kSl, kAppend, kExtend, kTuple, kList, lenT, seqOf, bYes, startT, one, pickG, selG, insOf, putT, flatT, Bool.false_xor, Bool.true_xor, List.all_cons, List.all_nil, Bool.and_self, T.int.injEq, T.bl.injEq, T.str.injEq, T.lst.injEq, T.tup.injEq, T.cell.injEq, T.ins.injEq, Cell.lst.injEq, Cell.ins.injEq, Prod.mk.injEq, List.cons.injEq, Option.some.injEq, List.map_cons, List.map_nil, List.length_cons, List.length_nil, List.cons_append, List.nil_append, List.append_nil, List.getElem?_cons_zero, List.getElem?_cons_succ, List.set_cons_zero, List.set_cons_succ, List.replicate_succ, List.replicate_zero, exists_eq_left, exists_eq_left', exists_and_left, and_true, true_and, and_self, and_assoc, Nat.sub_self, Nat.reduceAdd, Nat.reduceSub, Nat.zero_add, put_put, put_same, reduceIte, Bool.false_eq_true, Bool.true_eq_false, Bool.not_true, Bool.not_false, at_0, at_1, at_2, at_3, at_4, at_5, at_6, at_7, ix_1_0, ix_2_0, ix_2_1, ix_3_0, ix_3_1, ix_3_2, ix_4_0, ix_4_1, ix_4_2, ix_4_3]
    cases sd with
    | int h =>
      refine ⟨.int, ?_⟩
      rw [h.isPos]
      simp only [sSeq, sAsg, sDrop, sRet, sRetN, sIf, sNext, sPar, sPar3, sFor, sRaise, sFldT, sNo, rNo, rVar, rFrz, rC, rBin, rTest, bAnd, bOr, bNot, bIf, vAnd, vOr, vNot, rIf, rNeg, aNil, aCons, rTup, rLst, rLstC, rArgs, gNameT, gNilT, gConsT, gTupT, gSubT, iSeq, iRng1T, iRng2T, rLc, rCall, rCallN, rCallS, rFld, rCon, rMake, rMakeN, rMakeP, rMeth, rMethK, rProp, rClsFn, rOpOwn, rSl, oNone, oSome, rMut, kAdd, kI2, kI2n, kMul, kIx, kIn, kLen, kU, kA2, kDm, kStrI, kAll, kSl, kAppend, kExtend, kTuple, kList, lenT, seqOf, bYes, startT, one, pickG, selG, insOf, putT, flatT, Bool.false_xor, Bool.true_xor, List.all_cons, List.all_nil, Bool.and_self, T.int.injEq, T.bl.injEq, T.str.injEq, T.lst.injEq, T.tup.injEq, T.cell.injEq, T.ins.injEq, Cell.lst.injEq, Cell.ins.injEq, Prod.mk.injEq, List.cons.injEq, Option.some.injEq, List.map_cons, List.map_nil, List.length_cons, List.length_nil, List.cons_append, List.nil_append, List.append_nil, List.getElem?_cons_zero, List.getElem?_cons_succ, List.set_cons_zero, List.set_cons_succ, List.replicate_succ, List.replicate_zero, exists_eq_left, exists_eq_left', exists_and_left, and_true, true_and, and_self, and_assoc, Nat.sub_self, Nat.reduceAdd, Nat.reduceSub, Nat.zero_add, put_put, put_same, reduceIte, Bool.false_eq_true, Bool.true_eq_false, Bool.not_true, Bool.not_false, at_0, at_1, at_2, at_3, at_4, at_5, at_6, at_7, ix_1_0, ix_2_0, ix_2_1, ix_3_0, ix_3_1, ix_3_2, ix_4_0, ix_4_1, ix_4_2, ix_4_3]
      exact ⟨by decide, q⟩
    | fr h =>
      refine ⟨.fr, ?_⟩
      simp only [frT, isPos, sSeq, sAsg, sDrop, sRet, sRetN, sIf, sNext, sPar, sPar3, sFor, sRaise, sFldT, sNo, rNo, rVar, rFrz, rC, rBin, rTest, bAnd, bOr, bNot, bIf, vAnd, vOr, vNot, rIf, rNeg, aNil, aCons, rTup, rLst, rLstC, rArgs, gNameT, gNilT, gConsT, gTupT, gSubT, iSeq, iRng1T, iRng2T, rLc, rCall, rCallN, rCallS, rFld, rCon, rMake, rMakeN, rMakeP, rMeth, rMethK, rProp, rClsFn, rOpOwn, rSl, oNone, oSome, rMut, kAdd, kI2, kI2n, kMul, kIx, kIn, kLen, kU, kA2, kDm, kStrI, kAll, kSl, kAppend, kExtend, kTuple, kList, lenT, seqOf, bYes, startT, one, pickG, selG, insOf, putT, flatT, Bool.false_xor, Bool.true_xor, List.all_cons, List.all_nil, Bool.and_self, T.int.injEq, T.bl.injEq, T.str.injEq, T.lst.injEq, T.tup.injEq, T.cell.injEq, T.ins.injEq, Cell.lst.injEq, Cell.ins.injEq, Prod.mk.injEq, List.cons.injEq, Option.some.injEq, List.map_cons, List.map_nil, List.length_cons, List.length_nil, List.cons_append, List.nil_append, List.append_nil, List.getElem?_cons_zero, List.getElem?_cons_succ, List.set_cons_zero, List.set_cons_succ, List.replicate_succ, List.replicate_zero, exists_eq_left, exists_eq_left', exists_and_left, and_true, true_and, and_self, and_assoc, Nat.sub_self, Nat.reduceAdd, Nat.reduceSub, Nat.zero_add, put_put, put_same, reduceIte, Bool.false_eq_true, Bool.true_eq_false, Bool.not_true, Bool.not_false, at_0, at_1, at_2, at_3, at_4, at_5, at_6, at_7, ix_1_0, ix_2_0, ix_2_1, ix_3_0, ix_3_1, ix_3_2, ix_4_0, ix_4_1, ix_4_2, ix_4_3]
      refine hN _ _ ?_
      refine sSeq_i fun N hN => ?_
      simp only [sp_check_fractions, sSeq, sAsg, sDrop, sRet, sRetN, sIf, sNext, sPar, sPar3, sFor, sRaise, sFldT, sNo, rNo, rVar, rFrz, rC, rBin, rTest, bAnd, bOr, bNot, bIf, vAnd, vOr, vNot, rIf, rNeg, aNil, aCons, rTup, rLst, rLstC, rArgs, gNameT, gNilT, gConsT, gTupT, gSubT, iSeq, iRng1T, iRng2T, rLc, rCall, rCallN, rCallS, rFld, rCon, rMake, rMakeN, rMakeP, rMeth, rMethK, rProp, rClsFn, rOpOwn, rSl, oNone, oSome, rMut, kAdd, kI2, kI2n, kMul, kIx, kIn, kLen, kU, kA2, kDm, kStrI, kAll, kSl, kAppend, kExtend, kTuple, kList, lenT, seqOf, bYes, startT, one, pickG, selG, insOf, putT, flatT, Bool.false_xor, Bool.true_xor, List.all_cons, List.all_nil, Bool.and_self, T.int.injEq, T.bl.injEq, T.str.injEq, T.lst.injEq, T.tup.injEq, T.cell.injEq, T.ins.injEq, Cell.lst.injEq, Cell.ins.injEq, Prod.mk.injEq, List.cons.injEq, Option.some.injEq, List.map_cons, List.map_nil, List.length_cons, List.length_nil, List.cons_append, List.nil_append, List.append_nil, List.getElem?_cons_zero, List.getElem?_cons_succ, List.set_cons_zero, List.set_cons_succ, List.replicate_succ, List.replicate_zero, exists_eq_left, exists_eq_left', exists_and_left, and_true, true_and, and_self, and_assoc, Nat.sub_self, Nat.reduceAdd, Nat.reduceSub, Nat.zero_add, put_put, put_same, reduceIte, Bool.false_eq_true, Bool.true_eq_false, Bool.not_true, Bool.not_false, at_0, at_1, at_2, at_3, at_4, at_5, at_6, at_7, ix_1_0, ix_2_0, ix_2_1, ix_3_0, ix_3_1, ix_3_2, ix_4_0, ix_4_1, ix_4_2, ix_4_3]
      refine ⟨by decide, FrL.one h, hN _ _ ?_⟩
      simp only [sSeq, sAsg, sDrop, sRet, sRetN, sIf, sNext, sPar, sPar3, sFor, sRaise, sFldT, sNo, rNo, rVar, rFrz, rC, rBin, rTest, bAnd, bOr, bNot, bIf, vAnd, vOr, vNot, rIf, rNeg, aNil, aCons, rTup, rLst, rLstC, rArgs, gNameT, gNilT, gConsT, gTupT, gSubT, iSeq, iRng1T, iRng2T, rLc, rCall, rCallN, rCallS, rFld, rCon, rMake, rMakeN, rMakeP, rMeth, rMethK, rProp, rClsFn, rOpOwn, rSl, oNone, oSome, rMut, kAdd, kI2, kI2n, kMul, kIx, kIn, kLen, kU, kA2, kDm, kStrI, kAll, kSl, kAppend, kExtend, kTuple, kList, lenT, seqOf, bYes, startT, one, pickG, selG, insOf, putT, flatT, Bool.false_xor, Bool.true_xor, List.all_cons, List.all_nil, Bool.and_self, T.int.injEq, T.bl.injEq, T.str.injEq, T.lst.injEq, T.tup.injEq, T.cell.injEq, T.ins.injEq, Cell.lst.injEq, Cell.ins.injEq, Prod.mk.injEq, List.cons.injEq, Option.some.injEq, List.map_cons, List.map_nil, List.length_cons, List.length_nil, List.cons_append, List.nil_append, List.append_nil, List.getElem?_cons_zero, List.getElem?_cons_succ, List.set_cons_zero, List.set_cons_succ, List.replicate_succ, List.replicate_zero, exists_eq_left, exists_eq_left', exists_and_left, and_true, true_and, and_self, and_assoc, Nat.sub_self, Nat.reduceAdd, Nat.reduceSub, Nat.zero_add, put_put, put_same, reduceIte, Bool.false_eq_true, Bool.true_eq_false, Bool.not_true, Bool.not_false, at_0, at_1, at_2, at_3, at_4, at_5, at_6, at_7, ix_1_0, ix_2_0, ix_2_1, ix_3_0, ix_3_1, ix_3_2, ix_4_0, ix_4_1, ix_4_2, ix_4_3]
      exact q
  · exact h.elim
theorem sc_product : FnScope ["fractions", "top", "bottom", "factor"] ["fractions"] (defScope s_product) := ⟨rfl, rfl, rfl, by decide +kernel, rfl, by decide +kernel, by decide +kernel⟩
def sp_product : SpT := fun ts S R _ => match ts with
  | [.tup [.int a, .int b], .tup [.int c, .int d]] => Fr 3900 a b ∧ Fr 3900 c d ∧ R (frT (lwA (a * c) (b * d)) (lwB (a * c) (b * d))) S
  | _ => False
theorem ok_product {P : Program} {w : World} {K : PySem.W.Frag} {mg : Str → Option Value} {base : Heap} {f : Addr} {fd : FuncData} {g_lowest_terms g_check_fractions : Addr} {gd_lowest_terms : FuncData} {gd_check_fractions : FuncData} (F : Fun K "product" "product" s_product f fd)
    (G_lowest_terms : FnT P w K mg base 2 g_lowest_terms gd_lowest_terms ["top", "bottom"] sp_lowest_terms)
    (m_lowest_terms : mg "lowest_terms" = some (.ref g_lowest_terms))
    (k_lowest_terms : PySem.W.keepIn K (.ref g_lowest_terms) = true)
    (b_lowest_terms : Binds K gd_lowest_terms ["top", "bottom"] [])
    (G_check_fractions : FnT P w K mg base 4 g_check_fractions gd_check_fractions ["values"] sp_check_fractions)
    (m_check_fractions : mg "check_fractions" = some (.ref g_check_fractions))
    (k_check_fractions : PySem.W.keepIn K (.ref g_check_fractions) = true)
    (b_check_fractions : Binds K gd_check_fractions ["values"] [])
    (hba : ∀ us : List Value, bindArgs fd ⟨us, []⟩ = (newTuple us >>= fun t => pure [(("fractions" : Str), t)]))
    : FnS P w K mg base 5 f sp_product := by
  refine okTS F sc_product hba (fun cdv A out s H E hg hr => (bs_cons (ss_expr (et_callD G_check_fractions hg (hr.mono (by decide)) (by rfl) m_check_fractions k_check_fractions (CallD.all b_check_fractions) (passL2N (L2N.takes_of rfl rfl rfl rfl)) (at_cons (et_var (pv 0)) at_nil)))
    (bs_cons (ss_asg (et_tup (at_cons et_int (at_cons et_int at_nil))) (gt_tup (n := 2) (by rfl) (gts_cons (gt_name (pg_name (i := 1) sc_product.nd rfl (by first | exact Or.inl rfl | exact Or.inr rfl))) (gts_cons (gt_name (pg_name (i := 2) sc_product.nd rfl (by first | exact Or.inl rfl | exact Or.inr rfl))) gts_nil))))
    (bs_cons (ss_for (passes_of rfl) rfl (it_seq (et_var (pv 0))) (gt_name (pg_name (i := 3) sc_product.nd rfl (by first | exact Or.inl rfl | exact Or.inr rfl))) (bs_one (ss_asg (et_callD G_lowest_terms hg (hr.mono (by decide)) (by rfl) m_lowest_terms k_lowest_terms (CallD.all b_lowest_terms) (passL2N (L2N.takes_of rfl rfl rfl rfl)) (at_cons (et_op op_mulG cv_mul (et_var (pv 1)) (et_ix ix_seq cv_ix (et_var (pv 3)) et_int (fun _ _ => rfl))) (at_cons (et_op op_mulG cv_mul (et_var (pv 2)) (et_ix ix_seq cv_ix (et_var (pv 3)) et_int (fun _ _ => rfl))) at_nil))) (gt_tup (n := 2) (by rfl) (gts_cons (gt_name (pg_name (i := 1) sc_product.nd rfl (by first | exact Or.inl rfl | exact Or.inr rfl))) (gts_cons (gt_name (pg_name (i := 2) sc_product.nd rfl (by first | exact Or.inl rfl | exact Or.inr rfl))) gts_nil))))))
    (bs_one (ss_ret (et_tup (at_cons (et_var (pv 1)) (at_cons (et_var (pv 2)) at_nil))))))))) ?_
  intro ts S R RE h
  unfold sp_product at h
  split at h
  · rename_i a b c d
    obtain ⟨f, g, q⟩ := h
    have f8 := f.up (m := 8000) (by decide)
    have g8 := g.up (m := 8000) (by decide)
    refine ⟨by show 2 ≤ sizeLine; decide, ?_⟩
    refine sSeq_i fun N hN => ?_
    simp only [sp_check_fractions, sSeq, sAsg, sDrop, sRet, sRetN, sIf, sNext, sPar, sPar3, sFor, sRaise, sFldT, sNo, rNo, rVar, rFrz, rC, rBin, rTest, bAnd, bOr, bNot, bIf, vAnd, vOr, vNot, rIf, rNeg, aNil, aCons, rTup, rLst, rLstC, rArgs, gNameT, gNilT, gConsT, gTupT, gSubT, iSeq, iRng1T, iRng2T, rLc, rCall, rCallN, rCallS, rFld, rCon, rMake, rMakeN, rMakeP, rMeth, rMethK, rProp, rClsFn, rOpOwn, rSl, oNone, oSome, rMut, kAdd, kI2, kI2n, kMul, kIx, kIn, kLen, kU, kA2, kDm, kStrI, kAll, kSl, kAppend, kExtend, kTuple, kList, lenT, seqOf, bYes, startT, one, pickG, selG, insOf, putT, flatT, Bool.false_xor, Bool.true_xor, List.all_cons, List.all_nil, Bool.and_self, T.int.injEq, T.bl.injEq, T.str.injEq, T.lst.injEq, T.tup.injEq, T.cell.injEq, T.ins.injEq, Cell.lst.injEq, Cell.ins.injEq, Prod.mk.injEq, List.cons.injEq, Option.some.injEq, List.map_cons, List.map_nil, List.length_cons, List.length_nil, List.cons_append, List.nil_append, List.append_nil, List.getElem?_cons_zero, List.getElem?_cons_succ, List.set_cons_zero, List.set_cons_succ, List.replicate_succ, List.replicate_zero, exists_eq_left, exists_eq_left', exists_and_left, and_true, true_and, and_self, and_assoc, Nat.sub_self, Nat.reduceAdd, Nat.reduceSub, Nat.zero_add, put_put, put_same, reduceIte, Bool.false_eq_true, Bool.true_eq_false, Bool.not_true, Bool.not_false, at_0, at_1, at_2, at_3, at_4, at_5, at_6, at_7, ix_1_0, ix_2_0, ix_2_1, ix_3_0, ix_3_1, ix_3_2, ix_4_0, ix_4_1, ix_4_2, ix_4_3]
    refine ⟨FrL.two f8 g8, hN _ _ ?_⟩
    refine sSeq_i fun N hN => ?_
    simp only [sSeq, sAsg, sDrop, sRet, sRetN, sIf, sNext, sPar, sPar3, sFor, sRaise, sFldT, sNo, rNo, rVar, rFrz, rC, rBin, rTest, bAnd, bOr, bNot, bIf, vAnd, vOr, vNot, rIf, rNeg, aNil, aCons, rTup, rLst, rLstC, rArgs, gNameT, gNilT, gConsT, gTupT, gSubT, iSeq, iRng1T, iRng2T, rLc, rCall, rCallN, rCallS, rFld, rCon, rMake, rMakeN, rMakeP, rMeth, rMethK, rProp, rClsFn, rOpOwn, rSl, oNone, oSome, rMut, kAdd, kI2, kI2n, kMul, kIx, kIn, kLen, kU, kA2, kDm, kStrI, kAll, kSl, kAppend, kExtend, kTuple, kList, lenT, seqOf, bYes, startT, one, pickG, selG, insOf, putT, flatT, Bool.false_xor, Bool.true_xor, List.all_cons, List.all_nil, Bool.and_self, T.int.injEq, T.bl.injEq, T.str.injEq, T.lst.injEq, T.tup.injEq, T.cell.injEq, T.ins.injEq, Cell.lst.injEq, Cell.ins.injEq, Prod.mk.injEq, List.cons.injEq, Option.some.injEq, List.map_cons, List.map_nil, List.length_cons, List.length_nil, List.cons_append, List.nil_append, List.append_nil, List.getElem?_cons_zero, List.getElem?_cons_succ, List.set_cons_zero, List.set_cons_succ, List.replicate_succ, List.replicate_zero, exists_eq_left, exists_eq_left', exists_and_left, and_true, true_and, and_self, and_assoc, Nat.sub_self, Nat.reduceAdd, Nat.reduceSub, Nat.zero_add, put_put, put_same, reduceIte, Bool.false_eq_true, Bool.true_eq_false, Bool.not_true, Bool.not_false, at_0, at_1, at_2, at_3, at_4, at_5, at_6, at_7, ix_1_0, ix_2_0, ix_2_1, ix_3_0, ix_3_1, ix_3_2, ix_4_0, ix_4_1, ix_4_2, ix_4_3]
    refine ⟨by decide, hN _ _ ?_⟩
    refine sSeq_i fun N hN => ?_
    simp only [rLoop, sp_lowest_terms, frT, Int.one_mul, f.lwA, f.lwB, sSeq, sAsg, sDrop, sRet, sRetN, sIf, sNext, sPar, sPar3, sFor, sRaise, sFldT, sNo, rNo, rVar, rFrz, rC, rBin, rTest, bAnd, bOr, bNot, bIf, vAnd, vOr, vNot, rIf, rNeg, aNil, aCons, rTup, rLst, rLstC, rArgs, gNameT, gNilT, gConsT, gTupT, gSubT, iSeq, iRng1T, iRng2T, rLc, rCall, rCallN, rCallS, rFld, rCon, rMake, rMakeN, rMakeP, rMeth, rMethK, rProp, rClsFn, rOpOwn, rSl, oNone, oSome, rMut, kAdd, kI2, kI2n, kMul, kIx, kIn, kLen, kU, kA2, kDm, kStrI, kAll, kSl, kAppend, kExtend, kTuple, kList, lenT, seqOf, bYes, startT, one, pickG, selG, insOf, putT, flatT, Bool.false_xor, Bool.true_xor, List.all_cons, List.all_nil, Bool.and_self, T.int.injEq, T.bl.injEq, T.str.injEq, T.lst.injEq, T.tup.injEq, T.cell.injEq, T.ins.injEq, Cell.lst.injEq, Cell.ins.injEq, Prod.mk.injEq, List.cons.injEq, Option.some.injEq, List.map_cons, List.map_nil, List.length_cons, List.length_nil, List.cons_append, List.nil_append, List.append_nil, List.getElem?_cons_zero, List.getElem?_cons_succ, List.set_cons_zero, List.set_cons_succ, List.replicate_succ, List.replicate_zero, exists_eq_left, exists_eq_left', exists_and_left, and_true, true_and, and_self, and_assoc, Nat.sub_self, Nat.reduceAdd, Nat.reduceSub, Nat.zero_add, put_put, put_same, reduceIte, Bool.false_eq_true, Bool.true_eq_false, Bool.not_true, Bool.not_false, at_0, at_1, at_2, at_3, at_4, at_5, at_6, at_7, ix_1_0, ix_2_0, ix_2_1, ix_3_0, ix_3_1, ix_3_2, ix_4_0, ix_4_1, ix_4_2, ix_4_3]
    refine ⟨mulL (by decide), mulL (by decide), f8.a, f8.b.pos, ?_⟩
    have m1 : IntMulOk a c := f.a.mulW g.a
    have m2 : IntMulOk b d := f.b.mulW g.b
    refine ⟨m1, m2, (f.a.mul g.a).up (by decide), (f.b.mul g.b).pos, hN _ _ ?_⟩
    simp only [sSeq, sAsg, sDrop, sRet, sRetN, sIf, sNext, sPar, sPar3, sFor, sRaise, sFldT, sNo, rNo, rVar, rFrz, rC, rBin, rTest, bAnd, bOr, bNot, bIf, vAnd, vOr, vNot, rIf, rNeg, aNil, aCons, rTup, rLst, rLstC, rArgs, gNameT, gNilT, gConsT, gTupT, gSubT, iSeq, iRng1T, iRng2T, rLc, rCall, rCallN, rCallS, rFld, rCon, rMake, rMakeN, rMakeP, rMeth, rMethK, rProp, rClsFn, rOpOwn, rSl, oNone, oSome, rMut, kAdd, kI2, kI2n, kMul, kIx, kIn, kLen, kU, kA2, kDm, kStrI, kAll, kSl, kAppend, kExtend, kTuple, kList, lenT, seqOf, bYes, startT, one, pickG, selG, insOf, putT, flatT, Bool.false_xor, Bool.true_xor, List.all_cons, List.all_nil, Bool.and_self, T.int.injEq, T.bl.injEq, T.str.injEq, T.lst.injEq, T.tup.injEq, T.cell.injEq, T.ins.injEq, Cell.lst.injEq, Cell.ins.injEq, Prod.mk.injEq, List.cons.injEq, Option.some.injEq, List.map_cons, List.map_nil, List.length_cons, List.length_nil, List.cons_append, List.nil_append, List.append_nil, List.getElem?_cons_zero, List.getElem?_cons_succ, List.set_cons_zero, List.set_cons_succ, List.replicate_succ, List.replicate_zero, exists_eq_left, exists_eq_left', exists_and_left, and_true, true_and, and_self, and_assoc, Nat.sub_self, Nat.reduceAdd, Nat.reduceSub, Nat.zero_add, put_put, put_same, reduceIte, Bool.false_eq_true, Bool.true_eq_false, Bool.not_true, Bool.not_false, at_0, at_1, at_2, at_3, at_4, at_5, at_6, at_7, ix_1_0, ix_2_0, ix_2_1, ix_3_0, ix_3_1, ix_3_2, ix_4_0, ix_4_1, ix_4_2, ix_4_3]
    exact ⟨by decide, q⟩
  · exact h.elim
theorem sc_quotient : FnScope ["one", "other"] ["one", "other"] (defScope s_quotient) := ⟨rfl, rfl, rfl, by decide +kernel, rfl, by decide +kernel, by decide +kernel⟩
def sp_quotient : SpT := fun ts S R _ => match ts with
  | [.tup [.int a, .int b], .tup [.int c, .int d]] => Fr 3900 a b ∧ Fr 3900 c d ∧ R (frT (lwA (a * d) (b * c)) (lwB (a * d) (b * c))) S
  | _ => False
theorem ok_quotient {P : Program} {w : World} {K : PySem.W.Frag} {mg : Str → Option Value} {base : Heap} {f : Addr} {fd : FuncData} {g_lowest_terms g_check_fractions : Addr} {gd_lowest_terms : FuncData} {gd_check_fractions : FuncData} (F : Fun K "quotient" "quotient" s_quotient f fd)
    (G_lowest_terms : FnT P w K mg base 2 g_lowest_terms gd_lowest_terms ["top", "bottom"] sp_lowest_terms)
    (m_lowest_terms : mg "lowest_terms" = some (.ref g_lowest_terms))
    (k_lowest_terms : PySem.W.keepIn K (.ref g_lowest_terms) = true)
    (b_lowest_terms : Binds K gd_lowest_terms ["top", "bottom"] [])
    (G_check_fractions : FnT P w K mg base 4 g_check_fractions gd_check_fractions ["values"] sp_check_fractions)
    (m_check_fractions : mg "check_fractions" = some (.ref g_check_fractions))
    (k_check_fractions : PySem.W.keepIn K (.ref g_check_fractions) = true)
    (b_check_fractions : Binds K gd_check_fractions ["values"] [])
    : FnT P w K mg base 5 f fd ["one", "other"] sp_quotient := by
  refine okT F sc_quotient (by intro ts S R RE h; unfold sp_quotient at h; split at h <;> first | rfl | exact h.elim) (fun cdv A out s H E hg hr => (bs_cons (ss_expr (et_callD G_check_fractions hg (hr.mono (by decide)) (by rfl) m_check_fractions k_check_fractions (CallD.all b_check_fractions) (passL2N (L2N.takes_of rfl rfl rfl rfl)) (at_cons (et_tup (at_cons (et_var (pv 0)) (at_cons (et_var (pv 1)) at_nil))) at_nil)))
    (bs_one (ss_ret (et_callD G_lowest_terms hg (hr.mono (by decide)) (by rfl) m_lowest_terms k_lowest_terms (CallD.all b_lowest_terms) (passL2N (L2N.takes_of rfl rfl rfl rfl)) (at_cons (et_op op_mulG cv_mul (et_ix ix_seq cv_ix (et_var (pv 0)) et_int (fun _ _ => rfl)) (et_ix ix_seq cv_ix (et_var (pv 1)) et_int (fun _ _ => rfl))) (at_cons (et_op op_mulG cv_mul (et_ix ix_seq cv_ix (et_var (pv 0)) et_int (fun _ _ => rfl)) (et_ix ix_seq cv_ix (et_var (pv 1)) et_int (fun _ _ => rfl))) at_nil))))))) ?_
  intro ts S R RE h
  unfold sp_quotient at h
  split at h
  · rename_i a b c d
    obtain ⟨f, g, q⟩ := h
    have f8 := f.up (m := 8000) (by decide)
    have g8 := g.up (m := 8000) (by decide)
    refine sSeq_i fun N hN => ?_
    simp only [sp_check_fractions, sSeq, sAsg, sDrop, sRet, sRetN, sIf, sNext, sPar, sPar3, sFor, sRaise, sFldT, sNo, rNo, rVar, rFrz, rC, rBin, rTest, bAnd, bOr, bNot, bIf, vAnd, vOr, vNot, rIf, rNeg, aNil, aCons, rTup, rLst, rLstC, rArgs, gNameT, gNilT, gConsT, gTupT, gSubT, iSeq, iRng1T, iRng2T, rLc, rCall, rCallN, rCallS, rFld, rCon, rMake, rMakeN, rMakeP, rMeth, rMethK, rProp, rClsFn, rOpOwn, rSl, oNone, oSome, rMut, kAdd, kI2, kI2n, kMul, kIx, kIn, kLen, kU, kA2, kDm, kStrI, kAll, kSl, kAppend, kExtend, kTuple, kList, lenT, seqOf, bYes, startT, one, pickG, selG, insOf, putT, flatT, Bool.false_xor, Bool.true_xor, List.all_cons, List.all_nil, Bool.and_self, T.int.injEq, T.bl.injEq, T.str.injEq, T.lst.injEq, T.tup.injEq, T.cell.injEq, T.ins.injEq, Cell.lst.injEq, Cell.ins.injEq, Prod.mk.injEq, List.cons.injEq, Option.some.injEq, List.map_cons, List.map_nil, List.length_cons, List.length_nil, List.cons_append, List.nil_append, List.append_nil, List.getElem?_cons_zero, List.getElem?_cons_succ, List.set_cons_zero, List.set_cons_succ, List.replicate_succ, List.replicate_zero, exists_eq_left, exists_eq_left', exists_and_left, and_true, true_and, and_self, and_assoc, Nat.sub_self, Nat.reduceAdd, Nat.reduceSub, Nat.zero_add, put_put, put_same, reduceIte, Bool.false_eq_true, Bool.true_eq_false, Bool.not_true, Bool.not_false, at_0, at_1, at_2, at_3, at_4, at_5, at_6, at_7, ix_1_0, ix_2_0, ix_2_1, ix_3_0, ix_3_1, ix_3_2, ix_4_0, ix_4_1, ix_4_2, ix_4_3]
    refine ⟨by decide, FrL.two f8 g8, hN _ _ ?_⟩
    simp only [sp_lowest_terms, sSeq, sAsg, sDrop, sRet, sRetN, sIf, sNext, sPar, sPar3, sFor, sRaise, sFldT, sNo, rNo, rVar, rFrz, rC, rBin, rTest, bAnd, bOr, bNot, bIf, vAnd, vOr, vNot, rIf, rNeg, aNil, aCons, rTup, rLst, rLstC, rArgs, gNameT, gNilT, gConsT, gTupT, gSubT, iSeq, iRng1T, iRng2T, rLc, rCall, rCallN, rCallS, rFld, rCon, rMake, rMakeN, rMakeP, rMeth, rMethK, rProp, rClsFn, rOpOwn, rSl, oNone, oSome, rMut, kAdd, kI2, kI2n, kMul, kIx, kIn, kLen, kU, kA2, kDm, kStrI, kAll, kSl, kAppend, kExtend, kTuple, kList, lenT, seqOf, bYes, startT, one, pickG, selG, insOf, putT, flatT, Bool.false_xor, Bool.true_xor, List.all_cons, List.all_nil, Bool.and_self, T.int.injEq, T.bl.injEq, T.str.injEq, T.lst.injEq, T.tup.injEq, T.cell.injEq, T.ins.injEq, Cell.lst.injEq, Cell.ins.injEq, Prod.mk.injEq, List.cons.injEq, Option.some.injEq, List.map_cons, List.map_nil, List.length_cons, List.length_nil, List.cons_append, List.nil_append, List.append_nil, List.getElem?_cons_zero, List.getElem?_cons_succ, List.set_cons_zero, List.set_cons_succ, List.replicate_succ, List.replicate_zero, exists_eq_left, exists_eq_left', exists_and_left, and_true, true_and, and_self, and_assoc, Nat.sub_self, Nat.reduceAdd, Nat.reduceSub, Nat.zero_add, put_put, put_same, reduceIte, Bool.false_eq_true, Bool.true_eq_false, Bool.not_true, Bool.not_false, at_0, at_1, at_2, at_3, at_4, at_5, at_6, at_7, ix_1_0, ix_2_0, ix_2_1, ix_3_0, ix_3_1, ix_3_2, ix_4_0, ix_4_1, ix_4_2, ix_4_3]
    exact ⟨f.a.mulW g.b, f.b.mulW g.a, (f.a.mul g.b).up (by decide), (f.b.mul g.a).pos, q⟩
  · exact h.elim
theorem sc_order : FnScope ["left", "right"] ["left", "right"] (defScope s_order) := ⟨rfl, rfl, rfl, by decide +kernel, rfl, by decide +kernel, by decide +kernel⟩
def sp_order : SpT := fun ts S R _ => match ts with
  | [.int l, .int r] => R (.int (sgn l r)) S
  | _ => False
theorem ok_order {P : Program} {w : World} {K : PySem.W.Frag} {mg : Str → Option Value} {base : Heap} {f : Addr} {fd : FuncData}   (F : Fun K "order" "order" s_order f fd)
    : FnT P w K mg base 1 f fd ["left", "right"] sp_order := by
  refine okT F sc_order (by intro ts S R RE h; unfold sp_order at h; split at h <;> first | rfl | exact h.elim) (fun cdv A out s H E hg hr => (bs_cons (ss_if (tt_cmp op_lt cv_B2n (et_var (pv 0)) (et_var (pv 1)) (nomark _)) (bs_one (ss_ret (et_neg et_int))) bs_nil)
    (bs_cons (ss_if (tt_cmp op_gt cv_B2n (et_var (pv 0)) (et_var (pv 1)) (nomark _)) (bs_one (ss_ret et_int)) bs_nil)
    (bs_one (ss_ret et_int))))) ?_
  intro ts S R RE h
  unfold sp_order at h
  split at h
  · rename_i l r
    unfold sgn at h
    refine sSeq_i fun N hN => ?_
    simp only [sSeq, sAsg, sDrop, sRet, sRetN, sIf, sNext, sPar, sPar3, sFor, sRaise, sFldT, sNo, rNo, rVar, rFrz, rC, rBin, rTest, bAnd, bOr, bNot, bIf, vAnd, vOr, vNot, rIf, rNeg, aNil, aCons, rTup, rLst, rLstC, rArgs, gNameT, gNilT, gConsT, gTupT, gSubT, iSeq, iRng1T, iRng2T, rLc, rCall, rCallN, rCallS, rFld, rCon, rMake, rMakeN, rMakeP, rMeth, rMethK, rProp, rClsFn, rOpOwn, rSl, oNone, oSome, rMut, kAdd, kI2, kI2n, kMul, kIx, kIn, kLen, kU, kA2, kDm, kStrI, kAll, kSl, kAppend, kExtend, kTuple, kList, lenT, seqOf, bYes, startT, one, pickG, selG, insOf, putT, flatT, Bool.false_xor, Bool.true_xor, List.all_cons, List.all_nil, Bool.and_self, T.int.injEq, T.bl.injEq, T.str.injEq, T.lst.injEq, T.tup.injEq, T.cell.injEq, T.ins.injEq, Cell.lst.injEq, Cell.ins.injEq, Prod.mk.injEq, List.cons.injEq, Option.some.injEq, List.map_cons, List.map_nil, List.length_cons, List.length_nil, List.cons_append, List.nil_append, List.append_nil, List.getElem?_cons_zero, List.getElem?_cons_succ, List.set_cons_zero, List.set_cons_succ, List.replicate_succ, List.replicate_zero, exists_eq_left, exists_eq_left', exists_and_left, and_true, true_and, and_self, and_assoc, Nat.sub_self, Nat.reduceAdd, Nat.reduceSub, Nat.zero_add, put_put, put_same, reduceIte, Bool.false_eq_true, Bool.true_eq_false, Bool.not_true, Bool.not_false, at_0, at_1, at_2, at_3, at_4, at_5, at_6, at_7, ix_1_0, ix_2_0, ix_2_1, ix_3_0, ix_3_1, ix_3_2, ix_4_0, ix_4_1, ix_4_2, ix_4_3]
    refine ite_d (fun c => ?_) (fun c => hN _ _ ?_)
    · rw [if_pos c] at h
      exact h
    · rw [if_neg c] at h
      refine sSeq_i fun N hN => ?_
      simp only [sSeq, sAsg, sDrop, sRet, sRetN, sIf, sNext, sPar, sPar3, sFor, sRaise, sFldT, sNo, rNo, rVar, rFrz, rC, rBin, rTest, bAnd, bOr, bNot, bIf, vAnd, vOr, vNot, rIf, rNeg, aNil, aCons, rTup, rLst, rLstC, rArgs, gNameT, gNilT, gConsT, gTupT, gSubT, iSeq, iRng1T, iRng2T, rLc, rCall, rCallN, rCallS, rFld, rCon, rMake, rMakeN, rMakeP, rMeth, rMethK, rProp, rClsFn, rOpOwn, rSl, oNone, oSome, rMut, kAdd, kI2, kI2n, kMul, kIx, kIn, kLen, kU, kA2, kDm, kStrI, kAll, kSl, kAppend, kExtend, kTuple, kList, lenT, seqOf, bYes, startT, one, pickG, selG, insOf, putT, flatT, Bool.false_xor, Bool.true_xor, List.all_cons, List.all_nil, Bool.and_self, T.int.injEq, T.bl.injEq, T.str.injEq, T.lst.injEq, T.tup.injEq, T.cell.injEq, T.ins.injEq, Cell.lst.injEq, Cell.ins.injEq, Prod.mk.injEq, List.cons.injEq, Option.some.injEq, List.map_cons, List.map_nil, List.length_cons, List.length_nil, List.cons_append, List.nil_append, List.append_nil, List.getElem?_cons_zero, List.getElem?_cons_succ, List.set_cons_zero, List.set_cons_succ, List.replicate_succ, List.replicate_zero, exists_eq_left, exists_eq_left', exists_and_left, and_true, true_and, and_self, and_assoc, Nat.sub_self, Nat.reduceAdd, Nat.reduceSub, Nat.zero_add, put_put, put_same, reduceIte, Bool.false_eq_true, Bool.true_eq_false, Bool.not_true, Bool.not_false, at_0, at_1, at_2, at_3, at_4, at_5, at_6, at_7, ix_1_0, ix_2_0, ix_2_1, ix_3_0, ix_3_1, ix_3_2, ix_4_0, ix_4_1, ix_4_2, ix_4_3]
      refine ite_d (fun c => ?_) (fun c => hN _ _ ?_)
      · rw [if_pos c] at h
        exact h
      · rw [if_neg c] at h
        simp only [sSeq, sAsg, sDrop, sRet, sRetN, sIf, sNext, sPar, sPar3, sFor, sRaise, sFldT, sNo, rNo, rVar, rFrz, rC, rBin, rTest, bAnd, bOr, bNot, bIf, vAnd, vOr, vNot, rIf, rNeg, aNil, aCons, rTup, rLst, rLstC, rArgs, gNameT, gNilT, gConsT, gTupT, gSubT, iSeq, iRng1T, iRng2T, rLc, rCall, rCallN, rCallS, rFld, rCon, rMake, rMakeN, rMakeP, rMeth, rMethK, rProp, rClsFn, rOpOwn, rSl, oNone, oSome, rMut, kAdd, kI2, kI2n, kMul, kIx, kIn, kLen, kU, kA2, kDm, kStrI, kAll, kSl, kAppend, kExtend, kTuple, kList, lenT, seqOf, bYes, startT, one, pickG, selG, insOf, putT, flatT, Bool.false_xor, Bool.true_xor, List.all_cons, List.all_nil, Bool.and_self, T.int.injEq, T.bl.injEq, T.str.injEq, T.lst.injEq, T.tup.injEq, T.cell.injEq, T.ins.injEq, Cell.lst.injEq, Cell.ins.injEq, Prod.mk.injEq, List.cons.injEq, Option.some.injEq, List.map_cons, List.map_nil, List.length_cons, List.length_nil, List.cons_append, List.nil_append, List.append_nil, List.getElem?_cons_zero, List.getElem?_cons_succ, List.set_cons_zero, List.set_cons_succ, List.replicate_succ, List.replicate_zero, exists_eq_left, exists_eq_left', exists_and_left, and_true, true_and, and_self, and_assoc, Nat.sub_self, Nat.reduceAdd, Nat.reduceSub, Nat.zero_add, put_put, put_same, reduceIte, Bool.false_eq_true, Bool.true_eq_false, Bool.not_true, Bool.not_false, at_0, at_1, at_2, at_3, at_4, at_5, at_6, at_7, ix_1_0, ix_2_0, ix_2_1, ix_3_0, ix_3_1, ix_3_2, ix_4_0, ix_4_1, ix_4_2, ix_4_3]
        exact h
  · exact h.elim
theorem sc_compare : FnScope ["one", "other"] ["one", "other"] (defScope s_compare) := ⟨rfl, rfl, rfl, by decide +kernel, rfl, by decide +kernel, by decide +kernel⟩
def sp_compare : SpT := fun ts S R _ => match ts with
  | [.tup [.int a, .int b], .tup [.int c, .int d]] => Fr 3900 a b ∧ Fr 3900 c d ∧ R (.int (sgn (a * d) (c * b))) S
  | _ => False
theorem ok_compare {P : Program} {w : World} {K : PySem.W.Frag} {mg : Str → Option Value} {base : Heap} {f : Addr} {fd : FuncData} {g_order g_check_fractions : Addr} {gd_order : FuncData} {gd_check_fractions : FuncData} (F : Fun K "compare" "compare" s_compare f fd)
    (G_order : FnT P w K mg base 1 g_order gd_order ["left", "right"] sp_order)
    (m_order : mg "order" = some (.ref g_order))
    (k_order : PySem.W.keepIn K (.ref g_order) = true)
    (b_order : Binds K gd_order ["left", "right"] [])
    (G_check_fractions : FnT P w K mg base 4 g_check_fractions gd_check_fractions ["values"] sp_check_fractions)
    (m_check_fractions : mg "check_fractions" = some (.ref g_check_fractions))
    (k_check_fractions : PySem.W.keepIn K (.ref g_check_fractions) = true)
    (b_check_fractions : Binds K gd_check_fractions ["values"] [])
    : FnT P w K mg base 5 f fd ["one", "other"] sp_compare := by
  refine okT F sc_compare (by intro ts S R RE h; unfold sp_compare at h; split at h <;> first | rfl | exact h.elim) (fun cdv A out s H E hg hr => (bs_cons (ss_expr (et_callD G_check_fractions hg (hr.mono (by decide)) (by rfl) m_check_fractions k_check_fractions (CallD.all b_check_fractions) (passL2N (L2N.takes_of rfl rfl rfl rfl)) (at_cons (et_tup (at_cons (et_var (pv 0)) (at_cons (et_var (pv 1)) at_nil))) at_nil)))
    (bs_one (ss_ret (et_callD G_order hg (hr.mono (by decide)) (by rfl) m_order k_order (CallD.all b_order) (passL2N (L2N.takes_of rfl rfl rfl rfl)) (at_cons (et_op op_mulG cv_mul (et_ix ix_seq cv_ix (et_var (pv 0)) et_int (fun _ _ => rfl)) (et_ix ix_seq cv_ix (et_var (pv 1)) et_int (fun _ _ => rfl))) (at_cons (et_op op_mulG cv_mul (et_ix ix_seq cv_ix (et_var (pv 1)) et_int (fun _ _ => rfl)) (et_ix ix_seq cv_ix (et_var (pv 0)) et_int (fun _ _ => rfl))) at_nil))))))) ?_
  intro ts S R RE h
  unfold sp_compare at h
  split at h
  · rename_i a b c d
    obtain ⟨f, g, q⟩ := h
    have f8 := f.up (m := 8000) (by decide)
    have g8 := g.up (m := 8000) (by decide)
    refine sSeq_i fun N hN => ?_
    simp only [sp_check_fractions, sSeq, sAsg, sDrop, sRet, sRetN, sIf, sNext, sPar, sPar3, sFor, sRaise, sFldT, sNo, rNo, rVar, rFrz, rC, rBin, rTest, bAnd, bOr, bNot, bIf, vAnd, vOr, vNot, rIf, rNeg, aNil, aCons, rTup, rLst, rLstC, rArgs, gNameT, gNilT, gConsT, gTupT, gSubT, iSeq, iRng1T, iRng2T, rLc, rCall, rCallN, rCallS, rFld, rCon, rMake, rMakeN, rMakeP, rMeth, rMethK, rProp, rClsFn, rOpOwn, rSl, oNone, oSome, rMut, kAdd, kI2, kI2n, kMul, kIx, kIn, kLen, kU, kA2, kDm, kStrI, kAll, kSl, kAppend, kExtend, kTuple, kList, lenT, seqOf, bYes, startT, one, pickG, selG, insOf, putT, flatT, Bool.false_xor, Bool.true_xor, List.all_cons, List.all_nil, Bool.and_self, T.int.injEq, T.bl.injEq, T.str.injEq, T.lst.injEq, T.tup.injEq, T.cell.injEq, T.ins.injEq, Cell.lst.injEq, Cell.ins.injEq, Prod.mk.injEq, List.cons.injEq, Option.some.injEq, List.map_cons, List.map_nil, List.length_cons, List.length_nil, List.cons_append, List.nil_append, List.append_nil, List.getElem?_cons_zero, List.getElem?_cons_succ, List.set_cons_zero, List.set_cons_succ, List.replicate_succ, List.replicate_zero, exists_eq_left, exists_eq_left', exists_and_left, and_true, true_and, and_self, and_assoc, Nat.sub_self, Nat.reduceAdd, Nat.reduceSub, Nat.zero_add, put_put, put_same, reduceIte, Bool.false_eq_true, Bool.true_eq_false, Bool.not_true, Bool.not_false, at_0, at_1, at_2, at_3, at_4, at_5, at_6, at_7, ix_1_0, ix_2_0, ix_2_1, ix_3_0, ix_3_1, ix_3_2, ix_4_0, ix_4_1, ix_4_2, ix_4_3]
    refine ⟨by decide, FrL.two f8 g8, hN _ _ ?_⟩
    simp only [sp_order, sSeq, sAsg, sDrop, sRet, sRetN, sIf, sNext, sPar, sPar3, sFor, sRaise, sFldT, sNo, rNo, rVar, rFrz, rC, rBin, rTest, bAnd, bOr, bNot, bIf, vAnd, vOr, vNot, rIf, rNeg, aNil, aCons, rTup, rLst, rLstC, rArgs, gNameT, gNilT, gConsT, gTupT, gSubT, iSeq, iRng1T, iRng2T, rLc, rCall, rCallN, rCallS, rFld, rCon, rMake, rMakeN, rMakeP, rMeth, rMethK, rProp, rClsFn, rOpOwn, rSl, oNone, oSome, rMut, kAdd, kI2, kI2n, kMul, kIx, kIn, kLen, kU, kA2, kDm, kStrI, kAll, kSl, kAppend, kExtend, kTuple, kList, lenT, seqOf, bYes, startT, one, pickG, selG, insOf, putT, flatT, Bool.false_xor, Bool.true_xor, List.all_cons, List.all_nil, Bool.and_self, T.int.injEq, T.bl.injEq, T.str.injEq, T.lst.injEq, T.tup.injEq, T.cell.injEq, T.ins.injEq, Cell.lst.injEq, Cell.ins.injEq, Prod.mk.injEq, List.cons.injEq, Option.some.injEq, List.map_cons, List.map_nil, List.length_cons, List.length_nil, List.cons_append, List.nil_append, List.append_nil, List.getElem?_cons_zero, List.getElem?_cons_succ, List.set_cons_zero, List.set_cons_succ, List.replicate_succ, List.replicate_zero, exists_eq_left, exists_eq_left', exists_and_left, and_true, true_and, and_self, and_assoc, Nat.sub_self, Nat.reduceAdd, Nat.reduceSub, Nat.zero_add, put_put, put_same, reduceIte, Bool.false_eq_true, Bool.true_eq_false, Bool.not_true, Bool.not_false, at_0, at_1, at_2, at_3, at_4, at_5, at_6, at_7, ix_1_0, ix_2_0, ix_2_1, ix_3_0, ix_3_1, ix_3_2, ix_4_0, ix_4_1, ix_4_2, ix_4_3]
    exact ⟨f.a.mulW g.b, g.a.mulW f.b, q⟩
  · exact h.elim
/-! sizes -/
theorem wh_ne : ¬ (("width" : Str) = "height") := by decide +kernel
theorem hw_ne : ¬ (("height" : Str) = "width") := by decide +kernel
def szF (a b c d : Int) : List (Str × T) := [("width", frT a b), ("height", frT c d)]
def szT (C : Addr) (a b c d : Int) : T := .ins C (szF a b c d)
theorem szF_w {a b c d : Int} : (szF a b c d).lookup ("width" : Str) = some (frT a b) := by simp [szF, List.lookup]
theorem szF_h {a b c d : Int} : (szF a b c d).lookup ("height" : Str) = some (frT c d) := by
  have h : (("height" : Str) == "width") = false := by decide +kernel
  simp [szF, List.lookup, h]
theorem szF_no {a b c d : Int} {m : Str} (h1 : ¬ m = "height") (h2 : ¬ m = "width") : (szF a b c d).lookup m = none := by
  have e1 : (m == ("height" : Str)) = false := by simpa using h1
  have e2 : (m == ("width" : Str)) = false := by simpa using h2
  simp [szF, List.lookup, e1, e2]
theorem szF_mul {a b c d : Int} : (szF a b c d).lookup ("ratio" : Str) = none := szF_no (by decide +kernel) (by decide +kernel)
/-- a size, all parts within n bits -/
structure Sz (n : Nat) (a b c d : Int) : Prop where
  w : Fr n a b
  h : Fr n c d
theorem Sz.up {n m : Nat} {a b c d : Int} (s : Sz n a b c d) (le : n ≤ m) : Sz m a b c d := ⟨s.w.up le, s.h.up le⟩
theorem put_width {x : T} : putT "width" x [] = [(("width" : Str), x)] := rfl
theorem put_height {x y : T} : putT "height" y [(("width" : Str), x)] = [(("width" : Str), x), (("height" : Str), y)] := by
  unfold putT
  rw [if_neg wh_ne]
  rfl
/-- the same with the values of a size in place of a C -/
theorem kit_self {K : PySem.W.Frag} {C : Addr} : PySem.W.kitOne K (.ref C) (.ref C) = some true := by
  unfold PySem.W.kitOne
  rw [if_pos (beq_self_eq_true _)]
theorem isSz {K : PySem.W.Frag} {C : Addr} (i : InsC K C) {a b c d : Int} {S : Store} {R : T → Store → Prop} {RE : XT} (q : R (.bl true) S) : kIsi K [szT C a b c d, .st C] S R RE := ⟨szT C a b c d, .st C, .ref C, .ref C, true, rfl, .st C, .ins i, kit_self, q⟩
theorem sc_check_size : FnScope ["size"] ["size"] (defScope s_check_size) := ⟨rfl, rfl, rfl, by decide +kernel, rfl, by decide +kernel, by decide +kernel⟩
def sp_check_size (C : Addr) : SpT := fun ts S R _ => match ts with
  | [x] => ∃ a b c d, x = szT C a b c d ∧ R .non S
  | _ => False
theorem ok_check_size {P : Program} {w : World} {K : PySem.W.Frag} {mg : Str → Option Value} {base : Heap} {f : Addr} {fd : FuncData} {C_Size : Addr}  (F : Fun K "check_size" "check_size" s_check_size f fd)
    (n_isinstance : mg "isinstance" = none)
    (m_Size : mg "Size" = some (.ref C_Size))
    (is_Size : InsC K C_Size)
    : FnT P w K mg base 1 f fd ["size"] (sp_check_size C_Size) := by
  refine okT F sc_check_size (by intro ts S R RE h; unfold sp_check_size at h; split at h <;> first | rfl | exact h.elim) (fun cdv A out s H E hg hr => (bs_one (ss_if (tt_not (tt_val (et_blt call_isi (cv_isi (K := K)) (by rfl) n_isinstance PyProof.Rows.boot_isinstance (at_cons (et_var (pv 0)) (at_cons (et_glob (by rfl) m_Size) at_nil))))) (bs_one ss_never) bs_nil))) ?_
  intro ts S R RE h
  unfold sp_check_size at h
  split at h
  · rename_i x
    obtain ⟨a, b, c, d, rfl, q⟩ := h
    simp only [sSeq, sAsg, sDrop, sRet, sRetN, sIf, sNext, sPar, sPar3, sFor, sRaise, sFldT, sNo, rNo, rVar, rFrz, rC, rBin, rTest, bAnd, bOr, bNot, bIf, vAnd, vOr, vNot, rIf, rNeg, aNil, aCons, rTup, rLst, rLstC, rArgs, gNameT, gNilT, gConsT, gTupT, gSubT, iSeq, iRng1T, iRng2T, rLc, rCall, rCallN, rCallS, rFld, rCon, rMake, rMakeN, rMakeP, rMeth, rMethK, rProp, rClsFn, rOpOwn, rSl, oNone, oSome, rMut, kAdd, kI2, kI2n, kMul, kIx, kIn, kLen, kU, kA2, kDm, kStrI, kAll, kSl, kAppend, kExtend, kTuple, kList, lenT, seqOf, bYes, startT, one, pickG, selG, insOf, putT, flatT, Bool.false_xor, Bool.true_xor, List.all_cons, List.all_nil, Bool.and_self, T.int.injEq, T.bl.injEq, T.str.injEq, T.lst.injEq, T.tup.injEq, T.cell.injEq, T.ins.injEq, Cell.lst.injEq, Cell.ins.injEq, Prod.mk.injEq, List.cons.injEq, Option.some.injEq, List.map_cons, List.map_nil, List.length_cons, List.length_nil, List.cons_append, List.nil_append, List.append_nil, List.getElem?_cons_zero, List.getElem?_cons_succ, List.set_cons_zero, List.set_cons_succ, List.replicate_succ, List.replicate_zero, exists_eq_left, exists_eq_left', exists_and_left, and_true, true_and, and_self, and_assoc, Nat.sub_self, Nat.reduceAdd, Nat.reduceSub, Nat.zero_add, put_put, put_same, reduceIte, Bool.false_eq_true, Bool.true_eq_false, Bool.not_true, Bool.not_false, at_0, at_1, at_2, at_3, at_4, at_5, at_6, at_7, ix_1_0, ix_2_0, ix_2_1, ix_3_0, ix_3_1, ix_3_2, ix_4_0, ix_4_1, ix_4_2, ix_4_3]
    refine isSz is_Size ⟨true, rfl, ?_⟩
    exact q
  · exact h.elim
theorem sc_Size_init : FnScope ["self", "width", "height"] ["self", "width", "height"] (defScope s_Size_init) := ⟨rfl, rfl, rfl, by decide +kernel, rfl, by decide +kernel, by decide +kernel⟩
def sp_Size_init (C : Addr) : SpT := fun ts S R _ => match ts with
  | [.cell u, x, y] => S u = some (.ins C []) ∧ ∃ a b c d, Side 8000 x a b ∧ Side 8000 y c d ∧ R .non (S.put u (.ins C (szF a b c d)))
  | _ => False
theorem ok_Size_init {P : Program} {w : World} {K : PySem.W.Frag} {mg : Str → Option Value} {base : Heap} {f : Addr} {fd : FuncData} {g_as_fraction C_Size : Addr} {gd_as_fraction : FuncData} (F : Fun K "__init__" "Size.__init__" s_Size_init f fd)
    (G_as_fraction : FnT P w K mg base 5 g_as_fraction gd_as_fraction ["side"] (sp_as_fraction K))
    (m_as_fraction : mg "as_fraction" = some (.ref g_as_fraction))
    (k_as_fraction : PySem.W.keepIn K (.ref g_as_fraction) = true)
    (b_as_fraction : Binds K gd_as_fraction ["side"] [])
    (nf_Size_width : InF K C_Size "width")
    (nf_Size_height : InF K C_Size "height")
    : FnT P w K mg base 6 f fd ["self", "width", "height"] (sp_Size_init C_Size) := by
  refine okT F sc_Size_init (by intro ts S R RE h; unfold sp_Size_init at h; split at h <;> first | rfl | exact h.elim) (fun cdv A out s H E hg hr => (bs_cons (ss_fldK K rfl (et_var (pv 0)) (et_callD G_as_fraction hg (hr.mono (by decide)) (by rfl) m_as_fraction k_as_fraction (CallD.all b_as_fraction) (passL2N (L2N.takes_of rfl rfl rfl rfl)) (at_cons (et_var (pv 1)) at_nil)))
    (bs_one (ss_fldK K rfl (et_var (pv 0)) (et_callD G_as_fraction hg (hr.mono (by decide)) (by rfl) m_as_fraction k_as_fraction (CallD.all b_as_fraction) (passL2N (L2N.takes_of rfl rfl rfl rfl)) (at_cons (et_var (pv 2)) at_nil)))))) ?_
  intro ts S R RE h
  unfold sp_Size_init at h
  split at h
  · rename_i u x y
    obtain ⟨hu, a, b, c, d, s1, s2, q⟩ := h
    refine sSeq_i fun N hN => ?_
    simp only [sp_as_fraction, hu, nf_Size_width, sSeq, sAsg, sDrop, sRet, sRetN, sIf, sNext, sPar, sPar3, sFor, sRaise, sFldT, sNo, rNo, rVar, rFrz, rC, rBin, rTest, bAnd, bOr, bNot, bIf, vAnd, vOr, vNot, rIf, rNeg, aNil, aCons, rTup, rLst, rLstC, rArgs, gNameT, gNilT, gConsT, gTupT, gSubT, iSeq, iRng1T, iRng2T, rLc, rCall, rCallN, rCallS, rFld, rCon, rMake, rMakeN, rMakeP, rMeth, rMethK, rProp, rClsFn, rOpOwn, rSl, oNone, oSome, rMut, kAdd, kI2, kI2n, kMul, kIx, kIn, kLen, kU, kA2, kDm, kStrI, kAll, kSl, kAppend, kExtend, kTuple, kList, lenT, seqOf, bYes, startT, one, pickG, selG, insOf, putT, flatT, Bool.false_xor, Bool.true_xor, List.all_cons, List.all_nil, Bool.and_self, T.int.injEq, T.bl.injEq, T.str.injEq, T.lst.injEq, T.tup.injEq, T.cell.injEq, T.ins.injEq, Cell.lst.injEq, Cell.ins.injEq, Prod.mk.injEq, List.cons.injEq, Option.some.injEq, List.map_cons, List.map_nil, List.length_cons, List.length_nil, List.cons_append, List.nil_append, List.append_nil, List.getElem?_cons_zero, List.getElem?_cons_succ, List.set_cons_zero, List.set_cons_succ, List.replicate_succ, List.replicate_zero, exists_eq_left, exists_eq_left', exists_and_left, and_true, true_and, and_self, and_assoc, Nat.sub_self, Nat.reduceAdd, Nat.reduceSub, Nat.zero_add, put_put, put_same, reduceIte, Bool.false_eq_true, Bool.true_eq_false, Bool.not_true, Bool.not_false, at_0, at_1, at_2, at_3, at_4, at_5, at_6, at_7, ix_1_0, ix_2_0, ix_2_1, ix_3_0, ix_3_1, ix_3_2, ix_4_0, ix_4_1, ix_4_2, ix_4_3]
    refine ⟨a, b, s1, by decide, hN _ _ ?_⟩
    simp only [sp_as_fraction, nf_Size_height, wh_ne, sSeq, sAsg, sDrop, sRet, sRetN, sIf, sNext, sPar, sPar3, sFor, sRaise, sFldT, sNo, rNo, rVar, rFrz, rC, rBin, rTest, bAnd, bOr, bNot, bIf, vAnd, vOr, vNot, rIf, rNeg, aNil, aCons, rTup, rLst, rLstC, rArgs, gNameT, gNilT, gConsT, gTupT, gSubT, iSeq, iRng1T, iRng2T, rLc, rCall, rCallN, rCallS, rFld, rCon, rMake, rMakeN, rMakeP, rMeth, rMethK, rProp, rClsFn, rOpOwn, rSl, oNone, oSome, rMut, kAdd, kI2, kI2n, kMul, kIx, kIn, kLen, kU, kA2, kDm, kStrI, kAll, kSl, kAppend, kExtend, kTuple, kList, lenT, seqOf, bYes, startT, one, pickG, selG, insOf, putT, flatT, Bool.false_xor, Bool.true_xor, List.all_cons, List.all_nil, Bool.and_self, T.int.injEq, T.bl.injEq, T.str.injEq, T.lst.injEq, T.tup.injEq, T.cell.injEq, T.ins.injEq, Cell.lst.injEq, Cell.ins.injEq, Prod.mk.injEq, List.cons.injEq, Option.some.injEq, List.map_cons, List.map_nil, List.length_cons, List.length_nil, List.cons_append, List.nil_append, List.append_nil, List.getElem?_cons_zero, List.getElem?_cons_succ, List.set_cons_zero, List.set_cons_succ, List.replicate_succ, List.replicate_zero, exists_eq_left, exists_eq_left', exists_and_left, and_true, true_and, and_self, and_assoc, Nat.sub_self, Nat.reduceAdd, Nat.reduceSub, Nat.zero_add, put_put, put_same, reduceIte, Bool.false_eq_true, Bool.true_eq_false, Bool.not_true, Bool.not_false, at_0, at_1, at_2, at_3, at_4, at_5, at_6, at_7, ix_1_0, ix_2_0, ix_2_1, ix_3_0, ix_3_1, ix_3_2, ix_4_0, ix_4_1, ix_4_2, ix_4_3]
    exact ⟨c, d, s2, by decide, q⟩
  · exact h.elim
/-- what a new size is, made of sides -/
theorem mk_size {C : Addr} {x y : T} {a b c d : Int} {S : Store} {R : T → Store → Prop} {RE : XT} (s1 : Side 8000 x a b) (s2 : Side 8000 y c d) (q : R (szT C a b c d) S) :
    ∀ u, S u = none → sp_Size_init C [.cell u, x, y] (S.put u (.ins C [])) (fun z S2 => z = .non ∧ ∃ gs, S2 u = some (.ins C gs) ∧ R (.ins C gs) (S2.drop u)) RE := fun u hu =>
  ⟨put_same, a, b, c, d, s1, s2, rfl, _, put_same, by rw [put_put, put_drop hu]; exact q⟩
theorem sc_Size_turned : FnScope ["self"] ["self"] (defScope s_Size_turned) := ⟨rfl, rfl, rfl, by decide +kernel, rfl, by decide +kernel, by decide +kernel⟩
def sp_Size_turned (C : Addr) : SpT := fun ts S R _ => match ts with
  | [x] => ∃ a b c d, x = szT C a b c d ∧ Sz 8000 a b c d ∧ R (szT C c d a b) S
  | _ => False
theorem ok_Size_turned {P : Program} {w : World} {K : PySem.W.Frag} {mg : Str → Option Value} {base : Heap} {f : Addr} {fd : FuncData} {g_Size_init C_Size : Addr} {gd_Size_init : FuncData} (F : Fun K "turned" "Size.turned" s_Size_turned f fd)
    (G_Size_init : FnT P w K mg base 6 g_Size_init gd_Size_init ["self", "width", "height"] (sp_Size_init C_Size))
    (b_Size_init : Binds K gd_Size_init ["self", "width", "height"] [])
    (m_Size : mg "Size" = some (.ref C_Size))
    (M_Size : Mk K C_Size g_Size_init)
    (nf_Size_width : InF K C_Size "width")
    (nf_Size_height : InF K C_Size "height")
    : FnT P w K mg base 8 f fd ["self"] (sp_Size_turned C_Size) := by
  refine okT F sc_Size_turned (by intro ts S R RE h; unfold sp_Size_turned at h; split at h <;> first | rfl | exact h.elim) (fun cdv A out s H E hg hr => (bs_one (ss_ret (et_make M_Size G_Size_init hg (hr.mono (by decide)) (by rfl) m_Size (CallD.all b_Size_init) (passL2N (L2N.takes_of rfl rfl rfl rfl)) (at_cons (et_fldK K rfl (et_var (pv 0))) (at_cons (et_fldK K rfl (et_var (pv 0))) at_nil)))))) ?_
  intro ts S R RE h
  unfold sp_Size_turned at h
  split at h
  · rename_i x
    obtain ⟨a, b, c, d, rfl, s, q⟩ := h
    simp only [szT, nf_Size_height, nf_Size_width, szF_w, szF_h, sSeq, sAsg, sDrop, sRet, sRetN, sIf, sNext, sPar, sPar3, sFor, sRaise, sFldT, sNo, rNo, rVar, rFrz, rC, rBin, rTest, bAnd, bOr, bNot, bIf, vAnd, vOr, vNot, rIf, rNeg, aNil, aCons, rTup, rLst, rLstC, rArgs, gNameT, gNilT, gConsT, gTupT, gSubT, iSeq, iRng1T, iRng2T, rLc, rCall, rCallN, rCallS, rFld, rCon, rMake, rMakeN, rMakeP, rMeth, rMethK, rProp, rClsFn, rOpOwn, rSl, oNone, oSome, rMut, kAdd, kI2, kI2n, kMul, kIx, kIn, kLen, kU, kA2, kDm, kStrI, kAll, kSl, kAppend, kExtend, kTuple, kList, lenT, seqOf, bYes, startT, one, pickG, selG, insOf, putT, flatT, Bool.false_xor, Bool.true_xor, List.all_cons, List.all_nil, Bool.and_self, T.int.injEq, T.bl.injEq, T.str.injEq, T.lst.injEq, T.tup.injEq, T.cell.injEq, T.ins.injEq, Cell.lst.injEq, Cell.ins.injEq, Prod.mk.injEq, List.cons.injEq, Option.some.injEq, List.map_cons, List.map_nil, List.length_cons, List.length_nil, List.cons_append, List.nil_append, List.append_nil, List.getElem?_cons_zero, List.getElem?_cons_succ, List.set_cons_zero, List.set_cons_succ, List.replicate_succ, List.replicate_zero, exists_eq_left, exists_eq_left', exists_and_left, and_true, true_and, and_self, and_assoc, Nat.sub_self, Nat.reduceAdd, Nat.reduceSub, Nat.zero_add, put_put, put_same, reduceIte, Bool.false_eq_true, Bool.true_eq_false, Bool.not_true, Bool.not_false, at_0, at_1, at_2, at_3, at_4, at_5, at_6, at_7, ix_1_0, ix_2_0, ix_2_1, ix_3_0, ix_3_1, ix_3_2, ix_4_0, ix_4_1, ix_4_2, ix_4_3]
    exact mk_size (.fr s.h) (.fr s.w) q
  · exact h.elim
theorem sc_Size_ratio : FnScope ["self"] ["self"] (defScope s_Size_ratio) := ⟨rfl, rfl, rfl, by decide +kernel, rfl, by decide +kernel, by decide +kernel⟩
def sp_Size_ratio (C : Addr) : SpT := fun ts S R _ => match ts with
  | [x] => ∃ a b c d, x = szT C a b c d ∧ Sz 3900 a b c d ∧ R (frT (lwA (a * d) (b * c)) (lwB (a * d) (b * c))) S
  | _ => False
theorem ok_Size_ratio {P : Program} {w : World} {K : PySem.W.Frag} {mg : Str → Option Value} {base : Heap} {f : Addr} {fd : FuncData} {g_quotient C_Size : Addr} {gd_quotient : FuncData} (F : Fun K "ratio" "Size.ratio" s_Size_ratio f fd)
    (G_quotient : FnT P w K mg base 5 g_quotient gd_quotient ["one", "other"] sp_quotient)
    (m_quotient : mg "quotient" = some (.ref g_quotient))
    (k_quotient : PySem.W.keepIn K (.ref g_quotient) = true)
    (b_quotient : Binds K gd_quotient ["one", "other"] [])
    (nf_Size_width : InF K C_Size "width")
    (nf_Size_height : InF K C_Size "height")
    : FnT P w K mg base 6 f fd ["self"] (sp_Size_ratio C_Size) := by
  refine okT F sc_Size_ratio (by intro ts S R RE h; unfold sp_Size_ratio at h; split at h <;> first | rfl | exact h.elim) (fun cdv A out s H E hg hr => (bs_one (ss_ret (et_callD G_quotient hg (hr.mono (by decide)) (by rfl) m_quotient k_quotient (CallD.all b_quotient) (passL2N (L2N.takes_of rfl rfl rfl rfl)) (at_cons (et_fldK K rfl (et_var (pv 0))) (at_cons (et_fldK K rfl (et_var (pv 0))) at_nil)))))) ?_
  intro ts S R RE h
  unfold sp_Size_ratio at h
  split at h
  · rename_i x
    obtain ⟨a, b, c, d, rfl, s, q⟩ := h
    simp only [szT, nf_Size_height, nf_Size_width, szF_w, szF_h, sSeq, sAsg, sDrop, sRet, sRetN, sIf, sNext, sPar, sPar3, sFor, sRaise, sFldT, sNo, rNo, rVar, rFrz, rC, rBin, rTest, bAnd, bOr, bNot, bIf, vAnd, vOr, vNot, rIf, rNeg, aNil, aCons, rTup, rLst, rLstC, rArgs, gNameT, gNilT, gConsT, gTupT, gSubT, iSeq, iRng1T, iRng2T, rLc, rCall, rCallN, rCallS, rFld, rCon, rMake, rMakeN, rMakeP, rMeth, rMethK, rProp, rClsFn, rOpOwn, rSl, oNone, oSome, rMut, kAdd, kI2, kI2n, kMul, kIx, kIn, kLen, kU, kA2, kDm, kStrI, kAll, kSl, kAppend, kExtend, kTuple, kList, lenT, seqOf, bYes, startT, one, pickG, selG, insOf, putT, flatT, Bool.false_xor, Bool.true_xor, List.all_cons, List.all_nil, Bool.and_self, T.int.injEq, T.bl.injEq, T.str.injEq, T.lst.injEq, T.tup.injEq, T.cell.injEq, T.ins.injEq, Cell.lst.injEq, Cell.ins.injEq, Prod.mk.injEq, List.cons.injEq, Option.some.injEq, List.map_cons, List.map_nil, List.length_cons, List.length_nil, List.cons_append, List.nil_append, List.append_nil, List.getElem?_cons_zero, List.getElem?_cons_succ, List.set_cons_zero, List.set_cons_succ, List.replicate_succ, List.replicate_zero, exists_eq_left, exists_eq_left', exists_and_left, and_true, true_and, and_self, and_assoc, Nat.sub_self, Nat.reduceAdd, Nat.reduceSub, Nat.zero_add, put_put, put_same, reduceIte, Bool.false_eq_true, Bool.true_eq_false, Bool.not_true, Bool.not_false, at_0, at_1, at_2, at_3, at_4, at_5, at_6, at_7, ix_1_0, ix_2_0, ix_2_1, ix_3_0, ix_3_1, ix_3_2, ix_4_0, ix_4_1, ix_4_2, ix_4_3]
    exact ⟨s.w, s.h, q⟩
  · exact h.elim
theorem Side.up {n m : Nat} {x : T} {a b : Int} (h : Side n x a b) (le : n ≤ m) : Side m x a b := by
  cases h with
  | int h => exact .int (h.up le)
  | fr h => exact .fr (h.up le)
theorem sc_Size_mul : FnScope ["self", "other", "factor"] ["self", "other"] (defScope s_Size_mul) := ⟨rfl, rfl, rfl, by decide +kernel, rfl, by decide +kernel, by decide +kernel⟩
def sp_Size_mul (C : Addr) : SpT := fun ts S R _ => match ts with
  | [x, y] => ∃ a b c d e g, x = szT C a b c d ∧ Side 3900 y e g ∧ Sz 3900 a b c d ∧ R (szT C (lwA (a * e) (b * g)) (lwB (a * e) (b * g)) (lwA (c * e) (d * g)) (lwB (c * e) (d * g))) S
  | _ => False
theorem ok_Size_mul {P : Program} {w : World} {K : PySem.W.Frag} {mg : Str → Option Value} {base : Heap} {f : Addr} {fd : FuncData} {g_Size_init C_Size g_product g_as_fraction : Addr} {gd_Size_init : FuncData} {gd_as_fraction : FuncData} (F : Fun K "__mul__" "Size.__mul__" s_Size_mul f fd)
    (G_Size_init : FnT P w K mg base 6 g_Size_init gd_Size_init ["self", "width", "height"] (sp_Size_init C_Size))
    (b_Size_init : Binds K gd_Size_init ["self", "width", "height"] [])
    (G_product : FnS P w K mg base 5 g_product sp_product)
    (m_product : mg "product" = some (.ref g_product))
    (k_product : PySem.W.keepIn K (.ref g_product) = true)
    (G_as_fraction : FnT P w K mg base 5 g_as_fraction gd_as_fraction ["side"] (sp_as_fraction K))
    (m_as_fraction : mg "as_fraction" = some (.ref g_as_fraction))
    (k_as_fraction : PySem.W.keepIn K (.ref g_as_fraction) = true)
    (b_as_fraction : Binds K gd_as_fraction ["side"] [])
    (m_Size : mg "Size" = some (.ref C_Size))
    (M_Size : Mk K C_Size g_Size_init)
    (nf_Size_width : InF K C_Size "width")
    (nf_Size_height : InF K C_Size "height")
    : FnT P w K mg base 8 f fd ["self", "other"] (sp_Size_mul C_Size) := by
  refine okT F sc_Size_mul (by intro ts S R RE h; unfold sp_Size_mul at h; split at h <;> first | rfl | exact h.elim) (fun cdv A out s H E hg hr => (bs_cons (ss_set (i := 2) sc_Size_mul.nd rfl (by first | exact Or.inl rfl | exact Or.inr rfl) (et_callD G_as_fraction hg (hr.mono (by decide)) (by rfl) m_as_fraction k_as_fraction (CallD.all b_as_fraction) (passL2N (L2N.takes_of rfl rfl rfl rfl)) (at_cons (et_var (pv 1)) at_nil)))
    (bs_one (ss_ret (et_make M_Size G_Size_init hg (hr.mono (by decide)) (by rfl) m_Size (CallD.all b_Size_init) (passL2N (L2N.takes_of rfl rfl rfl rfl)) (at_cons (et_callS G_product hg (hr.mono (by decide)) (by rfl) m_product k_product (passL2N (L2N.takes_of rfl rfl rfl rfl)) (at_cons (et_fldK K rfl (et_var (pv 0))) (at_cons (et_var (pv 2)) at_nil))) (at_cons (et_callS G_product hg (hr.mono (by decide)) (by rfl) m_product k_product (passL2N (L2N.takes_of rfl rfl rfl rfl)) (at_cons (et_fldK K rfl (et_var (pv 0))) (at_cons (et_var (pv 2)) at_nil))) at_nil))))))) ?_
  intro ts S R RE h
  unfold sp_Size_mul at h
  split at h
  · rename_i x y
    obtain ⟨a, b, c, d, e, g, rfl, sd, s, q⟩ := h
    have f := sd.is
    refine sSeq_i fun N hN => ?_
    simp only [sp_as_fraction, sSeq, sAsg, sDrop, sRet, sRetN, sIf, sNext, sPar, sPar3, sFor, sRaise, sFldT, sNo, rNo, rVar, rFrz, rC, rBin, rTest, bAnd, bOr, bNot, bIf, vAnd, vOr, vNot, rIf, rNeg, aNil, aCons, rTup, rLst, rLstC, rArgs, gNameT, gNilT, gConsT, gTupT, gSubT, iSeq, iRng1T, iRng2T, rLc, rCall, rCallN, rCallS, rFld, rCon, rMake, rMakeN, rMakeP, rMeth, rMethK, rProp, rClsFn, rOpOwn, rSl, oNone, oSome, rMut, kAdd, kI2, kI2n, kMul, kIx, kIn, kLen, kU, kA2, kDm, kStrI, kAll, kSl, kAppend, kExtend, kTuple, kList, lenT, seqOf, bYes, startT, one, pickG, selG, insOf, putT, flatT, Bool.false_xor, Bool.true_xor, List.all_cons, List.all_nil, Bool.and_self, T.int.injEq, T.bl.injEq, T.str.injEq, T.lst.injEq, T.tup.injEq, T.cell.injEq, T.ins.injEq, Cell.lst.injEq, Cell.ins.injEq, Prod.mk.injEq, List.cons.injEq, Option.some.injEq, List.map_cons, List.map_nil, List.length_cons, List.length_nil, List.cons_append, List.nil_append, List.append_nil, List.getElem?_cons_zero, List.getElem?_cons_succ, List.set_cons_zero, List.set_cons_succ, List.replicate_succ, List.replicate_zero, exists_eq_left, exists_eq_left', exists_and_left, and_true, true_and, and_self, and_assoc, Nat.sub_self, Nat.reduceAdd, Nat.reduceSub, Nat.zero_add, put_put, put_same, reduceIte, Bool.false_eq_true, Bool.true_eq_false, Bool.not_true, Bool.not_false, at_0, at_1, at_2, at_3, at_4, at_5, at_6, at_7, ix_1_0, ix_2_0, ix_2_1, ix_3_0, ix_3_1, ix_3_2, ix_4_0, ix_4_1, ix_4_2, ix_4_3]
    refine ⟨e, g, sd.up (by decide), hN _ _ ?_⟩
    simp only [szT, nf_Size_height, nf_Size_width, szF_w, szF_h, sSeq, sAsg, sDrop, sRet, sRetN, sIf, sNext, sPar, sPar3, sFor, sRaise, sFldT, sNo, rNo, rVar, rFrz, rC, rBin, rTest, bAnd, bOr, bNot, bIf, vAnd, vOr, vNot, rIf, rNeg, aNil, aCons, rTup, rLst, rLstC, rArgs, gNameT, gNilT, gConsT, gTupT, gSubT, iSeq, iRng1T, iRng2T, rLc, rCall, rCallN, rCallS, rFld, rCon, rMake, rMakeN, rMakeP, rMeth, rMethK, rProp, rClsFn, rOpOwn, rSl, oNone, oSome, rMut, kAdd, kI2, kI2n, kMul, kIx, kIn, kLen, kU, kA2, kDm, kStrI, kAll, kSl, kAppend, kExtend, kTuple, kList, lenT, seqOf, bYes, startT, one, pickG, selG, insOf, putT, flatT, Bool.false_xor, Bool.true_xor, List.all_cons, List.all_nil, Bool.and_self, T.int.injEq, T.bl.injEq, T.str.injEq, T.lst.injEq, T.tup.injEq, T.cell.injEq, T.ins.injEq, Cell.lst.injEq, Cell.ins.injEq, Prod.mk.injEq, List.cons.injEq, Option.some.injEq, List.map_cons, List.map_nil, List.length_cons, List.length_nil, List.cons_append, List.nil_append, List.append_nil, List.getElem?_cons_zero, List.getElem?_cons_succ, List.set_cons_zero, List.set_cons_succ, List.replicate_succ, List.replicate_zero, exists_eq_left, exists_eq_left', exists_and_left, and_true, true_and, and_self, and_assoc, Nat.sub_self, Nat.reduceAdd, Nat.reduceSub, Nat.zero_add, put_put, put_same, reduceIte, Bool.false_eq_true, Bool.true_eq_false, Bool.not_true, Bool.not_false, at_0, at_1, at_2, at_3, at_4, at_5, at_6, at_7, ix_1_0, ix_2_0, ix_2_1, ix_3_0, ix_3_1, ix_3_2, ix_4_0, ix_4_1, ix_4_2, ix_4_3]
    refine ⟨s.w, f, s.h, f, ?_⟩
    have l1 := Fr.low (s.w.a.mul f.a) (s.w.b.mul f.b)
    have l2 := Fr.low (s.h.a.mul f.a) (s.h.b.mul f.b)
    exact mk_size (.fr (l1.up (by decide))) (.fr (l2.up (by decide))) q
  · exact h.elim
/-- a law's last row: all([_law_right(_law_pool(_law_cell(script, k))) for k in range(m)]) -/
theorem law_cells {fr : T → Fm} {spR : SpT} {i j : Nat} {ns : List Int} {m : Int} {S : Store} {R : T → Store → Prop} (h63 : ns.length ≤ 63) (hm : 0 ≤ m ∧ m ≤ 100) (hi : ∀ t, (fr t)[i]? = some (some (.scr (ns.map T.int)))) (hj : ∀ t, (fr t)[j]? = some (some t))
    (hR : ∀ p S, PoolT S p → ∀ N : T → Store → Prop, (∀ S', N (.bl true) S') → spR [.cell p] S N XF) (q : ∀ S, R (.bl true) S) :
    rComp fr bYes (rCall spR [] (aCons (rCall sp_l_pool [] (aCons (rCall sp_l_cell [] (aCons (rVar i) (aCons (rVar j) aNil))) aNil)) aNil)) (rangeT 0 m) [] S (fun ys S2 => ∃ bs, ys = List.map T.bl bs ∧ R (.bl (bs.all id)) S2) := by
  have ln : (rangeT 0 m).length = m.toNat := by simp [rangeT]
  refine rComp_all (fun _ _ => True) (fun _ _ y => y = .bl true) trivial (by rw [ln, sizeLine_eq]; omega) ?_ ?_
  · intro k t S' hk _ N hN
    unfold rangeT at hk
    rw [List.getElem?_map] at hk
    obtain ⟨z, hz, rfl⟩ := Option.map_eq_some_iff.mp hk
    obtain ⟨lz, ez⟩ := List.getElem?_eq_some_iff.mp hz
    rw [List.getElem_range] at ez
    rw [List.length_range] at lz
    subst ez
    refine ⟨_, hi _, _, hj _, ?_⟩
    simp only [aNil, List.nil_append, List.append_nil, List.cons_append]
    refine ⟨⟨ns, rfl, h63⟩, by omega, by omega, fun v => ?_⟩
    intro p S2 hp ps
    exact hR p S2 ps.pool _ fun S3 => hN _ _ rfl trivial
  · intro ys S2 hl hF _
    refine ⟨List.replicate ys.length true, ?_, ?_⟩
    · refine List.ext_getElem? fun k => ?_
      rw [List.getElem?_map, List.getElem?_replicate]
      by_cases hk : k < ys.length
      · have := hF k ((rangeT 0 m)[k]'(by omega)) ys[k] (List.getElem?_eq_getElem (by omega)) (List.getElem?_eq_getElem hk)
        rw [List.getElem?_eq_getElem hk, this, if_pos hk]
        rfl
      · rw [List.getElem?_eq_none (by omega), if_neg hk]
        rfl
    · rw [show (List.replicate ys.length true).all id = true by rw [List.all_replicate]; split <;> rfl]
      exact q _
/-- max(2, min(k, len(script))), as the two ways of writing it give it -/
theorem range_le {n k : Int} (h : 0 ≤ n ∧ n ≤ 63) (hk : 0 ≤ k ∧ k ≤ 63) : 0 ≤ (if (if n < k then n else k) > 2 then (if n < k then n else k) else 2) ∧ (if (if n < k then n else k) > 2 then (if n < k then n else k) else 2) ≤ 100 := by
  split <;> split <;> omega
/-! scalings -/
/-- a side of a box -/
structure Bx (w : Int) : Prop where
  pos : 0 < w
  le : w ≤ 1000000
theorem Bx.pn {w : Int} (h : Bx w) : Pn 20 w := Pn.of h.pos (by have := h.le; omega)
theorem Bx.fr {w : Int} (h : Bx w) : Fr 20 w 1 := ⟨h.pn, ⟨by decide, by decide⟩, gcdI_one⟩
theorem Bx.isPos {w : Int} (h : Bx w) : isPos (.int w) = true := h.pn.isPos
theorem Bx.gt {w : Int} (h : Bx w) : decide (1000000 < w) = false := decide_eq_false (by have := h.le; omega)
def stF (w h : Int) (c : Bool) : List (Str × T) := [("width", .int w), ("height", .int h), ("cover", .bl c)]
theorem cw_ne : ¬ (("width" : Str) = "cover") := by decide +kernel
theorem ch_ne : ¬ (("height" : Str) = "cover") := by decide +kernel
theorem stF_w {w h : Int} {c : Bool} : (stF w h c).lookup ("width" : Str) = some (.int w) := by simp [stF, List.lookup]
theorem stF_h {w h : Int} {c : Bool} : (stF w h c).lookup ("height" : Str) = some (.int h) := by
  have e : (("height" : Str) == "width") = false := by decide +kernel
  simp [stF, List.lookup, e]
theorem stF_c {w h : Int} {c : Bool} : (stF w h c).lookup ("cover" : Str) = some (.bl c) := by
  have e : (("cover" : Str) == "width") = false := by decide +kernel
  have e2 : (("cover" : Str) == "height") = false := by decide +kernel
  simp [stF, List.lookup, e, e2]
theorem stF_factor {w h : Int} {c : Bool} : (stF w h c).lookup ("factor" : Str) = none := by
  have e : (("factor" : Str) == "width") = false := by decide +kernel
  have e2 : (("factor" : Str) == "height") = false := by decide +kernel
  have e3 : (("factor" : Str) == "cover") = false := by decide +kernel
  simp [stF, List.lookup, e, e2, e3]
theorem stF_apply {w h : Int} {c : Bool} : (stF w h c).lookup ("apply" : Str) = none := by
  have e : (("apply" : Str) == "width") = false := by decide +kernel
  have e2 : (("apply" : Str) == "height") = false := by decide +kernel
  have e3 : (("apply" : Str) == "cover") = false := by decide +kernel
  simp [stF, List.lookup, e, e2, e3]
/-- the fields of a scaling's class -/
structure SF (K : PySem.W.Frag) (C : Addr) : Prop where
  w : InF K C "width"
  h : InF K C "height"
  c : InF K C "cover"
abbrev Q2 := Int × Int
/-- w / (a / b) -/
def qW (w a b : Int) : Q2 := (lwA (w * b) (1 * a), lwB (w * b) (1 * a))
def qLess (p q : Q2) : Bool := decide (p.1 * q.2 < q.1 * p.2)
/-- the factor that the program takes -/
def facP (c : Bool) (p q : Q2) : Q2 := if qLess q p = true then (if c = true then p else q) else (if c = true then q else p)
def qT (p : Q2) : T := frT p.1 p.2
theorem qW_fr {w a b : Int} {n : Nat} (h : Bx w) (f : Fr n a b) : Fr (20 + n) (qW w a b).1 (qW w a b).2 := by
  refine Fr.low (h.pn.mul f.b) ?_
  rw [Int.one_mul]
  exact f.a.up (by omega)
theorem facP_fr {c : Bool} {p q : Q2} {n : Nat} (h : Fr n p.1 p.2) (k : Fr n q.1 q.2) : Fr n (facP c p q).1 (facP c p q).2 := by
  unfold facP
  split <;> split <;> assumption
theorem sc_check_box : FnScope ["width", "height", "side"] ["width", "height"] (defScope s_check_box) := ⟨rfl, rfl, rfl, by decide +kernel, rfl, by decide +kernel, by decide +kernel⟩
def sp_check_box (K : PySem.W.Frag) : SpT := fun ts S R _ => match ts with
  | [.int w, .int h] => Bx w ∧ Bx h ∧ R .non S
  | _ => False
theorem ok_check_box {P : Program} {w : World} {K : PySem.W.Frag} {mg : Str → Option Value} {base : Heap} {f : Addr} {fd : FuncData} {g_is_positive : Addr} {tk_MOST_SIDE : Tok} {gd_is_positive : FuncData} (F : Fun K "check_box" "check_box" s_check_box f fd)
    (c_MOST_SIDE : mg "MOST_SIDE" = some (.int 1000000 tk_MOST_SIDE))
    (G_is_positive : FnT P w K mg base 2 g_is_positive gd_is_positive ["value"] (sp_is_positive K))
    (m_is_positive : mg "is_positive" = some (.ref g_is_positive))
    (k_is_positive : PySem.W.keepIn K (.ref g_is_positive) = true)
    (b_is_positive : Binds K gd_is_positive ["value"] [])
    : FnT P w K mg base 3 f fd ["width", "height"] (sp_check_box K) := by
  refine okT F sc_check_box (by intro ts S R RE h; unfold sp_check_box at h; split at h <;> first | rfl | exact h.elim) (fun cdv A out s H E hg hr => (bs_one (ss_for (passes_of rfl) rfl (it_seq (et_tup (at_cons (et_var (pv 0)) (at_cons (et_var (pv 1)) at_nil)))) (gt_name (pg_name (i := 2) sc_check_box.nd rfl (by first | exact Or.inl rfl | exact Or.inr rfl))) (bs_one (ss_if (tt_w (tw_or (tt_not (tt_val (et_callD G_is_positive hg (hr.mono (by decide)) (by rfl) m_is_positive k_is_positive (CallD.all b_is_positive) (passL2N (L2N.takes_of rfl rfl rfl rfl)) (at_cons (et_var (pv 2)) at_nil)))) (tw_or1 (tt_cmp op_gt cv_B2n (et_var (pv 2)) (et_globI (by rfl) c_MOST_SIDE) (nomark _))))) (bs_one ss_never) bs_nil))))) ?_
  intro ts S R RE h
  unfold sp_check_box at h
  split at h
  · rename_i w h
    obtain ⟨hw, hh, q⟩ := h
    simp only [rLoop, sp_is_positive, hw.isPos, hh.isPos, hw.gt, hh.gt, sSeq, sAsg, sDrop, sRet, sRetN, sIf, sNext, sPar, sPar3, sFor, sRaise, sFldT, sNo, rNo, rVar, rFrz, rC, rBin, rTest, bAnd, bOr, bNot, bIf, vAnd, vOr, vNot, rIf, rNeg, aNil, aCons, rTup, rLst, rLstC, rArgs, gNameT, gNilT, gConsT, gTupT, gSubT, iSeq, iRng1T, iRng2T, rLc, rCall, rCallN, rCallS, rFld, rCon, rMake, rMakeN, rMakeP, rMeth, rMethK, rProp, rClsFn, rOpOwn, rSl, oNone, oSome, rMut, kAdd, kI2, kI2n, kMul, kIx, kIn, kLen, kU, kA2, kDm, kStrI, kAll, kSl, kAppend, kExtend, kTuple, kList, lenT, seqOf, bYes, startT, one, pickG, selG, insOf, putT, flatT, Bool.false_xor, Bool.true_xor, List.all_cons, List.all_nil, Bool.and_self, T.int.injEq, T.bl.injEq, T.str.injEq, T.lst.injEq, T.tup.injEq, T.cell.injEq, T.ins.injEq, Cell.lst.injEq, Cell.ins.injEq, Prod.mk.injEq, List.cons.injEq, Option.some.injEq, List.map_cons, List.map_nil, List.length_cons, List.length_nil, List.cons_append, List.nil_append, List.append_nil, List.getElem?_cons_zero, List.getElem?_cons_succ, List.set_cons_zero, List.set_cons_succ, List.replicate_succ, List.replicate_zero, exists_eq_left, exists_eq_left', exists_and_left, and_true, true_and, and_self, and_assoc, Nat.sub_self, Nat.reduceAdd, Nat.reduceSub, Nat.zero_add, put_put, put_same, reduceIte, Bool.false_eq_true, Bool.true_eq_false, Bool.not_true, Bool.not_false, at_0, at_1, at_2, at_3, at_4, at_5, at_6, at_7, ix_1_0, ix_2_0, ix_2_1, ix_3_0, ix_3_1, ix_3_2, ix_4_0, ix_4_1, ix_4_2, ix_4_3]
    exact ⟨by decide, .int, .int, q⟩
  · exact h.elim
theorem sc_Scaling_init : FnScope ["self", "width", "height", "cover"] ["self", "width", "height", "cover"] (defScope s_Scaling_init) := ⟨rfl, rfl, rfl, by decide +kernel, rfl, by decide +kernel, by decide +kernel⟩
def sp_Scaling_init (K : PySem.W.Frag) : SpT := fun ts S R _ => match ts with
  | [.cell u, .int w, .int h, .bl c] => ∃ C, S u = some (.ins C []) ∧ SF K C ∧ Bx w ∧ Bx h ∧ R .non (S.put u (.ins C (stF w h c)))
  | _ => False
theorem ok_Scaling_init {P : Program} {w : World} {K : PySem.W.Frag} {mg : Str → Option Value} {base : Heap} {f : Addr} {fd : FuncData} {g_check_box : Addr} {gd_check_box : FuncData} (F : Fun K "__init__" "Scaling.__init__" s_Scaling_init f fd)
    (G_check_box : FnT P w K mg base 3 g_check_box gd_check_box ["width", "height"] (sp_check_box K))
    (m_check_box : mg "check_box" = some (.ref g_check_box))
    (k_check_box : PySem.W.keepIn K (.ref g_check_box) = true)
    (b_check_box : Binds K gd_check_box ["width", "height"] [])
    : FnT P w K mg base 4 f fd ["self", "width", "height", "cover"] (sp_Scaling_init K) := by
  refine okT F sc_Scaling_init (by intro ts S R RE h; unfold sp_Scaling_init at h; split at h <;> first | rfl | exact h.elim) (fun cdv A out s H E hg hr => (bs_cons (ss_expr (et_callD G_check_box hg (hr.mono (by decide)) (by rfl) m_check_box k_check_box (CallD.all b_check_box) (passL2N (L2N.takes_of rfl rfl rfl rfl)) (at_cons (et_var (pv 1)) (at_cons (et_var (pv 2)) at_nil))))
    (bs_cons (ss_fldK K rfl (et_var (pv 0)) (et_var (pv 1)))
    (bs_cons (ss_fldK K rfl (et_var (pv 0)) (et_var (pv 2)))
    (bs_one (ss_fldK K rfl (et_var (pv 0)) (et_var (pv 3)))))))) ?_
  intro ts S R RE h
  unfold sp_Scaling_init at h
  split at h
  · rename_i u w h c
    obtain ⟨C, hu, sf, hw, hh, q⟩ := h
    refine sSeq_i fun N hN => ?_
    simp only [sp_check_box, sSeq, sAsg, sDrop, sRet, sRetN, sIf, sNext, sPar, sPar3, sFor, sRaise, sFldT, sNo, rNo, rVar, rFrz, rC, rBin, rTest, bAnd, bOr, bNot, bIf, vAnd, vOr, vNot, rIf, rNeg, aNil, aCons, rTup, rLst, rLstC, rArgs, gNameT, gNilT, gConsT, gTupT, gSubT, iSeq, iRng1T, iRng2T, rLc, rCall, rCallN, rCallS, rFld, rCon, rMake, rMakeN, rMakeP, rMeth, rMethK, rProp, rClsFn, rOpOwn, rSl, oNone, oSome, rMut, kAdd, kI2, kI2n, kMul, kIx, kIn, kLen, kU, kA2, kDm, kStrI, kAll, kSl, kAppend, kExtend, kTuple, kList, lenT, seqOf, bYes, startT, one, pickG, selG, insOf, putT, flatT, Bool.false_xor, Bool.true_xor, List.all_cons, List.all_nil, Bool.and_self, T.int.injEq, T.bl.injEq, T.str.injEq, T.lst.injEq, T.tup.injEq, T.cell.injEq, T.ins.injEq, Cell.lst.injEq, Cell.ins.injEq, Prod.mk.injEq, List.cons.injEq, Option.some.injEq, List.map_cons, List.map_nil, List.length_cons, List.length_nil, List.cons_append, List.nil_append, List.append_nil, List.getElem?_cons_zero, List.getElem?_cons_succ, List.set_cons_zero, List.set_cons_succ, List.replicate_succ, List.replicate_zero, exists_eq_left, exists_eq_left', exists_and_left, and_true, true_and, and_self, and_assoc, Nat.sub_self, Nat.reduceAdd, Nat.reduceSub, Nat.zero_add, put_put, put_same, reduceIte, Bool.false_eq_true, Bool.true_eq_false, Bool.not_true, Bool.not_false, at_0, at_1, at_2, at_3, at_4, at_5, at_6, at_7, ix_1_0, ix_2_0, ix_2_1, ix_3_0, ix_3_1, ix_3_2, ix_4_0, ix_4_1, ix_4_2, ix_4_3]
    refine ⟨hw, hh, hN _ _ ?_⟩
    refine sSeq_i fun N hN => ?_
    simp only [hu, sf.w, sSeq, sAsg, sDrop, sRet, sRetN, sIf, sNext, sPar, sPar3, sFor, sRaise, sFldT, sNo, rNo, rVar, rFrz, rC, rBin, rTest, bAnd, bOr, bNot, bIf, vAnd, vOr, vNot, rIf, rNeg, aNil, aCons, rTup, rLst, rLstC, rArgs, gNameT, gNilT, gConsT, gTupT, gSubT, iSeq, iRng1T, iRng2T, rLc, rCall, rCallN, rCallS, rFld, rCon, rMake, rMakeN, rMakeP, rMeth, rMethK, rProp, rClsFn, rOpOwn, rSl, oNone, oSome, rMut, kAdd, kI2, kI2n, kMul, kIx, kIn, kLen, kU, kA2, kDm, kStrI, kAll, kSl, kAppend, kExtend, kTuple, kList, lenT, seqOf, bYes, startT, one, pickG, selG, insOf, putT, flatT, Bool.false_xor, Bool.true_xor, List.all_cons, List.all_nil, Bool.and_self, T.int.injEq, T.bl.injEq, T.str.injEq, T.lst.injEq, T.tup.injEq, T.cell.injEq, T.ins.injEq, Cell.lst.injEq, Cell.ins.injEq, Prod.mk.injEq, List.cons.injEq, Option.some.injEq, List.map_cons, List.map_nil, List.length_cons, List.length_nil, List.cons_append, List.nil_append, List.append_nil, List.getElem?_cons_zero, List.getElem?_cons_succ, List.set_cons_zero, List.set_cons_succ, List.replicate_succ, List.replicate_zero, exists_eq_left, exists_eq_left', exists_and_left, and_true, true_and, and_self, and_assoc, Nat.sub_self, Nat.reduceAdd, Nat.reduceSub, Nat.zero_add, put_put, put_same, reduceIte, Bool.false_eq_true, Bool.true_eq_false, Bool.not_true, Bool.not_false, at_0, at_1, at_2, at_3, at_4, at_5, at_6, at_7, ix_1_0, ix_2_0, ix_2_1, ix_3_0, ix_3_1, ix_3_2, ix_4_0, ix_4_1, ix_4_2, ix_4_3]
    refine ⟨by decide, hN _ _ ?_⟩
    refine sSeq_i fun N hN => ?_
    simp only [sf.h, wh_ne, sSeq, sAsg, sDrop, sRet, sRetN, sIf, sNext, sPar, sPar3, sFor, sRaise, sFldT, sNo, rNo, rVar, rFrz, rC, rBin, rTest, bAnd, bOr, bNot, bIf, vAnd, vOr, vNot, rIf, rNeg, aNil, aCons, rTup, rLst, rLstC, rArgs, gNameT, gNilT, gConsT, gTupT, gSubT, iSeq, iRng1T, iRng2T, rLc, rCall, rCallN, rCallS, rFld, rCon, rMake, rMakeN, rMakeP, rMeth, rMethK, rProp, rClsFn, rOpOwn, rSl, oNone, oSome, rMut, kAdd, kI2, kI2n, kMul, kIx, kIn, kLen, kU, kA2, kDm, kStrI, kAll, kSl, kAppend, kExtend, kTuple, kList, lenT, seqOf, bYes, startT, one, pickG, selG, insOf, putT, flatT, Bool.false_xor, Bool.true_xor, List.all_cons, List.all_nil, Bool.and_self, T.int.injEq, T.bl.injEq, T.str.injEq, T.lst.injEq, T.tup.injEq, T.cell.injEq, T.ins.injEq, Cell.lst.injEq, Cell.ins.injEq, Prod.mk.injEq, List.cons.injEq, Option.some.injEq, List.map_cons, List.map_nil, List.length_cons, List.length_nil, List.cons_append, List.nil_append, List.append_nil, List.getElem?_cons_zero, List.getElem?_cons_succ, List.set_cons_zero, List.set_cons_succ, List.replicate_succ, List.replicate_zero, exists_eq_left, exists_eq_left', exists_and_left, and_true, true_and, and_self, and_assoc, Nat.sub_self, Nat.reduceAdd, Nat.reduceSub, Nat.zero_add, put_put, put_same, reduceIte, Bool.false_eq_true, Bool.true_eq_false, Bool.not_true, Bool.not_false, at_0, at_1, at_2, at_3, at_4, at_5, at_6, at_7, ix_1_0, ix_2_0, ix_2_1, ix_3_0, ix_3_1, ix_3_2, ix_4_0, ix_4_1, ix_4_2, ix_4_3]
    refine ⟨by decide, hN _ _ ?_⟩
    simp only [sf.c, cw_ne, ch_ne, sSeq, sAsg, sDrop, sRet, sRetN, sIf, sNext, sPar, sPar3, sFor, sRaise, sFldT, sNo, rNo, rVar, rFrz, rC, rBin, rTest, bAnd, bOr, bNot, bIf, vAnd, vOr, vNot, rIf, rNeg, aNil, aCons, rTup, rLst, rLstC, rArgs, gNameT, gNilT, gConsT, gTupT, gSubT, iSeq, iRng1T, iRng2T, rLc, rCall, rCallN, rCallS, rFld, rCon, rMake, rMakeN, rMakeP, rMeth, rMethK, rProp, rClsFn, rOpOwn, rSl, oNone, oSome, rMut, kAdd, kI2, kI2n, kMul, kIx, kIn, kLen, kU, kA2, kDm, kStrI, kAll, kSl, kAppend, kExtend, kTuple, kList, lenT, seqOf, bYes, startT, one, pickG, selG, insOf, putT, flatT, Bool.false_xor, Bool.true_xor, List.all_cons, List.all_nil, Bool.and_self, T.int.injEq, T.bl.injEq, T.str.injEq, T.lst.injEq, T.tup.injEq, T.cell.injEq, T.ins.injEq, Cell.lst.injEq, Cell.ins.injEq, Prod.mk.injEq, List.cons.injEq, Option.some.injEq, List.map_cons, List.map_nil, List.length_cons, List.length_nil, List.cons_append, List.nil_append, List.append_nil, List.getElem?_cons_zero, List.getElem?_cons_succ, List.set_cons_zero, List.set_cons_succ, List.replicate_succ, List.replicate_zero, exists_eq_left, exists_eq_left', exists_and_left, and_true, true_and, and_self, and_assoc, Nat.sub_self, Nat.reduceAdd, Nat.reduceSub, Nat.zero_add, put_put, put_same, reduceIte, Bool.false_eq_true, Bool.true_eq_false, Bool.not_true, Bool.not_false, at_0, at_1, at_2, at_3, at_4, at_5, at_6, at_7, ix_1_0, ix_2_0, ix_2_1, ix_3_0, ix_3_1, ix_3_2, ix_4_0, ix_4_1, ix_4_2, ix_4_3]
    exact ⟨by decide, q⟩
  · exact h.elim
theorem sc_Scaling_factor : FnScope ["self", "size", "by_width", "by_height", "lesser", "greater"] ["self", "size"] (defScope s_Scaling_factor) := ⟨rfl, rfl, rfl, by decide +kernel, rfl, by decide +kernel, by decide +kernel⟩
def sp_Scaling_factor (K : PySem.W.Frag) (CZ : Addr) : SpT := fun ts S R _ => match ts with
  | [x, y] => ∃ C w h cv a b c d, x = .ins C (stF w h cv) ∧ y = szT CZ a b c d ∧ SF K C ∧ Bx w ∧ Bx h ∧ Sz 1000 a b c d ∧ R (qT (facP cv (qW w a b) (qW h c d))) S
  | _ => False
theorem ok_Scaling_factor {P : Program} {w : World} {K : PySem.W.Frag} {mg : Str → Option Value} {base : Heap} {f : Addr} {fd : FuncData} {g_compare g_quotient C_Size : Addr} {gd_compare : FuncData} {gd_quotient : FuncData} (F : Fun K "factor" "Scaling.factor" s_Scaling_factor f fd)
    (G_compare : FnT P w K mg base 5 g_compare gd_compare ["one", "other"] sp_compare)
    (m_compare : mg "compare" = some (.ref g_compare))
    (k_compare : PySem.W.keepIn K (.ref g_compare) = true)
    (b_compare : Binds K gd_compare ["one", "other"] [])
    (G_quotient : FnT P w K mg base 5 g_quotient gd_quotient ["one", "other"] sp_quotient)
    (m_quotient : mg "quotient" = some (.ref g_quotient))
    (k_quotient : PySem.W.keepIn K (.ref g_quotient) = true)
    (b_quotient : Binds K gd_quotient ["one", "other"] [])
    (nf_Size_width : InF K C_Size "width")
    (nf_Size_height : InF K C_Size "height")
    : FnT P w K mg base 6 f fd ["self", "size"] (sp_Scaling_factor K C_Size) := by
  refine okT F sc_Scaling_factor (by intro ts S R RE h; unfold sp_Scaling_factor at h; split at h <;> first | rfl | exact h.elim) (fun cdv A out s H E hg hr => (bs_cons (ss_set (i := 2) sc_Scaling_factor.nd rfl (by first | exact Or.inl rfl | exact Or.inr rfl) (et_callD G_quotient hg (hr.mono (by decide)) (by rfl) m_quotient k_quotient (CallD.all b_quotient) (passL2N (L2N.takes_of rfl rfl rfl rfl)) (at_cons (et_tup (at_cons (et_fldK K rfl (et_var (pv 0))) (at_cons et_int at_nil))) (at_cons (et_fldK K rfl (et_var (pv 1))) at_nil))))
    (bs_cons (ss_set (i := 3) sc_Scaling_factor.nd rfl (by first | exact Or.inl rfl | exact Or.inr rfl) (et_callD G_quotient hg (hr.mono (by decide)) (by rfl) m_quotient k_quotient (CallD.all b_quotient) (passL2N (L2N.takes_of rfl rfl rfl rfl)) (at_cons (et_tup (at_cons (et_fldK K rfl (et_var (pv 0))) (at_cons et_int at_nil))) (at_cons (et_fldK K rfl (et_var (pv 1))) at_nil))))
    (bs_cons (ss_par (i := 4) (j := 5) (by rfl) sc_Scaling_factor.nd rfl rfl (by decide) rfl rfl (at_cons (et_var (pv 2)) (at_cons (et_var (pv 3)) at_nil)) (by rfl))
    (bs_cons (ss_if (tt_cmp op_gt cv_B2n (et_callD G_compare hg (hr.mono (by decide)) (by rfl) m_compare k_compare (CallD.all b_compare) (passL2N (L2N.takes_of rfl rfl rfl rfl)) (at_cons (et_var (pv 2)) (at_cons (et_var (pv 3)) at_nil))) et_int (nomark _)) (bs_one (ss_par (i := 4) (j := 5) (by rfl) sc_Scaling_factor.nd rfl rfl (by decide) rfl rfl (at_cons (et_var (pv 3)) (at_cons (et_var (pv 2)) at_nil)) (by rfl))) bs_nil)
    (bs_one (ss_ret (et_if (tt_val (et_fldK K rfl (et_var (pv 0)))) (et_var (pv 5)) (et_var (pv 4)))))))))) ?_
  intro ts S R RE h
  unfold sp_Scaling_factor at h
  split at h
  · rename_i x y
    obtain ⟨C, w, h, cv, a, b, c, d, rfl, rfl, sf, hw, hh, sz, q⟩ := h
    have z := sz.up (m := 3900) (by decide)
    have f1 := (qW_fr hw sz.w).up (m := 3900) (by decide)
    have f2 := (qW_fr hh sz.h).up (m := 3900) (by decide)
    refine sSeq_i fun N hN => ?_
    simp only [sp_quotient, szT, nf_Size_width, szF_w, sf.w, stF_w, frT, sSeq, sAsg, sDrop, sRet, sRetN, sIf, sNext, sPar, sPar3, sFor, sRaise, sFldT, sNo, rNo, rVar, rFrz, rC, rBin, rTest, bAnd, bOr, bNot, bIf, vAnd, vOr, vNot, rIf, rNeg, aNil, aCons, rTup, rLst, rLstC, rArgs, gNameT, gNilT, gConsT, gTupT, gSubT, iSeq, iRng1T, iRng2T, rLc, rCall, rCallN, rCallS, rFld, rCon, rMake, rMakeN, rMakeP, rMeth, rMethK, rProp, rClsFn, rOpOwn, rSl, oNone, oSome, rMut, kAdd, kI2, kI2n, kMul, kIx, kIn, kLen, kU, kA2, kDm, kStrI, kAll, kSl, kAppend, kExtend, kTuple, kList, lenT, seqOf, bYes, startT, one, pickG, selG, insOf, putT, flatT, Bool.false_xor, Bool.true_xor, List.all_cons, List.all_nil, Bool.and_self, T.int.injEq, T.bl.injEq, T.str.injEq, T.lst.injEq, T.tup.injEq, T.cell.injEq, T.ins.injEq, Cell.lst.injEq, Cell.ins.injEq, Prod.mk.injEq, List.cons.injEq, Option.some.injEq, List.map_cons, List.map_nil, List.length_cons, List.length_nil, List.cons_append, List.nil_append, List.append_nil, List.getElem?_cons_zero, List.getElem?_cons_succ, List.set_cons_zero, List.set_cons_succ, List.replicate_succ, List.replicate_zero, exists_eq_left, exists_eq_left', exists_and_left, and_true, true_and, and_self, and_assoc, Nat.sub_self, Nat.reduceAdd, Nat.reduceSub, Nat.zero_add, put_put, put_same, reduceIte, Bool.false_eq_true, Bool.true_eq_false, Bool.not_true, Bool.not_false, at_0, at_1, at_2, at_3, at_4, at_5, at_6, at_7, ix_1_0, ix_2_0, ix_2_1, ix_3_0, ix_3_1, ix_3_2, ix_4_0, ix_4_1, ix_4_2, ix_4_3]
    refine ⟨by decide, hw.fr.up (by decide), z.w, hN _ _ ?_⟩
    refine sSeq_i fun N hN => ?_
    simp only [sp_quotient, szT, nf_Size_height, szF_h, sf.h, stF_h, frT, sSeq, sAsg, sDrop, sRet, sRetN, sIf, sNext, sPar, sPar3, sFor, sRaise, sFldT, sNo, rNo, rVar, rFrz, rC, rBin, rTest, bAnd, bOr, bNot, bIf, vAnd, vOr, vNot, rIf, rNeg, aNil, aCons, rTup, rLst, rLstC, rArgs, gNameT, gNilT, gConsT, gTupT, gSubT, iSeq, iRng1T, iRng2T, rLc, rCall, rCallN, rCallS, rFld, rCon, rMake, rMakeN, rMakeP, rMeth, rMethK, rProp, rClsFn, rOpOwn, rSl, oNone, oSome, rMut, kAdd, kI2, kI2n, kMul, kIx, kIn, kLen, kU, kA2, kDm, kStrI, kAll, kSl, kAppend, kExtend, kTuple, kList, lenT, seqOf, bYes, startT, one, pickG, selG, insOf, putT, flatT, Bool.false_xor, Bool.true_xor, List.all_cons, List.all_nil, Bool.and_self, T.int.injEq, T.bl.injEq, T.str.injEq, T.lst.injEq, T.tup.injEq, T.cell.injEq, T.ins.injEq, Cell.lst.injEq, Cell.ins.injEq, Prod.mk.injEq, List.cons.injEq, Option.some.injEq, List.map_cons, List.map_nil, List.length_cons, List.length_nil, List.cons_append, List.nil_append, List.append_nil, List.getElem?_cons_zero, List.getElem?_cons_succ, List.set_cons_zero, List.set_cons_succ, List.replicate_succ, List.replicate_zero, exists_eq_left, exists_eq_left', exists_and_left, and_true, true_and, and_self, and_assoc, Nat.sub_self, Nat.reduceAdd, Nat.reduceSub, Nat.zero_add, put_put, put_same, reduceIte, Bool.false_eq_true, Bool.true_eq_false, Bool.not_true, Bool.not_false, at_0, at_1, at_2, at_3, at_4, at_5, at_6, at_7, ix_1_0, ix_2_0, ix_2_1, ix_3_0, ix_3_1, ix_3_2, ix_4_0, ix_4_1, ix_4_2, ix_4_3]
    refine ⟨by decide, hh.fr.up (by decide), z.h, hN _ _ ?_⟩
    refine sSeq_i fun N hN => ?_
    simp only [sSeq, sAsg, sDrop, sRet, sRetN, sIf, sNext, sPar, sPar3, sFor, sRaise, sFldT, sNo, rNo, rVar, rFrz, rC, rBin, rTest, bAnd, bOr, bNot, bIf, vAnd, vOr, vNot, rIf, rNeg, aNil, aCons, rTup, rLst, rLstC, rArgs, gNameT, gNilT, gConsT, gTupT, gSubT, iSeq, iRng1T, iRng2T, rLc, rCall, rCallN, rCallS, rFld, rCon, rMake, rMakeN, rMakeP, rMeth, rMethK, rProp, rClsFn, rOpOwn, rSl, oNone, oSome, rMut, kAdd, kI2, kI2n, kMul, kIx, kIn, kLen, kU, kA2, kDm, kStrI, kAll, kSl, kAppend, kExtend, kTuple, kList, lenT, seqOf, bYes, startT, one, pickG, selG, insOf, putT, flatT, Bool.false_xor, Bool.true_xor, List.all_cons, List.all_nil, Bool.and_self, T.int.injEq, T.bl.injEq, T.str.injEq, T.lst.injEq, T.tup.injEq, T.cell.injEq, T.ins.injEq, Cell.lst.injEq, Cell.ins.injEq, Prod.mk.injEq, List.cons.injEq, Option.some.injEq, List.map_cons, List.map_nil, List.length_cons, List.length_nil, List.cons_append, List.nil_append, List.append_nil, List.getElem?_cons_zero, List.getElem?_cons_succ, List.set_cons_zero, List.set_cons_succ, List.replicate_succ, List.replicate_zero, exists_eq_left, exists_eq_left', exists_and_left, and_true, true_and, and_self, and_assoc, Nat.sub_self, Nat.reduceAdd, Nat.reduceSub, Nat.zero_add, put_put, put_same, reduceIte, Bool.false_eq_true, Bool.true_eq_false, Bool.not_true, Bool.not_false, at_0, at_1, at_2, at_3, at_4, at_5, at_6, at_7, ix_1_0, ix_2_0, ix_2_1, ix_3_0, ix_3_1, ix_3_2, ix_4_0, ix_4_1, ix_4_2, ix_4_3]
    refine hN _ _ ?_
    refine sSeq_i fun N hN => ?_
    simp only [sp_compare, sSeq, sAsg, sDrop, sRet, sRetN, sIf, sNext, sPar, sPar3, sFor, sRaise, sFldT, sNo, rNo, rVar, rFrz, rC, rBin, rTest, bAnd, bOr, bNot, bIf, vAnd, vOr, vNot, rIf, rNeg, aNil, aCons, rTup, rLst, rLstC, rArgs, gNameT, gNilT, gConsT, gTupT, gSubT, iSeq, iRng1T, iRng2T, rLc, rCall, rCallN, rCallS, rFld, rCon, rMake, rMakeN, rMakeP, rMeth, rMethK, rProp, rClsFn, rOpOwn, rSl, oNone, oSome, rMut, kAdd, kI2, kI2n, kMul, kIx, kIn, kLen, kU, kA2, kDm, kStrI, kAll, kSl, kAppend, kExtend, kTuple, kList, lenT, seqOf, bYes, startT, one, pickG, selG, insOf, putT, flatT, Bool.false_xor, Bool.true_xor, List.all_cons, List.all_nil, Bool.and_self, T.int.injEq, T.bl.injEq, T.str.injEq, T.lst.injEq, T.tup.injEq, T.cell.injEq, T.ins.injEq, Cell.lst.injEq, Cell.ins.injEq, Prod.mk.injEq, List.cons.injEq, Option.some.injEq, List.map_cons, List.map_nil, List.length_cons, List.length_nil, List.cons_append, List.nil_append, List.append_nil, List.getElem?_cons_zero, List.getElem?_cons_succ, List.set_cons_zero, List.set_cons_succ, List.replicate_succ, List.replicate_zero, exists_eq_left, exists_eq_left', exists_and_left, and_true, true_and, and_self, and_assoc, Nat.sub_self, Nat.reduceAdd, Nat.reduceSub, Nat.zero_add, put_put, put_same, reduceIte, Bool.false_eq_true, Bool.true_eq_false, Bool.not_true, Bool.not_false, at_0, at_1, at_2, at_3, at_4, at_5, at_6, at_7, ix_1_0, ix_2_0, ix_2_1, ix_3_0, ix_3_1, ix_3_2, ix_4_0, ix_4_1, ix_4_2, ix_4_3]
    refine ⟨f1, f2, ?_⟩
    rw [sgn_gt]
    unfold facP at q
    refine ite_d (fun cc => hN _ _ ?_) (fun cc => hN _ _ ?_)
    · rw [show qLess (qW h c d) (qW w a b) = true from decide_eq_true cc, if_pos rfl] at q
      simp only [sf.c, stF_c, sSeq, sAsg, sDrop, sRet, sRetN, sIf, sNext, sPar, sPar3, sFor, sRaise, sFldT, sNo, rNo, rVar, rFrz, rC, rBin, rTest, bAnd, bOr, bNot, bIf, vAnd, vOr, vNot, rIf, rNeg, aNil, aCons, rTup, rLst, rLstC, rArgs, gNameT, gNilT, gConsT, gTupT, gSubT, iSeq, iRng1T, iRng2T, rLc, rCall, rCallN, rCallS, rFld, rCon, rMake, rMakeN, rMakeP, rMeth, rMethK, rProp, rClsFn, rOpOwn, rSl, oNone, oSome, rMut, kAdd, kI2, kI2n, kMul, kIx, kIn, kLen, kU, kA2, kDm, kStrI, kAll, kSl, kAppend, kExtend, kTuple, kList, lenT, seqOf, bYes, startT, one, pickG, selG, insOf, putT, flatT, Bool.false_xor, Bool.true_xor, List.all_cons, List.all_nil, Bool.and_self, T.int.injEq, T.bl.injEq, T.str.injEq, T.lst.injEq, T.tup.injEq, T.cell.injEq, T.ins.injEq, Cell.lst.injEq, Cell.ins.injEq, Prod.mk.injEq, List.cons.injEq, Option.some.injEq, List.map_cons, List.map_nil, List.length_cons, List.length_nil, List.cons_append, List.nil_append, List.append_nil, List.getElem?_cons_zero, List.getElem?_cons_succ, List.set_cons_zero, List.set_cons_succ, List.replicate_succ, List.replicate_zero, exists_eq_left, exists_eq_left', exists_and_left, and_true, true_and, and_self, and_assoc, Nat.sub_self, Nat.reduceAdd, Nat.reduceSub, Nat.zero_add, put_put, put_same, reduceIte, Bool.false_eq_true, Bool.true_eq_false, Bool.not_true, Bool.not_false, at_0, at_1, at_2, at_3, at_4, at_5, at_6, at_7, ix_1_0, ix_2_0, ix_2_1, ix_3_0, ix_3_1, ix_3_2, ix_4_0, ix_4_1, ix_4_2, ix_4_3]
      cases cv <;> exact q
    · rw [show qLess (qW h c d) (qW w a b) = false from decide_eq_false cc, if_neg (by simp)] at q
      simp only [sf.c, stF_c, sSeq, sAsg, sDrop, sRet, sRetN, sIf, sNext, sPar, sPar3, sFor, sRaise, sFldT, sNo, rNo, rVar, rFrz, rC, rBin, rTest, bAnd, bOr, bNot, bIf, vAnd, vOr, vNot, rIf, rNeg, aNil, aCons, rTup, rLst, rLstC, rArgs, gNameT, gNilT, gConsT, gTupT, gSubT, iSeq, iRng1T, iRng2T, rLc, rCall, rCallN, rCallS, rFld, rCon, rMake, rMakeN, rMakeP, rMeth, rMethK, rProp, rClsFn, rOpOwn, rSl, oNone, oSome, rMut, kAdd, kI2, kI2n, kMul, kIx, kIn, kLen, kU, kA2, kDm, kStrI, kAll, kSl, kAppend, kExtend, kTuple, kList, lenT, seqOf, bYes, startT, one, pickG, selG, insOf, putT, flatT, Bool.false_xor, Bool.true_xor, List.all_cons, List.all_nil, Bool.and_self, T.int.injEq, T.bl.injEq, T.str.injEq, T.lst.injEq, T.tup.injEq, T.cell.injEq, T.ins.injEq, Cell.lst.injEq, Cell.ins.injEq, Prod.mk.injEq, List.cons.injEq, Option.some.injEq, List.map_cons, List.map_nil, List.length_cons, List.length_nil, List.cons_append, List.nil_append, List.append_nil, List.getElem?_cons_zero, List.getElem?_cons_succ, List.set_cons_zero, List.set_cons_succ, List.replicate_succ, List.replicate_zero, exists_eq_left, exists_eq_left', exists_and_left, and_true, true_and, and_self, and_assoc, Nat.sub_self, Nat.reduceAdd, Nat.reduceSub, Nat.zero_add, put_put, put_same, reduceIte, Bool.false_eq_true, Bool.true_eq_false, Bool.not_true, Bool.not_false, at_0, at_1, at_2, at_3, at_4, at_5, at_6, at_7, ix_1_0, ix_2_0, ix_2_1, ix_3_0, ix_3_1, ix_3_2, ix_4_0, ix_4_1, ix_4_2, ix_4_3]
      cases cv <;> exact q
  · exact h.elim
/-- a size scaled -/
structure S4 where
  a : Int
  b : Int
  c : Int
  d : Int
def S4.t (C : Addr) (s : S4) : T := szT C s.a s.b s.c s.d
def S4.by (s : S4) (f : Q2) : S4 := ⟨lwA (s.a * f.1) (s.b * f.2), lwB (s.a * f.1) (s.b * f.2), lwA (s.c * f.1) (s.d * f.2), lwB (s.c * f.1) (s.d * f.2)⟩
def S4.fac (s : S4) (cv : Bool) (w h : Int) : Q2 := facP cv (qW w s.a s.b) (qW h s.c s.d)
def S4.shrink (s : S4) (cv : Bool) (w h : Int) : S4 := if qLess (s.fac cv w h) (1, 1) = true then s.by (s.fac cv w h) else s
def S4.grow (s : S4) (cv : Bool) (w h : Int) : S4 := if qLess (1, 1) (s.fac cv w h) = true then s.by (s.fac cv w h) else s
def S4.ok (n : Nat) (s : S4) : Prop := Sz n s.a s.b s.c s.d
theorem S4.fac_fr {s : S4} {n : Nat} (o : s.ok n) {cv : Bool} {w h : Int} (hw : Bx w) (hh : Bx h) : Fr (20 + n) (s.fac cv w h).1 (s.fac cv w h).2 := facP_fr (qW_fr hw o.w) (qW_fr hh o.h)
theorem S4.by_ok {s : S4} {n m : Nat} (o : s.ok n) {f : Q2} (k : Fr m f.1 f.2) : (s.by f).ok (n + m) := ⟨Fr.low (o.w.a.mul k.a) (o.w.b.mul k.b), Fr.low (o.h.a.mul k.a) (o.h.b.mul k.b)⟩
theorem S4.shrink_ok {s : S4} {n : Nat} (o : s.ok n) {cv : Bool} {w h : Int} (hw : Bx w) (hh : Bx h) : (s.shrink cv w h).ok (n + (20 + n)) := by
  unfold S4.shrink
  split
  · exact S4.by_ok o (S4.fac_fr o hw hh)
  · exact Sz.up o (by omega)
theorem S4.grow_ok {s : S4} {n : Nat} (o : s.ok n) {cv : Bool} {w h : Int} (hw : Bx w) (hh : Bx h) : (s.grow cv w h).ok (n + (20 + n)) := by
  unfold S4.grow
  split
  · exact S4.by_ok o (S4.fac_fr o hw hh)
  · exact Sz.up o (by omega)
theorem fr11 {n : Nat} (h : 1 ≤ n := by decide) : Fr n 1 1 := ⟨⟨by decide, Nat.lt_of_lt_of_le (by decide : (1 : Nat) < 2 ^ 1) (Nat.pow_le_pow_right (by decide) h)⟩, ⟨by decide, Nat.lt_of_lt_of_le (by decide : (1 : Nat) < 2 ^ 1) (Nat.pow_le_pow_right (by decide) h)⟩, by decide⟩
theorem sc_Shrink_init : FnScope ["self", "width", "height", "cover"] ["self", "width", "height", "cover"] (defScope s_Shrink_init) := ⟨rfl, rfl, rfl, by decide +kernel, rfl, by decide +kernel, by decide +kernel⟩
def sp_Shrink_init (C : Addr) : SpT := fun ts S R _ => match ts with
  | [.cell u, .int w, .int h, .bl c] => S u = some (.ins C []) ∧ Bx w ∧ Bx h ∧ R .non (S.put u (.ins C (stF w h c)))
  | _ => False
theorem ok_Shrink_init {P : Program} {w : World} {K : PySem.W.Frag} {mg : Str → Option Value} {base : Heap} {f : Addr} {fd : FuncData} {g_Scaling_init C_Scaling C_Shrink : Addr} {gd_Scaling_init : FuncData} (F : FunD K "__init__" "Shrink.__init__" (defArgs s_Shrink_init) (defBody s_Shrink_init) (defScope s_Shrink_init) [] [("cover", .bl false)] f fd)
    (G_Scaling_init : FnT P w K mg base 4 g_Scaling_init gd_Scaling_init ["self", "width", "height", "cover"] (sp_Scaling_init K))
    (b_Scaling_init : Binds K gd_Scaling_init ["self", "width", "height", "cover"] [])
    (m_Scaling : mg "Scaling" = some (.ref C_Scaling))
    (cr_Scaling : ClX.CRead K C_Scaling (.type "type"))
    (cf_Scaling_init : PySem.W.findCls K (.ref C_Scaling) (.type "type") "__init__" = some (.val (.ref g_Scaling_init)))
    (k_Scaling_init : PySem.W.keepIn K (.ref g_Scaling_init) = true)
    (nf_Shrink_width : InF K C_Shrink "width")
    (nf_Shrink_height : InF K C_Shrink "height")
    (nf_Shrink_cover : InF K C_Shrink "cover")
    : FnT P w K mg base 5 f fd ["self", "width", "height", "cover"] (sp_Shrink_init C_Shrink) := by
  refine okTK F sc_Shrink_init (by intro ts S R RE h; unfold sp_Shrink_init at h; split at h <;> first | rfl | exact h.elim) (fun cdv A out s H E hg hr => (bs_one (ss_expr (et_clsfn cr_Scaling cf_Scaling_init k_Scaling_init G_Scaling_init (CallD.all b_Scaling_init) (hr.mono (by decide)) hg (passL2N (L2N.takes_of rfl rfl rfl rfl)) (by rfl) m_Scaling (at_cons (et_var (pv 0)) (at_cons (et_var (pv 1)) (at_cons (et_var (pv 2)) (at_cons (et_var (pv 3)) at_nil)))))))) ?_
  intro ts S R RE h
  unfold sp_Shrink_init at h
  split at h
  · rename_i u w h c
    obtain ⟨hu, hw, hh, q⟩ := h
    simp only [sp_Scaling_init, sSeq, sAsg, sDrop, sRet, sRetN, sIf, sNext, sPar, sPar3, sFor, sRaise, sFldT, sNo, rNo, rVar, rFrz, rC, rBin, rTest, bAnd, bOr, bNot, bIf, vAnd, vOr, vNot, rIf, rNeg, aNil, aCons, rTup, rLst, rLstC, rArgs, gNameT, gNilT, gConsT, gTupT, gSubT, iSeq, iRng1T, iRng2T, rLc, rCall, rCallN, rCallS, rFld, rCon, rMake, rMakeN, rMakeP, rMeth, rMethK, rProp, rClsFn, rOpOwn, rSl, oNone, oSome, rMut, kAdd, kI2, kI2n, kMul, kIx, kIn, kLen, kU, kA2, kDm, kStrI, kAll, kSl, kAppend, kExtend, kTuple, kList, lenT, seqOf, bYes, startT, one, pickG, selG, insOf, putT, flatT, Bool.false_xor, Bool.true_xor, List.all_cons, List.all_nil, Bool.and_self, T.int.injEq, T.bl.injEq, T.str.injEq, T.lst.injEq, T.tup.injEq, T.cell.injEq, T.ins.injEq, Cell.lst.injEq, Cell.ins.injEq, Prod.mk.injEq, List.cons.injEq, Option.some.injEq, List.map_cons, List.map_nil, List.length_cons, List.length_nil, List.cons_append, List.nil_append, List.append_nil, List.getElem?_cons_zero, List.getElem?_cons_succ, List.set_cons_zero, List.set_cons_succ, List.replicate_succ, List.replicate_zero, exists_eq_left, exists_eq_left', exists_and_left, and_true, true_and, and_self, and_assoc, Nat.sub_self, Nat.reduceAdd, Nat.reduceSub, Nat.zero_add, put_put, put_same, reduceIte, Bool.false_eq_true, Bool.true_eq_false, Bool.not_true, Bool.not_false, at_0, at_1, at_2, at_3, at_4, at_5, at_6, at_7, ix_1_0, ix_2_0, ix_2_1, ix_3_0, ix_3_1, ix_3_2, ix_4_0, ix_4_1, ix_4_2, ix_4_3]
    exact ⟨C_Shrink, hu, ⟨nf_Shrink_width, nf_Shrink_height, nf_Shrink_cover⟩, hw, hh, q⟩
  · exact h.elim
theorem sc_Grow_init : FnScope ["self", "width", "height", "cover"] ["self", "width", "height", "cover"] (defScope s_Grow_init) := ⟨rfl, rfl, rfl, by decide +kernel, rfl, by decide +kernel, by decide +kernel⟩
def sp_Grow_init (C : Addr) : SpT := fun ts S R _ => match ts with
  | [.cell u, .int w, .int h, .bl c] => S u = some (.ins C []) ∧ Bx w ∧ Bx h ∧ R .non (S.put u (.ins C (stF w h c)))
  | _ => False
theorem ok_Grow_init {P : Program} {w : World} {K : PySem.W.Frag} {mg : Str → Option Value} {base : Heap} {f : Addr} {fd : FuncData} {g_Scaling_init C_Scaling C_Grow : Addr} {gd_Scaling_init : FuncData} (F : FunD K "__init__" "Grow.__init__" (defArgs s_Grow_init) (defBody s_Grow_init) (defScope s_Grow_init) [] [("cover", .bl false)] f fd)
    (G_Scaling_init : FnT P w K mg base 4 g_Scaling_init gd_Scaling_init ["self", "width", "height", "cover"] (sp_Scaling_init K))
    (b_Scaling_init : Binds K gd_Scaling_init ["self", "width", "height", "cover"] [])
    (m_Scaling : mg "Scaling" = some (.ref C_Scaling))
    (cr_Scaling : ClX.CRead K C_Scaling (.type "type"))
    (cf_Scaling_init : PySem.W.findCls K (.ref C_Scaling) (.type "type") "__init__" = some (.val (.ref g_Scaling_init)))
    (k_Scaling_init : PySem.W.keepIn K (.ref g_Scaling_init) = true)
    (nf_Grow_width : InF K C_Grow "width")
    (nf_Grow_height : InF K C_Grow "height")
    (nf_Grow_cover : InF K C_Grow "cover")
    : FnT P w K mg base 5 f fd ["self", "width", "height", "cover"] (sp_Grow_init C_Grow) := by
  refine okTK F sc_Grow_init (by intro ts S R RE h; unfold sp_Grow_init at h; split at h <;> first | rfl | exact h.elim) (fun cdv A out s H E hg hr => (bs_one (ss_expr (et_clsfn cr_Scaling cf_Scaling_init k_Scaling_init G_Scaling_init (CallD.all b_Scaling_init) (hr.mono (by decide)) hg (passL2N (L2N.takes_of rfl rfl rfl rfl)) (by rfl) m_Scaling (at_cons (et_var (pv 0)) (at_cons (et_var (pv 1)) (at_cons (et_var (pv 2)) (at_cons (et_var (pv 3)) at_nil)))))))) ?_
  intro ts S R RE h
  unfold sp_Grow_init at h
  split at h
  · rename_i u w h c
    obtain ⟨hu, hw, hh, q⟩ := h
    simp only [sp_Scaling_init, sSeq, sAsg, sDrop, sRet, sRetN, sIf, sNext, sPar, sPar3, sFor, sRaise, sFldT, sNo, rNo, rVar, rFrz, rC, rBin, rTest, bAnd, bOr, bNot, bIf, vAnd, vOr, vNot, rIf, rNeg, aNil, aCons, rTup, rLst, rLstC, rArgs, gNameT, gNilT, gConsT, gTupT, gSubT, iSeq, iRng1T, iRng2T, rLc, rCall, rCallN, rCallS, rFld, rCon, rMake, rMakeN, rMakeP, rMeth, rMethK, rProp, rClsFn, rOpOwn, rSl, oNone, oSome, rMut, kAdd, kI2, kI2n, kMul, kIx, kIn, kLen, kU, kA2, kDm, kStrI, kAll, kSl, kAppend, kExtend, kTuple, kList, lenT, seqOf, bYes, startT, one, pickG, selG, insOf, putT, flatT, Bool.false_xor, Bool.true_xor, List.all_cons, List.all_nil, Bool.and_self, T.int.injEq, T.bl.injEq, T.str.injEq, T.lst.injEq, T.tup.injEq, T.cell.injEq, T.ins.injEq, Cell.lst.injEq, Cell.ins.injEq, Prod.mk.injEq, List.cons.injEq, Option.some.injEq, List.map_cons, List.map_nil, List.length_cons, List.length_nil, List.cons_append, List.nil_append, List.append_nil, List.getElem?_cons_zero, List.getElem?_cons_succ, List.set_cons_zero, List.set_cons_succ, List.replicate_succ, List.replicate_zero, exists_eq_left, exists_eq_left', exists_and_left, and_true, true_and, and_self, and_assoc, Nat.sub_self, Nat.reduceAdd, Nat.reduceSub, Nat.zero_add, put_put, put_same, reduceIte, Bool.false_eq_true, Bool.true_eq_false, Bool.not_true, Bool.not_false, at_0, at_1, at_2, at_3, at_4, at_5, at_6, at_7, ix_1_0, ix_2_0, ix_2_1, ix_3_0, ix_3_1, ix_3_2, ix_4_0, ix_4_1, ix_4_2, ix_4_3]
    exact ⟨C_Grow, hu, ⟨nf_Grow_width, nf_Grow_height, nf_Grow_cover⟩, hw, hh, q⟩
  · exact h.elim
theorem mk_step {C : Addr} {w h : Int} {c : Bool} {S : Store} {R : T → Store → Prop} (q : R (.ins C (stF w h c)) S) : ∀ u, S u = none → ∀ S3, S3 = (S.put u (.ins C [])).put u (.ins C (stF w h c)) → (∃ gs, S3 u = some (.ins C gs) ∧ R (.ins C gs) (S3.drop u)) := fun u hu S3 e => by
  subst e
  exact ⟨_, put_same, by rw [put_put, put_drop hu]; exact q⟩
theorem mk_shrink {C : Addr} {w h : Int} {c : Bool} {S : Store} {R : T → Store → Prop} {RE : XT} (hw : Bx w) (hh : Bx h) (q : R (.ins C (stF w h c)) S) :
    ∀ u, S u = none → sp_Shrink_init C [.cell u, .int w, .int h, .bl c] (S.put u (.ins C [])) (fun z S2 => z = .non ∧ ∃ gs, S2 u = some (.ins C gs) ∧ R (.ins C gs) (S2.drop u)) RE := fun u hu =>
  ⟨put_same, hw, hh, rfl, mk_step q u hu _ rfl⟩
theorem mk_grow {C : Addr} {w h : Int} {c : Bool} {S : Store} {R : T → Store → Prop} {RE : XT} (hw : Bx w) (hh : Bx h) (q : R (.ins C (stF w h c)) S) :
    ∀ u, S u = none → sp_Grow_init C [.cell u, .int w, .int h, .bl c] (S.put u (.ins C [])) (fun z S2 => z = .non ∧ ∃ gs, S2 u = some (.ins C gs) ∧ R (.ins C gs) (S2.drop u)) RE := fun u hu =>
  ⟨put_same, hw, hh, rfl, mk_step q u hu _ rfl⟩
theorem sc_Shrink_apply : FnScope ["self", "size", "factor"] ["self", "size"] (defScope s_Shrink_apply) := ⟨rfl, rfl, rfl, by decide +kernel, rfl, by decide +kernel, by decide +kernel⟩
def sp_Shrink_apply (C CZ : Addr) : SpT := fun ts S R _ => match ts with
  | [x, y] => ∃ w h cv, ∃ s : S4, x = .ins C (stF w h cv) ∧ y = s.t CZ ∧ Bx w ∧ Bx h ∧ s.ok 1000 ∧ R ((s.shrink cv w h).t CZ) S
  | _ => False
theorem ok_Shrink_apply {P : Program} {w : World} {K : PySem.W.Frag} {mg : Str → Option Value} {base : Heap} {f : Addr} {fd : FuncData} {g_compare g_Size_mul C_Size g_Scaling_factor g_check_size C_Shrink : Addr} {gd_compare : FuncData} {gd_Size_mul : FuncData} {gd_Scaling_factor : FuncData} {gd_check_size : FuncData} (F : Fun K "apply" "Shrink.apply" s_Shrink_apply f fd)
    (G_compare : FnT P w K mg base 5 g_compare gd_compare ["one", "other"] sp_compare)
    (m_compare : mg "compare" = some (.ref g_compare))
    (k_compare : PySem.W.keepIn K (.ref g_compare) = true)
    (b_compare : Binds K gd_compare ["one", "other"] [])
    (G_Size_mul : FnT P w K mg base 8 g_Size_mul gd_Size_mul ["self", "other"] (sp_Size_mul C_Size))
    (b_Size_mul : Binds K gd_Size_mul ["self", "other"] [])
    (G_Scaling_factor : FnT P w K mg base 6 g_Scaling_factor gd_Scaling_factor ["self", "size"] (sp_Scaling_factor K C_Size))
    (b_Scaling_factor : Binds K gd_Scaling_factor ["self", "size"] [])
    (G_check_size : FnT P w K mg base 1 g_check_size gd_check_size ["size"] (sp_check_size C_Size))
    (m_check_size : mg "check_size" = some (.ref g_check_size))
    (k_check_size : PySem.W.keepIn K (.ref g_check_size) = true)
    (b_check_size : Binds K gd_check_size ["size"] [])
    (bo_Size_mul : BinOwn K C_Size g_Size_mul .Mult)
    (cl_Shrink : Cls K C_Shrink)
    (me_Shrink_factor : Meth K C_Shrink "factor" g_Scaling_factor)
    (nf_Shrink_width : InF K C_Shrink "width")
    (nf_Shrink_height : InF K C_Shrink "height")
    (nf_Shrink_cover : InF K C_Shrink "cover")
    (bt_Size_tuple : BinTy K C_Size .Mult "tuple")
    : FnT P w K mg base 9 f fd ["self", "size"] (sp_Shrink_apply C_Shrink C_Size) := by
  refine okT F sc_Shrink_apply (by intro ts S R RE h; unfold sp_Shrink_apply at h; split at h <;> first | rfl | exact h.elim) (fun cdv A out s H E hg hr => (bs_cons (ss_expr (et_callD G_check_size hg (hr.mono (by decide)) (by rfl) m_check_size k_check_size (CallD.all b_check_size) (passL2N (L2N.takes_of rfl rfl rfl rfl)) (at_cons (et_var (pv 1)) at_nil)))
    (bs_cons (ss_set (i := 2) sc_Shrink_apply.nd rfl (by first | exact Or.inl rfl | exact Or.inr rfl) (et_meth (MetD.one cl_Shrink me_Shrink_factor G_Scaling_factor (hr.mono (by decide)) (CallD.all b_Scaling_factor)) hg (passL2N (L2N.takes_of rfl rfl rfl rfl)) (et_var (pv 0)) (at_cons (et_var (pv 1)) at_nil)))
    (bs_one (ss_ret (et_if (tt_cmp op_lt cv_B2n (et_callD G_compare hg (hr.mono (by decide)) (by rfl) m_compare k_compare (CallD.all b_compare) (passL2N (L2N.takes_of rfl rfl rfl rfl)) (at_cons (et_var (pv 2)) (at_cons (et_tup (at_cons et_int (at_cons et_int at_nil))) at_nil))) et_int (nomark _)) (et_opOwnK K rfl bo_Size_mul G_Size_mul hg (hr.mono (by decide)) b_Size_mul (passL2N (L2N.takes_of rfl rfl rfl rfl)) (et_var (pv 1)) (et_var (pv 2))) (et_var (pv 1)))))))) ?_
  intro ts S R RE h
  unfold sp_Shrink_apply at h
  split at h
  · rename_i x y
    obtain ⟨w, h, cv, s, rfl, rfl, hw, hh, sz, q⟩ := h
    have sf : SF K C_Shrink := ⟨nf_Shrink_width, nf_Shrink_height, nf_Shrink_cover⟩
    have f1 := (S4.fac_fr (cv := cv) sz hw hh).up (m := 3900) (by decide)
    refine sSeq_i fun N hN => ?_
    simp only [sp_check_size, sSeq, sAsg, sDrop, sRet, sRetN, sIf, sNext, sPar, sPar3, sFor, sRaise, sFldT, sNo, rNo, rVar, rFrz, rC, rBin, rTest, bAnd, bOr, bNot, bIf, vAnd, vOr, vNot, rIf, rNeg, aNil, aCons, rTup, rLst, rLstC, rArgs, gNameT, gNilT, gConsT, gTupT, gSubT, iSeq, iRng1T, iRng2T, rLc, rCall, rCallN, rCallS, rFld, rCon, rMake, rMakeN, rMakeP, rMeth, rMethK, rProp, rClsFn, rOpOwn, rSl, oNone, oSome, rMut, kAdd, kI2, kI2n, kMul, kIx, kIn, kLen, kU, kA2, kDm, kStrI, kAll, kSl, kAppend, kExtend, kTuple, kList, lenT, seqOf, bYes, startT, one, pickG, selG, insOf, putT, flatT, Bool.false_xor, Bool.true_xor, List.all_cons, List.all_nil, Bool.and_self, T.int.injEq, T.bl.injEq, T.str.injEq, T.lst.injEq, T.tup.injEq, T.cell.injEq, T.ins.injEq, Cell.lst.injEq, Cell.ins.injEq, Prod.mk.injEq, List.cons.injEq, Option.some.injEq, List.map_cons, List.map_nil, List.length_cons, List.length_nil, List.cons_append, List.nil_append, List.append_nil, List.getElem?_cons_zero, List.getElem?_cons_succ, List.set_cons_zero, List.set_cons_succ, List.replicate_succ, List.replicate_zero, exists_eq_left, exists_eq_left', exists_and_left, and_true, true_and, and_self, and_assoc, Nat.sub_self, Nat.reduceAdd, Nat.reduceSub, Nat.zero_add, put_put, put_same, reduceIte, Bool.false_eq_true, Bool.true_eq_false, Bool.not_true, Bool.not_false, at_0, at_1, at_2, at_3, at_4, at_5, at_6, at_7, ix_1_0, ix_2_0, ix_2_1, ix_3_0, ix_3_1, ix_3_2, ix_4_0, ix_4_1, ix_4_2, ix_4_3]
    refine ⟨_, _, _, _, rfl, hN _ _ ?_⟩
    refine sSeq_i fun N hN => ?_
    simp only [stF_factor, sSeq, sAsg, sDrop, sRet, sRetN, sIf, sNext, sPar, sPar3, sFor, sRaise, sFldT, sNo, rNo, rVar, rFrz, rC, rBin, rTest, bAnd, bOr, bNot, bIf, vAnd, vOr, vNot, rIf, rNeg, aNil, aCons, rTup, rLst, rLstC, rArgs, gNameT, gNilT, gConsT, gTupT, gSubT, iSeq, iRng1T, iRng2T, rLc, rCall, rCallN, rCallS, rFld, rCon, rMake, rMakeN, rMakeP, rMeth, rMethK, rProp, rClsFn, rOpOwn, rSl, oNone, oSome, rMut, kAdd, kI2, kI2n, kMul, kIx, kIn, kLen, kU, kA2, kDm, kStrI, kAll, kSl, kAppend, kExtend, kTuple, kList, lenT, seqOf, bYes, startT, one, pickG, selG, insOf, putT, flatT, Bool.false_xor, Bool.true_xor, List.all_cons, List.all_nil, Bool.and_self, T.int.injEq, T.bl.injEq, T.str.injEq, T.lst.injEq, T.tup.injEq, T.cell.injEq, T.ins.injEq, Cell.lst.injEq, Cell.ins.injEq, Prod.mk.injEq, List.cons.injEq, Option.some.injEq, List.map_cons, List.map_nil, List.length_cons, List.length_nil, List.cons_append, List.nil_append, List.append_nil, List.getElem?_cons_zero, List.getElem?_cons_succ, List.set_cons_zero, List.set_cons_succ, List.replicate_succ, List.replicate_zero, exists_eq_left, exists_eq_left', exists_and_left, and_true, true_and, and_self, and_assoc, Nat.sub_self, Nat.reduceAdd, Nat.reduceSub, Nat.zero_add, put_put, put_same, reduceIte, Bool.false_eq_true, Bool.true_eq_false, Bool.not_true, Bool.not_false, at_0, at_1, at_2, at_3, at_4, at_5, at_6, at_7, ix_1_0, ix_2_0, ix_2_1, ix_3_0, ix_3_1, ix_3_2, ix_4_0, ix_4_1, ix_4_2, ix_4_3]
    refine ⟨C_Shrink, w, h, cv, _, _, _, _, rfl, rfl, sf, hw, hh, sz, hN _ _ ?_⟩
    simp only [sp_compare, qT, frT, sSeq, sAsg, sDrop, sRet, sRetN, sIf, sNext, sPar, sPar3, sFor, sRaise, sFldT, sNo, rNo, rVar, rFrz, rC, rBin, rTest, bAnd, bOr, bNot, bIf, vAnd, vOr, vNot, rIf, rNeg, aNil, aCons, rTup, rLst, rLstC, rArgs, gNameT, gNilT, gConsT, gTupT, gSubT, iSeq, iRng1T, iRng2T, rLc, rCall, rCallN, rCallS, rFld, rCon, rMake, rMakeN, rMakeP, rMeth, rMethK, rProp, rClsFn, rOpOwn, rSl, oNone, oSome, rMut, kAdd, kI2, kI2n, kMul, kIx, kIn, kLen, kU, kA2, kDm, kStrI, kAll, kSl, kAppend, kExtend, kTuple, kList, lenT, seqOf, bYes, startT, one, pickG, selG, insOf, putT, flatT, Bool.false_xor, Bool.true_xor, List.all_cons, List.all_nil, Bool.and_self, T.int.injEq, T.bl.injEq, T.str.injEq, T.lst.injEq, T.tup.injEq, T.cell.injEq, T.ins.injEq, Cell.lst.injEq, Cell.ins.injEq, Prod.mk.injEq, List.cons.injEq, Option.some.injEq, List.map_cons, List.map_nil, List.length_cons, List.length_nil, List.cons_append, List.nil_append, List.append_nil, List.getElem?_cons_zero, List.getElem?_cons_succ, List.set_cons_zero, List.set_cons_succ, List.replicate_succ, List.replicate_zero, exists_eq_left, exists_eq_left', exists_and_left, and_true, true_and, and_self, and_assoc, Nat.sub_self, Nat.reduceAdd, Nat.reduceSub, Nat.zero_add, put_put, put_same, reduceIte, Bool.false_eq_true, Bool.true_eq_false, Bool.not_true, Bool.not_false, at_0, at_1, at_2, at_3, at_4, at_5, at_6, at_7, ix_1_0, ix_2_0, ix_2_1, ix_3_0, ix_3_1, ix_3_2, ix_4_0, ix_4_1, ix_4_2, ix_4_3]
    refine ⟨by decide, f1, fr11, ?_⟩
    rw [sgn_lt]
    unfold S4.shrink at q
    refine ite_d (fun cc => ?_) (fun cc => ?_)
    · rw [if_pos (show qLess (s.fac cv w h) (1, 1) = true from decide_eq_true cc)] at q
      refine ⟨⟨_, rfl⟩, ⟨.inl ⟨_, .tup _, bt_Size_tuple⟩⟩, ?_⟩
      exact ⟨_, _, _, _, _, _, rfl, .fr f1, Sz.up sz (by decide), ⟨_, _, rfl⟩, q⟩
    · rw [if_neg (by rw [show qLess (s.fac cv w h) (1, 1) = false from decide_eq_false cc]; simp)] at q
      exact q
  · exact h.elim
theorem sc_Grow_apply : FnScope ["self", "size", "factor"] ["self", "size"] (defScope s_Grow_apply) := ⟨rfl, rfl, rfl, by decide +kernel, rfl, by decide +kernel, by decide +kernel⟩
def sp_Grow_apply (C CZ : Addr) : SpT := fun ts S R _ => match ts with
  | [x, y] => ∃ w h cv, ∃ s : S4, x = .ins C (stF w h cv) ∧ y = s.t CZ ∧ Bx w ∧ Bx h ∧ s.ok 1000 ∧ R ((s.grow cv w h).t CZ) S
  | _ => False
theorem ok_Grow_apply {P : Program} {w : World} {K : PySem.W.Frag} {mg : Str → Option Value} {base : Heap} {f : Addr} {fd : FuncData} {g_compare g_Size_mul C_Size g_Scaling_factor g_check_size C_Grow : Addr} {gd_compare : FuncData} {gd_Size_mul : FuncData} {gd_Scaling_factor : FuncData} {gd_check_size : FuncData} (F : Fun K "apply" "Grow.apply" s_Grow_apply f fd)
    (G_compare : FnT P w K mg base 5 g_compare gd_compare ["one", "other"] sp_compare)
    (m_compare : mg "compare" = some (.ref g_compare))
    (k_compare : PySem.W.keepIn K (.ref g_compare) = true)
    (b_compare : Binds K gd_compare ["one", "other"] [])
    (G_Size_mul : FnT P w K mg base 8 g_Size_mul gd_Size_mul ["self", "other"] (sp_Size_mul C_Size))
    (b_Size_mul : Binds K gd_Size_mul ["self", "other"] [])
    (G_Scaling_factor : FnT P w K mg base 6 g_Scaling_factor gd_Scaling_factor ["self", "size"] (sp_Scaling_factor K C_Size))
    (b_Scaling_factor : Binds K gd_Scaling_factor ["self", "size"] [])
    (G_check_size : FnT P w K mg base 1 g_check_size gd_check_size ["size"] (sp_check_size C_Size))
    (m_check_size : mg "check_size" = some (.ref g_check_size))
    (k_check_size : PySem.W.keepIn K (.ref g_check_size) = true)
    (b_check_size : Binds K gd_check_size ["size"] [])
    (bo_Size_mul : BinOwn K C_Size g_Size_mul .Mult)
    (cl_Grow : Cls K C_Grow)
    (me_Grow_factor : Meth K C_Grow "factor" g_Scaling_factor)
    (nf_Grow_width : InF K C_Grow "width")
    (nf_Grow_height : InF K C_Grow "height")
    (nf_Grow_cover : InF K C_Grow "cover")
    (bt_Size_tuple : BinTy K C_Size .Mult "tuple")
    : FnT P w K mg base 9 f fd ["self", "size"] (sp_Grow_apply C_Grow C_Size) := by
  refine okT F sc_Grow_apply (by intro ts S R RE h; unfold sp_Grow_apply at h; split at h <;> first | rfl | exact h.elim) (fun cdv A out s H E hg hr => (bs_cons (ss_expr (et_callD G_check_size hg (hr.mono (by decide)) (by rfl) m_check_size k_check_size (CallD.all b_check_size) (passL2N (L2N.takes_of rfl rfl rfl rfl)) (at_cons (et_var (pv 1)) at_nil)))
    (bs_cons (ss_set (i := 2) sc_Grow_apply.nd rfl (by first | exact Or.inl rfl | exact Or.inr rfl) (et_meth (MetD.one cl_Grow me_Grow_factor G_Scaling_factor (hr.mono (by decide)) (CallD.all b_Scaling_factor)) hg (passL2N (L2N.takes_of rfl rfl rfl rfl)) (et_var (pv 0)) (at_cons (et_var (pv 1)) at_nil)))
    (bs_one (ss_ret (et_if (tt_cmp op_gt cv_B2n (et_callD G_compare hg (hr.mono (by decide)) (by rfl) m_compare k_compare (CallD.all b_compare) (passL2N (L2N.takes_of rfl rfl rfl rfl)) (at_cons (et_var (pv 2)) (at_cons (et_tup (at_cons et_int (at_cons et_int at_nil))) at_nil))) et_int (nomark _)) (et_opOwnK K rfl bo_Size_mul G_Size_mul hg (hr.mono (by decide)) b_Size_mul (passL2N (L2N.takes_of rfl rfl rfl rfl)) (et_var (pv 1)) (et_var (pv 2))) (et_var (pv 1)))))))) ?_
  intro ts S R RE h
  unfold sp_Grow_apply at h
  split at h
  · rename_i x y
    obtain ⟨w, h, cv, s, rfl, rfl, hw, hh, sz, q⟩ := h
    have sf : SF K C_Grow := ⟨nf_Grow_width, nf_Grow_height, nf_Grow_cover⟩
    have f1 := (S4.fac_fr (cv := cv) sz hw hh).up (m := 3900) (by decide)
    refine sSeq_i fun N hN => ?_
    simp only [sp_check_size, sSeq, sAsg, sDrop, sRet, sRetN, sIf, sNext, sPar, sPar3, sFor, sRaise, sFldT, sNo, rNo, rVar, rFrz, rC, rBin, rTest, bAnd, bOr, bNot, bIf, vAnd, vOr, vNot, rIf, rNeg, aNil, aCons, rTup, rLst, rLstC, rArgs, gNameT, gNilT, gConsT, gTupT, gSubT, iSeq, iRng1T, iRng2T, rLc, rCall, rCallN, rCallS, rFld, rCon, rMake, rMakeN, rMakeP, rMeth, rMethK, rProp, rClsFn, rOpOwn, rSl, oNone, oSome, rMut, kAdd, kI2, kI2n, kMul, kIx, kIn, kLen, kU, kA2, kDm, kStrI, kAll, kSl, kAppend, kExtend, kTuple, kList, lenT, seqOf, bYes, startT, one, pickG, selG, insOf, putT, flatT, Bool.false_xor, Bool.true_xor, List.all_cons, List.all_nil, Bool.and_self, T.int.injEq, T.bl.injEq, T.str.injEq, T.lst.injEq, T.tup.injEq, T.cell.injEq, T.ins.injEq, Cell.lst.injEq, Cell.ins.injEq, Prod.mk.injEq, List.cons.injEq, Option.some.injEq, List.map_cons, List.map_nil, List.length_cons, List.length_nil, List.cons_append, List.nil_append, List.append_nil, List.getElem?_cons_zero, List.getElem?_cons_succ, List.set_cons_zero, List.set_cons_succ, List.replicate_succ, List.replicate_zero, exists_eq_left, exists_eq_left', exists_and_left, and_true, true_and, and_self, and_assoc, Nat.sub_self, Nat.reduceAdd, Nat.reduceSub, Nat.zero_add, put_put, put_same, reduceIte, Bool.false_eq_true, Bool.true_eq_false, Bool.not_true, Bool.not_false, at_0, at_1, at_2, at_3, at_4, at_5, at_6, at_7, ix_1_0, ix_2_0, ix_2_1, ix_3_0, ix_3_1, ix_3_2, ix_4_0, ix_4_1, ix_4_2, ix_4_3]
    refine ⟨_, _, _, _, rfl, hN _ _ ?_⟩
    refine sSeq_i fun N hN => ?_
    simp only [stF_factor, sSeq, sAsg, sDrop, sRet, sRetN, sIf, sNext, sPar, sPar3, sFor, sRaise, sFldT, sNo, rNo, rVar, rFrz, rC, rBin, rTest, bAnd, bOr, bNot, bIf, vAnd, vOr, vNot, rIf, rNeg, aNil, aCons, rTup, rLst, rLstC, rArgs, gNameT, gNilT, gConsT, gTupT, gSubT, iSeq, iRng1T, iRng2T, rLc, rCall, rCallN, rCallS, rFld, rCon, rMake, rMakeN, rMakeP, rMeth, rMethK, rProp, rClsFn, rOpOwn, rSl, oNone, oSome, rMut, kAdd, kI2, kI2n, kMul, kIx, kIn, kLen, kU, kA2, kDm, kStrI, kAll, kSl, kAppend, kExtend, kTuple, kList, lenT, seqOf, bYes, startT, one, pickG, selG, insOf, putT, flatT, Bool.false_xor, Bool.true_xor, List.all_cons, List.all_nil, Bool.and_self, T.int.injEq, T.bl.injEq, T.str.injEq, T.lst.injEq, T.tup.injEq, T.cell.injEq, T.ins.injEq, Cell.lst.injEq, Cell.ins.injEq, Prod.mk.injEq, List.cons.injEq, Option.some.injEq, List.map_cons, List.map_nil, List.length_cons, List.length_nil, List.cons_append, List.nil_append, List.append_nil, List.getElem?_cons_zero, List.getElem?_cons_succ, List.set_cons_zero, List.set_cons_succ, List.replicate_succ, List.replicate_zero, exists_eq_left, exists_eq_left', exists_and_left, and_true, true_and, and_self, and_assoc, Nat.sub_self, Nat.reduceAdd, Nat.reduceSub, Nat.zero_add, put_put, put_same, reduceIte, Bool.false_eq_true, Bool.true_eq_false, Bool.not_true, Bool.not_false, at_0, at_1, at_2, at_3, at_4, at_5, at_6, at_7, ix_1_0, ix_2_0, ix_2_1, ix_3_0, ix_3_1, ix_3_2, ix_4_0, ix_4_1, ix_4_2, ix_4_3]
    refine ⟨C_Grow, w, h, cv, _, _, _, _, rfl, rfl, sf, hw, hh, sz, hN _ _ ?_⟩
    simp only [sp_compare, qT, frT, sSeq, sAsg, sDrop, sRet, sRetN, sIf, sNext, sPar, sPar3, sFor, sRaise, sFldT, sNo, rNo, rVar, rFrz, rC, rBin, rTest, bAnd, bOr, bNot, bIf, vAnd, vOr, vNot, rIf, rNeg, aNil, aCons, rTup, rLst, rLstC, rArgs, gNameT, gNilT, gConsT, gTupT, gSubT, iSeq, iRng1T, iRng2T, rLc, rCall, rCallN, rCallS, rFld, rCon, rMake, rMakeN, rMakeP, rMeth, rMethK, rProp, rClsFn, rOpOwn, rSl, oNone, oSome, rMut, kAdd, kI2, kI2n, kMul, kIx, kIn, kLen, kU, kA2, kDm, kStrI, kAll, kSl, kAppend, kExtend, kTuple, kList, lenT, seqOf, bYes, startT, one, pickG, selG, insOf, putT, flatT, Bool.false_xor, Bool.true_xor, List.all_cons, List.all_nil, Bool.and_self, T.int.injEq, T.bl.injEq, T.str.injEq, T.lst.injEq, T.tup.injEq, T.cell.injEq, T.ins.injEq, Cell.lst.injEq, Cell.ins.injEq, Prod.mk.injEq, List.cons.injEq, Option.some.injEq, List.map_cons, List.map_nil, List.length_cons, List.length_nil, List.cons_append, List.nil_append, List.append_nil, List.getElem?_cons_zero, List.getElem?_cons_succ, List.set_cons_zero, List.set_cons_succ, List.replicate_succ, List.replicate_zero, exists_eq_left, exists_eq_left', exists_and_left, and_true, true_and, and_self, and_assoc, Nat.sub_self, Nat.reduceAdd, Nat.reduceSub, Nat.zero_add, put_put, put_same, reduceIte, Bool.false_eq_true, Bool.true_eq_false, Bool.not_true, Bool.not_false, at_0, at_1, at_2, at_3, at_4, at_5, at_6, at_7, ix_1_0, ix_2_0, ix_2_1, ix_3_0, ix_3_1, ix_3_2, ix_4_0, ix_4_1, ix_4_2, ix_4_3]
    refine ⟨by decide, f1, fr11, ?_⟩
    rw [sgn_gt]
    unfold S4.grow at q
    refine ite_d (fun cc => ?_) (fun cc => ?_)
    · rw [if_pos (show qLess (1, 1) (s.fac cv w h) = true from decide_eq_true cc)] at q
      refine ⟨⟨_, rfl⟩, ⟨.inl ⟨_, .tup _, bt_Size_tuple⟩⟩, ?_⟩
      exact ⟨_, _, _, _, _, _, rfl, .fr f1, Sz.up sz (by decide), ⟨_, _, rfl⟩, q⟩
    · rw [if_neg (by rw [show qLess (1, 1) (s.fac cv w h) = false from decide_eq_false cc]; simp)] at q
      exact q
  · exact h.elim
/-! the law's own numbers -/
def d4T (s : S4) : T := .tup [frT s.a s.b, frT s.c s.d]
theorem Fr.of {n : Nat} {a : Int} (h : Pn n a) (hn : 1 ≤ n := by decide) : Fr n a 1 := ⟨h, (fr11 hn).b, gcdI_one⟩
theorem Fr.inv {n : Nat} {a : Int} (h : Pn n a) (hn : 1 ≤ n := by decide) : Fr n 1 a := ⟨(fr11 hn).b, h, by rw [gcdI_comm]; exact gcdI_one⟩
theorem sc_l_mul : FnScope ["_law_one", "_law_more"] ["_law_one", "_law_more"] (defScope s_l_mul) := ⟨rfl, rfl, rfl, by decide +kernel, rfl, by decide +kernel, by decide +kernel⟩
def sp_l_mul : SpT := fun ts S R _ => match ts with
  | [.tup [.int a, .int b], .tup [.int c, .int d]] => Pn 3900 a ∧ Pn 3900 b ∧ Pn 3900 c ∧ Pn 3900 d ∧ R (frT (lwA (a * c) (b * d)) (lwB (a * c) (b * d))) S
  | _ => False
theorem ok_l_mul {P : Program} {w : World} {K : PySem.W.Frag} {mg : Str → Option Value} {base : Heap} {f : Addr} {fd : FuncData} {g_l_low : Addr} {gd_l_low : FuncData} (F : Fun K "_law_mul" "_law_mul" s_l_mul f fd)
    (G_l_low : FnT P w K mg base 1 g_l_low gd_l_low ["_law_high_part", "_law_low_part"] sp_l_low)
    (m_l_low : mg "_law_low" = some (.ref g_l_low))
    (k_l_low : PySem.W.keepIn K (.ref g_l_low) = true)
    (b_l_low : Binds K gd_l_low ["_law_high_part", "_law_low_part"] [])
    : FnT P w K mg base 2 f fd ["_law_one", "_law_more"] sp_l_mul := by
  refine okT F sc_l_mul (by intro ts S R RE h; unfold sp_l_mul at h; split at h <;> first | rfl | exact h.elim) (fun cdv A out s H E hg hr => (bs_one (ss_ret (et_callD G_l_low hg (hr.mono (by decide)) (by rfl) m_l_low k_l_low (CallD.all b_l_low) (passL2N (L2N.takes_of rfl rfl rfl rfl)) (at_cons (et_op op_mulG cv_mul (et_ix ix_seq cv_ix (et_var (pv 0)) et_int (fun _ _ => rfl)) (et_ix ix_seq cv_ix (et_var (pv 1)) et_int (fun _ _ => rfl))) (at_cons (et_op op_mulG cv_mul (et_ix ix_seq cv_ix (et_var (pv 0)) et_int (fun _ _ => rfl)) (et_ix ix_seq cv_ix (et_var (pv 1)) et_int (fun _ _ => rfl))) at_nil)))))) ?_
  intro ts S R RE h
  unfold sp_l_mul at h
  split at h
  · rename_i a b c d
    obtain ⟨ha, hb, hc, hd, q⟩ := h
    simp only [sp_l_low, sSeq, sAsg, sDrop, sRet, sRetN, sIf, sNext, sPar, sPar3, sFor, sRaise, sFldT, sNo, rNo, rVar, rFrz, rC, rBin, rTest, bAnd, bOr, bNot, bIf, vAnd, vOr, vNot, rIf, rNeg, aNil, aCons, rTup, rLst, rLstC, rArgs, gNameT, gNilT, gConsT, gTupT, gSubT, iSeq, iRng1T, iRng2T, rLc, rCall, rCallN, rCallS, rFld, rCon, rMake, rMakeN, rMakeP, rMeth, rMethK, rProp, rClsFn, rOpOwn, rSl, oNone, oSome, rMut, kAdd, kI2, kI2n, kMul, kIx, kIn, kLen, kU, kA2, kDm, kStrI, kAll, kSl, kAppend, kExtend, kTuple, kList, lenT, seqOf, bYes, startT, one, pickG, selG, insOf, putT, flatT, Bool.false_xor, Bool.true_xor, List.all_cons, List.all_nil, Bool.and_self, T.int.injEq, T.bl.injEq, T.str.injEq, T.lst.injEq, T.tup.injEq, T.cell.injEq, T.ins.injEq, Cell.lst.injEq, Cell.ins.injEq, Prod.mk.injEq, List.cons.injEq, Option.some.injEq, List.map_cons, List.map_nil, List.length_cons, List.length_nil, List.cons_append, List.nil_append, List.append_nil, List.getElem?_cons_zero, List.getElem?_cons_succ, List.set_cons_zero, List.set_cons_succ, List.replicate_succ, List.replicate_zero, exists_eq_left, exists_eq_left', exists_and_left, and_true, true_and, and_self, and_assoc, Nat.sub_self, Nat.reduceAdd, Nat.reduceSub, Nat.zero_add, put_put, put_same, reduceIte, Bool.false_eq_true, Bool.true_eq_false, Bool.not_true, Bool.not_false, at_0, at_1, at_2, at_3, at_4, at_5, at_6, at_7, ix_1_0, ix_2_0, ix_2_1, ix_3_0, ix_3_1, ix_3_2, ix_4_0, ix_4_1, ix_4_2, ix_4_3]
    exact ⟨ha.mulW hc, hb.mulW hd, (ha.mul hc).up (by decide), (hb.mul hd).pos, q⟩
  · exact h.elim
theorem sc_l_div : FnScope ["_law_one", "_law_more"] ["_law_one", "_law_more"] (defScope s_l_div) := ⟨rfl, rfl, rfl, by decide +kernel, rfl, by decide +kernel, by decide +kernel⟩
def sp_l_div : SpT := fun ts S R _ => match ts with
  | [.tup [.int a, .int b], .tup [.int c, .int d]] => Pn 3900 a ∧ Pn 3900 b ∧ Pn 3900 c ∧ Pn 3900 d ∧ R (frT (lwA (a * d) (b * c)) (lwB (a * d) (b * c))) S
  | _ => False
theorem ok_l_div {P : Program} {w : World} {K : PySem.W.Frag} {mg : Str → Option Value} {base : Heap} {f : Addr} {fd : FuncData} {g_l_low : Addr} {gd_l_low : FuncData} (F : Fun K "_law_div" "_law_div" s_l_div f fd)
    (G_l_low : FnT P w K mg base 1 g_l_low gd_l_low ["_law_high_part", "_law_low_part"] sp_l_low)
    (m_l_low : mg "_law_low" = some (.ref g_l_low))
    (k_l_low : PySem.W.keepIn K (.ref g_l_low) = true)
    (b_l_low : Binds K gd_l_low ["_law_high_part", "_law_low_part"] [])
    : FnT P w K mg base 2 f fd ["_law_one", "_law_more"] sp_l_div := by
  refine okT F sc_l_div (by intro ts S R RE h; unfold sp_l_div at h; split at h <;> first | rfl | exact h.elim) (fun cdv A out s H E hg hr => (bs_one (ss_ret (et_callD G_l_low hg (hr.mono (by decide)) (by rfl) m_l_low k_l_low (CallD.all b_l_low) (passL2N (L2N.takes_of rfl rfl rfl rfl)) (at_cons (et_op op_mulG cv_mul (et_ix ix_seq cv_ix (et_var (pv 0)) et_int (fun _ _ => rfl)) (et_ix ix_seq cv_ix (et_var (pv 1)) et_int (fun _ _ => rfl))) (at_cons (et_op op_mulG cv_mul (et_ix ix_seq cv_ix (et_var (pv 0)) et_int (fun _ _ => rfl)) (et_ix ix_seq cv_ix (et_var (pv 1)) et_int (fun _ _ => rfl))) at_nil)))))) ?_
  intro ts S R RE h
  unfold sp_l_div at h
  split at h
  · rename_i a b c d
    obtain ⟨ha, hb, hc, hd, q⟩ := h
    simp only [sp_l_low, sSeq, sAsg, sDrop, sRet, sRetN, sIf, sNext, sPar, sPar3, sFor, sRaise, sFldT, sNo, rNo, rVar, rFrz, rC, rBin, rTest, bAnd, bOr, bNot, bIf, vAnd, vOr, vNot, rIf, rNeg, aNil, aCons, rTup, rLst, rLstC, rArgs, gNameT, gNilT, gConsT, gTupT, gSubT, iSeq, iRng1T, iRng2T, rLc, rCall, rCallN, rCallS, rFld, rCon, rMake, rMakeN, rMakeP, rMeth, rMethK, rProp, rClsFn, rOpOwn, rSl, oNone, oSome, rMut, kAdd, kI2, kI2n, kMul, kIx, kIn, kLen, kU, kA2, kDm, kStrI, kAll, kSl, kAppend, kExtend, kTuple, kList, lenT, seqOf, bYes, startT, one, pickG, selG, insOf, putT, flatT, Bool.false_xor, Bool.true_xor, List.all_cons, List.all_nil, Bool.and_self, T.int.injEq, T.bl.injEq, T.str.injEq, T.lst.injEq, T.tup.injEq, T.cell.injEq, T.ins.injEq, Cell.lst.injEq, Cell.ins.injEq, Prod.mk.injEq, List.cons.injEq, Option.some.injEq, List.map_cons, List.map_nil, List.length_cons, List.length_nil, List.cons_append, List.nil_append, List.append_nil, List.getElem?_cons_zero, List.getElem?_cons_succ, List.set_cons_zero, List.set_cons_succ, List.replicate_succ, List.replicate_zero, exists_eq_left, exists_eq_left', exists_and_left, and_true, true_and, and_self, and_assoc, Nat.sub_self, Nat.reduceAdd, Nat.reduceSub, Nat.zero_add, put_put, put_same, reduceIte, Bool.false_eq_true, Bool.true_eq_false, Bool.not_true, Bool.not_false, at_0, at_1, at_2, at_3, at_4, at_5, at_6, at_7, ix_1_0, ix_2_0, ix_2_1, ix_3_0, ix_3_1, ix_3_2, ix_4_0, ix_4_1, ix_4_2, ix_4_3]
    exact ⟨ha.mulW hd, hb.mulW hc, (ha.mul hd).up (by decide), (hb.mul hc).pos, q⟩
  · exact h.elim
theorem sc_l_less : FnScope ["_law_one", "_law_more"] ["_law_one", "_law_more"] (defScope s_l_less) := ⟨rfl, rfl, rfl, by decide +kernel, rfl, by decide +kernel, by decide +kernel⟩
def sp_l_less : SpT := fun ts S R _ => match ts with
  | [.tup [.int a, .int b], .tup [.int c, .int d]] => Pn 3900 a ∧ Pn 3900 b ∧ Pn 3900 c ∧ Pn 3900 d ∧ R (.bl (decide (a * d < c * b))) S
  | _ => False
theorem ok_l_less {P : Program} {w : World} {K : PySem.W.Frag} {mg : Str → Option Value} {base : Heap} {f : Addr} {fd : FuncData}   (F : Fun K "_law_less" "_law_less" s_l_less f fd)
    : FnT P w K mg base 1 f fd ["_law_one", "_law_more"] sp_l_less := by
  refine okT F sc_l_less (by intro ts S R RE h; unfold sp_l_less at h; split at h <;> first | rfl | exact h.elim) (fun cdv A out s H E hg hr => (bs_one (ss_ret (et_cmp op_lt cv_B2n (et_op op_mulG cv_mul (et_ix ix_seq cv_ix (et_var (pv 0)) et_int (fun _ _ => rfl)) (et_ix ix_seq cv_ix (et_var (pv 1)) et_int (fun _ _ => rfl))) (et_op op_mulG cv_mul (et_ix ix_seq cv_ix (et_var (pv 1)) et_int (fun _ _ => rfl)) (et_ix ix_seq cv_ix (et_var (pv 0)) et_int (fun _ _ => rfl))) (nomark _))))) ?_
  intro ts S R RE h
  unfold sp_l_less at h
  split at h
  · rename_i a b c d
    obtain ⟨ha, hb, hc, hd, q⟩ := h
    simp only [sSeq, sAsg, sDrop, sRet, sRetN, sIf, sNext, sPar, sPar3, sFor, sRaise, sFldT, sNo, rNo, rVar, rFrz, rC, rBin, rTest, bAnd, bOr, bNot, bIf, vAnd, vOr, vNot, rIf, rNeg, aNil, aCons, rTup, rLst, rLstC, rArgs, gNameT, gNilT, gConsT, gTupT, gSubT, iSeq, iRng1T, iRng2T, rLc, rCall, rCallN, rCallS, rFld, rCon, rMake, rMakeN, rMakeP, rMeth, rMethK, rProp, rClsFn, rOpOwn, rSl, oNone, oSome, rMut, kAdd, kI2, kI2n, kMul, kIx, kIn, kLen, kU, kA2, kDm, kStrI, kAll, kSl, kAppend, kExtend, kTuple, kList, lenT, seqOf, bYes, startT, one, pickG, selG, insOf, putT, flatT, Bool.false_xor, Bool.true_xor, List.all_cons, List.all_nil, Bool.and_self, T.int.injEq, T.bl.injEq, T.str.injEq, T.lst.injEq, T.tup.injEq, T.cell.injEq, T.ins.injEq, Cell.lst.injEq, Cell.ins.injEq, Prod.mk.injEq, List.cons.injEq, Option.some.injEq, List.map_cons, List.map_nil, List.length_cons, List.length_nil, List.cons_append, List.nil_append, List.append_nil, List.getElem?_cons_zero, List.getElem?_cons_succ, List.set_cons_zero, List.set_cons_succ, List.replicate_succ, List.replicate_zero, exists_eq_left, exists_eq_left', exists_and_left, and_true, true_and, and_self, and_assoc, Nat.sub_self, Nat.reduceAdd, Nat.reduceSub, Nat.zero_add, put_put, put_same, reduceIte, Bool.false_eq_true, Bool.true_eq_false, Bool.not_true, Bool.not_false, at_0, at_1, at_2, at_3, at_4, at_5, at_6, at_7, ix_1_0, ix_2_0, ix_2_1, ix_3_0, ix_3_1, ix_3_2, ix_4_0, ix_4_1, ix_4_2, ix_4_3]
    exact ⟨ha.mulW hd, hc.mulW hb, q⟩
  · exact h.elim
theorem sc_l_part : FnScope ["_law_pool_here", "_law_great", "_law_way", "_law_most"] ["_law_pool_here", "_law_great"] (defScope s_l_part) := ⟨rfl, rfl, rfl, by decide +kernel, rfl, by decide +kernel, by decide +kernel⟩
def sp_l_part : SpT := fun ts S R _ => match ts with
  | [.cell p, .bl g] => PoolT S p ∧ ∀ a b S', Fr 70 a b → PS S p S' → R (frT a b) S'
  | _ => False
theorem ok_l_part {P : Program} {w : World} {K : PySem.W.Frag} {mg : Str → Option Value} {base : Heap} {f : Addr} {fd : FuncData} {g_l_low g_l_draw : Addr} {gd_l_low : FuncData} {gd_l_draw : FuncData} (F : Fun K "_law_part" "_law_part" s_l_part f fd)
    (G_l_low : FnT P w K mg base 1 g_l_low gd_l_low ["_law_high_part", "_law_low_part"] sp_l_low)
    (m_l_low : mg "_law_low" = some (.ref g_l_low))
    (k_l_low : PySem.W.keepIn K (.ref g_l_low) = true)
    (b_l_low : Binds K gd_l_low ["_law_high_part", "_law_low_part"] [])
    (G_l_draw : FnT P w K mg base 1 g_l_draw gd_l_draw ["_law_pool_here", "_law_most"] sp_l_draw)
    (m_l_draw : mg "_law_draw" = some (.ref g_l_draw))
    (k_l_draw : PySem.W.keepIn K (.ref g_l_draw) = true)
    (b_l_draw : Binds K gd_l_draw ["_law_pool_here", "_law_most"] [])
    : FnT P w K mg base 2 f fd ["_law_pool_here", "_law_great"] sp_l_part := by
  refine okT F sc_l_part (by intro ts S R RE h; unfold sp_l_part at h; split at h <;> first | rfl | exact h.elim) (fun cdv A out s H E hg hr => (bs_cons (ss_set (i := 2) sc_l_part.nd rfl (by first | exact Or.inl rfl | exact Or.inr rfl) (et_callD G_l_draw hg (hr.mono (by decide)) (by rfl) m_l_draw k_l_draw (CallD.all b_l_draw) (passL2N (L2N.takes_of rfl rfl rfl rfl)) (at_cons (et_var (pv 0)) (at_cons et_int at_nil))))
    (bs_cons (ss_if (tt_cmp op_lt cv_B2n (et_var (pv 2)) et_int (nomark _)) (bs_one (ss_ret (et_tup (at_cons (et_op op_addG cv_add et_int (et_callD G_l_draw hg (hr.mono (by decide)) (by rfl) m_l_draw k_l_draw (CallD.all b_l_draw) (passL2N (L2N.takes_of rfl rfl rfl rfl)) (at_cons (et_var (pv 0)) (at_cons (et_ix ix_seq cv_ix (et_lst (at_cons et_int (at_cons et_int at_nil))) (et_var (pv 2)) (fun _ _ => rfl)) at_nil)))) (at_cons et_int at_nil))))) bs_nil)
    (bs_cons (ss_set (i := 3) sc_l_part.nd rfl (by first | exact Or.inl rfl | exact Or.inr rfl) (et_ix ix_seq cv_ix (et_lst (at_cons et_int (at_cons et_int (at_cons (et_op op_pow cv_I2 et_int et_int) (at_cons (et_if (tt_val (et_var (pv 1))) (et_op op_pow cv_I2 et_int et_int) et_int) at_nil))))) (et_op op_sub cv_I2n (et_var (pv 2)) et_int) (fun _ _ => rfl)))
    (bs_one (ss_ret (et_callD G_l_low hg (hr.mono (by decide)) (by rfl) m_l_low k_l_low (CallD.all b_l_low) (passL2N (L2N.takes_of rfl rfl rfl rfl)) (at_cons (et_op op_addG cv_add et_int (et_callD G_l_draw hg (hr.mono (by decide)) (by rfl) m_l_draw k_l_draw (CallD.all b_l_draw) (passL2N (L2N.takes_of rfl rfl rfl rfl)) (at_cons (et_var (pv 0)) (at_cons (et_var (pv 3)) at_nil)))) (at_cons (et_op op_addG cv_add et_int (et_callD G_l_draw hg (hr.mono (by decide)) (by rfl) m_l_draw k_l_draw (CallD.all b_l_draw) (passL2N (L2N.takes_of rfl rfl rfl rfl)) (at_cons (et_var (pv 0)) (at_cons (et_var (pv 3)) at_nil)))) at_nil))))))))) ?_
  intro ts S R RE h
  unfold sp_l_part at h
  split at h
  · rename_i p g
    obtain ⟨hp, q⟩ := h
    refine sSeq_i fun N hN => ?_
    simp only [sp_l_draw, sSeq, sAsg, sDrop, sRet, sRetN, sIf, sNext, sPar, sPar3, sFor, sRaise, sFldT, sNo, rNo, rVar, rFrz, rC, rBin, rTest, bAnd, bOr, bNot, bIf, vAnd, vOr, vNot, rIf, rNeg, aNil, aCons, rTup, rLst, rLstC, rArgs, gNameT, gNilT, gConsT, gTupT, gSubT, iSeq, iRng1T, iRng2T, rLc, rCall, rCallN, rCallS, rFld, rCon, rMake, rMakeN, rMakeP, rMeth, rMethK, rProp, rClsFn, rOpOwn, rSl, oNone, oSome, rMut, kAdd, kI2, kI2n, kMul, kIx, kIn, kLen, kU, kA2, kDm, kStrI, kAll, kSl, kAppend, kExtend, kTuple, kList, lenT, seqOf, bYes, startT, one, pickG, selG, insOf, putT, flatT, Bool.false_xor, Bool.true_xor, List.all_cons, List.all_nil, Bool.and_self, T.int.injEq, T.bl.injEq, T.str.injEq, T.lst.injEq, T.tup.injEq, T.cell.injEq, T.ins.injEq, Cell.lst.injEq, Cell.ins.injEq, Prod.mk.injEq, List.cons.injEq, Option.some.injEq, List.map_cons, List.map_nil, List.length_cons, List.length_nil, List.cons_append, List.nil_append, List.append_nil, List.getElem?_cons_zero, List.getElem?_cons_succ, List.set_cons_zero, List.set_cons_succ, List.replicate_succ, List.replicate_zero, exists_eq_left, exists_eq_left', exists_and_left, and_true, true_and, and_self, and_assoc, Nat.sub_self, Nat.reduceAdd, Nat.reduceSub, Nat.zero_add, put_put, put_same, reduceIte, Bool.false_eq_true, Bool.true_eq_false, Bool.not_true, Bool.not_false, at_0, at_1, at_2, at_3, at_4, at_5, at_6, at_7, ix_1_0, ix_2_0, ix_2_1, ix_3_0, ix_3_1, ix_3_2, ix_4_0, ix_4_1, ix_4_2, ix_4_3]
    refine ⟨hp, Pn.of (by decide) (by decide), fun r S1 r0 r1 p1 => hN _ _ ?_⟩
    refine sSeq_i fun N hN => ?_
    simp only [sSeq, sAsg, sDrop, sRet, sRetN, sIf, sNext, sPar, sPar3, sFor, sRaise, sFldT, sNo, rNo, rVar, rFrz, rC, rBin, rTest, bAnd, bOr, bNot, bIf, vAnd, vOr, vNot, rIf, rNeg, aNil, aCons, rTup, rLst, rLstC, rArgs, gNameT, gNilT, gConsT, gTupT, gSubT, iSeq, iRng1T, iRng2T, rLc, rCall, rCallN, rCallS, rFld, rCon, rMake, rMakeN, rMakeP, rMeth, rMethK, rProp, rClsFn, rOpOwn, rSl, oNone, oSome, rMut, kAdd, kI2, kI2n, kMul, kIx, kIn, kLen, kU, kA2, kDm, kStrI, kAll, kSl, kAppend, kExtend, kTuple, kList, lenT, seqOf, bYes, startT, one, pickG, selG, insOf, putT, flatT, Bool.false_xor, Bool.true_xor, List.all_cons, List.all_nil, Bool.and_self, T.int.injEq, T.bl.injEq, T.str.injEq, T.lst.injEq, T.tup.injEq, T.cell.injEq, T.ins.injEq, Cell.lst.injEq, Cell.ins.injEq, Prod.mk.injEq, List.cons.injEq, Option.some.injEq, List.map_cons, List.map_nil, List.length_cons, List.length_nil, List.cons_append, List.nil_append, List.append_nil, List.getElem?_cons_zero, List.getElem?_cons_succ, List.set_cons_zero, List.set_cons_succ, List.replicate_succ, List.replicate_zero, exists_eq_left, exists_eq_left', exists_and_left, and_true, true_and, and_self, and_assoc, Nat.sub_self, Nat.reduceAdd, Nat.reduceSub, Nat.zero_add, put_put, put_same, reduceIte, Bool.false_eq_true, Bool.true_eq_false, Bool.not_true, Bool.not_false, at_0, at_1, at_2, at_3, at_4, at_5, at_6, at_7, ix_1_0, ix_2_0, ix_2_1, ix_3_0, ix_3_1, ix_3_2, ix_4_0, ix_4_1, ix_4_2, ix_4_3]
    refine ite_d (fun c => ?_) (fun c => hN _ _ ?_)
    · have hr : r = 0 ∨ r = 1 := by omega
      have fin : ∀ m : Int, Pn 60 m → sp_l_draw [.cell p, .int m] S1 (fun x S1 => kAdd (.int 1) x S1 (fun x S1 => [x, T.int 1].length ≤ sizeLine ∧ R (.tup [x, .int 1]) S1) RE) RE := fun m hm =>
        ⟨p1.pool, hm.up (by decide), fun z S2 z0 z1 p2 => ⟨by show 2 ≤ sizeLine; decide, q (1 + z) 1 S2 (Fr.of (Pn.le (n := 70) (hm.up (by decide)) (by omega) (by omega))) (p1.trans p2)⟩⟩
      rcases hr with rfl | rfl
      · simp only [sSeq, sAsg, sDrop, sRet, sRetN, sIf, sNext, sPar, sPar3, sFor, sRaise, sFldT, sNo, rNo, rVar, rFrz, rC, rBin, rTest, bAnd, bOr, bNot, bIf, vAnd, vOr, vNot, rIf, rNeg, aNil, aCons, rTup, rLst, rLstC, rArgs, gNameT, gNilT, gConsT, gTupT, gSubT, iSeq, iRng1T, iRng2T, rLc, rCall, rCallN, rCallS, rFld, rCon, rMake, rMakeN, rMakeP, rMeth, rMethK, rProp, rClsFn, rOpOwn, rSl, oNone, oSome, rMut, kAdd, kI2, kI2n, kMul, kIx, kIn, kLen, kU, kA2, kDm, kStrI, kAll, kSl, kAppend, kExtend, kTuple, kList, lenT, seqOf, bYes, startT, one, pickG, selG, insOf, putT, flatT, Bool.false_xor, Bool.true_xor, List.all_cons, List.all_nil, Bool.and_self, T.int.injEq, T.bl.injEq, T.str.injEq, T.lst.injEq, T.tup.injEq, T.cell.injEq, T.ins.injEq, Cell.lst.injEq, Cell.ins.injEq, Prod.mk.injEq, List.cons.injEq, Option.some.injEq, List.map_cons, List.map_nil, List.length_cons, List.length_nil, List.cons_append, List.nil_append, List.append_nil, List.getElem?_cons_zero, List.getElem?_cons_succ, List.set_cons_zero, List.set_cons_succ, List.replicate_succ, List.replicate_zero, exists_eq_left, exists_eq_left', exists_and_left, and_true, true_and, and_self, and_assoc, Nat.sub_self, Nat.reduceAdd, Nat.reduceSub, Nat.zero_add, put_put, put_same, reduceIte, Bool.false_eq_true, Bool.true_eq_false, Bool.not_true, Bool.not_false, at_0, at_1, at_2, at_3, at_4, at_5, at_6, at_7, ix_1_0, ix_2_0, ix_2_1, ix_3_0, ix_3_1, ix_3_2, ix_4_0, ix_4_1, ix_4_2, ix_4_3]
        exact ⟨by decide, fin 12 (Pn.of (by decide) (by decide))⟩
      · simp only [sSeq, sAsg, sDrop, sRet, sRetN, sIf, sNext, sPar, sPar3, sFor, sRaise, sFldT, sNo, rNo, rVar, rFrz, rC, rBin, rTest, bAnd, bOr, bNot, bIf, vAnd, vOr, vNot, rIf, rNeg, aNil, aCons, rTup, rLst, rLstC, rArgs, gNameT, gNilT, gConsT, gTupT, gSubT, iSeq, iRng1T, iRng2T, rLc, rCall, rCallN, rCallS, rFld, rCon, rMake, rMakeN, rMakeP, rMeth, rMethK, rProp, rClsFn, rOpOwn, rSl, oNone, oSome, rMut, kAdd, kI2, kI2n, kMul, kIx, kIn, kLen, kU, kA2, kDm, kStrI, kAll, kSl, kAppend, kExtend, kTuple, kList, lenT, seqOf, bYes, startT, one, pickG, selG, insOf, putT, flatT, Bool.false_xor, Bool.true_xor, List.all_cons, List.all_nil, Bool.and_self, T.int.injEq, T.bl.injEq, T.str.injEq, T.lst.injEq, T.tup.injEq, T.cell.injEq, T.ins.injEq, Cell.lst.injEq, Cell.ins.injEq, Prod.mk.injEq, List.cons.injEq, Option.some.injEq, List.map_cons, List.map_nil, List.length_cons, List.length_nil, List.cons_append, List.nil_append, List.append_nil, List.getElem?_cons_zero, List.getElem?_cons_succ, List.set_cons_zero, List.set_cons_succ, List.replicate_succ, List.replicate_zero, exists_eq_left, exists_eq_left', exists_and_left, and_true, true_and, and_self, and_assoc, Nat.sub_self, Nat.reduceAdd, Nat.reduceSub, Nat.zero_add, put_put, put_same, reduceIte, Bool.false_eq_true, Bool.true_eq_false, Bool.not_true, Bool.not_false, at_0, at_1, at_2, at_3, at_4, at_5, at_6, at_7, ix_1_0, ix_2_0, ix_2_1, ix_3_0, ix_3_1, ix_3_2, ix_4_0, ix_4_1, ix_4_2, ix_4_3]
        exact ⟨by decide, fin 2000 (Pn.of (by decide) (by decide))⟩
    · have hr : r = 2 ∨ r = 3 ∨ r = 4 ∨ r = 5 := by omega
      have go : ∀ v : Option T, ∀ m : Int, Pn 68 m → sRet (rCall sp_l_low [] (aCons (rBin kAdd (rC (T.int 1)) (rCall sp_l_draw [] (aCons (rVar 0) (aCons (rVar 3) aNil)))) (aCons (rBin kAdd (rC (T.int 1)) (rCall sp_l_draw [] (aCons (rVar 0) (aCons (rVar 3) aNil)))) aNil)))
          { nx := fun _ S' => R .non S', rt := R, ex := RE } [some (.cell p), some (.bl g), some (.int r), some (.int m)] S1 := by
        intro v m hm
        simp only [sp_l_draw, sp_l_low, sSeq, sAsg, sDrop, sRet, sRetN, sIf, sNext, sPar, sPar3, sFor, sRaise, sFldT, sNo, rNo, rVar, rFrz, rC, rBin, rTest, bAnd, bOr, bNot, bIf, vAnd, vOr, vNot, rIf, rNeg, aNil, aCons, rTup, rLst, rLstC, rArgs, gNameT, gNilT, gConsT, gTupT, gSubT, iSeq, iRng1T, iRng2T, rLc, rCall, rCallN, rCallS, rFld, rCon, rMake, rMakeN, rMakeP, rMeth, rMethK, rProp, rClsFn, rOpOwn, rSl, oNone, oSome, rMut, kAdd, kI2, kI2n, kMul, kIx, kIn, kLen, kU, kA2, kDm, kStrI, kAll, kSl, kAppend, kExtend, kTuple, kList, lenT, seqOf, bYes, startT, one, pickG, selG, insOf, putT, flatT, Bool.false_xor, Bool.true_xor, List.all_cons, List.all_nil, Bool.and_self, T.int.injEq, T.bl.injEq, T.str.injEq, T.lst.injEq, T.tup.injEq, T.cell.injEq, T.ins.injEq, Cell.lst.injEq, Cell.ins.injEq, Prod.mk.injEq, List.cons.injEq, Option.some.injEq, List.map_cons, List.map_nil, List.length_cons, List.length_nil, List.cons_append, List.nil_append, List.append_nil, List.getElem?_cons_zero, List.getElem?_cons_succ, List.set_cons_zero, List.set_cons_succ, List.replicate_succ, List.replicate_zero, exists_eq_left, exists_eq_left', exists_and_left, and_true, true_and, and_self, and_assoc, Nat.sub_self, Nat.reduceAdd, Nat.reduceSub, Nat.zero_add, put_put, put_same, reduceIte, Bool.false_eq_true, Bool.true_eq_false, Bool.not_true, Bool.not_false, at_0, at_1, at_2, at_3, at_4, at_5, at_6, at_7, ix_1_0, ix_2_0, ix_2_1, ix_3_0, ix_3_1, ix_3_2, ix_4_0, ix_4_1, ix_4_2, ix_4_3]
        refine ⟨p1.pool, hm.up (by decide), fun z S2 z0 z1 p2 => ⟨p2.pool, hm.up (by decide), fun y S3 y0 y1 p3 => ?_⟩⟩
        have pz : Pn 70 (1 + z) := Pn.le (hm.up (by decide)) (by omega) (by omega)
        have py : Pn 70 (1 + y) := Pn.le (hm.up (by decide)) (by omega) (by omega)
        exact ⟨pz.up (by decide), py.pos, q _ _ _ (Fr.low pz py) ((p1.trans p2).trans p3)⟩
      have p20 : Pn 68 (10 ^ 20) := Pn.of (by decide) (by decide)
      have p6 : Pn 68 (10 ^ 6) := Pn.of (by decide) (by decide)
      refine sSeq_i fun N hN => ?_
      simp only [sSeq, sAsg, sDrop, sRet, sRetN, sIf, sNext, sPar, sPar3, sFor, sRaise, sFldT, sNo, rNo, rVar, rFrz, rC, rBin, rTest, bAnd, bOr, bNot, bIf, vAnd, vOr, vNot, rIf, rNeg, aNil, aCons, rTup, rLst, rLstC, rArgs, gNameT, gNilT, gConsT, gTupT, gSubT, iSeq, iRng1T, iRng2T, rLc, rCall, rCallN, rCallS, rFld, rCon, rMake, rMakeN, rMakeP, rMeth, rMethK, rProp, rClsFn, rOpOwn, rSl, oNone, oSome, rMut, kAdd, kI2, kI2n, kMul, kIx, kIn, kLen, kU, kA2, kDm, kStrI, kAll, kSl, kAppend, kExtend, kTuple, kList, lenT, seqOf, bYes, startT, one, pickG, selG, insOf, putT, flatT, Bool.false_xor, Bool.true_xor, List.all_cons, List.all_nil, Bool.and_self, T.int.injEq, T.bl.injEq, T.str.injEq, T.lst.injEq, T.tup.injEq, T.cell.injEq, T.ins.injEq, Cell.lst.injEq, Cell.ins.injEq, Prod.mk.injEq, List.cons.injEq, Option.some.injEq, List.map_cons, List.map_nil, List.length_cons, List.length_nil, List.cons_append, List.nil_append, List.append_nil, List.getElem?_cons_zero, List.getElem?_cons_succ, List.set_cons_zero, List.set_cons_succ, List.replicate_succ, List.replicate_zero, exists_eq_left, exists_eq_left', exists_and_left, and_true, true_and, and_self, and_assoc, Nat.sub_self, Nat.reduceAdd, Nat.reduceSub, Nat.zero_add, put_put, put_same, reduceIte, Bool.false_eq_true, Bool.true_eq_false, Bool.not_true, Bool.not_false, at_0, at_1, at_2, at_3, at_4, at_5, at_6, at_7, ix_1_0, ix_2_0, ix_2_1, ix_3_0, ix_3_1, ix_3_2, ix_4_0, ix_4_1, ix_4_2, ix_4_3]
      refine ⟨⟨by decide, by decide, by decide⟩, ?_⟩
      cases g with
      | true =>
        simp only [sSeq, sAsg, sDrop, sRet, sRetN, sIf, sNext, sPar, sPar3, sFor, sRaise, sFldT, sNo, rNo, rVar, rFrz, rC, rBin, rTest, bAnd, bOr, bNot, bIf, vAnd, vOr, vNot, rIf, rNeg, aNil, aCons, rTup, rLst, rLstC, rArgs, gNameT, gNilT, gConsT, gTupT, gSubT, iSeq, iRng1T, iRng2T, rLc, rCall, rCallN, rCallS, rFld, rCon, rMake, rMakeN, rMakeP, rMeth, rMethK, rProp, rClsFn, rOpOwn, rSl, oNone, oSome, rMut, kAdd, kI2, kI2n, kMul, kIx, kIn, kLen, kU, kA2, kDm, kStrI, kAll, kSl, kAppend, kExtend, kTuple, kList, lenT, seqOf, bYes, startT, one, pickG, selG, insOf, putT, flatT, Bool.false_xor, Bool.true_xor, List.all_cons, List.all_nil, Bool.and_self, T.int.injEq, T.bl.injEq, T.str.injEq, T.lst.injEq, T.tup.injEq, T.cell.injEq, T.ins.injEq, Cell.lst.injEq, Cell.ins.injEq, Prod.mk.injEq, List.cons.injEq, Option.some.injEq, List.map_cons, List.map_nil, List.length_cons, List.length_nil, List.cons_append, List.nil_append, List.append_nil, List.getElem?_cons_zero, List.getElem?_cons_succ, List.set_cons_zero, List.set_cons_succ, List.replicate_succ, List.replicate_zero, exists_eq_left, exists_eq_left', exists_and_left, and_true, true_and, and_self, and_assoc, Nat.sub_self, Nat.reduceAdd, Nat.reduceSub, Nat.zero_add, put_put, put_same, reduceIte, Bool.false_eq_true, Bool.true_eq_false, Bool.not_true, Bool.not_false, at_0, at_1, at_2, at_3, at_4, at_5, at_6, at_7, ix_1_0, ix_2_0, ix_2_1, ix_3_0, ix_3_1, ix_3_2, ix_4_0, ix_4_1, ix_4_2, ix_4_3]
        refine ⟨⟨by decide, by decide, by decide⟩, by decide, ?_⟩
        rcases hr with rfl | rfl | rfl | rfl
        · simp only [Int.reduceSub, sSeq, sAsg, sDrop, sRet, sRetN, sIf, sNext, sPar, sPar3, sFor, sRaise, sFldT, sNo, rNo, rVar, rFrz, rC, rBin, rTest, bAnd, bOr, bNot, bIf, vAnd, vOr, vNot, rIf, rNeg, aNil, aCons, rTup, rLst, rLstC, rArgs, gNameT, gNilT, gConsT, gTupT, gSubT, iSeq, iRng1T, iRng2T, rLc, rCall, rCallN, rCallS, rFld, rCon, rMake, rMakeN, rMakeP, rMeth, rMethK, rProp, rClsFn, rOpOwn, rSl, oNone, oSome, rMut, kAdd, kI2, kI2n, kMul, kIx, kIn, kLen, kU, kA2, kDm, kStrI, kAll, kSl, kAppend, kExtend, kTuple, kList, lenT, seqOf, bYes, startT, one, pickG, selG, insOf, putT, flatT, Bool.false_xor, Bool.true_xor, List.all_cons, List.all_nil, Bool.and_self, T.int.injEq, T.bl.injEq, T.str.injEq, T.lst.injEq, T.tup.injEq, T.cell.injEq, T.ins.injEq, Cell.lst.injEq, Cell.ins.injEq, Prod.mk.injEq, List.cons.injEq, Option.some.injEq, List.map_cons, List.map_nil, List.length_cons, List.length_nil, List.cons_append, List.nil_append, List.append_nil, List.getElem?_cons_zero, List.getElem?_cons_succ, List.set_cons_zero, List.set_cons_succ, List.replicate_succ, List.replicate_zero, exists_eq_left, exists_eq_left', exists_and_left, and_true, true_and, and_self, and_assoc, Nat.sub_self, Nat.reduceAdd, Nat.reduceSub, Nat.zero_add, put_put, put_same, reduceIte, Bool.false_eq_true, Bool.true_eq_false, Bool.not_true, Bool.not_false, at_0, at_1, at_2, at_3, at_4, at_5, at_6, at_7, ix_1_0, ix_2_0, ix_2_1, ix_3_0, ix_3_1, ix_3_2, ix_4_0, ix_4_1, ix_4_2, ix_4_3]
          exact hN _ _ (go none 12 (Pn.of (by decide) (by decide)))
        · simp only [Int.reduceSub, sSeq, sAsg, sDrop, sRet, sRetN, sIf, sNext, sPar, sPar3, sFor, sRaise, sFldT, sNo, rNo, rVar, rFrz, rC, rBin, rTest, bAnd, bOr, bNot, bIf, vAnd, vOr, vNot, rIf, rNeg, aNil, aCons, rTup, rLst, rLstC, rArgs, gNameT, gNilT, gConsT, gTupT, gSubT, iSeq, iRng1T, iRng2T, rLc, rCall, rCallN, rCallS, rFld, rCon, rMake, rMakeN, rMakeP, rMeth, rMethK, rProp, rClsFn, rOpOwn, rSl, oNone, oSome, rMut, kAdd, kI2, kI2n, kMul, kIx, kIn, kLen, kU, kA2, kDm, kStrI, kAll, kSl, kAppend, kExtend, kTuple, kList, lenT, seqOf, bYes, startT, one, pickG, selG, insOf, putT, flatT, Bool.false_xor, Bool.true_xor, List.all_cons, List.all_nil, Bool.and_self, T.int.injEq, T.bl.injEq, T.str.injEq, T.lst.injEq, T.tup.injEq, T.cell.injEq, T.ins.injEq, Cell.lst.injEq, Cell.ins.injEq, Prod.mk.injEq, List.cons.injEq, Option.some.injEq, List.map_cons, List.map_nil, List.length_cons, List.length_nil, List.cons_append, List.nil_append, List.append_nil, List.getElem?_cons_zero, List.getElem?_cons_succ, List.set_cons_zero, List.set_cons_succ, List.replicate_succ, List.replicate_zero, exists_eq_left, exists_eq_left', exists_and_left, and_true, true_and, and_self, and_assoc, Nat.sub_self, Nat.reduceAdd, Nat.reduceSub, Nat.zero_add, put_put, put_same, reduceIte, Bool.false_eq_true, Bool.true_eq_false, Bool.not_true, Bool.not_false, at_0, at_1, at_2, at_3, at_4, at_5, at_6, at_7, ix_1_0, ix_2_0, ix_2_1, ix_3_0, ix_3_1, ix_3_2, ix_4_0, ix_4_1, ix_4_2, ix_4_3]
          exact hN _ _ (go none 60 (Pn.of (by decide) (by decide)))
        · simp only [Int.reduceSub, sSeq, sAsg, sDrop, sRet, sRetN, sIf, sNext, sPar, sPar3, sFor, sRaise, sFldT, sNo, rNo, rVar, rFrz, rC, rBin, rTest, bAnd, bOr, bNot, bIf, vAnd, vOr, vNot, rIf, rNeg, aNil, aCons, rTup, rLst, rLstC, rArgs, gNameT, gNilT, gConsT, gTupT, gSubT, iSeq, iRng1T, iRng2T, rLc, rCall, rCallN, rCallS, rFld, rCon, rMake, rMakeN, rMakeP, rMeth, rMethK, rProp, rClsFn, rOpOwn, rSl, oNone, oSome, rMut, kAdd, kI2, kI2n, kMul, kIx, kIn, kLen, kU, kA2, kDm, kStrI, kAll, kSl, kAppend, kExtend, kTuple, kList, lenT, seqOf, bYes, startT, one, pickG, selG, insOf, putT, flatT, Bool.false_xor, Bool.true_xor, List.all_cons, List.all_nil, Bool.and_self, T.int.injEq, T.bl.injEq, T.str.injEq, T.lst.injEq, T.tup.injEq, T.cell.injEq, T.ins.injEq, Cell.lst.injEq, Cell.ins.injEq, Prod.mk.injEq, List.cons.injEq, Option.some.injEq, List.map_cons, List.map_nil, List.length_cons, List.length_nil, List.cons_append, List.nil_append, List.append_nil, List.getElem?_cons_zero, List.getElem?_cons_succ, List.set_cons_zero, List.set_cons_succ, List.replicate_succ, List.replicate_zero, exists_eq_left, exists_eq_left', exists_and_left, and_true, true_and, and_self, and_assoc, Nat.sub_self, Nat.reduceAdd, Nat.reduceSub, Nat.zero_add, put_put, put_same, reduceIte, Bool.false_eq_true, Bool.true_eq_false, Bool.not_true, Bool.not_false, at_0, at_1, at_2, at_3, at_4, at_5, at_6, at_7, ix_1_0, ix_2_0, ix_2_1, ix_3_0, ix_3_1, ix_3_2, ix_4_0, ix_4_1, ix_4_2, ix_4_3]
          exact hN _ _ (go none _ p6)
        · simp only [Int.reduceSub, sSeq, sAsg, sDrop, sRet, sRetN, sIf, sNext, sPar, sPar3, sFor, sRaise, sFldT, sNo, rNo, rVar, rFrz, rC, rBin, rTest, bAnd, bOr, bNot, bIf, vAnd, vOr, vNot, rIf, rNeg, aNil, aCons, rTup, rLst, rLstC, rArgs, gNameT, gNilT, gConsT, gTupT, gSubT, iSeq, iRng1T, iRng2T, rLc, rCall, rCallN, rCallS, rFld, rCon, rMake, rMakeN, rMakeP, rMeth, rMethK, rProp, rClsFn, rOpOwn, rSl, oNone, oSome, rMut, kAdd, kI2, kI2n, kMul, kIx, kIn, kLen, kU, kA2, kDm, kStrI, kAll, kSl, kAppend, kExtend, kTuple, kList, lenT, seqOf, bYes, startT, one, pickG, selG, insOf, putT, flatT, Bool.false_xor, Bool.true_xor, List.all_cons, List.all_nil, Bool.and_self, T.int.injEq, T.bl.injEq, T.str.injEq, T.lst.injEq, T.tup.injEq, T.cell.injEq, T.ins.injEq, Cell.lst.injEq, Cell.ins.injEq, Prod.mk.injEq, List.cons.injEq, Option.some.injEq, List.map_cons, List.map_nil, List.length_cons, List.length_nil, List.cons_append, List.nil_append, List.append_nil, List.getElem?_cons_zero, List.getElem?_cons_succ, List.set_cons_zero, List.set_cons_succ, List.replicate_succ, List.replicate_zero, exists_eq_left, exists_eq_left', exists_and_left, and_true, true_and, and_self, and_assoc, Nat.sub_self, Nat.reduceAdd, Nat.reduceSub, Nat.zero_add, put_put, put_same, reduceIte, Bool.false_eq_true, Bool.true_eq_false, Bool.not_true, Bool.not_false, at_0, at_1, at_2, at_3, at_4, at_5, at_6, at_7, ix_1_0, ix_2_0, ix_2_1, ix_3_0, ix_3_1, ix_3_2, ix_4_0, ix_4_1, ix_4_2, ix_4_3]
          exact hN _ _ (go none _ p20)
      | false =>
        simp only [sSeq, sAsg, sDrop, sRet, sRetN, sIf, sNext, sPar, sPar3, sFor, sRaise, sFldT, sNo, rNo, rVar, rFrz, rC, rBin, rTest, bAnd, bOr, bNot, bIf, vAnd, vOr, vNot, rIf, rNeg, aNil, aCons, rTup, rLst, rLstC, rArgs, gNameT, gNilT, gConsT, gTupT, gSubT, iSeq, iRng1T, iRng2T, rLc, rCall, rCallN, rCallS, rFld, rCon, rMake, rMakeN, rMakeP, rMeth, rMethK, rProp, rClsFn, rOpOwn, rSl, oNone, oSome, rMut, kAdd, kI2, kI2n, kMul, kIx, kIn, kLen, kU, kA2, kDm, kStrI, kAll, kSl, kAppend, kExtend, kTuple, kList, lenT, seqOf, bYes, startT, one, pickG, selG, insOf, putT, flatT, Bool.false_xor, Bool.true_xor, List.all_cons, List.all_nil, Bool.and_self, T.int.injEq, T.bl.injEq, T.str.injEq, T.lst.injEq, T.tup.injEq, T.cell.injEq, T.ins.injEq, Cell.lst.injEq, Cell.ins.injEq, Prod.mk.injEq, List.cons.injEq, Option.some.injEq, List.map_cons, List.map_nil, List.length_cons, List.length_nil, List.cons_append, List.nil_append, List.append_nil, List.getElem?_cons_zero, List.getElem?_cons_succ, List.set_cons_zero, List.set_cons_succ, List.replicate_succ, List.replicate_zero, exists_eq_left, exists_eq_left', exists_and_left, and_true, true_and, and_self, and_assoc, Nat.sub_self, Nat.reduceAdd, Nat.reduceSub, Nat.zero_add, put_put, put_same, reduceIte, Bool.false_eq_true, Bool.true_eq_false, Bool.not_true, Bool.not_false, at_0, at_1, at_2, at_3, at_4, at_5, at_6, at_7, ix_1_0, ix_2_0, ix_2_1, ix_3_0, ix_3_1, ix_3_2, ix_4_0, ix_4_1, ix_4_2, ix_4_3]
        refine ⟨by decide, ?_⟩
        rcases hr with rfl | rfl | rfl | rfl
        · simp only [Int.reduceSub, sSeq, sAsg, sDrop, sRet, sRetN, sIf, sNext, sPar, sPar3, sFor, sRaise, sFldT, sNo, rNo, rVar, rFrz, rC, rBin, rTest, bAnd, bOr, bNot, bIf, vAnd, vOr, vNot, rIf, rNeg, aNil, aCons, rTup, rLst, rLstC, rArgs, gNameT, gNilT, gConsT, gTupT, gSubT, iSeq, iRng1T, iRng2T, rLc, rCall, rCallN, rCallS, rFld, rCon, rMake, rMakeN, rMakeP, rMeth, rMethK, rProp, rClsFn, rOpOwn, rSl, oNone, oSome, rMut, kAdd, kI2, kI2n, kMul, kIx, kIn, kLen, kU, kA2, kDm, kStrI, kAll, kSl, kAppend, kExtend, kTuple, kList, lenT, seqOf, bYes, startT, one, pickG, selG, insOf, putT, flatT, Bool.false_xor, Bool.true_xor, List.all_cons, List.all_nil, Bool.and_self, T.int.injEq, T.bl.injEq, T.str.injEq, T.lst.injEq, T.tup.injEq, T.cell.injEq, T.ins.injEq, Cell.lst.injEq, Cell.ins.injEq, Prod.mk.injEq, List.cons.injEq, Option.some.injEq, List.map_cons, List.map_nil, List.length_cons, List.length_nil, List.cons_append, List.nil_append, List.append_nil, List.getElem?_cons_zero, List.getElem?_cons_succ, List.set_cons_zero, List.set_cons_succ, List.replicate_succ, List.replicate_zero, exists_eq_left, exists_eq_left', exists_and_left, and_true, true_and, and_self, and_assoc, Nat.sub_self, Nat.reduceAdd, Nat.reduceSub, Nat.zero_add, put_put, put_same, reduceIte, Bool.false_eq_true, Bool.true_eq_false, Bool.not_true, Bool.not_false, at_0, at_1, at_2, at_3, at_4, at_5, at_6, at_7, ix_1_0, ix_2_0, ix_2_1, ix_3_0, ix_3_1, ix_3_2, ix_4_0, ix_4_1, ix_4_2, ix_4_3]
          exact hN _ _ (go none 12 (Pn.of (by decide) (by decide)))
        · simp only [Int.reduceSub, sSeq, sAsg, sDrop, sRet, sRetN, sIf, sNext, sPar, sPar3, sFor, sRaise, sFldT, sNo, rNo, rVar, rFrz, rC, rBin, rTest, bAnd, bOr, bNot, bIf, vAnd, vOr, vNot, rIf, rNeg, aNil, aCons, rTup, rLst, rLstC, rArgs, gNameT, gNilT, gConsT, gTupT, gSubT, iSeq, iRng1T, iRng2T, rLc, rCall, rCallN, rCallS, rFld, rCon, rMake, rMakeN, rMakeP, rMeth, rMethK, rProp, rClsFn, rOpOwn, rSl, oNone, oSome, rMut, kAdd, kI2, kI2n, kMul, kIx, kIn, kLen, kU, kA2, kDm, kStrI, kAll, kSl, kAppend, kExtend, kTuple, kList, lenT, seqOf, bYes, startT, one, pickG, selG, insOf, putT, flatT, Bool.false_xor, Bool.true_xor, List.all_cons, List.all_nil, Bool.and_self, T.int.injEq, T.bl.injEq, T.str.injEq, T.lst.injEq, T.tup.injEq, T.cell.injEq, T.ins.injEq, Cell.lst.injEq, Cell.ins.injEq, Prod.mk.injEq, List.cons.injEq, Option.some.injEq, List.map_cons, List.map_nil, List.length_cons, List.length_nil, List.cons_append, List.nil_append, List.append_nil, List.getElem?_cons_zero, List.getElem?_cons_succ, List.set_cons_zero, List.set_cons_succ, List.replicate_succ, List.replicate_zero, exists_eq_left, exists_eq_left', exists_and_left, and_true, true_and, and_self, and_assoc, Nat.sub_self, Nat.reduceAdd, Nat.reduceSub, Nat.zero_add, put_put, put_same, reduceIte, Bool.false_eq_true, Bool.true_eq_false, Bool.not_true, Bool.not_false, at_0, at_1, at_2, at_3, at_4, at_5, at_6, at_7, ix_1_0, ix_2_0, ix_2_1, ix_3_0, ix_3_1, ix_3_2, ix_4_0, ix_4_1, ix_4_2, ix_4_3]
          exact hN _ _ (go none 60 (Pn.of (by decide) (by decide)))
        · simp only [Int.reduceSub, sSeq, sAsg, sDrop, sRet, sRetN, sIf, sNext, sPar, sPar3, sFor, sRaise, sFldT, sNo, rNo, rVar, rFrz, rC, rBin, rTest, bAnd, bOr, bNot, bIf, vAnd, vOr, vNot, rIf, rNeg, aNil, aCons, rTup, rLst, rLstC, rArgs, gNameT, gNilT, gConsT, gTupT, gSubT, iSeq, iRng1T, iRng2T, rLc, rCall, rCallN, rCallS, rFld, rCon, rMake, rMakeN, rMakeP, rMeth, rMethK, rProp, rClsFn, rOpOwn, rSl, oNone, oSome, rMut, kAdd, kI2, kI2n, kMul, kIx, kIn, kLen, kU, kA2, kDm, kStrI, kAll, kSl, kAppend, kExtend, kTuple, kList, lenT, seqOf, bYes, startT, one, pickG, selG, insOf, putT, flatT, Bool.false_xor, Bool.true_xor, List.all_cons, List.all_nil, Bool.and_self, T.int.injEq, T.bl.injEq, T.str.injEq, T.lst.injEq, T.tup.injEq, T.cell.injEq, T.ins.injEq, Cell.lst.injEq, Cell.ins.injEq, Prod.mk.injEq, List.cons.injEq, Option.some.injEq, List.map_cons, List.map_nil, List.length_cons, List.length_nil, List.cons_append, List.nil_append, List.append_nil, List.getElem?_cons_zero, List.getElem?_cons_succ, List.set_cons_zero, List.set_cons_succ, List.replicate_succ, List.replicate_zero, exists_eq_left, exists_eq_left', exists_and_left, and_true, true_and, and_self, and_assoc, Nat.sub_self, Nat.reduceAdd, Nat.reduceSub, Nat.zero_add, put_put, put_same, reduceIte, Bool.false_eq_true, Bool.true_eq_false, Bool.not_true, Bool.not_false, at_0, at_1, at_2, at_3, at_4, at_5, at_6, at_7, ix_1_0, ix_2_0, ix_2_1, ix_3_0, ix_3_1, ix_3_2, ix_4_0, ix_4_1, ix_4_2, ix_4_3]
          exact hN _ _ (go none _ p6)
        · simp only [Int.reduceSub, sSeq, sAsg, sDrop, sRet, sRetN, sIf, sNext, sPar, sPar3, sFor, sRaise, sFldT, sNo, rNo, rVar, rFrz, rC, rBin, rTest, bAnd, bOr, bNot, bIf, vAnd, vOr, vNot, rIf, rNeg, aNil, aCons, rTup, rLst, rLstC, rArgs, gNameT, gNilT, gConsT, gTupT, gSubT, iSeq, iRng1T, iRng2T, rLc, rCall, rCallN, rCallS, rFld, rCon, rMake, rMakeN, rMakeP, rMeth, rMethK, rProp, rClsFn, rOpOwn, rSl, oNone, oSome, rMut, kAdd, kI2, kI2n, kMul, kIx, kIn, kLen, kU, kA2, kDm, kStrI, kAll, kSl, kAppend, kExtend, kTuple, kList, lenT, seqOf, bYes, startT, one, pickG, selG, insOf, putT, flatT, Bool.false_xor, Bool.true_xor, List.all_cons, List.all_nil, Bool.and_self, T.int.injEq, T.bl.injEq, T.str.injEq, T.lst.injEq, T.tup.injEq, T.cell.injEq, T.ins.injEq, Cell.lst.injEq, Cell.ins.injEq, Prod.mk.injEq, List.cons.injEq, Option.some.injEq, List.map_cons, List.map_nil, List.length_cons, List.length_nil, List.cons_append, List.nil_append, List.append_nil, List.getElem?_cons_zero, List.getElem?_cons_succ, List.set_cons_zero, List.set_cons_succ, List.replicate_succ, List.replicate_zero, exists_eq_left, exists_eq_left', exists_and_left, and_true, true_and, and_self, and_assoc, Nat.sub_self, Nat.reduceAdd, Nat.reduceSub, Nat.zero_add, put_put, put_same, reduceIte, Bool.false_eq_true, Bool.true_eq_false, Bool.not_true, Bool.not_false, at_0, at_1, at_2, at_3, at_4, at_5, at_6, at_7, ix_1_0, ix_2_0, ix_2_1, ix_3_0, ix_3_1, ix_3_2, ix_4_0, ix_4_1, ix_4_2, ix_4_3]
          exact hN _ _ (go none 90 (Pn.of (by decide) (by decide)))
  · exact h.elim
/-! small data: what repr shows of it is short -/
theorem two_ten : (2 : Nat) ^ 1900 < 10 ^ 600 := by decide +kernel
theorem intlen {i : Int} (h : i.natAbs < 2 ^ 1900) : (Str.ofString (toString i)).length ≤ 601 := by
  rw [PySem.ofString_length]
  exact PySem.int_text_length_le10 (k := 600) (by decide) (Nat.lt_trans h two_ten)
structure SmL (k n : Nat) (ts : List T) : Prop where
  ex : ∃ ds, T.datL ts = some ds ∧ PyData.showableAll ds = true ∧ PyData.hasDictAll ds = false ∧ PyData.depthAll ds ≤ k ∧ ((PyData.shownAll ds).map (·.length)).sum + 2 * ds.length ≤ n
theorem SmT.up {j k n m : Nat} {d : T} (h : SmT j n d) (le2 : j ≤ k) (le : n ≤ m) : SmT k m d := let ⟨d, a, b, c, e, f⟩ := h.ex; ⟨d, a, b, c, Nat.le_trans e le2, Nat.le_trans f le⟩
theorem SmL.nil {k : Nat} : SmL k 0 [] := ⟨[], by rw [T.datL], by simp only [PyData.showableAll], by simp only [PyData.hasDictAll], by simp only [PyData.depthAll]; omega, by rw [PyData.shownAll_nil]; exact Nat.le_refl _⟩
theorem SmL.cons {k n m : Nat} {t : T} {ts : List T} (h : SmT k n t) (q : SmL k m ts) : SmL k (n + m + 2) (t :: ts) := by
  obtain ⟨d, e1, sh, nd, dp, ln⟩ := h.ex
  obtain ⟨ds, e2, sh2, nd2, dp2, ln2⟩ := q.ex
  refine ⟨d :: ds, by rw [T.datL, e1, e2], by simp only [PyData.showableAll, sh, sh2, Bool.and_self], by simp only [PyData.hasDictAll, nd, nd2, Bool.or_self], ?_, ?_⟩
  · simp only [PyData.depthAll]
    omega
  · rw [PyData.shownAll_cons]
    simp only [List.map_cons, List.sum_cons, List.length_cons]
    omega
theorem SmT.lst {k n : Nat} {ts : List T} (h : SmL k n ts) : SmT (k + 1) (n + 3) (.lst ts) := by
  obtain ⟨ds, e, sh, nd, dp, ln⟩ := h.ex
  refine ⟨.list ds, by rw [T.dat, e]; rfl, by simp only [PyData.showable, sh], by simp only [PyData.hasDict, nd], ?_, ?_⟩
  · simp only [PyData.depth]
    omega
  · have h2 := listText_len_le (PyData.shownAll ds)
    rw [PyData.shownAll_length] at h2
    simp only [PyData.shown]
    omega
theorem SmT.tup {k n : Nat} {ts : List T} (h : SmL k n ts) : SmT (k + 1) (n + 3) (.tup ts) := by
  obtain ⟨ds, e, sh, nd, dp, ln⟩ := h.ex
  refine ⟨.tuple ds, by rw [T.dat, e]; rfl, by simp only [PyData.showable, sh], by simp only [PyData.hasDict, nd], ?_, ?_⟩
  · simp only [PyData.depth]
    omega
  · have h2 := tupleText_len_le (PyData.shownAll ds)
    rw [PyData.shownAll_length] at h2
    simp only [PyData.shown]
    omega
theorem SmT.int {i : Int} (h : i.natAbs < 2 ^ 1900) : SmT 1 601 (.int i) := by
  have l : i.natAbs.log2 < 1900 := PySem.Flt.log2_lt_of (by decide) h
  refine ⟨.int i, by rw [T.dat], ?_, by simp only [PyData.hasDict], by simp only [PyData.depth]; omega, ?_⟩
  · have := PyData.showableAll_ints [i] (fun n m => by rw [List.mem_singleton.mp m]; omega)
    simpa only [List.map_cons, List.map_nil, PyData.showableAll, Bool.and_true] using this
  · rw [PyData.shown_int]
    exact intlen h
theorem SmT.bool (b : Bool) : SmT 1 5 (.bl b) := by
  refine ⟨.bool b, by rw [T.dat], by simp only [PyData.showable], by simp only [PyData.hasDict], by simp only [PyData.depth]; omega, ?_⟩
  rw [PyData.shown_bool]
  cases b <;> decide
theorem SmT.fr {a b : Int} (h : Pn 1900 a) (k : Pn 1900 b) : SmT 2 1300 (frT a b) := (SmT.tup ((SmL.cons (SmT.int h.lt) (SmL.cons (SmT.int k.lt) SmL.nil)))).up (by decide) (by decide)
/-- repr of one thing -/
theorem repr_one {x : T} {k n : Nat} {S : Store} {R : T → Store → Prop} {RE : XT} (d : isDispT x = true) (s : SmT k n x) (hk : k ≤ 64) (hn : n ≤ 16777216) (q : R (.str (shownT x)) S) : kRepr [x] S R RE := ⟨x, k, n, rfl, d, s, hk, hn, q⟩
theorem eq_str {a b : Str} {S : Store} {R : T → Store → Prop} {RE : XT} {ng : Bool} (q : R (.bl (ng ^^ decide (a = b))) S) : kEqG ng (.str a) (.str b) S R RE := .inl ⟨rfl, q⟩
theorem eqSt {a b : Str} {S : Store} {R : T → Store → Prop} {RE : XT} {ng v : Bool} (e : decide (a = b) = v) (q : R (.bl (ng ^^ v)) S) : kEqG ng (.str a) (.str b) S R RE := .inl ⟨rfl, by show R (.bl (ng ^^ decide (a = b))) S; rw [e]; exact q⟩
theorem S4.up {s : S4} {n m : Nat} (o : s.ok n) (h : n ≤ m) : s.ok m := Sz.up o h
theorem sc_l_sides : FnScope ["_law_pool_here", "_law_great", "_law_one", "_law_way"] ["_law_pool_here", "_law_great"] (defScope s_l_sides) := ⟨rfl, rfl, rfl, by decide +kernel, rfl, by decide +kernel, by decide +kernel⟩
def sp_l_sides : SpT := fun ts S R _ => match ts with
  | [.cell p, .bl g] => PoolT S p ∧ ∀ (s : S4) S', s.ok 100 → PS S p S' → R (d4T s) S'
  | _ => False
theorem ok_l_sides {P : Program} {w : World} {K : PySem.W.Frag} {mg : Str → Option Value} {base : Heap} {f : Addr} {fd : FuncData} {g_l_part g_l_mul g_l_low g_l_draw : Addr} {gd_l_part : FuncData} {gd_l_mul : FuncData} {gd_l_low : FuncData} {gd_l_draw : FuncData} (F : Fun K "_law_sides" "_law_sides" s_l_sides f fd)
    (G_l_part : FnT P w K mg base 2 g_l_part gd_l_part ["_law_pool_here", "_law_great"] sp_l_part)
    (m_l_part : mg "_law_part" = some (.ref g_l_part))
    (k_l_part : PySem.W.keepIn K (.ref g_l_part) = true)
    (b_l_part : Binds K gd_l_part ["_law_pool_here", "_law_great"] [])
    (G_l_mul : FnT P w K mg base 2 g_l_mul gd_l_mul ["_law_one", "_law_more"] sp_l_mul)
    (m_l_mul : mg "_law_mul" = some (.ref g_l_mul))
    (k_l_mul : PySem.W.keepIn K (.ref g_l_mul) = true)
    (b_l_mul : Binds K gd_l_mul ["_law_one", "_law_more"] [])
    (G_l_low : FnT P w K mg base 1 g_l_low gd_l_low ["_law_high_part", "_law_low_part"] sp_l_low)
    (m_l_low : mg "_law_low" = some (.ref g_l_low))
    (k_l_low : PySem.W.keepIn K (.ref g_l_low) = true)
    (b_l_low : Binds K gd_l_low ["_law_high_part", "_law_low_part"] [])
    (G_l_draw : FnT P w K mg base 1 g_l_draw gd_l_draw ["_law_pool_here", "_law_most"] sp_l_draw)
    (m_l_draw : mg "_law_draw" = some (.ref g_l_draw))
    (k_l_draw : PySem.W.keepIn K (.ref g_l_draw) = true)
    (b_l_draw : Binds K gd_l_draw ["_law_pool_here", "_law_most"] [])
    : FnT P w K mg base 3 f fd ["_law_pool_here", "_law_great"] sp_l_sides := by
  refine okT F sc_l_sides (by intro ts S R RE h; unfold sp_l_sides at h; split at h <;> first | rfl | exact h.elim) (fun cdv A out s H E hg hr => (bs_cons (ss_par (i := 2) (j := 3) (by rfl) sc_l_sides.nd rfl rfl (by decide) rfl rfl (at_cons (et_callD G_l_part hg (hr.mono (by decide)) (by rfl) m_l_part k_l_part (CallD.all b_l_part) (passL2N (L2N.takes_of rfl rfl rfl rfl)) (at_cons (et_var (pv 0)) (at_cons (et_var (pv 1)) at_nil))) (at_cons (et_callD G_l_draw hg (hr.mono (by decide)) (by rfl) m_l_draw k_l_draw (CallD.all b_l_draw) (passL2N (L2N.takes_of rfl rfl rfl rfl)) (at_cons (et_var (pv 0)) (at_cons et_int at_nil))) at_nil)) (by rfl))
    (bs_cons (ss_if (tt_cmp (op_eqG hr.units) cv_eq (et_var (pv 3)) et_int (nomark _)) (bs_one (ss_ret (et_tup (at_cons (et_var (pv 2)) (at_cons (et_var (pv 2)) at_nil))))) bs_nil)
    (bs_cons (ss_if (tt_cmp (op_eqG hr.units) cv_eq (et_var (pv 3)) et_int (nomark _)) (bs_one (ss_ret (et_tup (at_cons (et_callD G_l_mul hg (hr.mono (by decide)) (by rfl) m_l_mul k_l_mul (CallD.all b_l_mul) (passL2N (L2N.takes_of rfl rfl rfl rfl)) (at_cons (et_var (pv 2)) (at_cons (et_callD G_l_low hg (hr.mono (by decide)) (by rfl) m_l_low k_l_low (CallD.all b_l_low) (passL2N (L2N.takes_of rfl rfl rfl rfl)) (at_cons (et_op op_addG cv_add et_int (et_callD G_l_draw hg (hr.mono (by decide)) (by rfl) m_l_draw k_l_draw (CallD.all b_l_draw) (passL2N (L2N.takes_of rfl rfl rfl rfl)) (at_cons (et_var (pv 0)) (at_cons et_int at_nil)))) (at_cons (et_op op_addG cv_add et_int (et_callD G_l_draw hg (hr.mono (by decide)) (by rfl) m_l_draw k_l_draw (CallD.all b_l_draw) (passL2N (L2N.takes_of rfl rfl rfl rfl)) (at_cons (et_var (pv 0)) (at_cons et_int at_nil)))) at_nil))) at_nil))) (at_cons (et_var (pv 2)) at_nil))))) bs_nil)
    (bs_one (ss_ret (et_tup (at_cons (et_var (pv 2)) (at_cons (et_callD G_l_part hg (hr.mono (by decide)) (by rfl) m_l_part k_l_part (CallD.all b_l_part) (passL2N (L2N.takes_of rfl rfl rfl rfl)) (at_cons (et_var (pv 0)) (at_cons (et_var (pv 1)) at_nil))) at_nil))))))))) ?_
  intro ts S R RE h
  unfold sp_l_sides at h
  split at h
  · rename_i p g
    obtain ⟨hp, q⟩ := h
    refine sSeq_i fun N hN => ?_
    simp only [sp_l_part, sSeq, sAsg, sDrop, sRet, sRetN, sIf, sNext, sPar, sPar3, sFor, sRaise, sFldT, sNo, rNo, rVar, rFrz, rC, rBin, rTest, bAnd, bOr, bNot, bIf, vAnd, vOr, vNot, rIf, rNeg, aNil, aCons, rTup, rLst, rLstC, rArgs, gNameT, gNilT, gConsT, gTupT, gSubT, iSeq, iRng1T, iRng2T, rLc, rCall, rCallN, rCallS, rFld, rCon, rMake, rMakeN, rMakeP, rMeth, rMethK, rProp, rClsFn, rOpOwn, rSl, oNone, oSome, rMut, kAdd, kI2, kI2n, kMul, kIx, kIn, kLen, kU, kA2, kDm, kStrI, kAll, kSl, kAppend, kExtend, kTuple, kList, lenT, seqOf, bYes, startT, one, pickG, selG, insOf, putT, flatT, Bool.false_xor, Bool.true_xor, List.all_cons, List.all_nil, Bool.and_self, T.int.injEq, T.bl.injEq, T.str.injEq, T.lst.injEq, T.tup.injEq, T.cell.injEq, T.ins.injEq, Cell.lst.injEq, Cell.ins.injEq, Prod.mk.injEq, List.cons.injEq, Option.some.injEq, List.map_cons, List.map_nil, List.length_cons, List.length_nil, List.cons_append, List.nil_append, List.append_nil, List.getElem?_cons_zero, List.getElem?_cons_succ, List.set_cons_zero, List.set_cons_succ, List.replicate_succ, List.replicate_zero, exists_eq_left, exists_eq_left', exists_and_left, and_true, true_and, and_self, and_assoc, Nat.sub_self, Nat.reduceAdd, Nat.reduceSub, Nat.zero_add, put_put, put_same, reduceIte, Bool.false_eq_true, Bool.true_eq_false, Bool.not_true, Bool.not_false, at_0, at_1, at_2, at_3, at_4, at_5, at_6, at_7, ix_1_0, ix_2_0, ix_2_1, ix_3_0, ix_3_1, ix_3_2, ix_4_0, ix_4_1, ix_4_2, ix_4_3]
    refine ⟨hp, fun a b S1 f1 p1 => ?_⟩
    simp only [sp_l_draw, sSeq, sAsg, sDrop, sRet, sRetN, sIf, sNext, sPar, sPar3, sFor, sRaise, sFldT, sNo, rNo, rVar, rFrz, rC, rBin, rTest, bAnd, bOr, bNot, bIf, vAnd, vOr, vNot, rIf, rNeg, aNil, aCons, rTup, rLst, rLstC, rArgs, gNameT, gNilT, gConsT, gTupT, gSubT, iSeq, iRng1T, iRng2T, rLc, rCall, rCallN, rCallS, rFld, rCon, rMake, rMakeN, rMakeP, rMeth, rMethK, rProp, rClsFn, rOpOwn, rSl, oNone, oSome, rMut, kAdd, kI2, kI2n, kMul, kIx, kIn, kLen, kU, kA2, kDm, kStrI, kAll, kSl, kAppend, kExtend, kTuple, kList, lenT, seqOf, bYes, startT, one, pickG, selG, insOf, putT, flatT, Bool.false_xor, Bool.true_xor, List.all_cons, List.all_nil, Bool.and_self, T.int.injEq, T.bl.injEq, T.str.injEq, T.lst.injEq, T.tup.injEq, T.cell.injEq, T.ins.injEq, Cell.lst.injEq, Cell.ins.injEq, Prod.mk.injEq, List.cons.injEq, Option.some.injEq, List.map_cons, List.map_nil, List.length_cons, List.length_nil, List.cons_append, List.nil_append, List.append_nil, List.getElem?_cons_zero, List.getElem?_cons_succ, List.set_cons_zero, List.set_cons_succ, List.replicate_succ, List.replicate_zero, exists_eq_left, exists_eq_left', exists_and_left, and_true, true_and, and_self, and_assoc, Nat.sub_self, Nat.reduceAdd, Nat.reduceSub, Nat.zero_add, put_put, put_same, reduceIte, Bool.false_eq_true, Bool.true_eq_false, Bool.not_true, Bool.not_false, at_0, at_1, at_2, at_3, at_4, at_5, at_6, at_7, ix_1_0, ix_2_0, ix_2_1, ix_3_0, ix_3_1, ix_3_2, ix_4_0, ix_4_1, ix_4_2, ix_4_3]
    refine ⟨p1.pool, Pn.of (by decide) (by decide), fun r S2 r0 r1 p2 => hN _ _ ?_⟩
    have p12 := p1.trans p2
    refine sSeq_i fun N hN => ?_
    simp only [sSeq, sAsg, sDrop, sRet, sRetN, sIf, sNext, sPar, sPar3, sFor, sRaise, sFldT, sNo, rNo, rVar, rFrz, rC, rBin, rTest, bAnd, bOr, bNot, bIf, vAnd, vOr, vNot, rIf, rNeg, aNil, aCons, rTup, rLst, rLstC, rArgs, gNameT, gNilT, gConsT, gTupT, gSubT, iSeq, iRng1T, iRng2T, rLc, rCall, rCallN, rCallS, rFld, rCon, rMake, rMakeN, rMakeP, rMeth, rMethK, rProp, rClsFn, rOpOwn, rSl, oNone, oSome, rMut, kAdd, kI2, kI2n, kMul, kIx, kIn, kLen, kU, kA2, kDm, kStrI, kAll, kSl, kAppend, kExtend, kTuple, kList, lenT, seqOf, bYes, startT, one, pickG, selG, insOf, putT, flatT, Bool.false_xor, Bool.true_xor, List.all_cons, List.all_nil, Bool.and_self, T.int.injEq, T.bl.injEq, T.str.injEq, T.lst.injEq, T.tup.injEq, T.cell.injEq, T.ins.injEq, Cell.lst.injEq, Cell.ins.injEq, Prod.mk.injEq, List.cons.injEq, Option.some.injEq, List.map_cons, List.map_nil, List.length_cons, List.length_nil, List.cons_append, List.nil_append, List.append_nil, List.getElem?_cons_zero, List.getElem?_cons_succ, List.set_cons_zero, List.set_cons_succ, List.replicate_succ, List.replicate_zero, exists_eq_left, exists_eq_left', exists_and_left, and_true, true_and, and_self, and_assoc, Nat.sub_self, Nat.reduceAdd, Nat.reduceSub, Nat.zero_add, put_put, put_same, reduceIte, Bool.false_eq_true, Bool.true_eq_false, Bool.not_true, Bool.not_false, at_0, at_1, at_2, at_3, at_4, at_5, at_6, at_7, ix_1_0, ix_2_0, ix_2_1, ix_3_0, ix_3_1, ix_3_2, ix_4_0, ix_4_1, ix_4_2, ix_4_3]
    refine eqI0 ⟨_, rfl, ?_⟩
    refine ite_d (fun c => ?_) (fun c => hN _ _ ?_)
    · exact ⟨by decide, q ⟨a, b, a, b⟩ _ ⟨f1.up (by decide), f1.up (by decide)⟩ p12⟩
    · refine sSeq_i fun N hN => ?_
      simp only [sSeq, sAsg, sDrop, sRet, sRetN, sIf, sNext, sPar, sPar3, sFor, sRaise, sFldT, sNo, rNo, rVar, rFrz, rC, rBin, rTest, bAnd, bOr, bNot, bIf, vAnd, vOr, vNot, rIf, rNeg, aNil, aCons, rTup, rLst, rLstC, rArgs, gNameT, gNilT, gConsT, gTupT, gSubT, iSeq, iRng1T, iRng2T, rLc, rCall, rCallN, rCallS, rFld, rCon, rMake, rMakeN, rMakeP, rMeth, rMethK, rProp, rClsFn, rOpOwn, rSl, oNone, oSome, rMut, kAdd, kI2, kI2n, kMul, kIx, kIn, kLen, kU, kA2, kDm, kStrI, kAll, kSl, kAppend, kExtend, kTuple, kList, lenT, seqOf, bYes, startT, one, pickG, selG, insOf, putT, flatT, Bool.false_xor, Bool.true_xor, List.all_cons, List.all_nil, Bool.and_self, T.int.injEq, T.bl.injEq, T.str.injEq, T.lst.injEq, T.tup.injEq, T.cell.injEq, T.ins.injEq, Cell.lst.injEq, Cell.ins.injEq, Prod.mk.injEq, List.cons.injEq, Option.some.injEq, List.map_cons, List.map_nil, List.length_cons, List.length_nil, List.cons_append, List.nil_append, List.append_nil, List.getElem?_cons_zero, List.getElem?_cons_succ, List.set_cons_zero, List.set_cons_succ, List.replicate_succ, List.replicate_zero, exists_eq_left, exists_eq_left', exists_and_left, and_true, true_and, and_self, and_assoc, Nat.sub_self, Nat.reduceAdd, Nat.reduceSub, Nat.zero_add, put_put, put_same, reduceIte, Bool.false_eq_true, Bool.true_eq_false, Bool.not_true, Bool.not_false, at_0, at_1, at_2, at_3, at_4, at_5, at_6, at_7, ix_1_0, ix_2_0, ix_2_1, ix_3_0, ix_3_1, ix_3_2, ix_4_0, ix_4_1, ix_4_2, ix_4_3]
      refine eqI0 ⟨_, rfl, ?_⟩
      refine ite_d (fun c => ?_) (fun c => hN _ _ ?_)
      · simp only [sp_l_draw, sSeq, sAsg, sDrop, sRet, sRetN, sIf, sNext, sPar, sPar3, sFor, sRaise, sFldT, sNo, rNo, rVar, rFrz, rC, rBin, rTest, bAnd, bOr, bNot, bIf, vAnd, vOr, vNot, rIf, rNeg, aNil, aCons, rTup, rLst, rLstC, rArgs, gNameT, gNilT, gConsT, gTupT, gSubT, iSeq, iRng1T, iRng2T, rLc, rCall, rCallN, rCallS, rFld, rCon, rMake, rMakeN, rMakeP, rMeth, rMethK, rProp, rClsFn, rOpOwn, rSl, oNone, oSome, rMut, kAdd, kI2, kI2n, kMul, kIx, kIn, kLen, kU, kA2, kDm, kStrI, kAll, kSl, kAppend, kExtend, kTuple, kList, lenT, seqOf, bYes, startT, one, pickG, selG, insOf, putT, flatT, Bool.false_xor, Bool.true_xor, List.all_cons, List.all_nil, Bool.and_self, T.int.injEq, T.bl.injEq, T.str.injEq, T.lst.injEq, T.tup.injEq, T.cell.injEq, T.ins.injEq, Cell.lst.injEq, Cell.ins.injEq, Prod.mk.injEq, List.cons.injEq, Option.some.injEq, List.map_cons, List.map_nil, List.length_cons, List.length_nil, List.cons_append, List.nil_append, List.append_nil, List.getElem?_cons_zero, List.getElem?_cons_succ, List.set_cons_zero, List.set_cons_succ, List.replicate_succ, List.replicate_zero, exists_eq_left, exists_eq_left', exists_and_left, and_true, true_and, and_self, and_assoc, Nat.sub_self, Nat.reduceAdd, Nat.reduceSub, Nat.zero_add, put_put, put_same, reduceIte, Bool.false_eq_true, Bool.true_eq_false, Bool.not_true, Bool.not_false, at_0, at_1, at_2, at_3, at_4, at_5, at_6, at_7, ix_1_0, ix_2_0, ix_2_1, ix_3_0, ix_3_1, ix_3_2, ix_4_0, ix_4_1, ix_4_2, ix_4_3]
        refine ⟨p12.pool, Pn.of (by decide) (by decide), fun y S3 y0 y1 p3 => ?_⟩
        refine ⟨p3.pool, Pn.of (by decide) (by decide), fun z S4' z0 z1 p4 => ?_⟩
        have py : Pn 10 (1 + y) := Pn.of (by omega) (by omega)
        have pz : Pn 10 (1 + z) := Pn.of (by omega) (by omega)
        have fl := Fr.low py pz
        simp only [sp_l_low, frT, sp_l_mul, sSeq, sAsg, sDrop, sRet, sRetN, sIf, sNext, sPar, sPar3, sFor, sRaise, sFldT, sNo, rNo, rVar, rFrz, rC, rBin, rTest, bAnd, bOr, bNot, bIf, vAnd, vOr, vNot, rIf, rNeg, aNil, aCons, rTup, rLst, rLstC, rArgs, gNameT, gNilT, gConsT, gTupT, gSubT, iSeq, iRng1T, iRng2T, rLc, rCall, rCallN, rCallS, rFld, rCon, rMake, rMakeN, rMakeP, rMeth, rMethK, rProp, rClsFn, rOpOwn, rSl, oNone, oSome, rMut, kAdd, kI2, kI2n, kMul, kIx, kIn, kLen, kU, kA2, kDm, kStrI, kAll, kSl, kAppend, kExtend, kTuple, kList, lenT, seqOf, bYes, startT, one, pickG, selG, insOf, putT, flatT, Bool.false_xor, Bool.true_xor, List.all_cons, List.all_nil, Bool.and_self, T.int.injEq, T.bl.injEq, T.str.injEq, T.lst.injEq, T.tup.injEq, T.cell.injEq, T.ins.injEq, Cell.lst.injEq, Cell.ins.injEq, Prod.mk.injEq, List.cons.injEq, Option.some.injEq, List.map_cons, List.map_nil, List.length_cons, List.length_nil, List.cons_append, List.nil_append, List.append_nil, List.getElem?_cons_zero, List.getElem?_cons_succ, List.set_cons_zero, List.set_cons_succ, List.replicate_succ, List.replicate_zero, exists_eq_left, exists_eq_left', exists_and_left, and_true, true_and, and_self, and_assoc, Nat.sub_self, Nat.reduceAdd, Nat.reduceSub, Nat.zero_add, put_put, put_same, reduceIte, Bool.false_eq_true, Bool.true_eq_false, Bool.not_true, Bool.not_false, at_0, at_1, at_2, at_3, at_4, at_5, at_6, at_7, ix_1_0, ix_2_0, ix_2_1, ix_3_0, ix_3_1, ix_3_2, ix_4_0, ix_4_1, ix_4_2, ix_4_3]
        refine ⟨py.up (by decide), pz.pos, f1.a.up (by decide), f1.b.up (by decide), fl.a.up (by decide), fl.b.up (by decide), by decide, ?_⟩
        exact q ⟨_, _, a, b⟩ _ ⟨(Fr.low (f1.a.mul fl.a) (f1.b.mul fl.b)).up (by decide), f1.up (by decide)⟩ ((p12.trans p3).trans p4)
      · simp only [sp_l_part, sSeq, sAsg, sDrop, sRet, sRetN, sIf, sNext, sPar, sPar3, sFor, sRaise, sFldT, sNo, rNo, rVar, rFrz, rC, rBin, rTest, bAnd, bOr, bNot, bIf, vAnd, vOr, vNot, rIf, rNeg, aNil, aCons, rTup, rLst, rLstC, rArgs, gNameT, gNilT, gConsT, gTupT, gSubT, iSeq, iRng1T, iRng2T, rLc, rCall, rCallN, rCallS, rFld, rCon, rMake, rMakeN, rMakeP, rMeth, rMethK, rProp, rClsFn, rOpOwn, rSl, oNone, oSome, rMut, kAdd, kI2, kI2n, kMul, kIx, kIn, kLen, kU, kA2, kDm, kStrI, kAll, kSl, kAppend, kExtend, kTuple, kList, lenT, seqOf, bYes, startT, one, pickG, selG, insOf, putT, flatT, Bool.false_xor, Bool.true_xor, List.all_cons, List.all_nil, Bool.and_self, T.int.injEq, T.bl.injEq, T.str.injEq, T.lst.injEq, T.tup.injEq, T.cell.injEq, T.ins.injEq, Cell.lst.injEq, Cell.ins.injEq, Prod.mk.injEq, List.cons.injEq, Option.some.injEq, List.map_cons, List.map_nil, List.length_cons, List.length_nil, List.cons_append, List.nil_append, List.append_nil, List.getElem?_cons_zero, List.getElem?_cons_succ, List.set_cons_zero, List.set_cons_succ, List.replicate_succ, List.replicate_zero, exists_eq_left, exists_eq_left', exists_and_left, and_true, true_and, and_self, and_assoc, Nat.sub_self, Nat.reduceAdd, Nat.reduceSub, Nat.zero_add, put_put, put_same, reduceIte, Bool.false_eq_true, Bool.true_eq_false, Bool.not_true, Bool.not_false, at_0, at_1, at_2, at_3, at_4, at_5, at_6, at_7, ix_1_0, ix_2_0, ix_2_1, ix_3_0, ix_3_1, ix_3_2, ix_4_0, ix_4_1, ix_4_2, ix_4_3]
        refine ⟨p12.pool, fun c d S3 f2 p3 => ⟨by decide, ?_⟩⟩
        exact q ⟨a, b, c, d⟩ _ ⟨f1.up (by decide), f2.up (by decide)⟩ (p12.trans p3)
  · exact h.elim
theorem sc_l_side : FnScope ["_law_pool_here", "_law_great", "_law_most"] ["_law_pool_here", "_law_great"] (defScope s_l_side) := ⟨rfl, rfl, rfl, by decide +kernel, rfl, by decide +kernel, by decide +kernel⟩
def sp_l_side : SpT := fun ts S R _ => match ts with
  | [.cell p, .bl true] => PoolT S p ∧ ∀ w S', Bx w → PS S p S' → R (.int w) S'
  | _ => False
theorem ok_l_side {P : Program} {w : World} {K : PySem.W.Frag} {mg : Str → Option Value} {base : Heap} {f : Addr} {fd : FuncData} {g_l_draw : Addr} {gd_l_draw : FuncData} (F : Fun K "_law_side" "_law_side" s_l_side f fd)
    (G_l_draw : FnT P w K mg base 1 g_l_draw gd_l_draw ["_law_pool_here", "_law_most"] sp_l_draw)
    (m_l_draw : mg "_law_draw" = some (.ref g_l_draw))
    (k_l_draw : PySem.W.keepIn K (.ref g_l_draw) = true)
    (b_l_draw : Binds K gd_l_draw ["_law_pool_here", "_law_most"] [])
    : FnT P w K mg base 2 f fd ["_law_pool_here", "_law_great"] sp_l_side := by
  refine okT F sc_l_side (by intro ts S R RE h; unfold sp_l_side at h; split at h <;> first | rfl | exact h.elim) (fun cdv A out s H E hg hr => (bs_cons (ss_set (i := 2) sc_l_side.nd rfl (by first | exact Or.inl rfl | exact Or.inr rfl) (et_ix ix_seq cv_ix (et_lst (at_cons et_int (at_cons et_int (at_cons et_int (at_cons (et_if (tt_val (et_var (pv 1))) (et_op op_pow cv_I2 et_int et_int) et_int) at_nil))))) (et_callD G_l_draw hg (hr.mono (by decide)) (by rfl) m_l_draw k_l_draw (CallD.all b_l_draw) (passL2N (L2N.takes_of rfl rfl rfl rfl)) (at_cons (et_var (pv 0)) (at_cons et_int at_nil))) (fun _ _ => rfl)))
    (bs_one (ss_ret (et_op op_addG cv_add et_int (et_callD G_l_draw hg (hr.mono (by decide)) (by rfl) m_l_draw k_l_draw (CallD.all b_l_draw) (passL2N (L2N.takes_of rfl rfl rfl rfl)) (at_cons (et_var (pv 0)) (at_cons (et_var (pv 2)) at_nil)))))))) ?_
  intro ts S R RE h
  unfold sp_l_side at h
  split at h
  · rename_i p
    obtain ⟨hp, q⟩ := h
    refine sSeq_i fun N hN => ?_
    simp only [sSeq, sAsg, sDrop, sRet, sRetN, sIf, sNext, sPar, sPar3, sFor, sRaise, sFldT, sNo, rNo, rVar, rFrz, rC, rBin, rTest, bAnd, bOr, bNot, bIf, vAnd, vOr, vNot, rIf, rNeg, aNil, aCons, rTup, rLst, rLstC, rArgs, gNameT, gNilT, gConsT, gTupT, gSubT, iSeq, iRng1T, iRng2T, rLc, rCall, rCallN, rCallS, rFld, rCon, rMake, rMakeN, rMakeP, rMeth, rMethK, rProp, rClsFn, rOpOwn, rSl, oNone, oSome, rMut, kAdd, kI2, kI2n, kMul, kIx, kIn, kLen, kU, kA2, kDm, kStrI, kAll, kSl, kAppend, kExtend, kTuple, kList, lenT, seqOf, bYes, startT, one, pickG, selG, insOf, putT, flatT, Bool.false_xor, Bool.true_xor, List.all_cons, List.all_nil, Bool.and_self, T.int.injEq, T.bl.injEq, T.str.injEq, T.lst.injEq, T.tup.injEq, T.cell.injEq, T.ins.injEq, Cell.lst.injEq, Cell.ins.injEq, Prod.mk.injEq, List.cons.injEq, Option.some.injEq, List.map_cons, List.map_nil, List.length_cons, List.length_nil, List.cons_append, List.nil_append, List.append_nil, List.getElem?_cons_zero, List.getElem?_cons_succ, List.set_cons_zero, List.set_cons_succ, List.replicate_succ, List.replicate_zero, exists_eq_left, exists_eq_left', exists_and_left, and_true, true_and, and_self, and_assoc, Nat.sub_self, Nat.reduceAdd, Nat.reduceSub, Nat.zero_add, put_put, put_same, reduceIte, Bool.false_eq_true, Bool.true_eq_false, Bool.not_true, Bool.not_false, at_0, at_1, at_2, at_3, at_4, at_5, at_6, at_7, ix_1_0, ix_2_0, ix_2_1, ix_3_0, ix_3_1, ix_3_2, ix_4_0, ix_4_1, ix_4_2, ix_4_3]
    refine ⟨⟨by decide, by decide, by decide⟩, ?_⟩
    simp only [sp_l_draw, sSeq, sAsg, sDrop, sRet, sRetN, sIf, sNext, sPar, sPar3, sFor, sRaise, sFldT, sNo, rNo, rVar, rFrz, rC, rBin, rTest, bAnd, bOr, bNot, bIf, vAnd, vOr, vNot, rIf, rNeg, aNil, aCons, rTup, rLst, rLstC, rArgs, gNameT, gNilT, gConsT, gTupT, gSubT, iSeq, iRng1T, iRng2T, rLc, rCall, rCallN, rCallS, rFld, rCon, rMake, rMakeN, rMakeP, rMeth, rMethK, rProp, rClsFn, rOpOwn, rSl, oNone, oSome, rMut, kAdd, kI2, kI2n, kMul, kIx, kIn, kLen, kU, kA2, kDm, kStrI, kAll, kSl, kAppend, kExtend, kTuple, kList, lenT, seqOf, bYes, startT, one, pickG, selG, insOf, putT, flatT, Bool.false_xor, Bool.true_xor, List.all_cons, List.all_nil, Bool.and_self, T.int.injEq, T.bl.injEq, T.str.injEq, T.lst.injEq, T.tup.injEq, T.cell.injEq, T.ins.injEq, Cell.lst.injEq, Cell.ins.injEq, Prod.mk.injEq, List.cons.injEq, Option.some.injEq, List.map_cons, List.map_nil, List.length_cons, List.length_nil, List.cons_append, List.nil_append, List.append_nil, List.getElem?_cons_zero, List.getElem?_cons_succ, List.set_cons_zero, List.set_cons_succ, List.replicate_succ, List.replicate_zero, exists_eq_left, exists_eq_left', exists_and_left, and_true, true_and, and_self, and_assoc, Nat.sub_self, Nat.reduceAdd, Nat.reduceSub, Nat.zero_add, put_put, put_same, reduceIte, Bool.false_eq_true, Bool.true_eq_false, Bool.not_true, Bool.not_false, at_0, at_1, at_2, at_3, at_4, at_5, at_6, at_7, ix_1_0, ix_2_0, ix_2_1, ix_3_0, ix_3_1, ix_3_2, ix_4_0, ix_4_1, ix_4_2, ix_4_3]
    refine ⟨by decide, hp, Pn.of (by decide) (by decide), fun r S1 r0 r1 p1 => ?_⟩
    have fin : ∀ m : Int, 0 < m → m ≤ 1000000 → (∃ t, T.int m = t ∧ N [some (.cell p), some (.bl true), some t] S1) := fun m m0 m1 => by
      refine ⟨_, rfl, hN _ _ ?_⟩
      simp only [sp_l_draw, sSeq, sAsg, sDrop, sRet, sRetN, sIf, sNext, sPar, sPar3, sFor, sRaise, sFldT, sNo, rNo, rVar, rFrz, rC, rBin, rTest, bAnd, bOr, bNot, bIf, vAnd, vOr, vNot, rIf, rNeg, aNil, aCons, rTup, rLst, rLstC, rArgs, gNameT, gNilT, gConsT, gTupT, gSubT, iSeq, iRng1T, iRng2T, rLc, rCall, rCallN, rCallS, rFld, rCon, rMake, rMakeN, rMakeP, rMeth, rMethK, rProp, rClsFn, rOpOwn, rSl, oNone, oSome, rMut, kAdd, kI2, kI2n, kMul, kIx, kIn, kLen, kU, kA2, kDm, kStrI, kAll, kSl, kAppend, kExtend, kTuple, kList, lenT, seqOf, bYes, startT, one, pickG, selG, insOf, putT, flatT, Bool.false_xor, Bool.true_xor, List.all_cons, List.all_nil, Bool.and_self, T.int.injEq, T.bl.injEq, T.str.injEq, T.lst.injEq, T.tup.injEq, T.cell.injEq, T.ins.injEq, Cell.lst.injEq, Cell.ins.injEq, Prod.mk.injEq, List.cons.injEq, Option.some.injEq, List.map_cons, List.map_nil, List.length_cons, List.length_nil, List.cons_append, List.nil_append, List.append_nil, List.getElem?_cons_zero, List.getElem?_cons_succ, List.set_cons_zero, List.set_cons_succ, List.replicate_succ, List.replicate_zero, exists_eq_left, exists_eq_left', exists_and_left, and_true, true_and, and_self, and_assoc, Nat.sub_self, Nat.reduceAdd, Nat.reduceSub, Nat.zero_add, put_put, put_same, reduceIte, Bool.false_eq_true, Bool.true_eq_false, Bool.not_true, Bool.not_false, at_0, at_1, at_2, at_3, at_4, at_5, at_6, at_7, ix_1_0, ix_2_0, ix_2_1, ix_3_0, ix_3_1, ix_3_2, ix_4_0, ix_4_1, ix_4_2, ix_4_3]
      exact ⟨p1.pool, Pn.of m0 (by omega), fun z S2 z0 z1 p2 => q _ _ ⟨by omega, by omega⟩ (p1.trans p2)⟩
    have hr : r = 0 ∨ r = 1 ∨ r = 2 ∨ r = 3 := by omega
    rcases hr with rfl | rfl | rfl | rfl
    · obtain ⟨_, rfl, k⟩ := fin 4 (by decide) (by decide)
      simp only [sSeq, sAsg, sDrop, sRet, sRetN, sIf, sNext, sPar, sPar3, sFor, sRaise, sFldT, sNo, rNo, rVar, rFrz, rC, rBin, rTest, bAnd, bOr, bNot, bIf, vAnd, vOr, vNot, rIf, rNeg, aNil, aCons, rTup, rLst, rLstC, rArgs, gNameT, gNilT, gConsT, gTupT, gSubT, iSeq, iRng1T, iRng2T, rLc, rCall, rCallN, rCallS, rFld, rCon, rMake, rMakeN, rMakeP, rMeth, rMethK, rProp, rClsFn, rOpOwn, rSl, oNone, oSome, rMut, kAdd, kI2, kI2n, kMul, kIx, kIn, kLen, kU, kA2, kDm, kStrI, kAll, kSl, kAppend, kExtend, kTuple, kList, lenT, seqOf, bYes, startT, one, pickG, selG, insOf, putT, flatT, Bool.false_xor, Bool.true_xor, List.all_cons, List.all_nil, Bool.and_self, T.int.injEq, T.bl.injEq, T.str.injEq, T.lst.injEq, T.tup.injEq, T.cell.injEq, T.ins.injEq, Cell.lst.injEq, Cell.ins.injEq, Prod.mk.injEq, List.cons.injEq, Option.some.injEq, List.map_cons, List.map_nil, List.length_cons, List.length_nil, List.cons_append, List.nil_append, List.append_nil, List.getElem?_cons_zero, List.getElem?_cons_succ, List.set_cons_zero, List.set_cons_succ, List.replicate_succ, List.replicate_zero, exists_eq_left, exists_eq_left', exists_and_left, and_true, true_and, and_self, and_assoc, Nat.sub_self, Nat.reduceAdd, Nat.reduceSub, Nat.zero_add, put_put, put_same, reduceIte, Bool.false_eq_true, Bool.true_eq_false, Bool.not_true, Bool.not_false, at_0, at_1, at_2, at_3, at_4, at_5, at_6, at_7, ix_1_0, ix_2_0, ix_2_1, ix_3_0, ix_3_1, ix_3_2, ix_4_0, ix_4_1, ix_4_2, ix_4_3]
      exact k
    · obtain ⟨_, rfl, k⟩ := fin 12 (by decide) (by decide)
      simp only [sSeq, sAsg, sDrop, sRet, sRetN, sIf, sNext, sPar, sPar3, sFor, sRaise, sFldT, sNo, rNo, rVar, rFrz, rC, rBin, rTest, bAnd, bOr, bNot, bIf, vAnd, vOr, vNot, rIf, rNeg, aNil, aCons, rTup, rLst, rLstC, rArgs, gNameT, gNilT, gConsT, gTupT, gSubT, iSeq, iRng1T, iRng2T, rLc, rCall, rCallN, rCallS, rFld, rCon, rMake, rMakeN, rMakeP, rMeth, rMethK, rProp, rClsFn, rOpOwn, rSl, oNone, oSome, rMut, kAdd, kI2, kI2n, kMul, kIx, kIn, kLen, kU, kA2, kDm, kStrI, kAll, kSl, kAppend, kExtend, kTuple, kList, lenT, seqOf, bYes, startT, one, pickG, selG, insOf, putT, flatT, Bool.false_xor, Bool.true_xor, List.all_cons, List.all_nil, Bool.and_self, T.int.injEq, T.bl.injEq, T.str.injEq, T.lst.injEq, T.tup.injEq, T.cell.injEq, T.ins.injEq, Cell.lst.injEq, Cell.ins.injEq, Prod.mk.injEq, List.cons.injEq, Option.some.injEq, List.map_cons, List.map_nil, List.length_cons, List.length_nil, List.cons_append, List.nil_append, List.append_nil, List.getElem?_cons_zero, List.getElem?_cons_succ, List.set_cons_zero, List.set_cons_succ, List.replicate_succ, List.replicate_zero, exists_eq_left, exists_eq_left', exists_and_left, and_true, true_and, and_self, and_assoc, Nat.sub_self, Nat.reduceAdd, Nat.reduceSub, Nat.zero_add, put_put, put_same, reduceIte, Bool.false_eq_true, Bool.true_eq_false, Bool.not_true, Bool.not_false, at_0, at_1, at_2, at_3, at_4, at_5, at_6, at_7, ix_1_0, ix_2_0, ix_2_1, ix_3_0, ix_3_1, ix_3_2, ix_4_0, ix_4_1, ix_4_2, ix_4_3]
      exact k
    · obtain ⟨_, rfl, k⟩ := fin 1000 (by decide) (by decide)
      simp only [sSeq, sAsg, sDrop, sRet, sRetN, sIf, sNext, sPar, sPar3, sFor, sRaise, sFldT, sNo, rNo, rVar, rFrz, rC, rBin, rTest, bAnd, bOr, bNot, bIf, vAnd, vOr, vNot, rIf, rNeg, aNil, aCons, rTup, rLst, rLstC, rArgs, gNameT, gNilT, gConsT, gTupT, gSubT, iSeq, iRng1T, iRng2T, rLc, rCall, rCallN, rCallS, rFld, rCon, rMake, rMakeN, rMakeP, rMeth, rMethK, rProp, rClsFn, rOpOwn, rSl, oNone, oSome, rMut, kAdd, kI2, kI2n, kMul, kIx, kIn, kLen, kU, kA2, kDm, kStrI, kAll, kSl, kAppend, kExtend, kTuple, kList, lenT, seqOf, bYes, startT, one, pickG, selG, insOf, putT, flatT, Bool.false_xor, Bool.true_xor, List.all_cons, List.all_nil, Bool.and_self, T.int.injEq, T.bl.injEq, T.str.injEq, T.lst.injEq, T.tup.injEq, T.cell.injEq, T.ins.injEq, Cell.lst.injEq, Cell.ins.injEq, Prod.mk.injEq, List.cons.injEq, Option.some.injEq, List.map_cons, List.map_nil, List.length_cons, List.length_nil, List.cons_append, List.nil_append, List.append_nil, List.getElem?_cons_zero, List.getElem?_cons_succ, List.set_cons_zero, List.set_cons_succ, List.replicate_succ, List.replicate_zero, exists_eq_left, exists_eq_left', exists_and_left, and_true, true_and, and_self, and_assoc, Nat.sub_self, Nat.reduceAdd, Nat.reduceSub, Nat.zero_add, put_put, put_same, reduceIte, Bool.false_eq_true, Bool.true_eq_false, Bool.not_true, Bool.not_false, at_0, at_1, at_2, at_3, at_4, at_5, at_6, at_7, ix_1_0, ix_2_0, ix_2_1, ix_3_0, ix_3_1, ix_3_2, ix_4_0, ix_4_1, ix_4_2, ix_4_3]
      exact k
    · obtain ⟨_, rfl, k⟩ := fin (10 ^ 6) (by decide) (by decide)
      simp only [sSeq, sAsg, sDrop, sRet, sRetN, sIf, sNext, sPar, sPar3, sFor, sRaise, sFldT, sNo, rNo, rVar, rFrz, rC, rBin, rTest, bAnd, bOr, bNot, bIf, vAnd, vOr, vNot, rIf, rNeg, aNil, aCons, rTup, rLst, rLstC, rArgs, gNameT, gNilT, gConsT, gTupT, gSubT, iSeq, iRng1T, iRng2T, rLc, rCall, rCallN, rCallS, rFld, rCon, rMake, rMakeN, rMakeP, rMeth, rMethK, rProp, rClsFn, rOpOwn, rSl, oNone, oSome, rMut, kAdd, kI2, kI2n, kMul, kIx, kIn, kLen, kU, kA2, kDm, kStrI, kAll, kSl, kAppend, kExtend, kTuple, kList, lenT, seqOf, bYes, startT, one, pickG, selG, insOf, putT, flatT, Bool.false_xor, Bool.true_xor, List.all_cons, List.all_nil, Bool.and_self, T.int.injEq, T.bl.injEq, T.str.injEq, T.lst.injEq, T.tup.injEq, T.cell.injEq, T.ins.injEq, Cell.lst.injEq, Cell.ins.injEq, Prod.mk.injEq, List.cons.injEq, Option.some.injEq, List.map_cons, List.map_nil, List.length_cons, List.length_nil, List.cons_append, List.nil_append, List.append_nil, List.getElem?_cons_zero, List.getElem?_cons_succ, List.set_cons_zero, List.set_cons_succ, List.replicate_succ, List.replicate_zero, exists_eq_left, exists_eq_left', exists_and_left, and_true, true_and, and_self, and_assoc, Nat.sub_self, Nat.reduceAdd, Nat.reduceSub, Nat.zero_add, put_put, put_same, reduceIte, Bool.false_eq_true, Bool.true_eq_false, Bool.not_true, Bool.not_false, at_0, at_1, at_2, at_3, at_4, at_5, at_6, at_7, ix_1_0, ix_2_0, ix_2_1, ix_3_0, ix_3_1, ix_3_2, ix_4_0, ix_4_1, ix_4_2, ix_4_3]
      exact k
  · exact h.elim
/-- the law's word for a scaling -/
def scT (g : Bool) (w h : Int) (c : Bool) : T := .tup [.str (if g = true then "grow" else "shrink"), .int w, .int h, .bl c]
def scC (CS CG : Addr) (g : Bool) : Addr := if g = true then CG else CS
theorem sg : decide (("shrink" : Str) = "grow") = false := by decide +kernel
theorem gs_ : decide (("grow" : Str) = "shrink") = false := by decide +kernel
theorem ss_ : decide (("shrink" : Str) = "shrink") = true := by decide +kernel
theorem gg : decide (("grow" : Str) = "grow") = true := by decide +kernel
theorem in_s : inT (.str "shrink") [.str "shrink", .str "grow"] = true := by decide +kernel
theorem in_g : inT (.str "grow") [.str "shrink", .str "grow"] = true := by decide +kernel
theorem inSt {a : Str} {l : List T} {S : Store} {R : T → Store → Prop} {RE : XT} {v : Bool} (hl : l.all flatT = true) (e : inT (.str a) l = v) (q : R (.bl v) S) : kIn false (.str a) (.tup l) S R RE := ⟨l, rfl, rfl, hl, by rw [e, Bool.false_xor]; exact q⟩
theorem sc_l_made : FnScope ["_law_spec"] ["_law_spec"] (defScope s_l_made) := ⟨rfl, rfl, rfl, by decide +kernel, rfl, by decide +kernel, by decide +kernel⟩
def sp_l_made (CS CG : Addr) : SpT := fun ts S R _ => match ts with
  | [x] => ∃ g w h c, x = scT g w h c ∧ Bx w ∧ Bx h ∧ R (.ins (scC CS CG g) (stF w h c)) S
  | _ => False
theorem ok_l_made {P : Program} {w : World} {K : PySem.W.Frag} {mg : Str → Option Value} {base : Heap} {f : Addr} {fd : FuncData} {g_Grow_init C_Grow g_Shrink_init C_Shrink : Addr} {gd_Grow_init : FuncData} {gd_Shrink_init : FuncData} (F : Fun K "_law_made" "_law_made" s_l_made f fd)
    (G_Grow_init : FnT P w K mg base 5 g_Grow_init gd_Grow_init ["self", "width", "height", "cover"] (sp_Grow_init C_Grow))
    (kb_Grow_init_3_cover : CallB K gd_Grow_init ["self", "width", "height", "cover"] 3 ["cover"] (fun ts zs => pickG [(0, 0), (0, 1), (0, 2), (2, 0)] ts [] zs))
    (G_Shrink_init : FnT P w K mg base 5 g_Shrink_init gd_Shrink_init ["self", "width", "height", "cover"] (sp_Shrink_init C_Shrink))
    (kb_Shrink_init_3_cover : CallB K gd_Shrink_init ["self", "width", "height", "cover"] 3 ["cover"] (fun ts zs => pickG [(0, 0), (0, 1), (0, 2), (2, 0)] ts [] zs))
    (m_Grow : mg "Grow" = some (.ref C_Grow))
    (M_Grow : Mk K C_Grow g_Grow_init)
    (m_Shrink : mg "Shrink" = some (.ref C_Shrink))
    (M_Shrink : Mk K C_Shrink g_Shrink_init)
    : FnT P w K mg base 7 f fd ["_law_spec"] (sp_l_made C_Shrink C_Grow) := by
  refine okT F sc_l_made (by intro ts S R RE h; unfold sp_l_made at h; split at h <;> first | rfl | exact h.elim) (fun cdv A out s H E hg hr => (bs_cons (ss_if (tt_cmp (op_eqG hr.units) cv_eq (et_ix ix_seq cv_ix (et_var (pv 0)) et_int (fun _ _ => rfl)) et_str (nomark _)) (bs_one (ss_ret (et_makeN (n := 2) M_Shrink G_Shrink_init hg (hr.mono (by decide)) (by rfl) m_Shrink kb_Shrink_init_3_cover (passL2N (L2N.takes_of rfl rfl rfl rfl)) (at_cons (et_ix ix_seq cv_ix (et_var (pv 0)) et_int (fun _ _ => rfl)) (at_cons (et_ix ix_seq cv_ix (et_var (pv 0)) et_int (fun _ _ => rfl)) at_nil)) (kt_cons (et_ix ix_seq cv_ix (et_var (pv 0)) et_int (fun _ _ => rfl)) kt_nil)))) bs_nil)
    (bs_cons (ss_if (tt_cmp (op_eqG hr.units) cv_eq (et_ix ix_seq cv_ix (et_var (pv 0)) et_int (fun _ _ => rfl)) et_str (nomark _)) (bs_one (ss_ret (et_makeN (n := 2) M_Grow G_Grow_init hg (hr.mono (by decide)) (by rfl) m_Grow kb_Grow_init_3_cover (passL2N (L2N.takes_of rfl rfl rfl rfl)) (at_cons (et_ix ix_seq cv_ix (et_var (pv 0)) et_int (fun _ _ => rfl)) (at_cons (et_ix ix_seq cv_ix (et_var (pv 0)) et_int (fun _ _ => rfl)) at_nil)) (kt_cons (et_ix ix_seq cv_ix (et_var (pv 0)) et_int (fun _ _ => rfl)) kt_nil)))) bs_nil)
    (bs_cons (ss_if (tt_cmp (op_eqG hr.units) cv_eq (et_ix ix_seq cv_ix (et_var (pv 0)) et_int (fun _ _ => rfl)) et_str (nomark _)) (bs_one ss_never) bs_nil)
    (bs_cons (ss_if (tt_cmp (op_eqG hr.units) cv_eq (et_ix ix_seq cv_ix (et_var (pv 0)) et_int (fun _ _ => rfl)) et_str (nomark _)) (bs_one ss_never) bs_nil)
    (bs_cons (ss_if (tt_cmp (op_eqG hr.units) cv_eq (et_ix ix_seq cv_ix (et_var (pv 0)) et_int (fun _ _ => rfl)) et_str (nomark _)) (bs_one ss_never) bs_nil)
    (bs_one ss_never))))))) ?_
  intro ts S R RE h
  unfold sp_l_made at h
  split at h
  · rename_i x
    obtain ⟨g, w, h, c, rfl, hw, hh, q⟩ := h
    cases g with
    | false =>
      refine sSeq_i fun N hN => ?_
      simp only [scT, sSeq, sAsg, sDrop, sRet, sRetN, sIf, sNext, sPar, sPar3, sFor, sRaise, sFldT, sNo, rNo, rVar, rFrz, rC, rBin, rTest, bAnd, bOr, bNot, bIf, vAnd, vOr, vNot, rIf, rNeg, aNil, aCons, rTup, rLst, rLstC, rArgs, gNameT, gNilT, gConsT, gTupT, gSubT, iSeq, iRng1T, iRng2T, rLc, rCall, rCallN, rCallS, rFld, rCon, rMake, rMakeN, rMakeP, rMeth, rMethK, rProp, rClsFn, rOpOwn, rSl, oNone, oSome, rMut, kAdd, kI2, kI2n, kMul, kIx, kIn, kLen, kU, kA2, kDm, kStrI, kAll, kSl, kAppend, kExtend, kTuple, kList, lenT, seqOf, bYes, startT, one, pickG, selG, insOf, putT, flatT, Bool.false_xor, Bool.true_xor, List.all_cons, List.all_nil, Bool.and_self, T.int.injEq, T.bl.injEq, T.str.injEq, T.lst.injEq, T.tup.injEq, T.cell.injEq, T.ins.injEq, Cell.lst.injEq, Cell.ins.injEq, Prod.mk.injEq, List.cons.injEq, Option.some.injEq, List.map_cons, List.map_nil, List.length_cons, List.length_nil, List.cons_append, List.nil_append, List.append_nil, List.getElem?_cons_zero, List.getElem?_cons_succ, List.set_cons_zero, List.set_cons_succ, List.replicate_succ, List.replicate_zero, exists_eq_left, exists_eq_left', exists_and_left, and_true, true_and, and_self, and_assoc, Nat.sub_self, Nat.reduceAdd, Nat.reduceSub, Nat.zero_add, put_put, put_same, reduceIte, Bool.false_eq_true, Bool.true_eq_false, Bool.not_true, Bool.not_false, at_0, at_1, at_2, at_3, at_4, at_5, at_6, at_7, ix_1_0, ix_2_0, ix_2_1, ix_3_0, ix_3_1, ix_3_2, ix_4_0, ix_4_1, ix_4_2, ix_4_3]
      refine eqSt ss_ ⟨true, rfl, ?_⟩
      simp only [sSeq, sAsg, sDrop, sRet, sRetN, sIf, sNext, sPar, sPar3, sFor, sRaise, sFldT, sNo, rNo, rVar, rFrz, rC, rBin, rTest, bAnd, bOr, bNot, bIf, vAnd, vOr, vNot, rIf, rNeg, aNil, aCons, rTup, rLst, rLstC, rArgs, gNameT, gNilT, gConsT, gTupT, gSubT, iSeq, iRng1T, iRng2T, rLc, rCall, rCallN, rCallS, rFld, rCon, rMake, rMakeN, rMakeP, rMeth, rMethK, rProp, rClsFn, rOpOwn, rSl, oNone, oSome, rMut, kAdd, kI2, kI2n, kMul, kIx, kIn, kLen, kU, kA2, kDm, kStrI, kAll, kSl, kAppend, kExtend, kTuple, kList, lenT, seqOf, bYes, startT, one, pickG, selG, insOf, putT, flatT, Bool.false_xor, Bool.true_xor, List.all_cons, List.all_nil, Bool.and_self, T.int.injEq, T.bl.injEq, T.str.injEq, T.lst.injEq, T.tup.injEq, T.cell.injEq, T.ins.injEq, Cell.lst.injEq, Cell.ins.injEq, Prod.mk.injEq, List.cons.injEq, Option.some.injEq, List.map_cons, List.map_nil, List.length_cons, List.length_nil, List.cons_append, List.nil_append, List.append_nil, List.getElem?_cons_zero, List.getElem?_cons_succ, List.set_cons_zero, List.set_cons_succ, List.replicate_succ, List.replicate_zero, exists_eq_left, exists_eq_left', exists_and_left, and_true, true_and, and_self, and_assoc, Nat.sub_self, Nat.reduceAdd, Nat.reduceSub, Nat.zero_add, put_put, put_same, reduceIte, Bool.false_eq_true, Bool.true_eq_false, Bool.not_true, Bool.not_false, at_0, at_1, at_2, at_3, at_4, at_5, at_6, at_7, ix_1_0, ix_2_0, ix_2_1, ix_3_0, ix_3_1, ix_3_2, ix_4_0, ix_4_1, ix_4_2, ix_4_3]
      exact mk_shrink hw hh q
    | true =>
      refine sSeq_i fun N hN => ?_
      simp only [scT, sSeq, sAsg, sDrop, sRet, sRetN, sIf, sNext, sPar, sPar3, sFor, sRaise, sFldT, sNo, rNo, rVar, rFrz, rC, rBin, rTest, bAnd, bOr, bNot, bIf, vAnd, vOr, vNot, rIf, rNeg, aNil, aCons, rTup, rLst, rLstC, rArgs, gNameT, gNilT, gConsT, gTupT, gSubT, iSeq, iRng1T, iRng2T, rLc, rCall, rCallN, rCallS, rFld, rCon, rMake, rMakeN, rMakeP, rMeth, rMethK, rProp, rClsFn, rOpOwn, rSl, oNone, oSome, rMut, kAdd, kI2, kI2n, kMul, kIx, kIn, kLen, kU, kA2, kDm, kStrI, kAll, kSl, kAppend, kExtend, kTuple, kList, lenT, seqOf, bYes, startT, one, pickG, selG, insOf, putT, flatT, Bool.false_xor, Bool.true_xor, List.all_cons, List.all_nil, Bool.and_self, T.int.injEq, T.bl.injEq, T.str.injEq, T.lst.injEq, T.tup.injEq, T.cell.injEq, T.ins.injEq, Cell.lst.injEq, Cell.ins.injEq, Prod.mk.injEq, List.cons.injEq, Option.some.injEq, List.map_cons, List.map_nil, List.length_cons, List.length_nil, List.cons_append, List.nil_append, List.append_nil, List.getElem?_cons_zero, List.getElem?_cons_succ, List.set_cons_zero, List.set_cons_succ, List.replicate_succ, List.replicate_zero, exists_eq_left, exists_eq_left', exists_and_left, and_true, true_and, and_self, and_assoc, Nat.sub_self, Nat.reduceAdd, Nat.reduceSub, Nat.zero_add, put_put, put_same, reduceIte, Bool.false_eq_true, Bool.true_eq_false, Bool.not_true, Bool.not_false, at_0, at_1, at_2, at_3, at_4, at_5, at_6, at_7, ix_1_0, ix_2_0, ix_2_1, ix_3_0, ix_3_1, ix_3_2, ix_4_0, ix_4_1, ix_4_2, ix_4_3]
      refine eqSt gs_ ⟨false, rfl, ?_⟩
      simp only [sSeq, sAsg, sDrop, sRet, sRetN, sIf, sNext, sPar, sPar3, sFor, sRaise, sFldT, sNo, rNo, rVar, rFrz, rC, rBin, rTest, bAnd, bOr, bNot, bIf, vAnd, vOr, vNot, rIf, rNeg, aNil, aCons, rTup, rLst, rLstC, rArgs, gNameT, gNilT, gConsT, gTupT, gSubT, iSeq, iRng1T, iRng2T, rLc, rCall, rCallN, rCallS, rFld, rCon, rMake, rMakeN, rMakeP, rMeth, rMethK, rProp, rClsFn, rOpOwn, rSl, oNone, oSome, rMut, kAdd, kI2, kI2n, kMul, kIx, kIn, kLen, kU, kA2, kDm, kStrI, kAll, kSl, kAppend, kExtend, kTuple, kList, lenT, seqOf, bYes, startT, one, pickG, selG, insOf, putT, flatT, Bool.false_xor, Bool.true_xor, List.all_cons, List.all_nil, Bool.and_self, T.int.injEq, T.bl.injEq, T.str.injEq, T.lst.injEq, T.tup.injEq, T.cell.injEq, T.ins.injEq, Cell.lst.injEq, Cell.ins.injEq, Prod.mk.injEq, List.cons.injEq, Option.some.injEq, List.map_cons, List.map_nil, List.length_cons, List.length_nil, List.cons_append, List.nil_append, List.append_nil, List.getElem?_cons_zero, List.getElem?_cons_succ, List.set_cons_zero, List.set_cons_succ, List.replicate_succ, List.replicate_zero, exists_eq_left, exists_eq_left', exists_and_left, and_true, true_and, and_self, and_assoc, Nat.sub_self, Nat.reduceAdd, Nat.reduceSub, Nat.zero_add, put_put, put_same, reduceIte, Bool.false_eq_true, Bool.true_eq_false, Bool.not_true, Bool.not_false, at_0, at_1, at_2, at_3, at_4, at_5, at_6, at_7, ix_1_0, ix_2_0, ix_2_1, ix_3_0, ix_3_1, ix_3_2, ix_4_0, ix_4_1, ix_4_2, ix_4_3]
      refine hN _ _ ?_
      refine sSeq_i fun N hN => ?_
      simp only [sSeq, sAsg, sDrop, sRet, sRetN, sIf, sNext, sPar, sPar3, sFor, sRaise, sFldT, sNo, rNo, rVar, rFrz, rC, rBin, rTest, bAnd, bOr, bNot, bIf, vAnd, vOr, vNot, rIf, rNeg, aNil, aCons, rTup, rLst, rLstC, rArgs, gNameT, gNilT, gConsT, gTupT, gSubT, iSeq, iRng1T, iRng2T, rLc, rCall, rCallN, rCallS, rFld, rCon, rMake, rMakeN, rMakeP, rMeth, rMethK, rProp, rClsFn, rOpOwn, rSl, oNone, oSome, rMut, kAdd, kI2, kI2n, kMul, kIx, kIn, kLen, kU, kA2, kDm, kStrI, kAll, kSl, kAppend, kExtend, kTuple, kList, lenT, seqOf, bYes, startT, one, pickG, selG, insOf, putT, flatT, Bool.false_xor, Bool.true_xor, List.all_cons, List.all_nil, Bool.and_self, T.int.injEq, T.bl.injEq, T.str.injEq, T.lst.injEq, T.tup.injEq, T.cell.injEq, T.ins.injEq, Cell.lst.injEq, Cell.ins.injEq, Prod.mk.injEq, List.cons.injEq, Option.some.injEq, List.map_cons, List.map_nil, List.length_cons, List.length_nil, List.cons_append, List.nil_append, List.append_nil, List.getElem?_cons_zero, List.getElem?_cons_succ, List.set_cons_zero, List.set_cons_succ, List.replicate_succ, List.replicate_zero, exists_eq_left, exists_eq_left', exists_and_left, and_true, true_and, and_self, and_assoc, Nat.sub_self, Nat.reduceAdd, Nat.reduceSub, Nat.zero_add, put_put, put_same, reduceIte, Bool.false_eq_true, Bool.true_eq_false, Bool.not_true, Bool.not_false, at_0, at_1, at_2, at_3, at_4, at_5, at_6, at_7, ix_1_0, ix_2_0, ix_2_1, ix_3_0, ix_3_1, ix_3_2, ix_4_0, ix_4_1, ix_4_2, ix_4_3]
      refine eqSt gg ⟨true, rfl, ?_⟩
      simp only [sSeq, sAsg, sDrop, sRet, sRetN, sIf, sNext, sPar, sPar3, sFor, sRaise, sFldT, sNo, rNo, rVar, rFrz, rC, rBin, rTest, bAnd, bOr, bNot, bIf, vAnd, vOr, vNot, rIf, rNeg, aNil, aCons, rTup, rLst, rLstC, rArgs, gNameT, gNilT, gConsT, gTupT, gSubT, iSeq, iRng1T, iRng2T, rLc, rCall, rCallN, rCallS, rFld, rCon, rMake, rMakeN, rMakeP, rMeth, rMethK, rProp, rClsFn, rOpOwn, rSl, oNone, oSome, rMut, kAdd, kI2, kI2n, kMul, kIx, kIn, kLen, kU, kA2, kDm, kStrI, kAll, kSl, kAppend, kExtend, kTuple, kList, lenT, seqOf, bYes, startT, one, pickG, selG, insOf, putT, flatT, Bool.false_xor, Bool.true_xor, List.all_cons, List.all_nil, Bool.and_self, T.int.injEq, T.bl.injEq, T.str.injEq, T.lst.injEq, T.tup.injEq, T.cell.injEq, T.ins.injEq, Cell.lst.injEq, Cell.ins.injEq, Prod.mk.injEq, List.cons.injEq, Option.some.injEq, List.map_cons, List.map_nil, List.length_cons, List.length_nil, List.cons_append, List.nil_append, List.append_nil, List.getElem?_cons_zero, List.getElem?_cons_succ, List.set_cons_zero, List.set_cons_succ, List.replicate_succ, List.replicate_zero, exists_eq_left, exists_eq_left', exists_and_left, and_true, true_and, and_self, and_assoc, Nat.sub_self, Nat.reduceAdd, Nat.reduceSub, Nat.zero_add, put_put, put_same, reduceIte, Bool.false_eq_true, Bool.true_eq_false, Bool.not_true, Bool.not_false, at_0, at_1, at_2, at_3, at_4, at_5, at_6, at_7, ix_1_0, ix_2_0, ix_2_1, ix_3_0, ix_3_1, ix_3_2, ix_4_0, ix_4_1, ix_4_2, ix_4_3]
      exact mk_grow hw hh q
  · exact h.elim
theorem sc_l_pair : FnScope ["_law_told"] ["_law_told"] (defScope s_l_pair) := ⟨rfl, rfl, rfl, by decide +kernel, rfl, by decide +kernel, by decide +kernel⟩
def sp_l_pair (C : Addr) : SpT := fun ts S R _ => match ts with
  | [x] => ∃ s : S4, x = s.t C ∧ R (d4T s) S
  | _ => False
theorem ok_l_pair {P : Program} {w : World} {K : PySem.W.Frag} {mg : Str → Option Value} {base : Heap} {f : Addr} {fd : FuncData} {C_Size : Addr}  (F : Fun K "_law_pair" "_law_pair" s_l_pair f fd)
    (n_isinstance : mg "isinstance" = none)
    (m_Size : mg "Size" = some (.ref C_Size))
    (is_Size : InsC K C_Size)
    (nf_Size_width : InF K C_Size "width")
    (nf_Size_height : InF K C_Size "height")
    : FnT P w K mg base 1 f fd ["_law_told"] (sp_l_pair C_Size) := by
  refine okT F sc_l_pair (by intro ts S R RE h; unfold sp_l_pair at h; split at h <;> first | rfl | exact h.elim) (fun cdv A out s H E hg hr => (bs_one (ss_ret (et_if (tt_val (et_blt call_isi (cv_isi (K := K)) (by rfl) n_isinstance PyProof.Rows.boot_isinstance (at_cons (et_var (pv 0)) (at_cons (et_glob (by rfl) m_Size) at_nil)))) (et_tup (at_cons (et_fldK K rfl (et_var (pv 0))) (at_cons (et_fldK K rfl (et_var (pv 0))) at_nil))) (et_var (pv 0)))))) ?_
  intro ts S R RE h
  unfold sp_l_pair at h
  split at h
  · rename_i x
    obtain ⟨s, rfl, q⟩ := h
    simp only [sSeq, sAsg, sDrop, sRet, sRetN, sIf, sNext, sPar, sPar3, sFor, sRaise, sFldT, sNo, rNo, rVar, rFrz, rC, rBin, rTest, bAnd, bOr, bNot, bIf, vAnd, vOr, vNot, rIf, rNeg, aNil, aCons, rTup, rLst, rLstC, rArgs, gNameT, gNilT, gConsT, gTupT, gSubT, iSeq, iRng1T, iRng2T, rLc, rCall, rCallN, rCallS, rFld, rCon, rMake, rMakeN, rMakeP, rMeth, rMethK, rProp, rClsFn, rOpOwn, rSl, oNone, oSome, rMut, kAdd, kI2, kI2n, kMul, kIx, kIn, kLen, kU, kA2, kDm, kStrI, kAll, kSl, kAppend, kExtend, kTuple, kList, lenT, seqOf, bYes, startT, one, pickG, selG, insOf, putT, flatT, Bool.false_xor, Bool.true_xor, List.all_cons, List.all_nil, Bool.and_self, T.int.injEq, T.bl.injEq, T.str.injEq, T.lst.injEq, T.tup.injEq, T.cell.injEq, T.ins.injEq, Cell.lst.injEq, Cell.ins.injEq, Prod.mk.injEq, List.cons.injEq, Option.some.injEq, List.map_cons, List.map_nil, List.length_cons, List.length_nil, List.cons_append, List.nil_append, List.append_nil, List.getElem?_cons_zero, List.getElem?_cons_succ, List.set_cons_zero, List.set_cons_succ, List.replicate_succ, List.replicate_zero, exists_eq_left, exists_eq_left', exists_and_left, and_true, true_and, and_self, and_assoc, Nat.sub_self, Nat.reduceAdd, Nat.reduceSub, Nat.zero_add, put_put, put_same, reduceIte, Bool.false_eq_true, Bool.true_eq_false, Bool.not_true, Bool.not_false, at_0, at_1, at_2, at_3, at_4, at_5, at_6, at_7, ix_1_0, ix_2_0, ix_2_1, ix_3_0, ix_3_1, ix_3_2, ix_4_0, ix_4_1, ix_4_2, ix_4_3]
    refine isSz is_Size ⟨true, rfl, ?_⟩
    simp only [S4.t, szT, nf_Size_width, nf_Size_height, szF_w, szF_h, sSeq, sAsg, sDrop, sRet, sRetN, sIf, sNext, sPar, sPar3, sFor, sRaise, sFldT, sNo, rNo, rVar, rFrz, rC, rBin, rTest, bAnd, bOr, bNot, bIf, vAnd, vOr, vNot, rIf, rNeg, aNil, aCons, rTup, rLst, rLstC, rArgs, gNameT, gNilT, gConsT, gTupT, gSubT, iSeq, iRng1T, iRng2T, rLc, rCall, rCallN, rCallS, rFld, rCon, rMake, rMakeN, rMakeP, rMeth, rMethK, rProp, rClsFn, rOpOwn, rSl, oNone, oSome, rMut, kAdd, kI2, kI2n, kMul, kIx, kIn, kLen, kU, kA2, kDm, kStrI, kAll, kSl, kAppend, kExtend, kTuple, kList, lenT, seqOf, bYes, startT, one, pickG, selG, insOf, putT, flatT, Bool.false_xor, Bool.true_xor, List.all_cons, List.all_nil, Bool.and_self, T.int.injEq, T.bl.injEq, T.str.injEq, T.lst.injEq, T.tup.injEq, T.cell.injEq, T.ins.injEq, Cell.lst.injEq, Cell.ins.injEq, Prod.mk.injEq, List.cons.injEq, Option.some.injEq, List.map_cons, List.map_nil, List.length_cons, List.length_nil, List.cons_append, List.nil_append, List.append_nil, List.getElem?_cons_zero, List.getElem?_cons_succ, List.set_cons_zero, List.set_cons_succ, List.replicate_succ, List.replicate_zero, exists_eq_left, exists_eq_left', exists_and_left, and_true, true_and, and_self, and_assoc, Nat.sub_self, Nat.reduceAdd, Nat.reduceSub, Nat.zero_add, put_put, put_same, reduceIte, Bool.false_eq_true, Bool.true_eq_false, Bool.not_true, Bool.not_false, at_0, at_1, at_2, at_3, at_4, at_5, at_6, at_7, ix_1_0, ix_2_0, ix_2_1, ix_3_0, ix_3_1, ix_3_2, ix_4_0, ix_4_1, ix_4_2, ix_4_3]
    exact ⟨by decide, q⟩
  · exact h.elim
theorem sc_l_sized : FnScope ["_law_sides_here"] ["_law_sides_here"] (defScope s_l_sized) := ⟨rfl, rfl, rfl, by decide +kernel, rfl, by decide +kernel, by decide +kernel⟩
def sp_l_sized (C : Addr) : SpT := fun ts S R _ => match ts with
  | [x] => ∃ s : S4, x = d4T s ∧ s.ok 8000 ∧ R (s.t C) S
  | _ => False
theorem ok_l_sized {P : Program} {w : World} {K : PySem.W.Frag} {mg : Str → Option Value} {base : Heap} {f : Addr} {fd : FuncData} {g_Size_init C_Size : Addr} {gd_Size_init : FuncData} (F : Fun K "_law_sized" "_law_sized" s_l_sized f fd)
    (G_Size_init : FnT P w K mg base 6 g_Size_init gd_Size_init ["self", "width", "height"] (sp_Size_init C_Size))
    (b_Size_init : Binds K gd_Size_init ["self", "width", "height"] [])
    (m_Size : mg "Size" = some (.ref C_Size))
    (M_Size : Mk K C_Size g_Size_init)
    : FnT P w K mg base 8 f fd ["_law_sides_here"] (sp_l_sized C_Size) := by
  refine okT F sc_l_sized (by intro ts S R RE h; unfold sp_l_sized at h; split at h <;> first | rfl | exact h.elim) (fun cdv A out s H E hg hr => (bs_one (ss_ret (et_make M_Size G_Size_init hg (hr.mono (by decide)) (by rfl) m_Size (CallD.all b_Size_init) (passL2N (L2N.takes_of rfl rfl rfl rfl)) (at_cons (et_ix ix_seq cv_ix (et_var (pv 0)) et_int (fun _ _ => rfl)) (at_cons (et_ix ix_seq cv_ix (et_var (pv 0)) et_int (fun _ _ => rfl)) at_nil)))))) ?_
  intro ts S R RE h
  unfold sp_l_sized at h
  split at h
  · rename_i x
    obtain ⟨s, rfl, o, q⟩ := h
    simp only [d4T, sSeq, sAsg, sDrop, sRet, sRetN, sIf, sNext, sPar, sPar3, sFor, sRaise, sFldT, sNo, rNo, rVar, rFrz, rC, rBin, rTest, bAnd, bOr, bNot, bIf, vAnd, vOr, vNot, rIf, rNeg, aNil, aCons, rTup, rLst, rLstC, rArgs, gNameT, gNilT, gConsT, gTupT, gSubT, iSeq, iRng1T, iRng2T, rLc, rCall, rCallN, rCallS, rFld, rCon, rMake, rMakeN, rMakeP, rMeth, rMethK, rProp, rClsFn, rOpOwn, rSl, oNone, oSome, rMut, kAdd, kI2, kI2n, kMul, kIx, kIn, kLen, kU, kA2, kDm, kStrI, kAll, kSl, kAppend, kExtend, kTuple, kList, lenT, seqOf, bYes, startT, one, pickG, selG, insOf, putT, flatT, Bool.false_xor, Bool.true_xor, List.all_cons, List.all_nil, Bool.and_self, T.int.injEq, T.bl.injEq, T.str.injEq, T.lst.injEq, T.tup.injEq, T.cell.injEq, T.ins.injEq, Cell.lst.injEq, Cell.ins.injEq, Prod.mk.injEq, List.cons.injEq, Option.some.injEq, List.map_cons, List.map_nil, List.length_cons, List.length_nil, List.cons_append, List.nil_append, List.append_nil, List.getElem?_cons_zero, List.getElem?_cons_succ, List.set_cons_zero, List.set_cons_succ, List.replicate_succ, List.replicate_zero, exists_eq_left, exists_eq_left', exists_and_left, and_true, true_and, and_self, and_assoc, Nat.sub_self, Nat.reduceAdd, Nat.reduceSub, Nat.zero_add, put_put, put_same, reduceIte, Bool.false_eq_true, Bool.true_eq_false, Bool.not_true, Bool.not_false, at_0, at_1, at_2, at_3, at_4, at_5, at_6, at_7, ix_1_0, ix_2_0, ix_2_1, ix_3_0, ix_3_1, ix_3_2, ix_4_0, ix_4_1, ix_4_2, ix_4_3]
    exact mk_size (.fr o.w) (.fr o.h) q
  · exact h.elim
/-- the factor that the law takes -/
def facL (c : Bool) (p q : Q2) : Q2 := if (qLess p q != c) = true then p else q
theorem fr_eq {n : Nat} {a b c d : Int} (h : Fr n a b) (k : Fr n c d) (e : a * d = c * b) : a = c ∧ b = d := by
  have hg : Int.gcd a b = 1 := by have := h.g; unfold gcdI at this; omega
  have kg : Int.gcd c d = 1 := by have := k.g; unfold gcdI at this; omega
  have cop : ∀ {x y z : Int}, x ∣ z * y → Int.gcd x y = 1 → x ∣ z := fun {x y z} h g => by
    have h1 : x.natAbs ∣ z.natAbs * y.natAbs := by rw [← Int.natAbs_mul]; exact Int.natAbs_dvd_natAbs.mpr h
    exact Int.natAbs_dvd_natAbs.mp (Nat.Coprime.dvd_of_dvd_mul_right g h1)
  have d1 : a ∣ c := cop (y := b) ⟨d, e.symm⟩ hg
  have d2 : c ∣ a := cop (y := d) ⟨b, e⟩ kg
  have l1 := Int.le_of_dvd k.a.pos d1
  have l2 := Int.le_of_dvd h.a.pos d2
  have ac : a = c := by omega
  refine ⟨ac, ?_⟩
  subst ac
  have hp := h.a.pos
  have : d = b := Int.eq_of_mul_eq_mul_left (by omega) e
  exact this.symm
theorem facL_P {c : Bool} {p q : Q2} {n : Nat} (h : Fr n p.1 p.2) (k : Fr n q.1 q.2) : facL c p q = facP c p q := by
  unfold facL facP
  by_cases h1 : p.1 * q.2 < q.1 * p.2
  · have e1 : qLess p q = true := decide_eq_true h1
    have e2 : qLess q p = false := decide_eq_false (by omega)
    rw [e1, e2]
    cases c <;> simp
  · have e1 : qLess p q = false := decide_eq_false h1
    by_cases h2 : q.1 * p.2 < p.1 * q.2
    · have e2 : qLess q p = true := decide_eq_true h2
      rw [e1, e2]
      cases c <;> simp
    · have e2 : qLess q p = false := decide_eq_false h2
      have e : p = q := by
        obtain ⟨a, b⟩ := fr_eq h k (by omega)
        exact Prod.ext a b
      rw [e1, e2, e]
      cases c <;> simp
def scR (g : Bool) (s : S4) (c : Bool) (w h : Int) : S4 := if g = true then s.grow c w h else s.shrink c w h
theorem scR_ok {g : Bool} {s : S4} {n : Nat} (o : s.ok n) {cv : Bool} {w h : Int} (hw : Bx w) (hh : Bx h) : (scR g s cv w h).ok (n + (20 + n)) := by
  unfold scR
  split
  · exact S4.grow_ok o hw hh
  · exact S4.shrink_ok o hw hh
theorem eqB1 {a b : Bool} {S : Store} {R : T → Store → Prop} {RE : XT} (q : R (.bl (a != b)) S) : kEqG true (.bl a) (.bl b) S R RE := .inl ⟨rfl, by cases a <;> cases b <;> exact q⟩
theorem sc_l_after : FnScope ["_law_sides_here", "_law_spec", "_law_wide", "_law_tall", "_law_one", "_law_more", "_law_scale", "_law_most", "_law_is_turned"] ["_law_sides_here", "_law_spec"] (defScope s_l_after) := ⟨rfl, rfl, rfl, by decide +kernel, rfl, by decide +kernel, by decide +kernel⟩
def sp_l_after : SpT := fun ts S R _ => match ts with
  | [x, y] => ∃ (s : S4) (g : Bool) (w h : Int) (c : Bool), x = d4T s ∧ y = scT g w h c ∧ s.ok 1000 ∧ Bx w ∧ Bx h ∧ R (d4T (scR g s c w h)) S
  | _ => False
theorem ok_l_after {P : Program} {w : World} {K : PySem.W.Frag} {mg : Str → Option Value} {base : Heap} {f : Addr} {fd : FuncData} {g_l_less g_l_mul g_l_div : Addr} {gd_l_less : FuncData} {gd_l_mul : FuncData} {gd_l_div : FuncData} (F : Fun K "_law_after" "_law_after" s_l_after f fd)
    (G_l_less : FnT P w K mg base 1 g_l_less gd_l_less ["_law_one", "_law_more"] sp_l_less)
    (m_l_less : mg "_law_less" = some (.ref g_l_less))
    (k_l_less : PySem.W.keepIn K (.ref g_l_less) = true)
    (b_l_less : Binds K gd_l_less ["_law_one", "_law_more"] [])
    (G_l_mul : FnT P w K mg base 2 g_l_mul gd_l_mul ["_law_one", "_law_more"] sp_l_mul)
    (m_l_mul : mg "_law_mul" = some (.ref g_l_mul))
    (k_l_mul : PySem.W.keepIn K (.ref g_l_mul) = true)
    (b_l_mul : Binds K gd_l_mul ["_law_one", "_law_more"] [])
    (G_l_div : FnT P w K mg base 2 g_l_div gd_l_div ["_law_one", "_law_more"] sp_l_div)
    (m_l_div : mg "_law_div" = some (.ref g_l_div))
    (k_l_div : PySem.W.keepIn K (.ref g_l_div) = true)
    (b_l_div : Binds K gd_l_div ["_law_one", "_law_more"] [])
    : FnT P w K mg base 3 f fd ["_law_sides_here", "_law_spec"] sp_l_after := by
  refine okT F sc_l_after (by intro ts S R RE h; unfold sp_l_after at h; split at h <;> first | rfl | exact h.elim) (fun cdv A out s H E hg hr => (bs_cons (ss_asg (et_var (pv 0)) (gt_tup (n := 2) (by rfl) (gts_cons (gt_name (pg_name (i := 2) sc_l_after.nd rfl (by first | exact Or.inl rfl | exact Or.inr rfl))) (gts_cons (gt_name (pg_name (i := 3) sc_l_after.nd rfl (by first | exact Or.inl rfl | exact Or.inr rfl))) gts_nil))))
    (bs_cons (ss_if (tt_cmp op_inG cv_in (et_ix ix_seq cv_ix (et_var (pv 1)) et_int (fun _ _ => rfl)) (et_tup (at_cons et_str (at_cons et_str at_nil))) (by rfl)) (bs_cons (ss_par (i := 4) (j := 5) (by rfl) sc_l_after.nd rfl rfl (by decide) rfl rfl (at_cons (et_callD G_l_div hg (hr.mono (by decide)) (by rfl) m_l_div k_l_div (CallD.all b_l_div) (passL2N (L2N.takes_of rfl rfl rfl rfl)) (at_cons (et_tup (at_cons (et_ix ix_seq cv_ix (et_var (pv 1)) et_int (fun _ _ => rfl)) (at_cons et_int at_nil))) (at_cons (et_var (pv 2)) at_nil))) (at_cons (et_callD G_l_div hg (hr.mono (by decide)) (by rfl) m_l_div k_l_div (CallD.all b_l_div) (passL2N (L2N.takes_of rfl rfl rfl rfl)) (at_cons (et_tup (at_cons (et_ix ix_seq cv_ix (et_var (pv 1)) et_int (fun _ _ => rfl)) (at_cons et_int at_nil))) (at_cons (et_var (pv 3)) at_nil))) at_nil)) (by rfl))
    (bs_cons (ss_set (i := 6) sc_l_after.nd rfl (by first | exact Or.inl rfl | exact Or.inr rfl) (et_if (tt_cmp (op_neG hr.units) cv_ne (et_callD G_l_less hg (hr.mono (by decide)) (by rfl) m_l_less k_l_less (CallD.all b_l_less) (passL2N (L2N.takes_of rfl rfl rfl rfl)) (at_cons (et_var (pv 4)) (at_cons (et_var (pv 5)) at_nil))) (et_ix ix_seq cv_ix (et_var (pv 1)) et_int (fun _ _ => rfl)) (nomark _)) (et_var (pv 4)) (et_var (pv 5))))
    (bs_cons (ss_if (tt_ifExp (tt_cmp (op_eqG hr.units) cv_eq (et_ix ix_seq cv_ix (et_var (pv 1)) et_int (fun _ _ => rfl)) et_str (nomark _)) (tt_val (et_callD G_l_less hg (hr.mono (by decide)) (by rfl) m_l_less k_l_less (CallD.all b_l_less) (passL2N (L2N.takes_of rfl rfl rfl rfl)) (at_cons (et_var (pv 6)) (at_cons (et_tup (at_cons et_int (at_cons et_int at_nil))) at_nil)))) (tt_val (et_callD G_l_less hg (hr.mono (by decide)) (by rfl) m_l_less k_l_less (CallD.all b_l_less) (passL2N (L2N.takes_of rfl rfl rfl rfl)) (at_cons (et_tup (at_cons et_int (at_cons et_int at_nil))) (at_cons (et_var (pv 6)) at_nil))))) (bs_one (ss_ret (et_tup (at_cons (et_callD G_l_mul hg (hr.mono (by decide)) (by rfl) m_l_mul k_l_mul (CallD.all b_l_mul) (passL2N (L2N.takes_of rfl rfl rfl rfl)) (at_cons (et_var (pv 2)) (at_cons (et_var (pv 6)) at_nil))) (at_cons (et_callD G_l_mul hg (hr.mono (by decide)) (by rfl) m_l_mul k_l_mul (CallD.all b_l_mul) (passL2N (L2N.takes_of rfl rfl rfl rfl)) (at_cons (et_var (pv 3)) (at_cons (et_var (pv 6)) at_nil))) at_nil))))) bs_nil)
    (bs_one (ss_ret (et_var (pv 0))))))) bs_nil)
    (bs_cons ss_never
    (bs_cons ss_never
    (bs_cons ss_never
    (bs_cons ss_never
    (bs_one ss_never)))))))) ?_
  intro ts S R RE h
  unfold sp_l_after at h
  split at h
  · rename_i x y
    obtain ⟨s, g, w, h, c, rfl, rfl, o, hw, hh, q⟩ := h
    have fw := (qW_fr hw o.w).up (m := 3900) (by decide)
    have fh := (qW_fr hh o.h).up (m := 3900) (by decide)
    have ow := o.w.up (m := 3900) (by decide)
    have oh := o.h.up (m := 3900) (by decide)
    have f11 : Fr 3900 1 1 := fr11
    have bw := hw.pn.up (m := 3900) (by decide)
    have bh := hh.pn.up (m := 3900) (by decide)
    have e := facL_P (c := c) fw fh
    have ff := facP_fr (c := c) fw fh
    cases g with
    | false =>
      unfold scR S4.shrink S4.fac at q
      rw [if_neg (by simp), ← e] at q
      rw [← e] at ff
      unfold facL at q ff
      refine sSeq_i fun N hN => ?_
      simp only [d4T, sSeq, sAsg, sDrop, sRet, sRetN, sIf, sNext, sPar, sPar3, sFor, sRaise, sFldT, sNo, rNo, rVar, rFrz, rC, rBin, rTest, bAnd, bOr, bNot, bIf, vAnd, vOr, vNot, rIf, rNeg, aNil, aCons, rTup, rLst, rLstC, rArgs, gNameT, gNilT, gConsT, gTupT, gSubT, iSeq, iRng1T, iRng2T, rLc, rCall, rCallN, rCallS, rFld, rCon, rMake, rMakeN, rMakeP, rMeth, rMethK, rProp, rClsFn, rOpOwn, rSl, oNone, oSome, rMut, kAdd, kI2, kI2n, kMul, kIx, kIn, kLen, kU, kA2, kDm, kStrI, kAll, kSl, kAppend, kExtend, kTuple, kList, lenT, seqOf, bYes, startT, one, pickG, selG, insOf, putT, flatT, Bool.false_xor, Bool.true_xor, List.all_cons, List.all_nil, Bool.and_self, T.int.injEq, T.bl.injEq, T.str.injEq, T.lst.injEq, T.tup.injEq, T.cell.injEq, T.ins.injEq, Cell.lst.injEq, Cell.ins.injEq, Prod.mk.injEq, List.cons.injEq, Option.some.injEq, List.map_cons, List.map_nil, List.length_cons, List.length_nil, List.cons_append, List.nil_append, List.append_nil, List.getElem?_cons_zero, List.getElem?_cons_succ, List.set_cons_zero, List.set_cons_succ, List.replicate_succ, List.replicate_zero, exists_eq_left, exists_eq_left', exists_and_left, and_true, true_and, and_self, and_assoc, Nat.sub_self, Nat.reduceAdd, Nat.reduceSub, Nat.zero_add, put_put, put_same, reduceIte, Bool.false_eq_true, Bool.true_eq_false, Bool.not_true, Bool.not_false, at_0, at_1, at_2, at_3, at_4, at_5, at_6, at_7, ix_1_0, ix_2_0, ix_2_1, ix_3_0, ix_3_1, ix_3_2, ix_4_0, ix_4_1, ix_4_2, ix_4_3]
      refine hN _ _ ?_
      refine sSeq_i fun N hN => ?_
      simp only [scT, in_s, frT, sp_l_div, sp_l_less, sp_l_mul, sSeq, sAsg, sDrop, sRet, sRetN, sIf, sNext, sPar, sPar3, sFor, sRaise, sFldT, sNo, rNo, rVar, rFrz, rC, rBin, rTest, bAnd, bOr, bNot, bIf, vAnd, vOr, vNot, rIf, rNeg, aNil, aCons, rTup, rLst, rLstC, rArgs, gNameT, gNilT, gConsT, gTupT, gSubT, iSeq, iRng1T, iRng2T, rLc, rCall, rCallN, rCallS, rFld, rCon, rMake, rMakeN, rMakeP, rMeth, rMethK, rProp, rClsFn, rOpOwn, rSl, oNone, oSome, rMut, kAdd, kI2, kI2n, kMul, kIx, kIn, kLen, kU, kA2, kDm, kStrI, kAll, kSl, kAppend, kExtend, kTuple, kList, lenT, seqOf, bYes, startT, one, pickG, selG, insOf, putT, flatT, Bool.false_xor, Bool.true_xor, List.all_cons, List.all_nil, Bool.and_self, T.int.injEq, T.bl.injEq, T.str.injEq, T.lst.injEq, T.tup.injEq, T.cell.injEq, T.ins.injEq, Cell.lst.injEq, Cell.ins.injEq, Prod.mk.injEq, List.cons.injEq, Option.some.injEq, List.map_cons, List.map_nil, List.length_cons, List.length_nil, List.cons_append, List.nil_append, List.append_nil, List.getElem?_cons_zero, List.getElem?_cons_succ, List.set_cons_zero, List.set_cons_succ, List.replicate_succ, List.replicate_zero, exists_eq_left, exists_eq_left', exists_and_left, and_true, true_and, and_self, and_assoc, Nat.sub_self, Nat.reduceAdd, Nat.reduceSub, Nat.zero_add, put_put, put_same, reduceIte, Bool.false_eq_true, Bool.true_eq_false, Bool.not_true, Bool.not_false, at_0, at_1, at_2, at_3, at_4, at_5, at_6, at_7, ix_1_0, ix_2_0, ix_2_1, ix_3_0, ix_3_1, ix_3_2, ix_4_0, ix_4_1, ix_4_2, ix_4_3]
      refine ⟨by decide, by decide, bw, f11.a, ow.a, ow.b, by decide, bh, f11.a, oh.a, oh.b, fw.a, fw.b, fh.a, fh.b, eqB1 ⟨_, rfl, ?_⟩⟩
      change if (qLess (qW w s.a s.b) (qW h s.c s.d) != c) = true then _ else _
      cases ec : (qLess (qW w s.a s.b) (qW h s.c s.d) != c) with
      | true =>
        rw [if_pos rfl]
        rw [ec, if_pos rfl] at q ff
        refine eqSt ss_ ⟨true, rfl, ?_⟩
        rw [if_pos rfl]
        refine ⟨by decide, ff.a, ff.b, f11.a, f11.a, ite_d (fun cc => ?_) (fun cc => ?_)⟩
        · rw [if_pos (show qLess (qW w s.a s.b) (1, 1) = true from decide_eq_true cc)] at q
          exact ⟨ow.a, ow.b, ff.a, ff.b, oh.a, oh.b, ff.a, ff.b, by decide, q⟩
        · rw [if_neg (by rw [show qLess (qW w s.a s.b) (1, 1) = false from decide_eq_false cc]; simp)] at q
          exact q
      | false =>
        rw [if_neg (by simp)]
        rw [ec, if_neg Bool.false_ne_true] at q ff
        refine eqSt ss_ ⟨true, rfl, ?_⟩
        rw [if_pos rfl]
        refine ⟨by decide, ff.a, ff.b, f11.a, f11.a, ite_d (fun cc => ?_) (fun cc => ?_)⟩
        · rw [if_pos (show qLess (qW h s.c s.d) (1, 1) = true from decide_eq_true cc)] at q
          exact ⟨ow.a, ow.b, ff.a, ff.b, oh.a, oh.b, ff.a, ff.b, by decide, q⟩
        · rw [if_neg (by rw [show qLess (qW h s.c s.d) (1, 1) = false from decide_eq_false cc]; simp)] at q
          exact q
    | true =>
      unfold scR S4.grow S4.fac at q
      rw [if_pos rfl, ← e] at q
      rw [← e] at ff
      unfold facL at q ff
      refine sSeq_i fun N hN => ?_
      simp only [d4T, sSeq, sAsg, sDrop, sRet, sRetN, sIf, sNext, sPar, sPar3, sFor, sRaise, sFldT, sNo, rNo, rVar, rFrz, rC, rBin, rTest, bAnd, bOr, bNot, bIf, vAnd, vOr, vNot, rIf, rNeg, aNil, aCons, rTup, rLst, rLstC, rArgs, gNameT, gNilT, gConsT, gTupT, gSubT, iSeq, iRng1T, iRng2T, rLc, rCall, rCallN, rCallS, rFld, rCon, rMake, rMakeN, rMakeP, rMeth, rMethK, rProp, rClsFn, rOpOwn, rSl, oNone, oSome, rMut, kAdd, kI2, kI2n, kMul, kIx, kIn, kLen, kU, kA2, kDm, kStrI, kAll, kSl, kAppend, kExtend, kTuple, kList, lenT, seqOf, bYes, startT, one, pickG, selG, insOf, putT, flatT, Bool.false_xor, Bool.true_xor, List.all_cons, List.all_nil, Bool.and_self, T.int.injEq, T.bl.injEq, T.str.injEq, T.lst.injEq, T.tup.injEq, T.cell.injEq, T.ins.injEq, Cell.lst.injEq, Cell.ins.injEq, Prod.mk.injEq, List.cons.injEq, Option.some.injEq, List.map_cons, List.map_nil, List.length_cons, List.length_nil, List.cons_append, List.nil_append, List.append_nil, List.getElem?_cons_zero, List.getElem?_cons_succ, List.set_cons_zero, List.set_cons_succ, List.replicate_succ, List.replicate_zero, exists_eq_left, exists_eq_left', exists_and_left, and_true, true_and, and_self, and_assoc, Nat.sub_self, Nat.reduceAdd, Nat.reduceSub, Nat.zero_add, put_put, put_same, reduceIte, Bool.false_eq_true, Bool.true_eq_false, Bool.not_true, Bool.not_false, at_0, at_1, at_2, at_3, at_4, at_5, at_6, at_7, ix_1_0, ix_2_0, ix_2_1, ix_3_0, ix_3_1, ix_3_2, ix_4_0, ix_4_1, ix_4_2, ix_4_3]
      refine hN _ _ ?_
      refine sSeq_i fun N hN => ?_
      simp only [scT, in_g, frT, sp_l_div, sp_l_less, sp_l_mul, sSeq, sAsg, sDrop, sRet, sRetN, sIf, sNext, sPar, sPar3, sFor, sRaise, sFldT, sNo, rNo, rVar, rFrz, rC, rBin, rTest, bAnd, bOr, bNot, bIf, vAnd, vOr, vNot, rIf, rNeg, aNil, aCons, rTup, rLst, rLstC, rArgs, gNameT, gNilT, gConsT, gTupT, gSubT, iSeq, iRng1T, iRng2T, rLc, rCall, rCallN, rCallS, rFld, rCon, rMake, rMakeN, rMakeP, rMeth, rMethK, rProp, rClsFn, rOpOwn, rSl, oNone, oSome, rMut, kAdd, kI2, kI2n, kMul, kIx, kIn, kLen, kU, kA2, kDm, kStrI, kAll, kSl, kAppend, kExtend, kTuple, kList, lenT, seqOf, bYes, startT, one, pickG, selG, insOf, putT, flatT, Bool.false_xor, Bool.true_xor, List.all_cons, List.all_nil, Bool.and_self, T.int.injEq, T.bl.injEq, T.str.injEq, T.lst.injEq, T.tup.injEq, T.cell.injEq, T.ins.injEq, Cell.lst.injEq, Cell.ins.injEq, Prod.mk.injEq, List.cons.injEq, Option.some.injEq, List.map_cons, List.map_nil, List.length_cons, List.length_nil, List.cons_append, List.nil_append, List.append_nil, List.getElem?_cons_zero, List.getElem?_cons_succ, List.set_cons_zero, List.set_cons_succ, List.replicate_succ, List.replicate_zero, exists_eq_left, exists_eq_left', exists_and_left, and_true, true_and, and_self, and_assoc, Nat.sub_self, Nat.reduceAdd, Nat.reduceSub, Nat.zero_add, put_put, put_same, reduceIte, Bool.false_eq_true, Bool.true_eq_false, Bool.not_true, Bool.not_false, at_0, at_1, at_2, at_3, at_4, at_5, at_6, at_7, ix_1_0, ix_2_0, ix_2_1, ix_3_0, ix_3_1, ix_3_2, ix_4_0, ix_4_1, ix_4_2, ix_4_3]
      refine ⟨by decide, by decide, bw, f11.a, ow.a, ow.b, by decide, bh, f11.a, oh.a, oh.b, fw.a, fw.b, fh.a, fh.b, eqB1 ⟨_, rfl, ?_⟩⟩
      change if (qLess (qW w s.a s.b) (qW h s.c s.d) != c) = true then _ else _
      cases ec : (qLess (qW w s.a s.b) (qW h s.c s.d) != c) with
      | true =>
        rw [if_pos rfl]
        rw [ec, if_pos rfl] at q ff
        refine eqSt gs_ ⟨false, rfl, ?_⟩
        rw [if_neg (by simp)]
        refine ⟨by decide, f11.a, f11.a, ff.a, ff.b, ite_d (fun cc => ?_) (fun cc => ?_)⟩
        · rw [if_pos (show qLess (1, 1) (qW w s.a s.b) = true from decide_eq_true cc)] at q
          exact ⟨ow.a, ow.b, ff.a, ff.b, oh.a, oh.b, ff.a, ff.b, by decide, q⟩
        · rw [if_neg (by rw [show qLess (1, 1) (qW w s.a s.b) = false from decide_eq_false cc]; simp)] at q
          exact q
      | false =>
        rw [if_neg (by simp)]
        rw [ec, if_neg Bool.false_ne_true] at q ff
        refine eqSt gs_ ⟨false, rfl, ?_⟩
        rw [if_neg (by simp)]
        refine ⟨by decide, f11.a, f11.a, ff.a, ff.b, ite_d (fun cc => ?_) (fun cc => ?_)⟩
        · rw [if_pos (show qLess (1, 1) (qW h s.c s.d) = true from decide_eq_true cc)] at q
          exact ⟨ow.a, ow.b, ff.a, ff.b, oh.a, oh.b, ff.a, ff.b, by decide, q⟩
        · rw [if_neg (by rw [show qLess (1, 1) (qW h s.c s.d) = false from decide_eq_false cc]; simp)] at q
          exact q
  · exact h.elim
/-! lists of sides, data -/
theorem dat_d4 (s : S4) : (d4T s).dat = some (.tuple [.tuple [.int s.a, .int s.b], .tuple [.int s.c, .int s.d]]) := by
  unfold d4T frT
  simp only [T.dat, T.datL, Option.map_some]
theorem eqv_d4 (s : S4) : PyData.eqv (.tuple [.tuple [.int s.a, .int s.b], .tuple [.int s.c, .int s.d]]) (.tuple [.tuple [.int s.a, .int s.b], .tuple [.int s.c, .int s.d]]) = true := by
  simp [PyData.eqv, PyData.eqvAll]
theorem sh_d4 (s : S4) : SeqAt.shaped (.tuple [.tuple [.int s.a, .int s.b], .tuple [.int s.c, .int s.d]]) = true := by
  simp [SeqAt.shaped, PyData.canLay0, PyData.canLayAll0, PyData.depth, PyData.depthAll]
theorem ne_d4 {s : S4} {S : Store} {R : T → Store → Prop} {RE : XT} (q : R (.bl false) S) : kEqG true (d4T s) (d4T s) S R RE :=
  .inr ⟨_, _, dat_d4 s, dat_d4 s, sh_d4 s, sh_d4 s, by rw [eqv_d4]; exact q⟩
theorem sm_d4 {s : S4} (o : s.ok 1900) : SmT 3 2610 (d4T s) := (SmT.tup (SmL.cons (SmT.fr o.w.a o.w.b) (SmL.cons (SmT.fr o.h.a o.h.b) SmL.nil))).up (by decide) (by decide)
theorem sc_l_step_right : FnScope ["_law_spec", "_law_sides_here", "_law_here", "_law_made_here", "_law_told", "_law_one"] ["_law_spec", "_law_sides_here"] (defScope s_l_step_right) := ⟨rfl, rfl, rfl, by decide +kernel, rfl, by decide +kernel, by decide +kernel⟩
def sp_l_step_right (C : Addr) : SpT := fun ts S R _ => match ts with
  | [x, y] => ∃ (s : S4) (g : Bool) (w h : Int) (c : Bool), x = scT g w h c ∧ y = d4T s ∧ s.ok 300 ∧ Bx w ∧ Bx h ∧ R (.bl true) S
  | _ => False
theorem ok_l_step_right {P : Program} {w : World} {K : PySem.W.Frag} {mg : Str → Option Value} {base : Heap} {f : Addr} {fd : FuncData} {g_l_pair C_Size g_l_after g_Shrink_apply C_Shrink g_Grow_apply C_Grow g_l_sized g_l_made : Addr} {gd_l_pair : FuncData} {gd_l_after : FuncData} {gd_Shrink_apply : FuncData} {gd_Grow_apply : FuncData} {gd_l_sized : FuncData} {gd_l_made : FuncData} (F : Fun K "_law_step_right" "_law_step_right" s_l_step_right f fd)
    (n_repr : mg "repr" = none)
    (n_isinstance : mg "isinstance" = none)
    (n_all : mg "all" = none)
    (G_l_pair : FnT P w K mg base 1 g_l_pair gd_l_pair ["_law_told"] (sp_l_pair C_Size))
    (m_l_pair : mg "_law_pair" = some (.ref g_l_pair))
    (k_l_pair : PySem.W.keepIn K (.ref g_l_pair) = true)
    (b_l_pair : Binds K gd_l_pair ["_law_told"] [])
    (G_l_after : FnT P w K mg base 3 g_l_after gd_l_after ["_law_sides_here", "_law_spec"] sp_l_after)
    (m_l_after : mg "_law_after" = some (.ref g_l_after))
    (k_l_after : PySem.W.keepIn K (.ref g_l_after) = true)
    (b_l_after : Binds K gd_l_after ["_law_sides_here", "_law_spec"] [])
    (G_Shrink_apply : FnT P w K mg base 9 g_Shrink_apply gd_Shrink_apply ["self", "size"] (sp_Shrink_apply C_Shrink C_Size))
    (b_Shrink_apply : Binds K gd_Shrink_apply ["self", "size"] [])
    (kb_Shrink_apply_1_size : CallB K gd_Shrink_apply ["self", "size"] 1 ["size"] (fun ts zs => pickG [(0, 0), (2, 0)] ts [] zs))
    (G_Grow_apply : FnT P w K mg base 9 g_Grow_apply gd_Grow_apply ["self", "size"] (sp_Grow_apply C_Grow C_Size))
    (b_Grow_apply : Binds K gd_Grow_apply ["self", "size"] [])
    (kb_Grow_apply_1_size : CallB K gd_Grow_apply ["self", "size"] 1 ["size"] (fun ts zs => pickG [(0, 0), (2, 0)] ts [] zs))
    (G_l_sized : FnT P w K mg base 8 g_l_sized gd_l_sized ["_law_sides_here"] (sp_l_sized C_Size))
    (m_l_sized : mg "_law_sized" = some (.ref g_l_sized))
    (k_l_sized : PySem.W.keepIn K (.ref g_l_sized) = true)
    (b_l_sized : Binds K gd_l_sized ["_law_sides_here"] [])
    (G_l_made : FnT P w K mg base 7 g_l_made gd_l_made ["_law_spec"] (sp_l_made C_Shrink C_Grow))
    (m_l_made : mg "_law_made" = some (.ref g_l_made))
    (k_l_made : PySem.W.keepIn K (.ref g_l_made) = true)
    (b_l_made : Binds K gd_l_made ["_law_spec"] [])
    (m_Size : mg "Size" = some (.ref C_Size))
    (cl_Shrink : Cls K C_Shrink)
    (me_Shrink_apply : Meth K C_Shrink "apply" g_Shrink_apply)
    (cl_Grow : Cls K C_Grow)
    (me_Grow_apply : Meth K C_Grow "apply" g_Grow_apply)
    (is_Size : InsC K C_Size)
    : FnT P w K mg base 10 f fd ["_law_spec", "_law_sides_here"] (sp_l_step_right C_Size) := by
  refine okT F sc_l_step_right (by intro ts S R RE h; unfold sp_l_step_right at h; split at h <;> first | rfl | exact h.elim) (fun cdv A out s H E hg hr => (bs_cons (ss_par (i := 2) (j := 3) (by rfl) sc_l_step_right.nd rfl rfl (by decide) rfl rfl (at_cons (et_callD G_l_sized hg (hr.mono (by decide)) (by rfl) m_l_sized k_l_sized (CallD.all b_l_sized) (passL2N (L2N.takes_of rfl rfl rfl rfl)) (at_cons (et_var (pv 1)) at_nil)) (at_cons (et_callD G_l_made hg (hr.mono (by decide)) (by rfl) m_l_made k_l_made (CallD.all b_l_made) (passL2N (L2N.takes_of rfl rfl rfl rfl)) (at_cons (et_var (pv 0)) at_nil)) at_nil)) (by rfl))
    (bs_cons (ss_set (i := 4) sc_l_step_right.nd rfl (by first | exact Or.inl rfl | exact Or.inr rfl) (et_lst (at_cons (et_meth (MetD.or (MetD.one cl_Shrink me_Shrink_apply G_Shrink_apply (hr.mono (by decide)) (CallD.all b_Shrink_apply)) (MetD.one cl_Grow me_Grow_apply G_Grow_apply (hr.mono (by decide)) (CallD.all b_Grow_apply))) hg (passL2N (L2N.takes_of rfl rfl rfl rfl)) (et_var (pv 3)) (at_cons (et_var (pv 2)) at_nil)) (at_cons (et_methK (MetB.or (MetB.one cl_Shrink me_Shrink_apply G_Shrink_apply (hr.mono (by decide)) kb_Shrink_apply_1_size) (MetB.one cl_Grow me_Grow_apply G_Grow_apply (hr.mono (by decide)) kb_Grow_apply_1_size)) hg (passL2N (L2N.takes_of rfl rfl rfl rfl)) (et_var (pv 3)) (kt_cons (et_var (pv 2)) kt_nil)) (at_cons (et_meth (MetD.or (MetD.one cl_Shrink me_Shrink_apply G_Shrink_apply (hr.mono (by decide)) (CallD.all b_Shrink_apply)) (MetD.one cl_Grow me_Grow_apply G_Grow_apply (hr.mono (by decide)) (CallD.all b_Grow_apply))) hg (passL2N (L2N.takes_of rfl rfl rfl rfl)) (et_var (pv 3)) (at_cons (et_callD G_l_sized hg (hr.mono (by decide)) (by rfl) m_l_sized k_l_sized (CallD.all b_l_sized) (passL2N (L2N.takes_of rfl rfl rfl rfl)) (at_cons (et_var (pv 1)) at_nil)) at_nil)) at_nil)))))
    (bs_cons (ss_if (tt_w (tw_or (tt_not (tt_val (et_blt (cr_all (by rfl)) cv_all (by rfl) n_all (by decide +kernel) (at_cons (et_lc (x := "_law_one") (j := 5) (by rfl) sc_l_step_right.nd (it_seq (et_var (pv 4))) (blkOk_by (own := [("_law_one", 5)]) (N := ["_law_spec", "_law_sides_here", "_law_here", "_law_made_here", "_law_told", "_law_one"]) (sc := defScope s_l_step_right) (by decide +kernel)) (fun _ _ _ _ _ => pg_name (i := 5) sc_l_step_right.nd rfl (by first | exact Or.inl rfl | exact Or.inr rfl)) (fun _ _ _ _ _ => tts_nil) (fun _ _ _ _ _ => (et_blt call_isi (cv_isi (K := K)) (by rfl) n_isinstance PyProof.Rows.boot_isinstance (at_cons (et_var (pv 5)) (at_cons (et_glob (by rfl) m_Size) at_nil))))) at_nil)))) (tw_or1 (tt_cmp (op_neG hr.units) cv_ne (et_callD G_l_pair hg (hr.mono (by decide)) (by rfl) m_l_pair k_l_pair (CallD.all b_l_pair) (passL2N (L2N.takes_of rfl rfl rfl rfl)) (at_cons (et_var (pv 2)) at_nil)) (et_var (pv 1)) (nomark _))))) (bs_one (ss_ret et_bl)) bs_nil)
    (bs_one (ss_ret (et_cmp (op_eqG hr.units) cv_eq (et_blt (reprData hg (roomR hr)) cv_repr (by rfl) n_repr PyProof.Rows.boot_repr (at_cons (et_lc (x := "_law_one") (j := 5) (by rfl) sc_l_step_right.nd (it_seq (et_var (pv 4))) (blkOk_by (own := [("_law_one", 5)]) (N := ["_law_spec", "_law_sides_here", "_law_here", "_law_made_here", "_law_told", "_law_one"]) (sc := defScope s_l_step_right) (by decide +kernel)) (fun _ _ _ _ _ => pg_name (i := 5) sc_l_step_right.nd rfl (by first | exact Or.inl rfl | exact Or.inr rfl)) (fun _ _ _ _ _ => tts_nil) (fun _ _ _ _ _ => (et_callD G_l_pair hg (hr.mono (by decide)) (by rfl) m_l_pair k_l_pair (CallD.all b_l_pair) passN (at_cons (et_var (pv 5)) at_nil)))) at_nil)) (et_blt (reprData hg (roomR hr)) cv_repr (by rfl) n_repr PyProof.Rows.boot_repr (at_cons (et_op op_mulG cv_mul (et_lst (at_cons (et_callD G_l_after hg (hr.mono (by decide)) (by rfl) m_l_after k_l_after (CallD.all b_l_after) (passL2N (L2N.takes_of rfl rfl rfl rfl)) (at_cons (et_var (pv 1)) (at_cons (et_var (pv 0)) at_nil))) at_nil)) et_int) at_nil)) (nomark _)))))))) ?_
  intro ts S R RE h
  unfold sp_l_step_right at h
  split at h
  · rename_i x y
    obtain ⟨s, g, w, h, c, rfl, rfl, o, hw, hh, q⟩ := h
    refine sSeq_i fun N hN => ?_
    simp only [sSeq, sAsg, sDrop, sRet, sRetN, sIf, sNext, sPar, sPar3, sFor, sRaise, sFldT, sNo, rNo, rVar, rFrz, rC, rBin, rTest, bAnd, bOr, bNot, bIf, vAnd, vOr, vNot, rIf, rNeg, aNil, aCons, rTup, rLst, rLstC, rArgs, gNameT, gNilT, gConsT, gTupT, gSubT, iSeq, iRng1T, iRng2T, rLc, rCall, rCallN, rCallS, rFld, rCon, rMake, rMakeN, rMakeP, rMeth, rMethK, rProp, rClsFn, rOpOwn, rSl, oNone, oSome, rMut, kAdd, kI2, kI2n, kMul, kIx, kIn, kLen, kU, kA2, kDm, kStrI, kAll, kSl, kAppend, kExtend, kTuple, kList, lenT, seqOf, bYes, startT, one, pickG, selG, insOf, putT, flatT, Bool.false_xor, Bool.true_xor, List.all_cons, List.all_nil, Bool.and_self, T.int.injEq, T.bl.injEq, T.str.injEq, T.lst.injEq, T.tup.injEq, T.cell.injEq, T.ins.injEq, Cell.lst.injEq, Cell.ins.injEq, Prod.mk.injEq, List.cons.injEq, Option.some.injEq, List.map_cons, List.map_nil, List.length_cons, List.length_nil, List.cons_append, List.nil_append, List.append_nil, List.getElem?_cons_zero, List.getElem?_cons_succ, List.set_cons_zero, List.set_cons_succ, List.replicate_succ, List.replicate_zero, exists_eq_left, exists_eq_left', exists_and_left, and_true, true_and, and_self, and_assoc, Nat.sub_self, Nat.reduceAdd, Nat.reduceSub, Nat.zero_add, put_put, put_same, reduceIte, Bool.false_eq_true, Bool.true_eq_false, Bool.not_true, Bool.not_false, at_0, at_1, at_2, at_3, at_4, at_5, at_6, at_7, ix_1_0, ix_2_0, ix_2_1, ix_3_0, ix_3_1, ix_3_2, ix_4_0, ix_4_1, ix_4_2, ix_4_3]
    refine ⟨s, rfl, o.up (by decide), g, w, h, c, rfl, hw, hh, hN _ _ ?_⟩
    cases g with
    | false =>
      refine sSeq_i fun N hN => ?_
      simp only [scC, stF_apply, sSeq, sAsg, sDrop, sRet, sRetN, sIf, sNext, sPar, sPar3, sFor, sRaise, sFldT, sNo, rNo, rVar, rFrz, rC, rBin, rTest, bAnd, bOr, bNot, bIf, vAnd, vOr, vNot, rIf, rNeg, aNil, aCons, rTup, rLst, rLstC, rArgs, gNameT, gNilT, gConsT, gTupT, gSubT, iSeq, iRng1T, iRng2T, rLc, rCall, rCallN, rCallS, rFld, rCon, rMake, rMakeN, rMakeP, rMeth, rMethK, rProp, rClsFn, rOpOwn, rSl, oNone, oSome, rMut, kAdd, kI2, kI2n, kMul, kIx, kIn, kLen, kU, kA2, kDm, kStrI, kAll, kSl, kAppend, kExtend, kTuple, kList, lenT, seqOf, bYes, startT, one, pickG, selG, insOf, putT, flatT, Bool.false_xor, Bool.true_xor, List.all_cons, List.all_nil, Bool.and_self, T.int.injEq, T.bl.injEq, T.str.injEq, T.lst.injEq, T.tup.injEq, T.cell.injEq, T.ins.injEq, Cell.lst.injEq, Cell.ins.injEq, Prod.mk.injEq, List.cons.injEq, Option.some.injEq, List.map_cons, List.map_nil, List.length_cons, List.length_nil, List.cons_append, List.nil_append, List.append_nil, List.getElem?_cons_zero, List.getElem?_cons_succ, List.set_cons_zero, List.set_cons_succ, List.replicate_succ, List.replicate_zero, exists_eq_left, exists_eq_left', exists_and_left, and_true, true_and, and_self, and_assoc, Nat.sub_self, Nat.reduceAdd, Nat.reduceSub, Nat.zero_add, put_put, put_same, reduceIte, Bool.false_eq_true, Bool.true_eq_false, Bool.not_true, Bool.not_false, at_0, at_1, at_2, at_3, at_4, at_5, at_6, at_7, ix_1_0, ix_2_0, ix_2_1, ix_3_0, ix_3_1, ix_3_2, ix_4_0, ix_4_1, ix_4_2, ix_4_3]
      refine ⟨_, .inl rfl, ⟨w, h, c, s, rfl, rfl, hw, hh, o.up (by decide), ⟨_, .inl rfl, ⟨w, h, c, s, rfl, rfl, hw, hh, o.up (by decide), ⟨_, .inl rfl, ⟨s, rfl, o.up (by decide), ⟨w, h, c, s, rfl, rfl, hw, hh, o.up (by decide), by decide, hN _ _ ?_⟩⟩⟩⟩⟩⟩⟩
      have ro : ((s.shrink c w h)).ok 1900 := ((S4.shrink_ok (cv := c)) o hw hh).up (by decide)
      refine sSeq_i fun N hN => ?_
      simp only [rComp, sSeq, sAsg, sDrop, sRet, sRetN, sIf, sNext, sPar, sPar3, sFor, sRaise, sFldT, sNo, rNo, rVar, rFrz, rC, rBin, rTest, bAnd, bOr, bNot, bIf, vAnd, vOr, vNot, rIf, rNeg, aNil, aCons, rTup, rLst, rLstC, rArgs, gNameT, gNilT, gConsT, gTupT, gSubT, iSeq, iRng1T, iRng2T, rLc, rCall, rCallN, rCallS, rFld, rCon, rMake, rMakeN, rMakeP, rMeth, rMethK, rProp, rClsFn, rOpOwn, rSl, oNone, oSome, rMut, kAdd, kI2, kI2n, kMul, kIx, kIn, kLen, kU, kA2, kDm, kStrI, kAll, kSl, kAppend, kExtend, kTuple, kList, lenT, seqOf, bYes, startT, one, pickG, selG, insOf, putT, flatT, Bool.false_xor, Bool.true_xor, List.all_cons, List.all_nil, Bool.and_self, T.int.injEq, T.bl.injEq, T.str.injEq, T.lst.injEq, T.tup.injEq, T.cell.injEq, T.ins.injEq, Cell.lst.injEq, Cell.ins.injEq, Prod.mk.injEq, List.cons.injEq, Option.some.injEq, List.map_cons, List.map_nil, List.length_cons, List.length_nil, List.cons_append, List.nil_append, List.append_nil, List.getElem?_cons_zero, List.getElem?_cons_succ, List.set_cons_zero, List.set_cons_succ, List.replicate_succ, List.replicate_zero, exists_eq_left, exists_eq_left', exists_and_left, and_true, true_and, and_self, and_assoc, Nat.sub_self, Nat.reduceAdd, Nat.reduceSub, Nat.zero_add, put_put, put_same, reduceIte, Bool.false_eq_true, Bool.true_eq_false, Bool.not_true, Bool.not_false, at_0, at_1, at_2, at_3, at_4, at_5, at_6, at_7, ix_1_0, ix_2_0, ix_2_1, ix_3_0, ix_3_1, ix_3_2, ix_4_0, ix_4_1, ix_4_2, ix_4_3]
      refine isSz is_Size ⟨by decide, isSz is_Size ⟨by decide, isSz is_Size ⟨by decide, [true, true, true], rfl, ?_⟩⟩⟩
      rw [if_neg (by decide)]
      refine ⟨s, rfl, ne_d4 ⟨false, rfl, ?_⟩⟩
      rw [if_neg Bool.false_ne_true]
      refine hN _ _ ?_
      simp only [rComp, sSeq, sAsg, sDrop, sRet, sRetN, sIf, sNext, sPar, sPar3, sFor, sRaise, sFldT, sNo, rNo, rVar, rFrz, rC, rBin, rTest, bAnd, bOr, bNot, bIf, vAnd, vOr, vNot, rIf, rNeg, aNil, aCons, rTup, rLst, rLstC, rArgs, gNameT, gNilT, gConsT, gTupT, gSubT, iSeq, iRng1T, iRng2T, rLc, rCall, rCallN, rCallS, rFld, rCon, rMake, rMakeN, rMakeP, rMeth, rMethK, rProp, rClsFn, rOpOwn, rSl, oNone, oSome, rMut, kAdd, kI2, kI2n, kMul, kIx, kIn, kLen, kU, kA2, kDm, kStrI, kAll, kSl, kAppend, kExtend, kTuple, kList, lenT, seqOf, bYes, startT, one, pickG, selG, insOf, putT, flatT, Bool.false_xor, Bool.true_xor, List.all_cons, List.all_nil, Bool.and_self, T.int.injEq, T.bl.injEq, T.str.injEq, T.lst.injEq, T.tup.injEq, T.cell.injEq, T.ins.injEq, Cell.lst.injEq, Cell.ins.injEq, Prod.mk.injEq, List.cons.injEq, Option.some.injEq, List.map_cons, List.map_nil, List.length_cons, List.length_nil, List.cons_append, List.nil_append, List.append_nil, List.getElem?_cons_zero, List.getElem?_cons_succ, List.set_cons_zero, List.set_cons_succ, List.replicate_succ, List.replicate_zero, exists_eq_left, exists_eq_left', exists_and_left, and_true, true_and, and_self, and_assoc, Nat.sub_self, Nat.reduceAdd, Nat.reduceSub, Nat.zero_add, put_put, put_same, reduceIte, Bool.false_eq_true, Bool.true_eq_false, Bool.not_true, Bool.not_false, at_0, at_1, at_2, at_3, at_4, at_5, at_6, at_7, ix_1_0, ix_2_0, ix_2_1, ix_3_0, ix_3_1, ix_3_2, ix_4_0, ix_4_1, ix_4_2, ix_4_3]
      have sm := SmT.lst (SmL.cons (sm_d4 ro) (SmL.cons (sm_d4 ro) (SmL.cons (sm_d4 ro) SmL.nil)))
      refine ⟨(s.shrink c w h), rfl, by decide, ⟨(s.shrink c w h), rfl, by decide, ⟨(s.shrink c w h), rfl, by decide, repr_one rfl sm (by decide) (by decide) ?_⟩⟩⟩
      refine ⟨s, false, w, h, c, rfl, rfl, o.up (by decide), hw, hh, by decide, by decide, by decide, by decide, ?_⟩
      refine repr_one rfl sm (by decide) (by decide) (eq_str ?_)
      rw [decide_eq_true (show shownT (T.lst [d4T ((s.shrink c w h)), d4T ((s.shrink c w h)), d4T ((s.shrink c w h))]) = shownT (T.lst (List.replicate (Int.toNat 3) [d4T (scR false s c w h)]).flatten) from rfl)]
      exact q
    | true =>
      refine sSeq_i fun N hN => ?_
      simp only [scC, stF_apply, sSeq, sAsg, sDrop, sRet, sRetN, sIf, sNext, sPar, sPar3, sFor, sRaise, sFldT, sNo, rNo, rVar, rFrz, rC, rBin, rTest, bAnd, bOr, bNot, bIf, vAnd, vOr, vNot, rIf, rNeg, aNil, aCons, rTup, rLst, rLstC, rArgs, gNameT, gNilT, gConsT, gTupT, gSubT, iSeq, iRng1T, iRng2T, rLc, rCall, rCallN, rCallS, rFld, rCon, rMake, rMakeN, rMakeP, rMeth, rMethK, rProp, rClsFn, rOpOwn, rSl, oNone, oSome, rMut, kAdd, kI2, kI2n, kMul, kIx, kIn, kLen, kU, kA2, kDm, kStrI, kAll, kSl, kAppend, kExtend, kTuple, kList, lenT, seqOf, bYes, startT, one, pickG, selG, insOf, putT, flatT, Bool.false_xor, Bool.true_xor, List.all_cons, List.all_nil, Bool.and_self, T.int.injEq, T.bl.injEq, T.str.injEq, T.lst.injEq, T.tup.injEq, T.cell.injEq, T.ins.injEq, Cell.lst.injEq, Cell.ins.injEq, Prod.mk.injEq, List.cons.injEq, Option.some.injEq, List.map_cons, List.map_nil, List.length_cons, List.length_nil, List.cons_append, List.nil_append, List.append_nil, List.getElem?_cons_zero, List.getElem?_cons_succ, List.set_cons_zero, List.set_cons_succ, List.replicate_succ, List.replicate_zero, exists_eq_left, exists_eq_left', exists_and_left, and_true, true_and, and_self, and_assoc, Nat.sub_self, Nat.reduceAdd, Nat.reduceSub, Nat.zero_add, put_put, put_same, reduceIte, Bool.false_eq_true, Bool.true_eq_false, Bool.not_true, Bool.not_false, at_0, at_1, at_2, at_3, at_4, at_5, at_6, at_7, ix_1_0, ix_2_0, ix_2_1, ix_3_0, ix_3_1, ix_3_2, ix_4_0, ix_4_1, ix_4_2, ix_4_3]
      refine ⟨_, .inr rfl, ⟨w, h, c, s, rfl, rfl, hw, hh, o.up (by decide), ⟨_, .inr rfl, ⟨w, h, c, s, rfl, rfl, hw, hh, o.up (by decide), ⟨_, .inr rfl, ⟨s, rfl, o.up (by decide), ⟨w, h, c, s, rfl, rfl, hw, hh, o.up (by decide), by decide, hN _ _ ?_⟩⟩⟩⟩⟩⟩⟩
      have ro : ((s.grow c w h)).ok 1900 := ((S4.grow_ok (cv := c)) o hw hh).up (by decide)
      refine sSeq_i fun N hN => ?_
      simp only [rComp, sSeq, sAsg, sDrop, sRet, sRetN, sIf, sNext, sPar, sPar3, sFor, sRaise, sFldT, sNo, rNo, rVar, rFrz, rC, rBin, rTest, bAnd, bOr, bNot, bIf, vAnd, vOr, vNot, rIf, rNeg, aNil, aCons, rTup, rLst, rLstC, rArgs, gNameT, gNilT, gConsT, gTupT, gSubT, iSeq, iRng1T, iRng2T, rLc, rCall, rCallN, rCallS, rFld, rCon, rMake, rMakeN, rMakeP, rMeth, rMethK, rProp, rClsFn, rOpOwn, rSl, oNone, oSome, rMut, kAdd, kI2, kI2n, kMul, kIx, kIn, kLen, kU, kA2, kDm, kStrI, kAll, kSl, kAppend, kExtend, kTuple, kList, lenT, seqOf, bYes, startT, one, pickG, selG, insOf, putT, flatT, Bool.false_xor, Bool.true_xor, List.all_cons, List.all_nil, Bool.and_self, T.int.injEq, T.bl.injEq, T.str.injEq, T.lst.injEq, T.tup.injEq, T.cell.injEq, T.ins.injEq, Cell.lst.injEq, Cell.ins.injEq, Prod.mk.injEq, List.cons.injEq, Option.some.injEq, List.map_cons, List.map_nil, List.length_cons, List.length_nil, List.cons_append, List.nil_append, List.append_nil, List.getElem?_cons_zero, List.getElem?_cons_succ, List.set_cons_zero, List.set_cons_succ, List.replicate_succ, List.replicate_zero, exists_eq_left, exists_eq_left', exists_and_left, and_true, true_and, and_self, and_assoc, Nat.sub_self, Nat.reduceAdd, Nat.reduceSub, Nat.zero_add, put_put, put_same, reduceIte, Bool.false_eq_true, Bool.true_eq_false, Bool.not_true, Bool.not_false, at_0, at_1, at_2, at_3, at_4, at_5, at_6, at_7, ix_1_0, ix_2_0, ix_2_1, ix_3_0, ix_3_1, ix_3_2, ix_4_0, ix_4_1, ix_4_2, ix_4_3]
      refine isSz is_Size ⟨by decide, isSz is_Size ⟨by decide, isSz is_Size ⟨by decide, [true, true, true], rfl, ?_⟩⟩⟩
      rw [if_neg (by decide)]
      refine ⟨s, rfl, ne_d4 ⟨false, rfl, ?_⟩⟩
      rw [if_neg Bool.false_ne_true]
      refine hN _ _ ?_
      simp only [rComp, sSeq, sAsg, sDrop, sRet, sRetN, sIf, sNext, sPar, sPar3, sFor, sRaise, sFldT, sNo, rNo, rVar, rFrz, rC, rBin, rTest, bAnd, bOr, bNot, bIf, vAnd, vOr, vNot, rIf, rNeg, aNil, aCons, rTup, rLst, rLstC, rArgs, gNameT, gNilT, gConsT, gTupT, gSubT, iSeq, iRng1T, iRng2T, rLc, rCall, rCallN, rCallS, rFld, rCon, rMake, rMakeN, rMakeP, rMeth, rMethK, rProp, rClsFn, rOpOwn, rSl, oNone, oSome, rMut, kAdd, kI2, kI2n, kMul, kIx, kIn, kLen, kU, kA2, kDm, kStrI, kAll, kSl, kAppend, kExtend, kTuple, kList, lenT, seqOf, bYes, startT, one, pickG, selG, insOf, putT, flatT, Bool.false_xor, Bool.true_xor, List.all_cons, List.all_nil, Bool.and_self, T.int.injEq, T.bl.injEq, T.str.injEq, T.lst.injEq, T.tup.injEq, T.cell.injEq, T.ins.injEq, Cell.lst.injEq, Cell.ins.injEq, Prod.mk.injEq, List.cons.injEq, Option.some.injEq, List.map_cons, List.map_nil, List.length_cons, List.length_nil, List.cons_append, List.nil_append, List.append_nil, List.getElem?_cons_zero, List.getElem?_cons_succ, List.set_cons_zero, List.set_cons_succ, List.replicate_succ, List.replicate_zero, exists_eq_left, exists_eq_left', exists_and_left, and_true, true_and, and_self, and_assoc, Nat.sub_self, Nat.reduceAdd, Nat.reduceSub, Nat.zero_add, put_put, put_same, reduceIte, Bool.false_eq_true, Bool.true_eq_false, Bool.not_true, Bool.not_false, at_0, at_1, at_2, at_3, at_4, at_5, at_6, at_7, ix_1_0, ix_2_0, ix_2_1, ix_3_0, ix_3_1, ix_3_2, ix_4_0, ix_4_1, ix_4_2, ix_4_3]
      have sm := SmT.lst (SmL.cons (sm_d4 ro) (SmL.cons (sm_d4 ro) (SmL.cons (sm_d4 ro) SmL.nil)))
      refine ⟨(s.grow c w h), rfl, by decide, ⟨(s.grow c w h), rfl, by decide, ⟨(s.grow c w h), rfl, by decide, repr_one rfl sm (by decide) (by decide) ?_⟩⟩⟩
      refine ⟨s, true, w, h, c, rfl, rfl, o.up (by decide), hw, hh, by decide, by decide, by decide, by decide, ?_⟩
      refine repr_one rfl sm (by decide) (by decide) (eq_str ?_)
      rw [decide_eq_true (show shownT (T.lst [d4T ((s.grow c w h)), d4T ((s.grow c w h)), d4T ((s.grow c w h))]) = shownT (T.lst (List.replicate (Int.toNat 3) [d4T (scR true s c w h)]).flatten) from rfl)]
      exact q
  · exact h.elim
/-- lists of sides -/
def EdN (n : Nat) (l : List T) : Prop := ∃ ss : List S4, l = ss.map d4T ∧ (∀ s ∈ ss, s.ok 300) ∧ ss.length ≤ n
theorem EdN.nil : EdN 0 [] := ⟨[], rfl, (by intro s m; cases m), Nat.le_refl _⟩
theorem EdN.cons {n : Nat} {s : S4} {l : List T} (o : s.ok 300) (h : EdN n l) : EdN (n + 1) (d4T s :: l) := by
  obtain ⟨ss, rfl, a, b⟩ := h
  exact ⟨s :: ss, rfl, fun z m => by
    rcases List.mem_cons.mp m with rfl | m
    · exact o
    · exact a z m, by simp; omega⟩
theorem EdN.mk {n : Nat} {a b c d : Int} {l : List T} (h1 : Fr 300 a b) (h2 : Fr 300 c d) (h : EdN n l) : EdN (n + 1) (.tup [frT a b, frT c d] :: l) := EdN.cons (s := ⟨a, b, c, d⟩) ⟨h1, h2⟩ h
theorem EdN.app {n m : Nat} {l k : List T} (h : EdN n l) (g : EdN m k) : EdN (n + m) (l ++ k) := by
  obtain ⟨ss, rfl, a, b⟩ := h
  obtain ⟨ss2, rfl, a2, b2⟩ := g
  refine ⟨ss ++ ss2, by rw [List.map_append], fun z i => ?_, by simp; omega⟩
  rcases List.mem_append.mp i with i | i
  · exact a z i
  · exact a2 z i
theorem EdN.len {n : Nat} {l : List T} (h : EdN n l) : l.length ≤ n := by
  obtain ⟨ss, rfl, _, b⟩ := h
  rw [List.length_map]; exact b
theorem Bx.p {w : Int} (h : Bx w) : Pn 100 w := h.pn.up (by decide)
theorem line60 {n : Nat} (h : n ≤ 60) : n ≤ sizeLine := Nat.le_trans h (by decide)
theorem sc_l_edges : FnScope ["_law_one", "_law_more", "_law_some", "_law_far", "_law_bit"] ["_law_one", "_law_more"] (defScope s_l_edges) := ⟨rfl, rfl, rfl, by decide +kernel, rfl, by decide +kernel, by decide +kernel⟩
def sp_l_edges : SpT := fun ts S R _ => match ts with
  | [.int a, .int b] => Bx a ∧ Bx b ∧ ∀ l, EdN 16 l → R (.lst l) S
  | _ => False
theorem ok_l_edges {P : Program} {w : World} {K : PySem.W.Frag} {mg : Str → Option Value} {base : Heap} {f : Addr} {fd : FuncData} {g_l_low : Addr} {gd_l_low : FuncData} (F : Fun K "_law_edges" "_law_edges" s_l_edges f fd)
    (G_l_low : FnT P w K mg base 1 g_l_low gd_l_low ["_law_high_part", "_law_low_part"] sp_l_low)
    (m_l_low : mg "_law_low" = some (.ref g_l_low))
    (k_l_low : PySem.W.keepIn K (.ref g_l_low) = true)
    (b_l_low : Binds K gd_l_low ["_law_high_part", "_law_low_part"] [])
    : FnT P w K mg base 2 f fd ["_law_one", "_law_more"] sp_l_edges := by
  refine okT F sc_l_edges (by intro ts S R RE h; unfold sp_l_edges at h; split at h <;> first | rfl | exact h.elim) (fun cdv A out s H E hg hr => (bs_cons (ss_set (i := 2) sc_l_edges.nd rfl (by first | exact Or.inl rfl | exact Or.inr rfl) (et_lst (at_cons (et_tup (at_cons (et_tup (at_cons (et_var (pv 0)) (at_cons et_int at_nil))) (at_cons (et_tup (at_cons (et_var (pv 1)) (at_cons et_int at_nil))) at_nil))) (at_cons (et_tup (at_cons (et_tup (at_cons (et_op op_mulG cv_mul et_int (et_var (pv 0))) (at_cons et_int at_nil))) (at_cons (et_tup (at_cons (et_op op_mulG cv_mul et_int (et_var (pv 1))) (at_cons et_int at_nil))) at_nil))) (at_cons (et_tup (at_cons (et_callD G_l_low hg (hr.mono (by decide)) (by rfl) m_l_low k_l_low (CallD.all b_l_low) (passL2N (L2N.takes_of rfl rfl rfl rfl)) (at_cons (et_var (pv 0)) (at_cons et_int at_nil))) (at_cons (et_callD G_l_low hg (hr.mono (by decide)) (by rfl) m_l_low k_l_low (CallD.all b_l_low) (passL2N (L2N.takes_of rfl rfl rfl rfl)) (at_cons (et_var (pv 1)) (at_cons et_int at_nil))) at_nil))) at_nil)))))
    (bs_cons (ss_set (i := 2) sc_l_edges.nd rfl (by first | exact Or.inl rfl | exact Or.inr rfl) (et_op op_addG cv_add (et_var (pv 2)) (et_lst (at_cons (et_tup (at_cons (et_tup (at_cons (et_op op_addG cv_add (et_var (pv 0)) et_int) (at_cons et_int at_nil))) (at_cons (et_tup (at_cons (et_var (pv 1)) (at_cons et_int at_nil))) at_nil))) (at_cons (et_tup (at_cons (et_tup (at_cons (et_var (pv 0)) (at_cons et_int at_nil))) (at_cons (et_tup (at_cons (et_op op_addG cv_add (et_var (pv 1)) et_int) (at_cons et_int at_nil))) at_nil))) (at_cons (et_tup (at_cons (et_callD G_l_low hg (hr.mono (by decide)) (by rfl) m_l_low k_l_low (CallD.all b_l_low) (passL2N (L2N.takes_of rfl rfl rfl rfl)) (at_cons (et_var (pv 0)) (at_cons et_int at_nil))) (at_cons (et_tup (at_cons (et_var (pv 1)) (at_cons et_int at_nil))) at_nil))) at_nil))))))
    (bs_cons (ss_set (i := 2) sc_l_edges.nd rfl (by first | exact Or.inl rfl | exact Or.inr rfl) (et_op op_addG cv_add (et_var (pv 2)) (et_lst (at_cons (et_tup (at_cons (et_tup (at_cons (et_var (pv 0)) (at_cons et_int at_nil))) (at_cons (et_callD G_l_low hg (hr.mono (by decide)) (by rfl) m_l_low k_l_low (CallD.all b_l_low) (passL2N (L2N.takes_of rfl rfl rfl rfl)) (at_cons (et_var (pv 1)) (at_cons et_int at_nil))) at_nil))) (at_cons (et_tup (at_cons (et_callD G_l_low hg (hr.mono (by decide)) (by rfl) m_l_low k_l_low (CallD.all b_l_low) (passL2N (L2N.takes_of rfl rfl rfl rfl)) (at_cons (et_op op_sub cv_I2n (et_op op_mulG cv_mul et_int (et_var (pv 0))) et_int) (at_cons et_int at_nil))) (at_cons (et_tup (at_cons (et_var (pv 1)) (at_cons et_int at_nil))) at_nil))) (at_cons (et_tup (at_cons (et_tup (at_cons (et_var (pv 1)) (at_cons et_int at_nil))) (at_cons (et_tup (at_cons (et_var (pv 0)) (at_cons et_int at_nil))) at_nil))) at_nil))))))
    (bs_cons (ss_set (i := 3) sc_l_edges.nd rfl (by first | exact Or.inl rfl | exact Or.inr rfl) (et_op op_pow cv_I2 et_int et_int))
    (bs_cons (ss_for (passes_of rfl) rfl (it_seq (et_lst (at_cons et_int (at_cons (et_op op_sub cv_I2n et_int et_int) at_nil)))) (gt_name (pg_name (i := 4) sc_l_edges.nd rfl (by first | exact Or.inl rfl | exact Or.inr rfl))) (bs_one (ss_set (i := 2) sc_l_edges.nd rfl (by first | exact Or.inl rfl | exact Or.inr rfl) (et_op op_addG cv_add (et_var (pv 2)) (et_lst (at_cons (et_tup (at_cons (et_callD G_l_low hg (hr.mono (by decide)) (by rfl) m_l_low k_l_low (CallD.all b_l_low) (passL2N (L2N.takes_of rfl rfl rfl rfl)) (at_cons (et_op op_addG cv_add (et_op op_mulG cv_mul (et_var (pv 0)) (et_var (pv 3))) (et_var (pv 4))) (at_cons (et_var (pv 3)) at_nil))) (at_cons (et_tup (at_cons (et_var (pv 1)) (at_cons et_int at_nil))) at_nil))) (at_cons (et_tup (at_cons (et_tup (at_cons (et_var (pv 0)) (at_cons et_int at_nil))) (at_cons (et_callD G_l_low hg (hr.mono (by decide)) (by rfl) m_l_low k_l_low (CallD.all b_l_low) (passL2N (L2N.takes_of rfl rfl rfl rfl)) (at_cons (et_op op_addG cv_add (et_op op_mulG cv_mul (et_var (pv 1)) (et_var (pv 3))) (et_var (pv 4))) (at_cons (et_var (pv 3)) at_nil))) at_nil))) at_nil)))))))
    (bs_one (ss_ret (et_op op_addG cv_add (et_var (pv 2)) (et_lst (at_cons (et_tup (at_cons (et_tup (at_cons (et_op op_mulG cv_mul et_int (et_var (pv 0))) (at_cons et_int at_nil))) (at_cons (et_callD G_l_low hg (hr.mono (by decide)) (by rfl) m_l_low k_l_low (CallD.all b_l_low) (passL2N (L2N.takes_of rfl rfl rfl rfl)) (at_cons (et_op op_addG cv_add (et_op op_mulG cv_mul et_int (et_var (pv 1))) et_int) (at_cons et_int at_nil))) at_nil))) (at_cons (et_tup (at_cons (et_tup (at_cons et_int (at_cons (et_op op_pow cv_I2 et_int et_int) at_nil))) (at_cons (et_tup (at_cons (et_op op_pow cv_I2 et_int et_int) (at_cons et_int at_nil))) at_nil))) (at_cons (et_tup (at_cons (et_tup (at_cons (et_op op_pow cv_I2 et_int et_int) (at_cons et_int at_nil))) (at_cons (et_tup (at_cons et_int (at_cons et_int at_nil))) at_nil))) at_nil))))))))))))) ?_
  intro ts S R RE h
  unfold sp_l_edges at h
  split at h
  · rename_i a b
    obtain ⟨ha, hb, q⟩ := h
    have pa := ha.pos
    have pb := hb.pos
    have la := ha.le
    have lb := hb.le
    have P : ∀ {x : Int}, 0 < x → x ≤ 10 ^ 40 → Pn 300 x := fun h l => Pn.of h (by
      have : (10 : Int) ^ 40 < 2 ^ 300 := by decide
      omega)
    have F : ∀ {x : Int}, 0 < x → x ≤ 10 ^ 40 → Fr 300 x 1 := fun h l => Fr.of (P h l)
    have L : ∀ {x y : Int}, 0 < x → x ≤ 10 ^ 40 → 0 < y → y ≤ 10 ^ 40 → Fr 300 (lwA x y) (lwB x y) := fun h l h2 l2 => Fr.low (P h l) (P h2 l2)
    have U : ∀ {x : Int}, 0 < x → x ≤ 10 ^ 40 → Pn 8000 x := fun h l => (P h l).up (by decide)
    refine sSeq_i fun N hN => ?_
    simp only [sp_l_low, sSeq, sAsg, sDrop, sRet, sRetN, sIf, sNext, sPar, sPar3, sFor, sRaise, sFldT, sNo, rNo, rVar, rFrz, rC, rBin, rTest, bAnd, bOr, bNot, bIf, vAnd, vOr, vNot, rIf, rNeg, aNil, aCons, rTup, rLst, rLstC, rArgs, gNameT, gNilT, gConsT, gTupT, gSubT, iSeq, iRng1T, iRng2T, rLc, rCall, rCallN, rCallS, rFld, rCon, rMake, rMakeN, rMakeP, rMeth, rMethK, rProp, rClsFn, rOpOwn, rSl, oNone, oSome, rMut, kAdd, kI2, kI2n, kMul, kIx, kIn, kLen, kU, kA2, kDm, kStrI, kAll, kSl, kAppend, kExtend, kTuple, kList, lenT, seqOf, bYes, startT, one, pickG, selG, insOf, putT, flatT, Bool.false_xor, Bool.true_xor, List.all_cons, List.all_nil, Bool.and_self, T.int.injEq, T.bl.injEq, T.str.injEq, T.lst.injEq, T.tup.injEq, T.cell.injEq, T.ins.injEq, Cell.lst.injEq, Cell.ins.injEq, Prod.mk.injEq, List.cons.injEq, Option.some.injEq, List.map_cons, List.map_nil, List.length_cons, List.length_nil, List.cons_append, List.nil_append, List.append_nil, List.getElem?_cons_zero, List.getElem?_cons_succ, List.set_cons_zero, List.set_cons_succ, List.replicate_succ, List.replicate_zero, exists_eq_left, exists_eq_left', exists_and_left, and_true, true_and, and_self, and_assoc, Nat.sub_self, Nat.reduceAdd, Nat.reduceSub, Nat.zero_add, put_put, put_same, reduceIte, Bool.false_eq_true, Bool.true_eq_false, Bool.not_true, Bool.not_false, at_0, at_1, at_2, at_3, at_4, at_5, at_6, at_7, ix_1_0, ix_2_0, ix_2_1, ix_3_0, ix_3_1, ix_3_2, ix_4_0, ix_4_1, ix_4_2, ix_4_3]
    have h1 : EdN 3 [.tup [.tup [.int a, .int 1], .tup [.int b, .int 1]], .tup [.tup [.int (2 * a), .int 1], .tup [.int (2 * b), .int 1]], .tup [frT (lwA a 2) (lwB a 2), frT (lwA b 2) (lwB b 2)]] :=
      .mk (F pa (by omega)) (F pb (by omega)) (.mk (F (by omega) (by omega)) (F (by omega) (by omega)) (.mk (L pa (by omega) (by decide) (by decide)) (L pb (by omega) (by decide) (by decide)) .nil))
    refine ⟨by decide, by decide, by decide, mulL (by decide), by decide, mulL (by decide), by decide, by decide, U pa (by omega), by decide, U pb (by omega), by decide, by decide, by decide, (?_ : ∀ l1, EdN 3 l1 → N [some (.int a), some (.int b), some (.lst l1), none, none] S) _ h1⟩
    intro l1 h1
    refine hN _ _ ?_
    refine sSeq_i fun N hN => ?_
    simp only [sp_l_low, sSeq, sAsg, sDrop, sRet, sRetN, sIf, sNext, sPar, sPar3, sFor, sRaise, sFldT, sNo, rNo, rVar, rFrz, rC, rBin, rTest, bAnd, bOr, bNot, bIf, vAnd, vOr, vNot, rIf, rNeg, aNil, aCons, rTup, rLst, rLstC, rArgs, gNameT, gNilT, gConsT, gTupT, gSubT, iSeq, iRng1T, iRng2T, rLc, rCall, rCallN, rCallS, rFld, rCon, rMake, rMakeN, rMakeP, rMeth, rMethK, rProp, rClsFn, rOpOwn, rSl, oNone, oSome, rMut, kAdd, kI2, kI2n, kMul, kIx, kIn, kLen, kU, kA2, kDm, kStrI, kAll, kSl, kAppend, kExtend, kTuple, kList, lenT, seqOf, bYes, startT, one, pickG, selG, insOf, putT, flatT, Bool.false_xor, Bool.true_xor, List.all_cons, List.all_nil, Bool.and_self, T.int.injEq, T.bl.injEq, T.str.injEq, T.lst.injEq, T.tup.injEq, T.cell.injEq, T.ins.injEq, Cell.lst.injEq, Cell.ins.injEq, Prod.mk.injEq, List.cons.injEq, Option.some.injEq, List.map_cons, List.map_nil, List.length_cons, List.length_nil, List.cons_append, List.nil_append, List.append_nil, List.getElem?_cons_zero, List.getElem?_cons_succ, List.set_cons_zero, List.set_cons_succ, List.replicate_succ, List.replicate_zero, exists_eq_left, exists_eq_left', exists_and_left, and_true, true_and, and_self, and_assoc, Nat.sub_self, Nat.reduceAdd, Nat.reduceSub, Nat.zero_add, put_put, put_same, reduceIte, Bool.false_eq_true, Bool.true_eq_false, Bool.not_true, Bool.not_false, at_0, at_1, at_2, at_3, at_4, at_5, at_6, at_7, ix_1_0, ix_2_0, ix_2_1, ix_3_0, ix_3_1, ix_3_2, ix_4_0, ix_4_1, ix_4_2, ix_4_3]
    have h2 : EdN 3 [.tup [.tup [.int (a + 1), .int 1], .tup [.int b, .int 1]], .tup [.tup [.int a, .int 1], .tup [.int (b + 1), .int 1]], .tup [frT (lwA a 3) (lwB a 3), .tup [.int b, .int 1]]] :=
      .mk (F (by omega) (by omega)) (F pb (by omega)) (.mk (F pa (by omega)) (F (by omega) (by omega)) (.mk (L pa (by omega) (by decide) (by decide)) (F pb (by omega)) .nil))
    have k2 := h1.app h2
    refine ⟨by decide, by decide, by decide, by decide, by decide, by decide, U pa (by omega), by decide, by decide, by decide, by decide, line60 (by have := h1.len; omega), (?_ : ∀ l1, EdN 6 l1 → N [some (.int a), some (.int b), some (.lst l1), none, none] S) _ k2⟩
    clear h1 h2 k2
    intro l1 h1
    refine hN _ _ ?_
    refine sSeq_i fun N hN => ?_
    simp only [sp_l_low, sSeq, sAsg, sDrop, sRet, sRetN, sIf, sNext, sPar, sPar3, sFor, sRaise, sFldT, sNo, rNo, rVar, rFrz, rC, rBin, rTest, bAnd, bOr, bNot, bIf, vAnd, vOr, vNot, rIf, rNeg, aNil, aCons, rTup, rLst, rLstC, rArgs, gNameT, gNilT, gConsT, gTupT, gSubT, iSeq, iRng1T, iRng2T, rLc, rCall, rCallN, rCallS, rFld, rCon, rMake, rMakeN, rMakeP, rMeth, rMethK, rProp, rClsFn, rOpOwn, rSl, oNone, oSome, rMut, kAdd, kI2, kI2n, kMul, kIx, kIn, kLen, kU, kA2, kDm, kStrI, kAll, kSl, kAppend, kExtend, kTuple, kList, lenT, seqOf, bYes, startT, one, pickG, selG, insOf, putT, flatT, Bool.false_xor, Bool.true_xor, List.all_cons, List.all_nil, Bool.and_self, T.int.injEq, T.bl.injEq, T.str.injEq, T.lst.injEq, T.tup.injEq, T.cell.injEq, T.ins.injEq, Cell.lst.injEq, Cell.ins.injEq, Prod.mk.injEq, List.cons.injEq, Option.some.injEq, List.map_cons, List.map_nil, List.length_cons, List.length_nil, List.cons_append, List.nil_append, List.append_nil, List.getElem?_cons_zero, List.getElem?_cons_succ, List.set_cons_zero, List.set_cons_succ, List.replicate_succ, List.replicate_zero, exists_eq_left, exists_eq_left', exists_and_left, and_true, true_and, and_self, and_assoc, Nat.sub_self, Nat.reduceAdd, Nat.reduceSub, Nat.zero_add, put_put, put_same, reduceIte, Bool.false_eq_true, Bool.true_eq_false, Bool.not_true, Bool.not_false, at_0, at_1, at_2, at_3, at_4, at_5, at_6, at_7, ix_1_0, ix_2_0, ix_2_1, ix_3_0, ix_3_1, ix_3_2, ix_4_0, ix_4_1, ix_4_2, ix_4_3]
    have h2 : EdN 3 [.tup [.tup [.int a, .int 1], frT (lwA b 3) (lwB b 3)], .tup [frT (lwA (2 * a - 1) 2) (lwB (2 * a - 1) 2), .tup [.int b, .int 1]], .tup [.tup [.int b, .int 1], .tup [.int a, .int 1]]] :=
      .mk (F pa (by omega)) (L pb (by omega) (by decide) (by decide)) (.mk (L (by omega) (by omega) (by decide) (by decide)) (F pb (by omega)) (.mk (F pb (by omega)) (F pa (by omega)) .nil))
    have k2 := h1.app h2
    refine ⟨by decide, U pb (by omega), by decide, by decide, mulL (by decide), U (by omega) (by omega), by decide, by decide, by decide, by decide, by decide, by decide, by decide, line60 (by have := h1.len; omega), (?_ : ∀ l1, EdN 9 l1 → N [some (.int a), some (.int b), some (.lst l1), none, none] S) _ k2⟩
    clear h1 h2 k2
    intro l1 h1
    refine hN _ _ ?_
    refine sSeq_i fun N hN => ?_
    simp only [sSeq, sAsg, sDrop, sRet, sRetN, sIf, sNext, sPar, sPar3, sFor, sRaise, sFldT, sNo, rNo, rVar, rFrz, rC, rBin, rTest, bAnd, bOr, bNot, bIf, vAnd, vOr, vNot, rIf, rNeg, aNil, aCons, rTup, rLst, rLstC, rArgs, gNameT, gNilT, gConsT, gTupT, gSubT, iSeq, iRng1T, iRng2T, rLc, rCall, rCallN, rCallS, rFld, rCon, rMake, rMakeN, rMakeP, rMeth, rMethK, rProp, rClsFn, rOpOwn, rSl, oNone, oSome, rMut, kAdd, kI2, kI2n, kMul, kIx, kIn, kLen, kU, kA2, kDm, kStrI, kAll, kSl, kAppend, kExtend, kTuple, kList, lenT, seqOf, bYes, startT, one, pickG, selG, insOf, putT, flatT, Bool.false_xor, Bool.true_xor, List.all_cons, List.all_nil, Bool.and_self, T.int.injEq, T.bl.injEq, T.str.injEq, T.lst.injEq, T.tup.injEq, T.cell.injEq, T.ins.injEq, Cell.lst.injEq, Cell.ins.injEq, Prod.mk.injEq, List.cons.injEq, Option.some.injEq, List.map_cons, List.map_nil, List.length_cons, List.length_nil, List.cons_append, List.nil_append, List.append_nil, List.getElem?_cons_zero, List.getElem?_cons_succ, List.set_cons_zero, List.set_cons_succ, List.replicate_succ, List.replicate_zero, exists_eq_left, exists_eq_left', exists_and_left, and_true, true_and, and_self, and_assoc, Nat.sub_self, Nat.reduceAdd, Nat.reduceSub, Nat.zero_add, put_put, put_same, reduceIte, Bool.false_eq_true, Bool.true_eq_false, Bool.not_true, Bool.not_false, at_0, at_1, at_2, at_3, at_4, at_5, at_6, at_7, ix_1_0, ix_2_0, ix_2_1, ix_3_0, ix_3_1, ix_3_2, ix_4_0, ix_4_1, ix_4_2, ix_4_3]
    refine ⟨⟨by decide, by decide, by decide⟩, (?_ : ∀ far : Int, far = 10 ^ 20 → N [some (.int a), some (.int b), some (.lst l1), some (.int far), none] S) _ rfl⟩
    intro far hf
    have e20 : (10 : Int) ^ 20 = 100000000000000000000 := by decide
    rw [e20] at hf
    refine hN _ _ ?_
    have B : ∀ {x z : Int}, 0 < x → x ≤ 1000000 → -1 ≤ z → z ≤ 1 → 0 < x * far + z ∧ x * far + z ≤ 10 ^ 40 := fun {x z} p l z0 z1 => by
      have e40 : (10 : Int) ^ 40 = 10000000000000000000000000000000000000000 := by decide
      rw [e40, hf]
      omega
    have E : ∀ {z : Int}, -1 ≤ z → z ≤ 1 → EdN 2 [.tup [frT (lwA (a * far + z) far) (lwB (a * far + z) far), .tup [.int b, .int 1]], .tup [.tup [.int a, .int 1], frT (lwA (b * far + z) far) (lwB (b * far + z) far)]] := fun {z} h1 h2 =>
      .mk (L (B pa la h1 h2).1 (B pa la h1 h2).2 (by omega) (by omega)) (F pb (by omega)) (.mk (F pa (by omega)) (L (B pb lb h1 h2).1 (B pb lb h1 h2).2 (by omega) (by omega)) .nil)
    have V : ∀ {x z : Int}, 0 < x → x ≤ 1000000 → -1 ≤ z → z ≤ 1 → Pn 8000 (x * far + z) := fun p l z0 z1 => U (B p l z0 z1).1 (B p l z0 z1).2
    have f0 : 0 < far := by omega
    have e1 := E (z := 1) (by decide) (by decide)
    have e2 := E (z := 0 - 1) (by decide) (by decide)
    have k2 := (h1.app e1).app e2
    have k1 := h1.app e1
    have ln1 : l1.length + 2 ≤ sizeLine := line60 (by have := h1.len; omega)
    have ln2 := k1.len
    refine sSeq_i fun N hN => ?_
    simp only [rLoop, sp_l_low, sSeq, sAsg, sDrop, sRet, sRetN, sIf, sNext, sPar, sPar3, sFor, sRaise, sFldT, sNo, rNo, rVar, rFrz, rC, rBin, rTest, bAnd, bOr, bNot, bIf, vAnd, vOr, vNot, rIf, rNeg, aNil, aCons, rTup, rLst, rLstC, rArgs, gNameT, gNilT, gConsT, gTupT, gSubT, iSeq, iRng1T, iRng2T, rLc, rCall, rCallN, rCallS, rFld, rCon, rMake, rMakeN, rMakeP, rMeth, rMethK, rProp, rClsFn, rOpOwn, rSl, oNone, oSome, rMut, kAdd, kI2, kI2n, kMul, kIx, kIn, kLen, kU, kA2, kDm, kStrI, kAll, kSl, kAppend, kExtend, kTuple, kList, lenT, seqOf, bYes, startT, one, pickG, selG, insOf, putT, flatT, Bool.false_xor, Bool.true_xor, List.all_cons, List.all_nil, Bool.and_self, T.int.injEq, T.bl.injEq, T.str.injEq, T.lst.injEq, T.tup.injEq, T.cell.injEq, T.ins.injEq, Cell.lst.injEq, Cell.ins.injEq, Prod.mk.injEq, List.cons.injEq, Option.some.injEq, List.map_cons, List.map_nil, List.length_cons, List.length_nil, List.cons_append, List.nil_append, List.append_nil, List.getElem?_cons_zero, List.getElem?_cons_succ, List.set_cons_zero, List.set_cons_succ, List.replicate_succ, List.replicate_zero, exists_eq_left, exists_eq_left', exists_and_left, and_true, true_and, and_self, and_assoc, Nat.sub_self, Nat.reduceAdd, Nat.reduceSub, Nat.zero_add, put_put, put_same, reduceIte, Bool.false_eq_true, Bool.true_eq_false, Bool.not_true, Bool.not_false, at_0, at_1, at_2, at_3, at_4, at_5, at_6, at_7, ix_1_0, ix_2_0, ix_2_1, ix_3_0, ix_3_1, ix_3_2, ix_4_0, ix_4_1, ix_4_2, ix_4_3]
    refine ⟨by decide, mulL (by omega), V pa la (by decide) (by decide), f0, by decide, by decide, by decide, mulL (by omega), V pb lb (by decide) (by decide), f0, by decide, by decide, ln1,
      mulL (by omega), V pa la (by decide) (by decide), f0, by decide, by decide, by decide, mulL (by omega), V pb lb (by decide) (by decide), f0, by decide, by decide, line60 (by omega), (?_ : ∀ l1 z, EdN 13 l1 → N [some (.int a), some (.int b), some (.lst l1), some (.int far), some (.int z)] S) _ _ k2⟩
    clear h1 k1 k2 e1 e2 ln1 ln2
    intro l1 z h1
    refine hN _ _ ?_
    have e30 : (10 : Int) ^ (30 : Int).toNat = 10 ^ 30 := rfl
    simp only [sp_l_low, e30, sSeq, sAsg, sDrop, sRet, sRetN, sIf, sNext, sPar, sPar3, sFor, sRaise, sFldT, sNo, rNo, rVar, rFrz, rC, rBin, rTest, bAnd, bOr, bNot, bIf, vAnd, vOr, vNot, rIf, rNeg, aNil, aCons, rTup, rLst, rLstC, rArgs, gNameT, gNilT, gConsT, gTupT, gSubT, iSeq, iRng1T, iRng2T, rLc, rCall, rCallN, rCallS, rFld, rCon, rMake, rMakeN, rMakeP, rMeth, rMethK, rProp, rClsFn, rOpOwn, rSl, oNone, oSome, rMut, kAdd, kI2, kI2n, kMul, kIx, kIn, kLen, kU, kA2, kDm, kStrI, kAll, kSl, kAppend, kExtend, kTuple, kList, lenT, seqOf, bYes, startT, one, pickG, selG, insOf, putT, flatT, Bool.false_xor, Bool.true_xor, List.all_cons, List.all_nil, Bool.and_self, T.int.injEq, T.bl.injEq, T.str.injEq, T.lst.injEq, T.tup.injEq, T.cell.injEq, T.ins.injEq, Cell.lst.injEq, Cell.ins.injEq, Prod.mk.injEq, List.cons.injEq, Option.some.injEq, List.map_cons, List.map_nil, List.length_cons, List.length_nil, List.cons_append, List.nil_append, List.append_nil, List.getElem?_cons_zero, List.getElem?_cons_succ, List.set_cons_zero, List.set_cons_succ, List.replicate_succ, List.replicate_zero, exists_eq_left, exists_eq_left', exists_and_left, and_true, true_and, and_self, and_assoc, Nat.sub_self, Nat.reduceAdd, Nat.reduceSub, Nat.zero_add, put_put, put_same, reduceIte, Bool.false_eq_true, Bool.true_eq_false, Bool.not_true, Bool.not_false, at_0, at_1, at_2, at_3, at_4, at_5, at_6, at_7, ix_1_0, ix_2_0, ix_2_1, ix_3_0, ix_3_1, ix_3_2, ix_4_0, ix_4_1, ix_4_2, ix_4_3]
    have b30 : (0 : Int) < 10 ^ 30 ∧ (10 : Int) ^ 30 ≤ 10 ^ 40 := by decide
    have h2 : EdN 3 [.tup [.tup [.int (3 * a), .int 1], frT (lwA (3 * b + 1) 1) (lwB (3 * b + 1) 1)], .tup [.tup [.int 1, .int (10 ^ 30)], .tup [.int (10 ^ 30), .int 1]], .tup [.tup [.int (10 ^ 30), .int 1], .tup [.int 1, .int 7]]] :=
      .mk (F (by omega) (by omega)) (L (by omega) (by omega) (by decide) (by decide)) (.mk (Fr.inv (P b30.1 b30.2)) (F b30.1 b30.2) (.mk (F b30.1 b30.2) (Fr.inv (P (by decide) (by decide))) .nil))
    have cp : CPow 10 30 := ⟨by decide, by decide, by decide⟩
    exact ⟨mulL (by decide), by decide, mulL (by decide), U (by omega) (by omega), by decide, by decide, cp, by decide, cp, by decide, by decide, cp, by decide, by decide, by decide, by decide, line60 (by have := h1.len; omega), q _ (h1.app h2)⟩
  · exact h.elim
theorem mk_shrinkG {C : Addr} {w h : Int} {c : Bool} {S : Store} {G : Addr → Store → List (Str × T) → Prop} {RE : XT} (hw : Bx w) (hh : Bx h) (q : ∀ u, S u = none → G u (S.put u (.ins C (stF w h c))) (stF w h c)) :
    ∀ u, S u = none → sp_Shrink_init C [.cell u, .int w, .int h, .bl c] (S.put u (.ins C [])) (fun z S2 => z = .non ∧ ∃ gs, S2 u = some (.ins C gs) ∧ G u S2 gs) RE := fun u hu =>
  ⟨put_same, hw, hh, rfl, _, put_same, by rw [put_put]; exact q u hu⟩
theorem mk_growG {C : Addr} {w h : Int} {c : Bool} {S : Store} {G : Addr → Store → List (Str × T) → Prop} {RE : XT} (hw : Bx w) (hh : Bx h) (q : ∀ u, S u = none → G u (S.put u (.ins C (stF w h c))) (stF w h c)) :
    ∀ u, S u = none → sp_Grow_init C [.cell u, .int w, .int h, .bl c] (S.put u (.ins C [])) (fun z S2 => z = .non ∧ ∃ gs, S2 u = some (.ins C gs) ∧ G u S2 gs) RE := fun u hu =>
  ⟨put_same, hw, hh, rfl, _, put_same, by rw [put_put]; exact q u hu⟩
theorem mk_sizeG {C : Addr} {x y : T} {a b c d : Int} {S : Store} {G : Addr → Store → List (Str × T) → Prop} {RE : XT} (s1 : Side 8000 x a b) (s2 : Side 8000 y c d) (q : ∀ u, S u = none → G u (S.put u (.ins C (szF a b c d))) (szF a b c d)) :
    ∀ u, S u = none → sp_Size_init C [.cell u, x, y] (S.put u (.ins C [])) (fun z S2 => z = .non ∧ ∃ gs, S2 u = some (.ins C gs) ∧ G u S2 gs) RE := fun u hu =>
  ⟨put_same, a, b, c, d, s1, s2, rfl, _, put_same, by rw [put_put]; exact q u hu⟩
theorem ap_s {CS CG CZ : Addr} {w h : Int} {cv : Bool} {s s' : S4} {S : Store} {G : T → Store → Prop} (hw : Bx w) (hh : Bx h) (o : s.ok 1000) (e : s.shrink cv w h = s') (q : G (d4T s') S) :
    ∃ x, (x = sp_Shrink_apply CS CZ ∨ CS = CG ∧ x = sp_Grow_apply CG CZ) ∧ x [.ins CS (stF w h cv), .ins CZ (szF s.a s.b s.c s.d)] S (fun x S1 => sp_l_pair CZ [x] S1 G XF) XF := by
  subst e
  exact ⟨_, .inl rfl, w, h, cv, s, rfl, rfl, hw, hh, o, _, rfl, q⟩
theorem ap_g {CS CG CZ : Addr} {w h : Int} {cv : Bool} {s s' : S4} {S : Store} {G : T → Store → Prop} (hw : Bx w) (hh : Bx h) (o : s.ok 1000) (e : s.grow cv w h = s') (q : G (d4T s') S) :
    ∃ x, (CG = CS ∧ x = sp_Shrink_apply CS CZ ∨ x = sp_Grow_apply CG CZ) ∧ x [.ins CG (stF w h cv), .ins CZ (szF s.a s.b s.c s.d)] S (fun x S1 => sp_l_pair CZ [x] S1 G XF) XF := by
  subst e
  exact ⟨_, .inr rfl, w, h, cv, s, rfl, rfl, hw, hh, o, _, rfl, q⟩
def d4D (s : S4) : PyData := .tuple [.tuple [.int s.a, .int s.b], .tuple [.int s.c, .int s.d]]
theorem datL_map : ∀ ss : List S4, T.datL (ss.map d4T) = some (ss.map d4D)
  | [] => by rw [List.map_nil, T.datL]; rfl
  | s :: ss => by rw [List.map_cons, T.datL, dat_d4, datL_map ss]; rfl
/-- a list of sides is that list -/
theorem ne_lst {ss : List S4} {S : Store} {R : T → Store → Prop} {RE : XT} (h : (PyData.eqv (.list (ss.map d4D)) (.list (ss.map d4D)) && SeqAt.shaped (.list (ss.map d4D))) = true) (q : R (.bl false) S) : kEqG true (.lst (ss.map d4T)) (.lst (ss.map d4T)) S R RE := by
  rw [Bool.and_eq_true] at h
  have e : (T.lst (ss.map d4T)).dat = some (.list (ss.map d4D)) := by rw [T.dat, datL_map]; rfl
  exact .inr ⟨_, _, e, e, h.2, h.2, by rw [h.1]; exact q⟩
theorem bxD {w : Int} (h : (0 < w ∧ w ≤ 1000000) := by decide) : Bx w := ⟨h.1, h.2⟩
theorem sdI {a : Int} (h : 0 < a ∧ a < 2 ^ 64 := by decide) : Side 8000 (.int a) a 1 := .int ((Pn.of (n := 64) h.1 h.2).up (by decide))
def eqS4 (s t : S4) : Bool := s.a == t.a && s.b == t.b && s.c == t.c && s.d == t.d
theorem S4.of_eq {s t : S4} (h : eqS4 s t = true) : s = t := by
  unfold eqS4 at h
  simp only [Bool.and_eq_true, beq_iff_eq] at h
  obtain ⟨⟨⟨h1, h2⟩, h3⟩, h4⟩ := h
  cases s; cases t
  simp only at h1 h2 h3 h4
  subst h1 h2 h3 h4
  rfl
theorem okS {a b c d : Int} (h : (0 < a ∧ a < 2 ^ 64) ∧ (0 < b ∧ b < 2 ^ 64) ∧ (0 < c ∧ c < 2 ^ 64) ∧ (0 < d ∧ d < 2 ^ 64) ∧ gcdI a b = 1 ∧ gcdI c d = 1 := by decide +kernel) : (⟨a, b, c, d⟩ : S4).ok 1000 :=
  Sz.up (n := 64) ⟨⟨Pn.of h.1.1 h.1.2, Pn.of h.2.1.1 h.2.1.2, h.2.2.2.2.1⟩, ⟨Pn.of h.2.2.1.1 h.2.2.1.2, Pn.of h.2.2.2.1.1 h.2.2.2.1.2, h.2.2.2.2.2⟩⟩ (by decide)
theorem sc_l_right : FnScope ["_law_pool_here", "_law_one", "_law_more", "_law_every", "_law_turn", "_law_sides_here", "_law_word"] ["_law_pool_here"] (defScope s_l_right) := ⟨rfl, rfl, rfl, by decide +kernel, rfl, by decide +kernel, by decide +kernel⟩
def sp_l_right (C : Addr) : SpT := fun ts S R _ => match ts with
  | [.cell p] => PoolT S p ∧ ∀ S', R (.bl true) S'
  | _ => False
theorem ok_l_right {P : Program} {w : World} {K : PySem.W.Frag} {mg : Str → Option Value} {base : Heap} {f : Addr} {fd : FuncData} {g_l_step_right C_Size g_l_edges g_l_sides g_l_side : Addr} {gd_l_step_right : FuncData} {gd_l_edges : FuncData} {gd_l_sides : FuncData} {gd_l_side : FuncData} (F : Fun K "_law_right" "_law_right" s_l_right f fd)
    (n_range : mg "range" = none)
    (G_l_step_right : FnT P w K mg base 10 g_l_step_right gd_l_step_right ["_law_spec", "_law_sides_here"] (sp_l_step_right C_Size))
    (m_l_step_right : mg "_law_step_right" = some (.ref g_l_step_right))
    (k_l_step_right : PySem.W.keepIn K (.ref g_l_step_right) = true)
    (b_l_step_right : Binds K gd_l_step_right ["_law_spec", "_law_sides_here"] [])
    (G_l_edges : FnT P w K mg base 2 g_l_edges gd_l_edges ["_law_one", "_law_more"] sp_l_edges)
    (m_l_edges : mg "_law_edges" = some (.ref g_l_edges))
    (k_l_edges : PySem.W.keepIn K (.ref g_l_edges) = true)
    (b_l_edges : Binds K gd_l_edges ["_law_one", "_law_more"] [])
    (G_l_sides : FnT P w K mg base 3 g_l_sides gd_l_sides ["_law_pool_here", "_law_great"] sp_l_sides)
    (m_l_sides : mg "_law_sides" = some (.ref g_l_sides))
    (k_l_sides : PySem.W.keepIn K (.ref g_l_sides) = true)
    (b_l_sides : Binds K gd_l_sides ["_law_pool_here", "_law_great"] [])
    (G_l_side : FnT P w K mg base 2 g_l_side gd_l_side ["_law_pool_here", "_law_great"] sp_l_side)
    (m_l_side : mg "_law_side" = some (.ref g_l_side))
    (k_l_side : PySem.W.keepIn K (.ref g_l_side) = true)
    (b_l_side : Binds K gd_l_side ["_law_pool_here", "_law_great"] [])
    : FnT P w K mg base 11 f fd ["_law_pool_here"] (sp_l_right C_Size) := by
  refine okT F sc_l_right (by intro ts S R RE h; unfold sp_l_right at h; split at h <;> first | rfl | exact h.elim) (fun cdv A out s H E hg hr => (bs_cons (ss_par (i := 1) (j := 2) (by rfl) sc_l_right.nd rfl rfl (by decide) rfl rfl (at_cons (et_callD G_l_side hg (hr.mono (by decide)) (by rfl) m_l_side k_l_side (CallD.all b_l_side) (passL2N (L2N.takes_of rfl rfl rfl rfl)) (at_cons (et_var (pv 0)) (at_cons et_bl at_nil))) (at_cons (et_callD G_l_side hg (hr.mono (by decide)) (by rfl) m_l_side k_l_side (CallD.all b_l_side) (passL2N (L2N.takes_of rfl rfl rfl rfl)) (at_cons (et_var (pv 0)) (at_cons et_bl at_nil))) at_nil)) (by rfl))
    (bs_cons (ss_set (i := 3) sc_l_right.nd rfl (by first | exact Or.inl rfl | exact Or.inr rfl) (et_op op_addG cv_add (et_callD G_l_edges hg (hr.mono (by decide)) (by rfl) m_l_edges k_l_edges (CallD.all b_l_edges) (passL2N (L2N.takes_of rfl rfl rfl rfl)) (at_cons (et_var (pv 1)) (at_cons (et_var (pv 2)) at_nil))) (et_lc (x := "_law_turn") (j := 4) (by rfl) sc_l_right.nd (it_range1 (by rfl) n_range (at_cons et_int at_nil)) (blkOk_by (own := [("_law_turn", 4)]) (N := ["_law_pool_here", "_law_one", "_law_more", "_law_every", "_law_turn", "_law_sides_here", "_law_word"]) (sc := defScope s_l_right) (by decide +kernel)) (fun _ _ _ _ _ => pg_name (i := 4) sc_l_right.nd rfl (by first | exact Or.inl rfl | exact Or.inr rfl)) (fun _ _ _ _ _ => tts_nil) (fun _ _ _ _ _ => (et_callD G_l_sides hg (hr.mono (by decide)) (by rfl) m_l_sides k_l_sides (CallD.all b_l_sides) passN (at_cons (et_var (pv 0)) (at_cons et_bl at_nil)))))))
    (bs_cons (ss_for (passes_of rfl) rfl (it_seq (et_var (pv 3))) (gt_name (pg_name (i := 5) sc_l_right.nd rfl (by first | exact Or.inl rfl | exact Or.inr rfl))) (bs_one (ss_for (passes_of rfl) rfl (it_seq (et_lst (at_cons et_str (at_cons et_str at_nil)))) (gt_name (pg_name (i := 6) sc_l_right.nd rfl (by first | exact Or.inl rfl | exact Or.inr rfl))) (bs_one (ss_if (tt_not (tt_val (et_callD G_l_step_right hg (hr.mono (by decide)) (by rfl) m_l_step_right k_l_step_right (CallD.all b_l_step_right) (passL2N (L2N.takes_of rfl rfl rfl rfl)) (at_cons (et_tup (at_cons (et_var (pv 6)) (at_cons (et_var (pv 1)) (at_cons (et_var (pv 2)) (at_cons et_bl at_nil))))) (at_cons (et_var (pv 5)) at_nil))))) (bs_one (ss_ret et_bl)) bs_nil)))))
    (bs_one (ss_ret et_bl)))))) ?_
  intro ts S R RE h
  unfold sp_l_right at h
  split at h
  · rename_i p
    obtain ⟨hp, q⟩ := h
    refine sSeq_i fun N hN => ?_
    simp only [sp_l_side, sSeq, sAsg, sDrop, sRet, sRetN, sIf, sNext, sPar, sPar3, sFor, sRaise, sFldT, sNo, rNo, rVar, rFrz, rC, rBin, rTest, bAnd, bOr, bNot, bIf, vAnd, vOr, vNot, rIf, rNeg, aNil, aCons, rTup, rLst, rLstC, rArgs, gNameT, gNilT, gConsT, gTupT, gSubT, iSeq, iRng1T, iRng2T, rLc, rCall, rCallN, rCallS, rFld, rCon, rMake, rMakeN, rMakeP, rMeth, rMethK, rProp, rClsFn, rOpOwn, rSl, oNone, oSome, rMut, kAdd, kI2, kI2n, kMul, kIx, kIn, kLen, kU, kA2, kDm, kStrI, kAll, kSl, kAppend, kExtend, kTuple, kList, lenT, seqOf, bYes, startT, one, pickG, selG, insOf, putT, flatT, Bool.false_xor, Bool.true_xor, List.all_cons, List.all_nil, Bool.and_self, T.int.injEq, T.bl.injEq, T.str.injEq, T.lst.injEq, T.tup.injEq, T.cell.injEq, T.ins.injEq, Cell.lst.injEq, Cell.ins.injEq, Prod.mk.injEq, List.cons.injEq, Option.some.injEq, List.map_cons, List.map_nil, List.length_cons, List.length_nil, List.cons_append, List.nil_append, List.append_nil, List.getElem?_cons_zero, List.getElem?_cons_succ, List.set_cons_zero, List.set_cons_succ, List.replicate_succ, List.replicate_zero, exists_eq_left, exists_eq_left', exists_and_left, and_true, true_and, and_self, and_assoc, Nat.sub_self, Nat.reduceAdd, Nat.reduceSub, Nat.zero_add, put_put, put_same, reduceIte, Bool.false_eq_true, Bool.true_eq_false, Bool.not_true, Bool.not_false, at_0, at_1, at_2, at_3, at_4, at_5, at_6, at_7, ix_1_0, ix_2_0, ix_2_1, ix_3_0, ix_3_1, ix_3_2, ix_4_0, ix_4_1, ix_4_2, ix_4_3]
    refine ⟨hp, fun a S1 ba p1 => ⟨p1.pool, fun b S2 bb p2 => hN _ _ ?_⟩⟩
    have p12 := p1.trans p2
    refine sSeq_i fun N hN => ?_
    simp only [sp_l_edges, sSeq, sAsg, sDrop, sRet, sRetN, sIf, sNext, sPar, sPar3, sFor, sRaise, sFldT, sNo, rNo, rVar, rFrz, rC, rBin, rTest, bAnd, bOr, bNot, bIf, vAnd, vOr, vNot, rIf, rNeg, aNil, aCons, rTup, rLst, rLstC, rArgs, gNameT, gNilT, gConsT, gTupT, gSubT, iSeq, iRng1T, iRng2T, rLc, rCall, rCallN, rCallS, rFld, rCon, rMake, rMakeN, rMakeP, rMeth, rMethK, rProp, rClsFn, rOpOwn, rSl, oNone, oSome, rMut, kAdd, kI2, kI2n, kMul, kIx, kIn, kLen, kU, kA2, kDm, kStrI, kAll, kSl, kAppend, kExtend, kTuple, kList, lenT, seqOf, bYes, startT, one, pickG, selG, insOf, putT, flatT, Bool.false_xor, Bool.true_xor, List.all_cons, List.all_nil, Bool.and_self, T.int.injEq, T.bl.injEq, T.str.injEq, T.lst.injEq, T.tup.injEq, T.cell.injEq, T.ins.injEq, Cell.lst.injEq, Cell.ins.injEq, Prod.mk.injEq, List.cons.injEq, Option.some.injEq, List.map_cons, List.map_nil, List.length_cons, List.length_nil, List.cons_append, List.nil_append, List.append_nil, List.getElem?_cons_zero, List.getElem?_cons_succ, List.set_cons_zero, List.set_cons_succ, List.replicate_succ, List.replicate_zero, exists_eq_left, exists_eq_left', exists_and_left, and_true, true_and, and_self, and_assoc, Nat.sub_self, Nat.reduceAdd, Nat.reduceSub, Nat.zero_add, put_put, put_same, reduceIte, Bool.false_eq_true, Bool.true_eq_false, Bool.not_true, Bool.not_false, at_0, at_1, at_2, at_3, at_4, at_5, at_6, at_7, ix_1_0, ix_2_0, ix_2_1, ix_3_0, ix_3_1, ix_3_2, ix_4_0, ix_4_1, ix_4_2, ix_4_3]
    refine ⟨ba, bb, fun l hl => ⟨by decide, by decide, ?_⟩⟩
    refine rComp_all (fun _ S' => PoolT S' p) (fun _ _ y => ∃ s : S4, y = d4T s ∧ s.ok 300) p12.pool (by decide) ?_ ?_
    · intro i t S' hi hp' N' hN'
      simp only [sp_l_sides, sSeq, sAsg, sDrop, sRet, sRetN, sIf, sNext, sPar, sPar3, sFor, sRaise, sFldT, sNo, rNo, rVar, rFrz, rC, rBin, rTest, bAnd, bOr, bNot, bIf, vAnd, vOr, vNot, rIf, rNeg, aNil, aCons, rTup, rLst, rLstC, rArgs, gNameT, gNilT, gConsT, gTupT, gSubT, iSeq, iRng1T, iRng2T, rLc, rCall, rCallN, rCallS, rFld, rCon, rMake, rMakeN, rMakeP, rMeth, rMethK, rProp, rClsFn, rOpOwn, rSl, oNone, oSome, rMut, kAdd, kI2, kI2n, kMul, kIx, kIn, kLen, kU, kA2, kDm, kStrI, kAll, kSl, kAppend, kExtend, kTuple, kList, lenT, seqOf, bYes, startT, one, pickG, selG, insOf, putT, flatT, Bool.false_xor, Bool.true_xor, List.all_cons, List.all_nil, Bool.and_self, T.int.injEq, T.bl.injEq, T.str.injEq, T.lst.injEq, T.tup.injEq, T.cell.injEq, T.ins.injEq, Cell.lst.injEq, Cell.ins.injEq, Prod.mk.injEq, List.cons.injEq, Option.some.injEq, List.map_cons, List.map_nil, List.length_cons, List.length_nil, List.cons_append, List.nil_append, List.append_nil, List.getElem?_cons_zero, List.getElem?_cons_succ, List.set_cons_zero, List.set_cons_succ, List.replicate_succ, List.replicate_zero, exists_eq_left, exists_eq_left', exists_and_left, and_true, true_and, and_self, and_assoc, Nat.sub_self, Nat.reduceAdd, Nat.reduceSub, Nat.zero_add, put_put, put_same, reduceIte, Bool.false_eq_true, Bool.true_eq_false, Bool.not_true, Bool.not_false, at_0, at_1, at_2, at_3, at_4, at_5, at_6, at_7, ix_1_0, ix_2_0, ix_2_1, ix_3_0, ix_3_1, ix_3_2, ix_4_0, ix_4_1, ix_4_2, ix_4_3]
      exact ⟨hp', fun s S3 o p3 => hN' _ _ ⟨s, rfl, o.up (by decide)⟩ p3.pool⟩
    intro ys S3 hy hF hp3
    have hy10 : ys.length = 10 := by rw [hy]; decide
    have hA : ∀ x ∈ l ++ ys, ∃ s : S4, x = d4T s ∧ s.ok 300 := fun x m => by
      rcases List.mem_append.mp m with m | m
      · obtain ⟨ss, rfl, ok, _⟩ := hl
        obtain ⟨s, ms, rfl⟩ := List.mem_map.mp m
        exact ⟨s, rfl, ok s ms⟩
      · obtain ⟨j, hj⟩ := List.getElem?_of_mem m
        have lj : j < (rangeT 0 10).length := by
          have := (List.getElem?_eq_some_iff.mp hj).1
          omega
        exact hF j _ x (List.getElem?_eq_getElem lj) hj
    refine ⟨line60 (by have := hl.len; omega), hN _ _ ?_⟩
    refine sSeq_i fun N hN => ?_
    simp only [sSeq, sAsg, sDrop, sRet, sRetN, sIf, sNext, sPar, sPar3, sFor, sRaise, sFldT, sNo, rNo, rVar, rFrz, rC, rBin, rTest, bAnd, bOr, bNot, bIf, vAnd, vOr, vNot, rIf, rNeg, aNil, aCons, rTup, rLst, rLstC, rArgs, gNameT, gNilT, gConsT, gTupT, gSubT, iSeq, iRng1T, iRng2T, rLc, rCall, rCallN, rCallS, rFld, rCon, rMake, rMakeN, rMakeP, rMeth, rMethK, rProp, rClsFn, rOpOwn, rSl, oNone, oSome, rMut, kAdd, kI2, kI2n, kMul, kIx, kIn, kLen, kU, kA2, kDm, kStrI, kAll, kSl, kAppend, kExtend, kTuple, kList, lenT, seqOf, bYes, startT, one, pickG, selG, insOf, putT, flatT, Bool.false_xor, Bool.true_xor, List.all_cons, List.all_nil, Bool.and_self, T.int.injEq, T.bl.injEq, T.str.injEq, T.lst.injEq, T.tup.injEq, T.cell.injEq, T.ins.injEq, Cell.lst.injEq, Cell.ins.injEq, Prod.mk.injEq, List.cons.injEq, Option.some.injEq, List.map_cons, List.map_nil, List.length_cons, List.length_nil, List.cons_append, List.nil_append, List.append_nil, List.getElem?_cons_zero, List.getElem?_cons_succ, List.set_cons_zero, List.set_cons_succ, List.replicate_succ, List.replicate_zero, exists_eq_left, exists_eq_left', exists_and_left, and_true, true_and, and_self, and_assoc, Nat.sub_self, Nat.reduceAdd, Nat.reduceSub, Nat.zero_add, put_put, put_same, reduceIte, Bool.false_eq_true, Bool.true_eq_false, Bool.not_true, Bool.not_false, at_0, at_1, at_2, at_3, at_4, at_5, at_6, at_7, ix_1_0, ix_2_0, ix_2_1, ix_3_0, ix_3_1, ix_3_2, ix_4_0, ix_4_1, ix_4_2, ix_4_3]
    refine rLoop_inv (fun _ σ S' => S' = S3 ∧ ∃ v w, σ = [some (.cell p), some (.int a), some (.int b), some (.lst (l ++ ys)), none, v, w]) ⟨rfl, none, none, rfl⟩ ?_ ?_
    · rintro i t σ S' hi ⟨rfl, v, w, rfl⟩ N' hN'
      obtain ⟨s, rfl, o⟩ := hA t (List.mem_of_getElem? hi)
      simp only [rLoop, sSeq, sAsg, sDrop, sRet, sRetN, sIf, sNext, sPar, sPar3, sFor, sRaise, sFldT, sNo, rNo, rVar, rFrz, rC, rBin, rTest, bAnd, bOr, bNot, bIf, vAnd, vOr, vNot, rIf, rNeg, aNil, aCons, rTup, rLst, rLstC, rArgs, gNameT, gNilT, gConsT, gTupT, gSubT, iSeq, iRng1T, iRng2T, rLc, rCall, rCallN, rCallS, rFld, rCon, rMake, rMakeN, rMakeP, rMeth, rMethK, rProp, rClsFn, rOpOwn, rSl, oNone, oSome, rMut, kAdd, kI2, kI2n, kMul, kIx, kIn, kLen, kU, kA2, kDm, kStrI, kAll, kSl, kAppend, kExtend, kTuple, kList, lenT, seqOf, bYes, startT, one, pickG, selG, insOf, putT, flatT, Bool.false_xor, Bool.true_xor, List.all_cons, List.all_nil, Bool.and_self, T.int.injEq, T.bl.injEq, T.str.injEq, T.lst.injEq, T.tup.injEq, T.cell.injEq, T.ins.injEq, Cell.lst.injEq, Cell.ins.injEq, Prod.mk.injEq, List.cons.injEq, Option.some.injEq, List.map_cons, List.map_nil, List.length_cons, List.length_nil, List.cons_append, List.nil_append, List.append_nil, List.getElem?_cons_zero, List.getElem?_cons_succ, List.set_cons_zero, List.set_cons_succ, List.replicate_succ, List.replicate_zero, exists_eq_left, exists_eq_left', exists_and_left, and_true, true_and, and_self, and_assoc, Nat.sub_self, Nat.reduceAdd, Nat.reduceSub, Nat.zero_add, put_put, put_same, reduceIte, Bool.false_eq_true, Bool.true_eq_false, Bool.not_true, Bool.not_false, at_0, at_1, at_2, at_3, at_4, at_5, at_6, at_7, ix_1_0, ix_2_0, ix_2_1, ix_3_0, ix_3_1, ix_3_2, ix_4_0, ix_4_1, ix_4_2, ix_4_3]
      refine ⟨by decide, by decide, s, false, a, b, true, rfl, rfl, o, ba, bb, ?_⟩
      refine ⟨true, rfl, ?_⟩
      rw [if_neg (by simp)]
      refine ⟨by decide, s, true, a, b, true, rfl, rfl, o, ba, bb, true, rfl, ?_⟩
      rw [if_neg (by simp)]
      exact hN' _ _ ⟨rfl, _, _, rfl⟩
    · rintro σ S' ⟨rfl, v, w, rfl⟩
      refine hN _ _ ?_
      simp only [sSeq, sAsg, sDrop, sRet, sRetN, sIf, sNext, sPar, sPar3, sFor, sRaise, sFldT, sNo, rNo, rVar, rFrz, rC, rBin, rTest, bAnd, bOr, bNot, bIf, vAnd, vOr, vNot, rIf, rNeg, aNil, aCons, rTup, rLst, rLstC, rArgs, gNameT, gNilT, gConsT, gTupT, gSubT, iSeq, iRng1T, iRng2T, rLc, rCall, rCallN, rCallS, rFld, rCon, rMake, rMakeN, rMakeP, rMeth, rMethK, rProp, rClsFn, rOpOwn, rSl, oNone, oSome, rMut, kAdd, kI2, kI2n, kMul, kIx, kIn, kLen, kU, kA2, kDm, kStrI, kAll, kSl, kAppend, kExtend, kTuple, kList, lenT, seqOf, bYes, startT, one, pickG, selG, insOf, putT, flatT, Bool.false_xor, Bool.true_xor, List.all_cons, List.all_nil, Bool.and_self, T.int.injEq, T.bl.injEq, T.str.injEq, T.lst.injEq, T.tup.injEq, T.cell.injEq, T.ins.injEq, Cell.lst.injEq, Cell.ins.injEq, Prod.mk.injEq, List.cons.injEq, Option.some.injEq, List.map_cons, List.map_nil, List.length_cons, List.length_nil, List.cons_append, List.nil_append, List.append_nil, List.getElem?_cons_zero, List.getElem?_cons_succ, List.set_cons_zero, List.set_cons_succ, List.replicate_succ, List.replicate_zero, exists_eq_left, exists_eq_left', exists_and_left, and_true, true_and, and_self, and_assoc, Nat.sub_self, Nat.reduceAdd, Nat.reduceSub, Nat.zero_add, put_put, put_same, reduceIte, Bool.false_eq_true, Bool.true_eq_false, Bool.not_true, Bool.not_false, at_0, at_1, at_2, at_3, at_4, at_5, at_6, at_7, ix_1_0, ix_2_0, ix_2_1, ix_3_0, ix_3_1, ix_3_2, ix_4_0, ix_4_1, ix_4_2, ix_4_3]
      exact q _
  · exact h.elim
theorem sc_law : FnScope ["_law_script", "_law_first", "_law_second", "_law_here", "_law_told", "_law_made_here", "_law_due", "_law_k"] ["_law_script"] (defScope s_law) := ⟨rfl, rfl, rfl, by decide +kernel, rfl, by decide +kernel, by decide +kernel⟩

theorem ok_law {P : Program} {w : World} {K : PySem.W.Frag} {mg : Str → Option Value} {base : Heap} {f : Addr} {fd : FuncData} {g_l_right C_Size g_l_pool g_l_cell g_Grow_init C_Grow g_l_pair g_Shrink_apply C_Shrink g_Grow_apply g_Size_init g_Shrink_init : Addr} {gd_l_right : FuncData} {gd_l_pool : FuncData} {gd_l_cell : FuncData} {gd_Grow_init : FuncData} {gd_l_pair : FuncData} {gd_Shrink_apply : FuncData} {gd_Grow_apply : FuncData} {gd_Size_init : FuncData} {gd_Shrink_init : FuncData} (F : Fun K "law" "law" s_law f fd)
    (n_range : mg "range" = none)
    (n_len : mg "len" = none)
    (n_min : mg "min" = none)
    (n_max : mg "max" = none)
    (n_all : mg "all" = none)
    (G_l_right : FnT P w K mg base 11 g_l_right gd_l_right ["_law_pool_here"] (sp_l_right C_Size))
    (m_l_right : mg "_law_right" = some (.ref g_l_right))
    (k_l_right : PySem.W.keepIn K (.ref g_l_right) = true)
    (b_l_right : Binds K gd_l_right ["_law_pool_here"] [])
    (G_l_pool : FnT P w K mg base 1 g_l_pool gd_l_pool ["_law_figure"] sp_l_pool)
    (m_l_pool : mg "_law_pool" = some (.ref g_l_pool))
    (k_l_pool : PySem.W.keepIn K (.ref g_l_pool) = true)
    (b_l_pool : Binds K gd_l_pool ["_law_figure"] [])
    (G_l_cell : FnT P w K mg base 1 g_l_cell gd_l_cell ["_law_script", "_law_k"] sp_l_cell)
    (m_l_cell : mg "_law_cell" = some (.ref g_l_cell))
    (k_l_cell : PySem.W.keepIn K (.ref g_l_cell) = true)
    (b_l_cell : Binds K gd_l_cell ["_law_script", "_law_k"] [])
    (G_Grow_init : FnT P w K mg base 5 g_Grow_init gd_Grow_init ["self", "width", "height", "cover"] (sp_Grow_init C_Grow))
    (kb_Grow_init_3_cover : CallB K gd_Grow_init ["self", "width", "height", "cover"] 3 ["cover"] (fun ts zs => pickG [(0, 0), (0, 1), (0, 2), (2, 0)] ts [] zs))
    (G_l_pair : FnT P w K mg base 1 g_l_pair gd_l_pair ["_law_told"] (sp_l_pair C_Size))
    (m_l_pair : mg "_law_pair" = some (.ref g_l_pair))
    (k_l_pair : PySem.W.keepIn K (.ref g_l_pair) = true)
    (b_l_pair : Binds K gd_l_pair ["_law_told"] [])
    (G_Shrink_apply : FnT P w K mg base 9 g_Shrink_apply gd_Shrink_apply ["self", "size"] (sp_Shrink_apply C_Shrink C_Size))
    (b_Shrink_apply : Binds K gd_Shrink_apply ["self", "size"] [])
    (G_Grow_apply : FnT P w K mg base 9 g_Grow_apply gd_Grow_apply ["self", "size"] (sp_Grow_apply C_Grow C_Size))
    (b_Grow_apply : Binds K gd_Grow_apply ["self", "size"] [])
    (G_Size_init : FnT P w K mg base 6 g_Size_init gd_Size_init ["self", "width", "height"] (sp_Size_init C_Size))
    (b_Size_init : Binds K gd_Size_init ["self", "width", "height"] [])
    (G_Shrink_init : FnT P w K mg base 5 g_Shrink_init gd_Shrink_init ["self", "width", "height", "cover"] (sp_Shrink_init C_Shrink))
    (cd_Shrink_init_1 : CallD K gd_Shrink_init ["self", "width", "height", "cover"] [.bl false])
    (kb_Shrink_init_3_cover : CallB K gd_Shrink_init ["self", "width", "height", "cover"] 3 ["cover"] (fun ts zs => pickG [(0, 0), (0, 1), (0, 2), (2, 0)] ts [] zs))
    (m_Grow : mg "Grow" = some (.ref C_Grow))
    (M_Grow : Mk K C_Grow g_Grow_init)
    (cl_Shrink : Cls K C_Shrink)
    (me_Shrink_apply : Meth K C_Shrink "apply" g_Shrink_apply)
    (cl_Grow : Cls K C_Grow)
    (me_Grow_apply : Meth K C_Grow "apply" g_Grow_apply)
    (m_Size : mg "Size" = some (.ref C_Size))
    (M_Size : Mk K C_Size g_Size_init)
    (m_Shrink : mg "Shrink" = some (.ref C_Shrink))
    (M_Shrink : Mk K C_Shrink g_Shrink_init)
    : FnT P w K mg base 13 f fd ["_law_script"] sp_law := by
  refine okT F sc_law (by intro ts S R RE h; unfold sp_law at h; split at h <;> first | rfl | exact h.elim) (fun cdv A out s H E hg hr => (bs_cons (ss_asg (et_tup (at_cons (et_makeN (n := 2) M_Shrink G_Shrink_init hg (hr.mono (by decide)) (by rfl) m_Shrink kb_Shrink_init_3_cover (passL2N (L2N.takes_of rfl rfl rfl rfl)) (at_cons et_int (at_cons et_int at_nil)) (kt_cons et_bl kt_nil)) (at_cons (et_make M_Shrink G_Shrink_init hg (hr.mono (by decide)) (by rfl) m_Shrink cd_Shrink_init_1 (passL2N (L2N.takes_of rfl rfl rfl rfl)) (at_cons et_int (at_cons et_int at_nil))) (at_cons (et_make M_Size G_Size_init hg (hr.mono (by decide)) (by rfl) m_Size (CallD.all b_Size_init) (passL2N (L2N.takes_of rfl rfl rfl rfl)) (at_cons et_int (at_cons et_int at_nil))) at_nil)))) (gt_tup (n := 3) (by rfl) (gts_cons (gt_name (pg_name (i := 1) sc_law.nd rfl (by first | exact Or.inl rfl | exact Or.inr rfl))) (gts_cons (gt_name (pg_name (i := 2) sc_law.nd rfl (by first | exact Or.inl rfl | exact Or.inr rfl))) (gts_cons (gt_name (pg_name (i := 3) sc_law.nd rfl (by first | exact Or.inl rfl | exact Or.inr rfl))) gts_nil)))))
    (bs_cons (ss_setLc (i := 4) (x := "_law_made_here") (j := 5) (by rfl) sc_law.nd rfl rfl (sw_true rfl rfl rfl (by decide +kernel)) (it_seq (et_lst (at_cons (et_var (pv 1)) (at_cons (et_var (pv 2)) (at_cons (et_var (pv 1)) (at_cons (et_makeN (n := 2) M_Grow G_Grow_init hg (hr.mono (by decide)) (by rfl) m_Grow kb_Grow_init_3_cover (passL2N (L2N.takes_of rfl rfl rfl rfl)) (at_cons et_int (at_cons et_int at_nil)) (kt_cons et_bl kt_nil)) at_nil)))))) (blkOk_by (own := [("_law_made_here", 5)]) (N := ["_law_script", "_law_first", "_law_second", "_law_here", "_law_told", "_law_made_here", "_law_due", "_law_k"]) (sc := defScope s_law) (by decide +kernel)) (fun _ _ _ _ _ => pg_name (i := 5) sc_law.nd rfl (by first | exact Or.inl rfl | exact Or.inr rfl)) (fun _ _ _ _ _ => tts_nil) (fun _ _ _ _ _ => (et_callD G_l_pair hg (hr.mono (by decide)) (by rfl) m_l_pair k_l_pair (CallD.all b_l_pair) passN (at_cons (et_meth (MetD.or (MetD.one cl_Shrink me_Shrink_apply G_Shrink_apply (hr.mono (by decide)) (CallD.all b_Shrink_apply)) (MetD.one cl_Grow me_Grow_apply G_Grow_apply (hr.mono (by decide)) (CallD.all b_Grow_apply))) hg passN (et_var (pv 5)) (at_cons (et_var (pv 3)) at_nil)) at_nil))))
    (bs_cons (ss_set (i := 6) sc_law.nd rfl (by first | exact Or.inl rfl | exact Or.inr rfl) (et_lst (at_cons (et_tup (at_cons (et_tup (at_cons et_int (at_cons et_int at_nil))) (at_cons (et_tup (at_cons et_int (at_cons et_int at_nil))) at_nil))) (at_cons (et_tup (at_cons (et_tup (at_cons et_int (at_cons et_int at_nil))) (at_cons (et_tup (at_cons et_int (at_cons et_int at_nil))) at_nil))) (at_cons (et_tup (at_cons (et_tup (at_cons et_int (at_cons et_int at_nil))) (at_cons (et_tup (at_cons et_int (at_cons et_int at_nil))) at_nil))) (at_cons (et_tup (at_cons (et_tup (at_cons et_int (at_cons et_int at_nil))) (at_cons (et_tup (at_cons et_int (at_cons et_int at_nil))) at_nil))) at_nil))))))
    (bs_cons (ss_if (tt_cmp (op_neG hr.units) cv_ne (et_var (pv 4)) (et_var (pv 6)) (nomark _)) (bs_one (ss_ret et_bl)) bs_nil)
    (bs_one (ss_ret (et_blt (cr_all (by rfl)) cv_all (by rfl) n_all (by decide +kernel) (at_cons (et_lc (x := "_law_k") (j := 7) (by rfl) sc_law.nd (it_range1 (by rfl) n_range (at_cons (et_blt (call_max2 (by rfl)) cv_A2 (by rfl) n_max (by decide +kernel) (at_cons et_int (at_cons (et_blt (call_min2 (by rfl)) cv_A2 (by rfl) n_min (by decide +kernel) (at_cons et_int (at_cons (et_blt call_len cv_len (by rfl) n_len PySem.boot_len (at_cons (et_var (pv 0)) at_nil)) at_nil))) at_nil))) at_nil)) (blkOk_by (own := [("_law_k", 7)]) (N := ["_law_script", "_law_first", "_law_second", "_law_here", "_law_told", "_law_made_here", "_law_due", "_law_k"]) (sc := defScope s_law) (by decide +kernel)) (fun _ _ _ _ _ => pg_name (i := 7) sc_law.nd rfl (by first | exact Or.inl rfl | exact Or.inr rfl)) (fun _ _ _ _ _ => tts_nil) (fun _ _ _ _ _ => (et_callD G_l_right hg (hr.mono (by decide)) (by rfl) m_l_right k_l_right (CallD.all b_l_right) passN (at_cons (et_callD G_l_pool hg (hr.mono (by decide)) (by rfl) m_l_pool k_l_pool (CallD.all b_l_pool) passN (at_cons (et_callD G_l_cell hg (hr.mono (by decide)) (by rfl) m_l_cell k_l_cell (CallD.all b_l_cell) passN (at_cons (et_var (pv 0)) (at_cons (et_var (pv 7)) at_nil))) at_nil)) at_nil)))) at_nil))))))))) ?_
  intro ts S R RE h
  unfold sp_law at h
  split at h
  · rename_i l
    obtain ⟨⟨ns, rfl, h63⟩, q⟩ := h
    refine sSeq_i fun N hN => ?_
    simp only [sSeq, sAsg, sDrop, sRet, sRetN, sIf, sNext, sPar, sPar3, sFor, sRaise, sFldT, sNo, rNo, rVar, rFrz, rC, rBin, rTest, bAnd, bOr, bNot, bIf, vAnd, vOr, vNot, rIf, rNeg, aNil, aCons, rTup, rLst, rLstC, rArgs, gNameT, gNilT, gConsT, gTupT, gSubT, iSeq, iRng1T, iRng2T, rLc, rCall, rCallN, rCallS, rFld, rCon, rMake, rMakeN, rMakeP, rMeth, rMethK, rProp, rClsFn, rOpOwn, rSl, oNone, oSome, rMut, kAdd, kI2, kI2n, kMul, kIx, kIn, kLen, kU, kA2, kDm, kStrI, kAll, kSl, kAppend, kExtend, kTuple, kList, lenT, seqOf, bYes, startT, one, pickG, selG, insOf, putT, flatT, Bool.false_xor, Bool.true_xor, List.all_cons, List.all_nil, Bool.and_self, T.int.injEq, T.bl.injEq, T.str.injEq, T.lst.injEq, T.tup.injEq, T.cell.injEq, T.ins.injEq, Cell.lst.injEq, Cell.ins.injEq, Prod.mk.injEq, List.cons.injEq, Option.some.injEq, List.map_cons, List.map_nil, List.length_cons, List.length_nil, List.cons_append, List.nil_append, List.append_nil, List.getElem?_cons_zero, List.getElem?_cons_succ, List.set_cons_zero, List.set_cons_succ, List.replicate_succ, List.replicate_zero, exists_eq_left, exists_eq_left', exists_and_left, and_true, true_and, and_self, and_assoc, Nat.sub_self, Nat.reduceAdd, Nat.reduceSub, Nat.zero_add, put_put, put_same, reduceIte, Bool.false_eq_true, Bool.true_eq_false, Bool.not_true, Bool.not_false, at_0, at_1, at_2, at_3, at_4, at_5, at_6, at_7, ix_1_0, ix_2_0, ix_2_1, ix_3_0, ix_3_1, ix_3_2, ix_4_0, ix_4_1, ix_4_2, ix_4_3]
    refine mk_shrinkG bxD bxD fun u hu => ?_
    simp only [put_drop hu]
    refine mk_shrinkG bxD bxD fun u hu => ?_
    simp only [put_drop hu]
    refine mk_sizeG (sdI : Side 8000 (.int 8) 8 1) (sdI : Side 8000 (.int 6) 6 1) fun u hu => ?_
    simp only [put_drop hu]
    refine ⟨by decide, hN _ _ ?_⟩
    refine sSeq_i fun N hN => ?_
    simp only [rComp, stF_apply, sSeq, sAsg, sDrop, sRet, sRetN, sIf, sNext, sPar, sPar3, sFor, sRaise, sFldT, sNo, rNo, rVar, rFrz, rC, rBin, rTest, bAnd, bOr, bNot, bIf, vAnd, vOr, vNot, rIf, rNeg, aNil, aCons, rTup, rLst, rLstC, rArgs, gNameT, gNilT, gConsT, gTupT, gSubT, iSeq, iRng1T, iRng2T, rLc, rCall, rCallN, rCallS, rFld, rCon, rMake, rMakeN, rMakeP, rMeth, rMethK, rProp, rClsFn, rOpOwn, rSl, oNone, oSome, rMut, kAdd, kI2, kI2n, kMul, kIx, kIn, kLen, kU, kA2, kDm, kStrI, kAll, kSl, kAppend, kExtend, kTuple, kList, lenT, seqOf, bYes, startT, one, pickG, selG, insOf, putT, flatT, Bool.false_xor, Bool.true_xor, List.all_cons, List.all_nil, Bool.and_self, T.int.injEq, T.bl.injEq, T.str.injEq, T.lst.injEq, T.tup.injEq, T.cell.injEq, T.ins.injEq, Cell.lst.injEq, Cell.ins.injEq, Prod.mk.injEq, List.cons.injEq, Option.some.injEq, List.map_cons, List.map_nil, List.length_cons, List.length_nil, List.cons_append, List.nil_append, List.append_nil, List.getElem?_cons_zero, List.getElem?_cons_succ, List.set_cons_zero, List.set_cons_succ, List.replicate_succ, List.replicate_zero, exists_eq_left, exists_eq_left', exists_and_left, and_true, true_and, and_self, and_assoc, Nat.sub_self, Nat.reduceAdd, Nat.reduceSub, Nat.zero_add, put_put, put_same, reduceIte, Bool.false_eq_true, Bool.true_eq_false, Bool.not_true, Bool.not_false, at_0, at_1, at_2, at_3, at_4, at_5, at_6, at_7, ix_1_0, ix_2_0, ix_2_1, ix_3_0, ix_3_1, ix_3_2, ix_4_0, ix_4_1, ix_4_2, ix_4_3]
    refine mk_growG bxD bxD fun u hu => ?_
    simp only [put_drop hu, stF_apply, sSeq, sAsg, sDrop, sRet, sRetN, sIf, sNext, sPar, sPar3, sFor, sRaise, sFldT, sNo, rNo, rVar, rFrz, rC, rBin, rTest, bAnd, bOr, bNot, bIf, vAnd, vOr, vNot, rIf, rNeg, aNil, aCons, rTup, rLst, rLstC, rArgs, gNameT, gNilT, gConsT, gTupT, gSubT, iSeq, iRng1T, iRng2T, rLc, rCall, rCallN, rCallS, rFld, rCon, rMake, rMakeN, rMakeP, rMeth, rMethK, rProp, rClsFn, rOpOwn, rSl, oNone, oSome, rMut, kAdd, kI2, kI2n, kMul, kIx, kIn, kLen, kU, kA2, kDm, kStrI, kAll, kSl, kAppend, kExtend, kTuple, kList, lenT, seqOf, bYes, startT, one, pickG, selG, insOf, putT, flatT, Bool.false_xor, Bool.true_xor, List.all_cons, List.all_nil, Bool.and_self, T.int.injEq, T.bl.injEq, T.str.injEq, T.lst.injEq, T.tup.injEq, T.cell.injEq, T.ins.injEq, Cell.lst.injEq, Cell.ins.injEq, Prod.mk.injEq, List.cons.injEq, Option.some.injEq, List.map_cons, List.map_nil, List.length_cons, List.length_nil, List.cons_append, List.nil_append, List.append_nil, List.getElem?_cons_zero, List.getElem?_cons_succ, List.set_cons_zero, List.set_cons_succ, List.replicate_succ, List.replicate_zero, exists_eq_left, exists_eq_left', exists_and_left, and_true, true_and, and_self, and_assoc, Nat.sub_self, Nat.reduceAdd, Nat.reduceSub, Nat.zero_add, put_put, put_same, reduceIte, Bool.false_eq_true, Bool.true_eq_false, Bool.not_true, Bool.not_false, at_0, at_1, at_2, at_3, at_4, at_5, at_6, at_7, ix_1_0, ix_2_0, ix_2_1, ix_3_0, ix_3_1, ix_3_2, ix_4_0, ix_4_1, ix_4_2, ix_4_3]
    have o : (⟨8, 1, 6, 1⟩ : S4).ok 1000 := okS
    refine ⟨by decide, ap_s (s := ⟨8, 1, 6, 1⟩) (s' := ⟨4, 1, 3, 1⟩) bxD bxD o (S4.of_eq (by decide +kernel)) ⟨by decide, ap_s (s := ⟨8, 1, 6, 1⟩) (s' := ⟨8, 3, 2, 1⟩) bxD bxD o (S4.of_eq (by decide +kernel))
      ⟨by decide, ap_s (s := ⟨8, 1, 6, 1⟩) (s' := ⟨4, 1, 3, 1⟩) bxD bxD o (S4.of_eq (by decide +kernel)) ⟨by decide, ap_g (s := ⟨8, 1, 6, 1⟩) (s' := ⟨40, 1, 30, 1⟩) bxD bxD o (S4.of_eq (by decide +kernel)) ⟨by decide, hN _ _ ?_⟩⟩⟩⟩⟩
    refine sSeq_i fun N hN => ?_
    simp only [sSeq, sAsg, sDrop, sRet, sRetN, sIf, sNext, sPar, sPar3, sFor, sRaise, sFldT, sNo, rNo, rVar, rFrz, rC, rBin, rTest, bAnd, bOr, bNot, bIf, vAnd, vOr, vNot, rIf, rNeg, aNil, aCons, rTup, rLst, rLstC, rArgs, gNameT, gNilT, gConsT, gTupT, gSubT, iSeq, iRng1T, iRng2T, rLc, rCall, rCallN, rCallS, rFld, rCon, rMake, rMakeN, rMakeP, rMeth, rMethK, rProp, rClsFn, rOpOwn, rSl, oNone, oSome, rMut, kAdd, kI2, kI2n, kMul, kIx, kIn, kLen, kU, kA2, kDm, kStrI, kAll, kSl, kAppend, kExtend, kTuple, kList, lenT, seqOf, bYes, startT, one, pickG, selG, insOf, putT, flatT, Bool.false_xor, Bool.true_xor, List.all_cons, List.all_nil, Bool.and_self, T.int.injEq, T.bl.injEq, T.str.injEq, T.lst.injEq, T.tup.injEq, T.cell.injEq, T.ins.injEq, Cell.lst.injEq, Cell.ins.injEq, Prod.mk.injEq, List.cons.injEq, Option.some.injEq, List.map_cons, List.map_nil, List.length_cons, List.length_nil, List.cons_append, List.nil_append, List.append_nil, List.getElem?_cons_zero, List.getElem?_cons_succ, List.set_cons_zero, List.set_cons_succ, List.replicate_succ, List.replicate_zero, exists_eq_left, exists_eq_left', exists_and_left, and_true, true_and, and_self, and_assoc, Nat.sub_self, Nat.reduceAdd, Nat.reduceSub, Nat.zero_add, put_put, put_same, reduceIte, Bool.false_eq_true, Bool.true_eq_false, Bool.not_true, Bool.not_false, at_0, at_1, at_2, at_3, at_4, at_5, at_6, at_7, ix_1_0, ix_2_0, ix_2_1, ix_3_0, ix_3_1, ix_3_2, ix_4_0, ix_4_1, ix_4_2, ix_4_3]
    iterate 13 refine ⟨by decide, ?_⟩
    refine hN _ _ ?_
    refine sSeq_i fun N hN => ?_
    simp only [sSeq, sAsg, sDrop, sRet, sRetN, sIf, sNext, sPar, sPar3, sFor, sRaise, sFldT, sNo, rNo, rVar, rFrz, rC, rBin, rTest, bAnd, bOr, bNot, bIf, vAnd, vOr, vNot, rIf, rNeg, aNil, aCons, rTup, rLst, rLstC, rArgs, gNameT, gNilT, gConsT, gTupT, gSubT, iSeq, iRng1T, iRng2T, rLc, rCall, rCallN, rCallS, rFld, rCon, rMake, rMakeN, rMakeP, rMeth, rMethK, rProp, rClsFn, rOpOwn, rSl, oNone, oSome, rMut, kAdd, kI2, kI2n, kMul, kIx, kIn, kLen, kU, kA2, kDm, kStrI, kAll, kSl, kAppend, kExtend, kTuple, kList, lenT, seqOf, bYes, startT, one, pickG, selG, insOf, putT, flatT, Bool.false_xor, Bool.true_xor, List.all_cons, List.all_nil, Bool.and_self, T.int.injEq, T.bl.injEq, T.str.injEq, T.lst.injEq, T.tup.injEq, T.cell.injEq, T.ins.injEq, Cell.lst.injEq, Cell.ins.injEq, Prod.mk.injEq, List.cons.injEq, Option.some.injEq, List.map_cons, List.map_nil, List.length_cons, List.length_nil, List.cons_append, List.nil_append, List.append_nil, List.getElem?_cons_zero, List.getElem?_cons_succ, List.set_cons_zero, List.set_cons_succ, List.replicate_succ, List.replicate_zero, exists_eq_left, exists_eq_left', exists_and_left, and_true, true_and, and_self, and_assoc, Nat.sub_self, Nat.reduceAdd, Nat.reduceSub, Nat.zero_add, put_put, put_same, reduceIte, Bool.false_eq_true, Bool.true_eq_false, Bool.not_true, Bool.not_false, at_0, at_1, at_2, at_3, at_4, at_5, at_6, at_7, ix_1_0, ix_2_0, ix_2_1, ix_3_0, ix_3_1, ix_3_2, ix_4_0, ix_4_1, ix_4_2, ix_4_3]
    refine ne_lst (ss := [⟨4, 1, 3, 1⟩, ⟨8, 3, 2, 1⟩, ⟨4, 1, 3, 1⟩, ⟨40, 1, 30, 1⟩]) (by decide +kernel) ⟨false, rfl, ?_⟩
    rw [if_neg Bool.false_ne_true]
    refine hN _ _ ?_
    simp only [sSeq, sAsg, sDrop, sRet, sRetN, sIf, sNext, sPar, sPar3, sFor, sRaise, sFldT, sNo, rNo, rVar, rFrz, rC, rBin, rTest, bAnd, bOr, bNot, bIf, vAnd, vOr, vNot, rIf, rNeg, aNil, aCons, rTup, rLst, rLstC, rArgs, gNameT, gNilT, gConsT, gTupT, gSubT, iSeq, iRng1T, iRng2T, rLc, rCall, rCallN, rCallS, rFld, rCon, rMake, rMakeN, rMakeP, rMeth, rMethK, rProp, rClsFn, rOpOwn, rSl, oNone, oSome, rMut, kAdd, kI2, kI2n, kMul, kIx, kIn, kLen, kU, kA2, kDm, kStrI, kAll, kSl, kAppend, kExtend, kTuple, kList, lenT, seqOf, bYes, startT, one, pickG, selG, insOf, putT, flatT, Bool.false_xor, Bool.true_xor, List.all_cons, List.all_nil, Bool.and_self, T.int.injEq, T.bl.injEq, T.str.injEq, T.lst.injEq, T.tup.injEq, T.cell.injEq, T.ins.injEq, Cell.lst.injEq, Cell.ins.injEq, Prod.mk.injEq, List.cons.injEq, Option.some.injEq, List.map_cons, List.map_nil, List.length_cons, List.length_nil, List.cons_append, List.nil_append, List.append_nil, List.getElem?_cons_zero, List.getElem?_cons_succ, List.set_cons_zero, List.set_cons_succ, List.replicate_succ, List.replicate_zero, exists_eq_left, exists_eq_left', exists_and_left, and_true, true_and, and_self, and_assoc, Nat.sub_self, Nat.reduceAdd, Nat.reduceSub, Nat.zero_add, put_put, put_same, reduceIte, Bool.false_eq_true, Bool.true_eq_false, Bool.not_true, Bool.not_false, at_0, at_1, at_2, at_3, at_4, at_5, at_6, at_7, ix_1_0, ix_2_0, ix_2_1, ix_3_0, ix_3_1, ix_3_2, ix_4_0, ix_4_1, ix_4_2, ix_4_3]
    have hl : 0 ≤ (((ns.map T.int).length : Nat) : Int) ∧ (((ns.map T.int).length : Nat) : Int) ≤ 63 := by rw [List.length_map]; omega
    have rg := range_le (n := (((ns.map T.int).length : Nat) : Int)) (k := 6) hl (by decide)
    generalize (((ns.map T.int).length : Nat) : Int) = n at rg ⊢
    generalize (if (if n < 6 then n else 6) > 2 then (if n < 6 then n else 6) else 2) = m at rg ⊢
    refine ⟨by omega, by omega, ?_⟩
    refine law_cells (spR := sp_l_right C_Size) (i := 0) (j := 7) h63 ⟨by omega, by omega⟩ (fun _ => rfl) (fun _ => rfl) (fun p S hp N hN => ⟨hp, hN⟩) q
  · exact h.elim
set_option maxHeartbeats 0 in
theorem all_mk {l : PySem.W.OpenLaw} {w : World} {K : PySem.W.Frag} {h : Heap} {mg : Str → Option Value} {fa : Addr} (X : K.In h) (G : h.Ns mainGlobals mg) (hfa : mg "law" = some (.ref fa))
    {f_common_divisor : Addr} {od_common_divisor an_common_divisor : Option Addr} {sl_common_divisor : Array (Option Value)} {oc_common_divisor kV_common_divisor dc_common_divisor pm_common_divisor cd_common_divisor ct_common_divisor : Value}
    {f_lowest_terms : Addr} {od_lowest_terms an_lowest_terms : Option Addr} {sl_lowest_terms : Array (Option Value)} {oc_lowest_terms kV_lowest_terms dc_lowest_terms pm_lowest_terms cd_lowest_terms ct_lowest_terms : Value}
    {f_is_integer : Addr} {od_is_integer an_is_integer : Option Addr} {sl_is_integer : Array (Option Value)} {oc_is_integer kV_is_integer dc_is_integer pm_is_integer cd_is_integer ct_is_integer : Value}
    {f_is_positive : Addr} {od_is_positive an_is_positive : Option Addr} {sl_is_positive : Array (Option Value)} {oc_is_positive kV_is_positive dc_is_positive pm_is_positive cd_is_positive ct_is_positive : Value}
    {f_l_cell : Addr} {od_l_cell an_l_cell : Option Addr} {sl_l_cell : Array (Option Value)} {oc_l_cell kV_l_cell dc_l_cell pm_l_cell cd_l_cell ct_l_cell : Value}
    {f_l_pool : Addr} {od_l_pool an_l_pool : Option Addr} {sl_l_pool : Array (Option Value)} {oc_l_pool kV_l_pool dc_l_pool pm_l_pool cd_l_pool ct_l_pool : Value}
    {f_l_draw : Addr} {od_l_draw an_l_draw : Option Addr} {sl_l_draw : Array (Option Value)} {oc_l_draw kV_l_draw dc_l_draw pm_l_draw cd_l_draw ct_l_draw : Value}
    {f_l_low : Addr} {od_l_low an_l_low : Option Addr} {sl_l_low : Array (Option Value)} {oc_l_low kV_l_low dc_l_low pm_l_low cd_l_low ct_l_low : Value}
    {f_is_fraction : Addr} {od_is_fraction an_is_fraction : Option Addr} {sl_is_fraction : Array (Option Value)} {oc_is_fraction kV_is_fraction dc_is_fraction pm_is_fraction cd_is_fraction ct_is_fraction : Value}
    {f_check_fractions : Addr} {od_check_fractions an_check_fractions : Option Addr} {sl_check_fractions : Array (Option Value)} {oc_check_fractions kV_check_fractions dc_check_fractions pm_check_fractions cd_check_fractions ct_check_fractions : Value}
    {f_as_fraction : Addr} {od_as_fraction an_as_fraction : Option Addr} {sl_as_fraction : Array (Option Value)} {oc_as_fraction kV_as_fraction dc_as_fraction pm_as_fraction cd_as_fraction ct_as_fraction : Value}
    {f_product : Addr} {od_product an_product : Option Addr} {sl_product : Array (Option Value)} {oc_product kV_product dc_product pm_product cd_product ct_product : Value}
    {f_quotient : Addr} {od_quotient an_quotient : Option Addr} {sl_quotient : Array (Option Value)} {oc_quotient kV_quotient dc_quotient pm_quotient cd_quotient ct_quotient : Value}
    {f_order : Addr} {od_order an_order : Option Addr} {sl_order : Array (Option Value)} {oc_order kV_order dc_order pm_order cd_order ct_order : Value}
    {f_compare : Addr} {od_compare an_compare : Option Addr} {sl_compare : Array (Option Value)} {oc_compare kV_compare dc_compare pm_compare cd_compare ct_compare : Value}
    {f_check_size : Addr} {od_check_size an_check_size : Option Addr} {sl_check_size : Array (Option Value)} {oc_check_size kV_check_size dc_check_size pm_check_size cd_check_size ct_check_size : Value}
    {f_Size_init : Addr} {od_Size_init an_Size_init : Option Addr} {sl_Size_init : Array (Option Value)} {oc_Size_init kV_Size_init dc_Size_init pm_Size_init cd_Size_init ct_Size_init : Value}
    {f_Size_mul : Addr} {od_Size_mul an_Size_mul : Option Addr} {sl_Size_mul : Array (Option Value)} {oc_Size_mul kV_Size_mul dc_Size_mul pm_Size_mul cd_Size_mul ct_Size_mul : Value}
    {f_check_box : Addr} {od_check_box an_check_box : Option Addr} {sl_check_box : Array (Option Value)} {oc_check_box kV_check_box dc_check_box pm_check_box cd_check_box ct_check_box : Value}
    {f_Scaling_init : Addr} {od_Scaling_init an_Scaling_init : Option Addr} {sl_Scaling_init : Array (Option Value)} {oc_Scaling_init kV_Scaling_init dc_Scaling_init pm_Scaling_init cd_Scaling_init ct_Scaling_init : Value}
    {f_Scaling_factor : Addr} {od_Scaling_factor an_Scaling_factor : Option Addr} {sl_Scaling_factor : Array (Option Value)} {oc_Scaling_factor kV_Scaling_factor dc_Scaling_factor pm_Scaling_factor cd_Scaling_factor ct_Scaling_factor : Value}
    {f_Shrink_init : Addr} {od_Shrink_init an_Shrink_init : Option Addr} {sl_Shrink_init : Array (Option Value)} {oc_Shrink_init dc_Shrink_init pm_Shrink_init cd_Shrink_init ct_Shrink_init : Value}
    {D_Shrink_init : Addr}
    {f_Grow_init : Addr} {od_Grow_init an_Grow_init : Option Addr} {sl_Grow_init : Array (Option Value)} {oc_Grow_init dc_Grow_init pm_Grow_init cd_Grow_init ct_Grow_init : Value}
    {D_Grow_init : Addr}
    {f_Shrink_apply : Addr} {od_Shrink_apply an_Shrink_apply : Option Addr} {sl_Shrink_apply : Array (Option Value)} {oc_Shrink_apply kV_Shrink_apply dc_Shrink_apply pm_Shrink_apply cd_Shrink_apply ct_Shrink_apply : Value}
    {f_Grow_apply : Addr} {od_Grow_apply an_Grow_apply : Option Addr} {sl_Grow_apply : Array (Option Value)} {oc_Grow_apply kV_Grow_apply dc_Grow_apply pm_Grow_apply cd_Grow_apply ct_Grow_apply : Value}
    {f_l_mul : Addr} {od_l_mul an_l_mul : Option Addr} {sl_l_mul : Array (Option Value)} {oc_l_mul kV_l_mul dc_l_mul pm_l_mul cd_l_mul ct_l_mul : Value}
    {f_l_div : Addr} {od_l_div an_l_div : Option Addr} {sl_l_div : Array (Option Value)} {oc_l_div kV_l_div dc_l_div pm_l_div cd_l_div ct_l_div : Value}
    {f_l_less : Addr} {od_l_less an_l_less : Option Addr} {sl_l_less : Array (Option Value)} {oc_l_less kV_l_less dc_l_less pm_l_less cd_l_less ct_l_less : Value}
    {f_l_part : Addr} {od_l_part an_l_part : Option Addr} {sl_l_part : Array (Option Value)} {oc_l_part kV_l_part dc_l_part pm_l_part cd_l_part ct_l_part : Value}
    {f_l_sides : Addr} {od_l_sides an_l_sides : Option Addr} {sl_l_sides : Array (Option Value)} {oc_l_sides kV_l_sides dc_l_sides pm_l_sides cd_l_sides ct_l_sides : Value}
    {f_l_side : Addr} {od_l_side an_l_side : Option Addr} {sl_l_side : Array (Option Value)} {oc_l_side kV_l_side dc_l_side pm_l_side cd_l_side ct_l_side : Value}
    {f_l_made : Addr} {od_l_made an_l_made : Option Addr} {sl_l_made : Array (Option Value)} {oc_l_made kV_l_made dc_l_made pm_l_made cd_l_made ct_l_made : Value}
    {f_l_pair : Addr} {od_l_pair an_l_pair : Option Addr} {sl_l_pair : Array (Option Value)} {oc_l_pair kV_l_pair dc_l_pair pm_l_pair cd_l_pair ct_l_pair : Value}
    {f_l_sized : Addr} {od_l_sized an_l_sized : Option Addr} {sl_l_sized : Array (Option Value)} {oc_l_sized kV_l_sized dc_l_sized pm_l_sized cd_l_sized ct_l_sized : Value}
    {f_l_after : Addr} {od_l_after an_l_after : Option Addr} {sl_l_after : Array (Option Value)} {oc_l_after kV_l_after dc_l_after pm_l_after cd_l_after ct_l_after : Value}
    {f_l_step_right : Addr} {od_l_step_right an_l_step_right : Option Addr} {sl_l_step_right : Array (Option Value)} {oc_l_step_right kV_l_step_right dc_l_step_right pm_l_step_right cd_l_step_right ct_l_step_right : Value}
    {f_l_edges : Addr} {od_l_edges an_l_edges : Option Addr} {sl_l_edges : Array (Option Value)} {oc_l_edges kV_l_edges dc_l_edges pm_l_edges cd_l_edges ct_l_edges : Value}
    {f_l_right : Addr} {od_l_right an_l_right : Option Addr} {sl_l_right : Array (Option Value)} {oc_l_right kV_l_right dc_l_right pm_l_right cd_l_right ct_l_right : Value}
    {f_law : Addr} {od_law an_law : Option Addr} {sl_law : Array (Option Value)} {oc_law kV_law dc_law pm_law cd_law ct_law : Value}
    {tk_MOST_SIDE : Tok}
    {C_Size : Addr}
    {C_Scaling : Addr}
    {C_Shrink : Addr}
    {C_Grow : Addr}
    {fo_bt_Size_tuple ro_bt_Size_tuple : Option Value}
    (a_common_divisor : PySem.W.nsIn K mainGlobals "common_divisor" = some (some (.ref f_common_divisor)))
    (l_common_divisor : K.lookup f_common_divisor = some ⟨oc_common_divisor, od_common_divisor, .func (PySem.W.fnOf "common_divisor" "common_divisor" (defArgs s_common_divisor) (defBody s_common_divisor) (defScope s_common_divisor) .none kV_common_divisor dc_common_divisor pm_common_divisor an_common_divisor cd_common_divisor ct_common_divisor), sl_common_divisor⟩)
    (c_common_divisor : PySem.W.codeIn K cd_common_divisor "common_divisor" = true)
    (k_common_divisor : PySem.W.keepIn K (.ref f_common_divisor) = true)
    (a_lowest_terms : PySem.W.nsIn K mainGlobals "lowest_terms" = some (some (.ref f_lowest_terms)))
    (l_lowest_terms : K.lookup f_lowest_terms = some ⟨oc_lowest_terms, od_lowest_terms, .func (PySem.W.fnOf "lowest_terms" "lowest_terms" (defArgs s_lowest_terms) (defBody s_lowest_terms) (defScope s_lowest_terms) .none kV_lowest_terms dc_lowest_terms pm_lowest_terms an_lowest_terms cd_lowest_terms ct_lowest_terms), sl_lowest_terms⟩)
    (c_lowest_terms : PySem.W.codeIn K cd_lowest_terms "lowest_terms" = true)
    (k_lowest_terms : PySem.W.keepIn K (.ref f_lowest_terms) = true)
    (a_is_integer : PySem.W.nsIn K mainGlobals "is_integer" = some (some (.ref f_is_integer)))
    (l_is_integer : K.lookup f_is_integer = some ⟨oc_is_integer, od_is_integer, .func (PySem.W.fnOf "is_integer" "is_integer" (defArgs s_is_integer) (defBody s_is_integer) (defScope s_is_integer) .none kV_is_integer dc_is_integer pm_is_integer an_is_integer cd_is_integer ct_is_integer), sl_is_integer⟩)
    (c_is_integer : PySem.W.codeIn K cd_is_integer "is_integer" = true)
    (k_is_integer : PySem.W.keepIn K (.ref f_is_integer) = true)
    (a_is_positive : PySem.W.nsIn K mainGlobals "is_positive" = some (some (.ref f_is_positive)))
    (l_is_positive : K.lookup f_is_positive = some ⟨oc_is_positive, od_is_positive, .func (PySem.W.fnOf "is_positive" "is_positive" (defArgs s_is_positive) (defBody s_is_positive) (defScope s_is_positive) .none kV_is_positive dc_is_positive pm_is_positive an_is_positive cd_is_positive ct_is_positive), sl_is_positive⟩)
    (c_is_positive : PySem.W.codeIn K cd_is_positive "is_positive" = true)
    (k_is_positive : PySem.W.keepIn K (.ref f_is_positive) = true)
    (a_l_cell : PySem.W.nsIn K mainGlobals "_law_cell" = some (some (.ref f_l_cell)))
    (l_l_cell : K.lookup f_l_cell = some ⟨oc_l_cell, od_l_cell, .func (PySem.W.fnOf "_law_cell" "_law_cell" (defArgs s_l_cell) (defBody s_l_cell) (defScope s_l_cell) .none kV_l_cell dc_l_cell pm_l_cell an_l_cell cd_l_cell ct_l_cell), sl_l_cell⟩)
    (c_l_cell : PySem.W.codeIn K cd_l_cell "_law_cell" = true)
    (k_l_cell : PySem.W.keepIn K (.ref f_l_cell) = true)
    (a_l_pool : PySem.W.nsIn K mainGlobals "_law_pool" = some (some (.ref f_l_pool)))
    (l_l_pool : K.lookup f_l_pool = some ⟨oc_l_pool, od_l_pool, .func (PySem.W.fnOf "_law_pool" "_law_pool" (defArgs s_l_pool) (defBody s_l_pool) (defScope s_l_pool) .none kV_l_pool dc_l_pool pm_l_pool an_l_pool cd_l_pool ct_l_pool), sl_l_pool⟩)
    (c_l_pool : PySem.W.codeIn K cd_l_pool "_law_pool" = true)
    (k_l_pool : PySem.W.keepIn K (.ref f_l_pool) = true)
    (a_l_draw : PySem.W.nsIn K mainGlobals "_law_draw" = some (some (.ref f_l_draw)))
    (l_l_draw : K.lookup f_l_draw = some ⟨oc_l_draw, od_l_draw, .func (PySem.W.fnOf "_law_draw" "_law_draw" (defArgs s_l_draw) (defBody s_l_draw) (defScope s_l_draw) .none kV_l_draw dc_l_draw pm_l_draw an_l_draw cd_l_draw ct_l_draw), sl_l_draw⟩)
    (c_l_draw : PySem.W.codeIn K cd_l_draw "_law_draw" = true)
    (k_l_draw : PySem.W.keepIn K (.ref f_l_draw) = true)
    (a_l_low : PySem.W.nsIn K mainGlobals "_law_low" = some (some (.ref f_l_low)))
    (l_l_low : K.lookup f_l_low = some ⟨oc_l_low, od_l_low, .func (PySem.W.fnOf "_law_low" "_law_low" (defArgs s_l_low) (defBody s_l_low) (defScope s_l_low) .none kV_l_low dc_l_low pm_l_low an_l_low cd_l_low ct_l_low), sl_l_low⟩)
    (c_l_low : PySem.W.codeIn K cd_l_low "_law_low" = true)
    (k_l_low : PySem.W.keepIn K (.ref f_l_low) = true)
    (a_is_fraction : PySem.W.nsIn K mainGlobals "is_fraction" = some (some (.ref f_is_fraction)))
    (l_is_fraction : K.lookup f_is_fraction = some ⟨oc_is_fraction, od_is_fraction, .func (PySem.W.fnOf "is_fraction" "is_fraction" (defArgs s_is_fraction) (defBody s_is_fraction) (defScope s_is_fraction) .none kV_is_fraction dc_is_fraction pm_is_fraction an_is_fraction cd_is_fraction ct_is_fraction), sl_is_fraction⟩)
    (c_is_fraction : PySem.W.codeIn K cd_is_fraction "is_fraction" = true)
    (k_is_fraction : PySem.W.keepIn K (.ref f_is_fraction) = true)
    (a_check_fractions : PySem.W.nsIn K mainGlobals "check_fractions" = some (some (.ref f_check_fractions)))
    (l_check_fractions : K.lookup f_check_fractions = some ⟨oc_check_fractions, od_check_fractions, .func (PySem.W.fnOf "check_fractions" "check_fractions" (defArgs s_check_fractions) (defBody s_check_fractions) (defScope s_check_fractions) .none kV_check_fractions dc_check_fractions pm_check_fractions an_check_fractions cd_check_fractions ct_check_fractions), sl_check_fractions⟩)
    (c_check_fractions : PySem.W.codeIn K cd_check_fractions "check_fractions" = true)
    (k_check_fractions : PySem.W.keepIn K (.ref f_check_fractions) = true)
    (a_as_fraction : PySem.W.nsIn K mainGlobals "as_fraction" = some (some (.ref f_as_fraction)))
    (l_as_fraction : K.lookup f_as_fraction = some ⟨oc_as_fraction, od_as_fraction, .func (PySem.W.fnOf "as_fraction" "as_fraction" (defArgs s_as_fraction) (defBody s_as_fraction) (defScope s_as_fraction) .none kV_as_fraction dc_as_fraction pm_as_fraction an_as_fraction cd_as_fraction ct_as_fraction), sl_as_fraction⟩)
    (c_as_fraction : PySem.W.codeIn K cd_as_fraction "as_fraction" = true)
    (k_as_fraction : PySem.W.keepIn K (.ref f_as_fraction) = true)
    (a_product : PySem.W.nsIn K mainGlobals "product" = some (some (.ref f_product)))
    (l_product : K.lookup f_product = some ⟨oc_product, od_product, .func (PySem.W.fnOf "product" "product" (defArgs s_product) (defBody s_product) (defScope s_product) .none kV_product dc_product pm_product an_product cd_product ct_product), sl_product⟩)
    (c_product : PySem.W.codeIn K cd_product "product" = true)
    (k_product : PySem.W.keepIn K (.ref f_product) = true)
    (a_quotient : PySem.W.nsIn K mainGlobals "quotient" = some (some (.ref f_quotient)))
    (l_quotient : K.lookup f_quotient = some ⟨oc_quotient, od_quotient, .func (PySem.W.fnOf "quotient" "quotient" (defArgs s_quotient) (defBody s_quotient) (defScope s_quotient) .none kV_quotient dc_quotient pm_quotient an_quotient cd_quotient ct_quotient), sl_quotient⟩)
    (c_quotient : PySem.W.codeIn K cd_quotient "quotient" = true)
    (k_quotient : PySem.W.keepIn K (.ref f_quotient) = true)
    (a_order : PySem.W.nsIn K mainGlobals "order" = some (some (.ref f_order)))
    (l_order : K.lookup f_order = some ⟨oc_order, od_order, .func (PySem.W.fnOf "order" "order" (defArgs s_order) (defBody s_order) (defScope s_order) .none kV_order dc_order pm_order an_order cd_order ct_order), sl_order⟩)
    (c_order : PySem.W.codeIn K cd_order "order" = true)
    (k_order : PySem.W.keepIn K (.ref f_order) = true)
    (a_compare : PySem.W.nsIn K mainGlobals "compare" = some (some (.ref f_compare)))
    (l_compare : K.lookup f_compare = some ⟨oc_compare, od_compare, .func (PySem.W.fnOf "compare" "compare" (defArgs s_compare) (defBody s_compare) (defScope s_compare) .none kV_compare dc_compare pm_compare an_compare cd_compare ct_compare), sl_compare⟩)
    (c_compare : PySem.W.codeIn K cd_compare "compare" = true)
    (k_compare : PySem.W.keepIn K (.ref f_compare) = true)
    (a_check_size : PySem.W.nsIn K mainGlobals "check_size" = some (some (.ref f_check_size)))
    (l_check_size : K.lookup f_check_size = some ⟨oc_check_size, od_check_size, .func (PySem.W.fnOf "check_size" "check_size" (defArgs s_check_size) (defBody s_check_size) (defScope s_check_size) .none kV_check_size dc_check_size pm_check_size an_check_size cd_check_size ct_check_size), sl_check_size⟩)
    (c_check_size : PySem.W.codeIn K cd_check_size "check_size" = true)
    (k_check_size : PySem.W.keepIn K (.ref f_check_size) = true)
    (a_check_box : PySem.W.nsIn K mainGlobals "check_box" = some (some (.ref f_check_box)))
    (l_check_box : K.lookup f_check_box = some ⟨oc_check_box, od_check_box, .func (PySem.W.fnOf "check_box" "check_box" (defArgs s_check_box) (defBody s_check_box) (defScope s_check_box) .none kV_check_box dc_check_box pm_check_box an_check_box cd_check_box ct_check_box), sl_check_box⟩)
    (c_check_box : PySem.W.codeIn K cd_check_box "check_box" = true)
    (k_check_box : PySem.W.keepIn K (.ref f_check_box) = true)
    (a_l_mul : PySem.W.nsIn K mainGlobals "_law_mul" = some (some (.ref f_l_mul)))
    (l_l_mul : K.lookup f_l_mul = some ⟨oc_l_mul, od_l_mul, .func (PySem.W.fnOf "_law_mul" "_law_mul" (defArgs s_l_mul) (defBody s_l_mul) (defScope s_l_mul) .none kV_l_mul dc_l_mul pm_l_mul an_l_mul cd_l_mul ct_l_mul), sl_l_mul⟩)
    (c_l_mul : PySem.W.codeIn K cd_l_mul "_law_mul" = true)
    (k_l_mul : PySem.W.keepIn K (.ref f_l_mul) = true)
    (a_l_div : PySem.W.nsIn K mainGlobals "_law_div" = some (some (.ref f_l_div)))
    (l_l_div : K.lookup f_l_div = some ⟨oc_l_div, od_l_div, .func (PySem.W.fnOf "_law_div" "_law_div" (defArgs s_l_div) (defBody s_l_div) (defScope s_l_div) .none kV_l_div dc_l_div pm_l_div an_l_div cd_l_div ct_l_div), sl_l_div⟩)
    (c_l_div : PySem.W.codeIn K cd_l_div "_law_div" = true)
    (k_l_div : PySem.W.keepIn K (.ref f_l_div) = true)
    (a_l_less : PySem.W.nsIn K mainGlobals "_law_less" = some (some (.ref f_l_less)))
    (l_l_less : K.lookup f_l_less = some ⟨oc_l_less, od_l_less, .func (PySem.W.fnOf "_law_less" "_law_less" (defArgs s_l_less) (defBody s_l_less) (defScope s_l_less) .none kV_l_less dc_l_less pm_l_less an_l_less cd_l_less ct_l_less), sl_l_less⟩)
    (c_l_less : PySem.W.codeIn K cd_l_less "_law_less" = true)
    (k_l_less : PySem.W.keepIn K (.ref f_l_less) = true)
    (a_l_part : PySem.W.nsIn K mainGlobals "_law_part" = some (some (.ref f_l_part)))
    (l_l_part : K.lookup f_l_part = some ⟨oc_l_part, od_l_part, .func (PySem.W.fnOf "_law_part" "_law_part" (defArgs s_l_part) (defBody s_l_part) (defScope s_l_part) .none kV_l_part dc_l_part pm_l_part an_l_part cd_l_part ct_l_part), sl_l_part⟩)
    (c_l_part : PySem.W.codeIn K cd_l_part "_law_part" = true)
    (k_l_part : PySem.W.keepIn K (.ref f_l_part) = true)
    (a_l_sides : PySem.W.nsIn K mainGlobals "_law_sides" = some (some (.ref f_l_sides)))
    (l_l_sides : K.lookup f_l_sides = some ⟨oc_l_sides, od_l_sides, .func (PySem.W.fnOf "_law_sides" "_law_sides" (defArgs s_l_sides) (defBody s_l_sides) (defScope s_l_sides) .none kV_l_sides dc_l_sides pm_l_sides an_l_sides cd_l_sides ct_l_sides), sl_l_sides⟩)
    (c_l_sides : PySem.W.codeIn K cd_l_sides "_law_sides" = true)
    (k_l_sides : PySem.W.keepIn K (.ref f_l_sides) = true)
    (a_l_side : PySem.W.nsIn K mainGlobals "_law_side" = some (some (.ref f_l_side)))
    (l_l_side : K.lookup f_l_side = some ⟨oc_l_side, od_l_side, .func (PySem.W.fnOf "_law_side" "_law_side" (defArgs s_l_side) (defBody s_l_side) (defScope s_l_side) .none kV_l_side dc_l_side pm_l_side an_l_side cd_l_side ct_l_side), sl_l_side⟩)
    (c_l_side : PySem.W.codeIn K cd_l_side "_law_side" = true)
    (k_l_side : PySem.W.keepIn K (.ref f_l_side) = true)
    (a_l_made : PySem.W.nsIn K mainGlobals "_law_made" = some (some (.ref f_l_made)))
    (l_l_made : K.lookup f_l_made = some ⟨oc_l_made, od_l_made, .func (PySem.W.fnOf "_law_made" "_law_made" (defArgs s_l_made) (defBody s_l_made) (defScope s_l_made) .none kV_l_made dc_l_made pm_l_made an_l_made cd_l_made ct_l_made), sl_l_made⟩)
    (c_l_made : PySem.W.codeIn K cd_l_made "_law_made" = true)
    (k_l_made : PySem.W.keepIn K (.ref f_l_made) = true)
    (a_l_pair : PySem.W.nsIn K mainGlobals "_law_pair" = some (some (.ref f_l_pair)))
    (l_l_pair : K.lookup f_l_pair = some ⟨oc_l_pair, od_l_pair, .func (PySem.W.fnOf "_law_pair" "_law_pair" (defArgs s_l_pair) (defBody s_l_pair) (defScope s_l_pair) .none kV_l_pair dc_l_pair pm_l_pair an_l_pair cd_l_pair ct_l_pair), sl_l_pair⟩)
    (c_l_pair : PySem.W.codeIn K cd_l_pair "_law_pair" = true)
    (k_l_pair : PySem.W.keepIn K (.ref f_l_pair) = true)
    (a_l_sized : PySem.W.nsIn K mainGlobals "_law_sized" = some (some (.ref f_l_sized)))
    (l_l_sized : K.lookup f_l_sized = some ⟨oc_l_sized, od_l_sized, .func (PySem.W.fnOf "_law_sized" "_law_sized" (defArgs s_l_sized) (defBody s_l_sized) (defScope s_l_sized) .none kV_l_sized dc_l_sized pm_l_sized an_l_sized cd_l_sized ct_l_sized), sl_l_sized⟩)
    (c_l_sized : PySem.W.codeIn K cd_l_sized "_law_sized" = true)
    (k_l_sized : PySem.W.keepIn K (.ref f_l_sized) = true)
    (a_l_after : PySem.W.nsIn K mainGlobals "_law_after" = some (some (.ref f_l_after)))
    (l_l_after : K.lookup f_l_after = some ⟨oc_l_after, od_l_after, .func (PySem.W.fnOf "_law_after" "_law_after" (defArgs s_l_after) (defBody s_l_after) (defScope s_l_after) .none kV_l_after dc_l_after pm_l_after an_l_after cd_l_after ct_l_after), sl_l_after⟩)
    (c_l_after : PySem.W.codeIn K cd_l_after "_law_after" = true)
    (k_l_after : PySem.W.keepIn K (.ref f_l_after) = true)
    (a_l_step_right : PySem.W.nsIn K mainGlobals "_law_step_right" = some (some (.ref f_l_step_right)))
    (l_l_step_right : K.lookup f_l_step_right = some ⟨oc_l_step_right, od_l_step_right, .func (PySem.W.fnOf "_law_step_right" "_law_step_right" (defArgs s_l_step_right) (defBody s_l_step_right) (defScope s_l_step_right) .none kV_l_step_right dc_l_step_right pm_l_step_right an_l_step_right cd_l_step_right ct_l_step_right), sl_l_step_right⟩)
    (c_l_step_right : PySem.W.codeIn K cd_l_step_right "_law_step_right" = true)
    (k_l_step_right : PySem.W.keepIn K (.ref f_l_step_right) = true)
    (a_l_edges : PySem.W.nsIn K mainGlobals "_law_edges" = some (some (.ref f_l_edges)))
    (l_l_edges : K.lookup f_l_edges = some ⟨oc_l_edges, od_l_edges, .func (PySem.W.fnOf "_law_edges" "_law_edges" (defArgs s_l_edges) (defBody s_l_edges) (defScope s_l_edges) .none kV_l_edges dc_l_edges pm_l_edges an_l_edges cd_l_edges ct_l_edges), sl_l_edges⟩)
    (c_l_edges : PySem.W.codeIn K cd_l_edges "_law_edges" = true)
    (k_l_edges : PySem.W.keepIn K (.ref f_l_edges) = true)
    (a_l_right : PySem.W.nsIn K mainGlobals "_law_right" = some (some (.ref f_l_right)))
    (l_l_right : K.lookup f_l_right = some ⟨oc_l_right, od_l_right, .func (PySem.W.fnOf "_law_right" "_law_right" (defArgs s_l_right) (defBody s_l_right) (defScope s_l_right) .none kV_l_right dc_l_right pm_l_right an_l_right cd_l_right ct_l_right), sl_l_right⟩)
    (c_l_right : PySem.W.codeIn K cd_l_right "_law_right" = true)
    (k_l_right : PySem.W.keepIn K (.ref f_l_right) = true)
    (a_law : PySem.W.nsIn K mainGlobals "law" = some (some (.ref f_law)))
    (l_law : K.lookup f_law = some ⟨oc_law, od_law, .func (PySem.W.fnOf "law" "law" (defArgs s_law) (defBody s_law) (defScope s_law) .none kV_law dc_law pm_law an_law cd_law ct_law), sl_law⟩)
    (c_law : PySem.W.codeIn K cd_law "law" = true)
    (k_law : PySem.W.keepIn K (.ref f_law) = true)
    (z_isinstance : PySem.W.nsIn K mainGlobals "isinstance" = some none)
    (z_bool : PySem.W.nsIn K mainGlobals "bool" = some none)
    (z_int : PySem.W.nsIn K mainGlobals "int" = some none)
    (z_len : PySem.W.nsIn K mainGlobals "len" = some none)
    (z_abs : PySem.W.nsIn K mainGlobals "abs" = some none)
    (z_divmod : PySem.W.nsIn K mainGlobals "divmod" = some none)
    (z_tuple : PySem.W.nsIn K mainGlobals "tuple" = some none)
    (z_repr : PySem.W.nsIn K mainGlobals "repr" = some none)
    (z_all : PySem.W.nsIn K mainGlobals "all" = some none)
    (z_range : PySem.W.nsIn K mainGlobals "range" = some none)
    (z_min : PySem.W.nsIn K mainGlobals "min" = some none)
    (z_max : PySem.W.nsIn K mainGlobals "max" = some none)
    (a_MOST_SIDE : PySem.W.nsIn K mainGlobals "MOST_SIDE" = some (some (.int 1000000 tk_MOST_SIDE)))
    (ca_Size : PySem.W.nsIn K mainGlobals "Size" = some (some (.ref C_Size)))
    (cg_Size : PySem.W.plainGet K C_Size Str.empty = true)
    (ch_Size : PySem.W.hasDictIn K C_Size = true)
    (cp_Size : PySem.W.plainOver K C_Size = true)
    (cs_Size : PySem.W.findIn K (.ref C_Size) "__setattr__" = some (some (.builtin "object.__setattr__")))
    (is1_Size : PySem.W.findIn K (.ref C_Size) "__class__" = some (some (.builtin "object.__class__")))
    (is2_Size : PySem.W.specialIn K (.builtin "object.__class__") "__get__" = some (some (.builtin "getset_descriptor.__get__")))
    (is3_Size : PySem.W.takesIn K (.builtin "object.__class__") = some true)
    (is4_Size : PySem.W.mroIn K C_Size (.type "object") = some true)
    (nq_Size_width : PySem.W.findIn K (.ref C_Size) "width" = some none)
    (nq_Size_height : PySem.W.findIn K (.ref C_Size) "height" = some none)
    (cm_Size : PySem.W.makesIn K C_Size = true)
    (ck_Size : PySem.W.keepIn K (.ref C_Size) = true)
    (ci_Size : PySem.W.findIn K (.ref C_Size) "__init__" = some (some (.ref f_Size_init)))
    (cf2_Size : PySem.W.isFn K (.ref f_Size_init) = true)
    (ca_Scaling : PySem.W.nsIn K mainGlobals "Scaling" = some (some (.ref C_Scaling)))
    (cg_Scaling : PySem.W.plainGet K C_Scaling Str.empty = true)
    (ch_Scaling : PySem.W.hasDictIn K C_Scaling = true)
    (cp_Scaling : PySem.W.plainOver K C_Scaling = true)
    (cs_Scaling : PySem.W.findIn K (.ref C_Scaling) "__setattr__" = some (some (.builtin "object.__setattr__")))
    (cr1_Scaling : PySem.W.readsIn K C_Scaling (.type "type") = true)
    (cr2_Scaling : PySem.W.specialIn K (.ref C_Scaling) "__getattribute__" = some (some (.builtin "type.__getattribute__")))
    (cfq_Scaling_init : PySem.W.findCls K (.ref C_Scaling) (.type "type") "__init__" = some (.val (.ref f_Scaling_init)))
    (ca_Shrink : PySem.W.nsIn K mainGlobals "Shrink" = some (some (.ref C_Shrink)))
    (cg_Shrink : PySem.W.plainGet K C_Shrink Str.empty = true)
    (ch_Shrink : PySem.W.hasDictIn K C_Shrink = true)
    (cp_Shrink : PySem.W.plainOver K C_Shrink = true)
    (cs_Shrink : PySem.W.findIn K (.ref C_Shrink) "__setattr__" = some (some (.builtin "object.__setattr__")))
    (nq_Shrink_width : PySem.W.findIn K (.ref C_Shrink) "width" = some none)
    (nq_Shrink_height : PySem.W.findIn K (.ref C_Shrink) "height" = some none)
    (nq_Shrink_cover : PySem.W.findIn K (.ref C_Shrink) "cover" = some none)
    (ca_Grow : PySem.W.nsIn K mainGlobals "Grow" = some (some (.ref C_Grow)))
    (cg_Grow : PySem.W.plainGet K C_Grow Str.empty = true)
    (ch_Grow : PySem.W.hasDictIn K C_Grow = true)
    (cp_Grow : PySem.W.plainOver K C_Grow = true)
    (cs_Grow : PySem.W.findIn K (.ref C_Grow) "__setattr__" = some (some (.builtin "object.__setattr__")))
    (nq_Grow_width : PySem.W.findIn K (.ref C_Grow) "width" = some none)
    (nq_Grow_height : PySem.W.findIn K (.ref C_Grow) "height" = some none)
    (nq_Grow_cover : PySem.W.findIn K (.ref C_Grow) "cover" = some none)
    (kb_bo1 : PySem.W.selfFirst K C_Size = true)
    (bo2 : PySem.W.findIn K (.ref C_Size) (PySem.dunder Operator.Mult.info.2) = some (some (.ref f_Size_mul)))
    (bo3 : PySem.W.isFn K (.ref f_Size_mul) = true)
    (bo4 : PySem.W.findIn K (.ref C_Size) (PySem.dunderR Operator.Mult.info.2) = some none)
    (mq_Shrink_factor : PySem.W.findIn K (.ref C_Shrink) "factor" = some (some (.ref f_Scaling_factor)))
    (mi_Shrink_factor : PySem.W.isFn K (.ref f_Scaling_factor) = true)
    (bt1_Size_tuple : PySem.W.findIn K (.type "tuple") (PySem.dunder Operator.Mult.info.2) = some fo_bt_Size_tuple)
    (bt2_Size_tuple : PySem.W.findIn K (.type "tuple") (PySem.dunderR Operator.Mult.info.2) = some ro_bt_Size_tuple)
    (bt3_Size_tuple : PySem.W.subIn K (.type "tuple") (.ref C_Size) = some false)
    (mq_Grow_factor : PySem.W.findIn K (.ref C_Grow) "factor" = some (some (.ref f_Scaling_factor)))
    (mi_Grow_factor : PySem.W.isFn K (.ref f_Scaling_factor) = true)
    (cm_Grow : PySem.W.makesIn K C_Grow = true)
    (ck_Grow : PySem.W.keepIn K (.ref C_Grow) = true)
    (ci_Grow : PySem.W.findIn K (.ref C_Grow) "__init__" = some (some (.ref f_Grow_init)))
    (cf2_Grow : PySem.W.isFn K (.ref f_Grow_init) = true)
    (cm_Shrink : PySem.W.makesIn K C_Shrink = true)
    (ck_Shrink : PySem.W.keepIn K (.ref C_Shrink) = true)
    (ci_Shrink : PySem.W.findIn K (.ref C_Shrink) "__init__" = some (some (.ref f_Shrink_init)))
    (cf2_Shrink : PySem.W.isFn K (.ref f_Shrink_init) = true)
    (mq_Shrink_apply : PySem.W.findIn K (.ref C_Shrink) "apply" = some (some (.ref f_Shrink_apply)))
    (mi_Shrink_apply : PySem.W.isFn K (.ref f_Shrink_apply) = true)
    (mq_Grow_apply : PySem.W.findIn K (.ref C_Grow) "apply" = some (some (.ref f_Grow_apply)))
    (mi_Grow_apply : PySem.W.isFn K (.ref f_Grow_apply) = true)
    (l_Size_init : K.lookup f_Size_init = some ⟨oc_Size_init, od_Size_init, .func (PySem.W.fnOf "__init__" "Size.__init__" (defArgs s_Size_init) (defBody s_Size_init) (defScope s_Size_init) .none kV_Size_init dc_Size_init pm_Size_init an_Size_init cd_Size_init ct_Size_init), sl_Size_init⟩)
    (c_Size_init : PySem.W.codeIn K cd_Size_init "Size.__init__" = true)
    (k_Size_init : PySem.W.keepIn K (.ref f_Size_init) = true)
    (l_Size_mul : K.lookup f_Size_mul = some ⟨oc_Size_mul, od_Size_mul, .func (PySem.W.fnOf "__mul__" "Size.__mul__" (defArgs s_Size_mul) (defBody s_Size_mul) (defScope s_Size_mul) .none kV_Size_mul dc_Size_mul pm_Size_mul an_Size_mul cd_Size_mul ct_Size_mul), sl_Size_mul⟩)
    (c_Size_mul : PySem.W.codeIn K cd_Size_mul "Size.__mul__" = true)
    (k_Size_mul : PySem.W.keepIn K (.ref f_Size_mul) = true)
    (l_Scaling_init : K.lookup f_Scaling_init = some ⟨oc_Scaling_init, od_Scaling_init, .func (PySem.W.fnOf "__init__" "Scaling.__init__" (defArgs s_Scaling_init) (defBody s_Scaling_init) (defScope s_Scaling_init) .none kV_Scaling_init dc_Scaling_init pm_Scaling_init an_Scaling_init cd_Scaling_init ct_Scaling_init), sl_Scaling_init⟩)
    (c_Scaling_init : PySem.W.codeIn K cd_Scaling_init "Scaling.__init__" = true)
    (k_Scaling_init : PySem.W.keepIn K (.ref f_Scaling_init) = true)
    (l_Scaling_factor : K.lookup f_Scaling_factor = some ⟨oc_Scaling_factor, od_Scaling_factor, .func (PySem.W.fnOf "factor" "Scaling.factor" (defArgs s_Scaling_factor) (defBody s_Scaling_factor) (defScope s_Scaling_factor) .none kV_Scaling_factor dc_Scaling_factor pm_Scaling_factor an_Scaling_factor cd_Scaling_factor ct_Scaling_factor), sl_Scaling_factor⟩)
    (c_Scaling_factor : PySem.W.codeIn K cd_Scaling_factor "Scaling.factor" = true)
    (k_Scaling_factor : PySem.W.keepIn K (.ref f_Scaling_factor) = true)
    (l_Shrink_init : K.lookup f_Shrink_init = some ⟨oc_Shrink_init, od_Shrink_init, .func (PySem.W.fnOf "__init__" "Shrink.__init__" (defArgs s_Shrink_init) (defBody s_Shrink_init) (defScope s_Shrink_init) .none (.ref D_Shrink_init) dc_Shrink_init pm_Shrink_init an_Shrink_init cd_Shrink_init ct_Shrink_init), sl_Shrink_init⟩)
    (c_Shrink_init : PySem.W.codeIn K cd_Shrink_init "Shrink.__init__" = true)
    (k_Shrink_init : PySem.W.keepIn K (.ref f_Shrink_init) = true)
    (kd_Shrink_init_cover : PySem.W.nsIn K D_Shrink_init "cover" = some (some (.bool false)))
    (l_Grow_init : K.lookup f_Grow_init = some ⟨oc_Grow_init, od_Grow_init, .func (PySem.W.fnOf "__init__" "Grow.__init__" (defArgs s_Grow_init) (defBody s_Grow_init) (defScope s_Grow_init) .none (.ref D_Grow_init) dc_Grow_init pm_Grow_init an_Grow_init cd_Grow_init ct_Grow_init), sl_Grow_init⟩)
    (c_Grow_init : PySem.W.codeIn K cd_Grow_init "Grow.__init__" = true)
    (k_Grow_init : PySem.W.keepIn K (.ref f_Grow_init) = true)
    (kd_Grow_init_cover : PySem.W.nsIn K D_Grow_init "cover" = some (some (.bool false)))
    (l_Shrink_apply : K.lookup f_Shrink_apply = some ⟨oc_Shrink_apply, od_Shrink_apply, .func (PySem.W.fnOf "apply" "Shrink.apply" (defArgs s_Shrink_apply) (defBody s_Shrink_apply) (defScope s_Shrink_apply) .none kV_Shrink_apply dc_Shrink_apply pm_Shrink_apply an_Shrink_apply cd_Shrink_apply ct_Shrink_apply), sl_Shrink_apply⟩)
    (c_Shrink_apply : PySem.W.codeIn K cd_Shrink_apply "Shrink.apply" = true)
    (k_Shrink_apply : PySem.W.keepIn K (.ref f_Shrink_apply) = true)
    (l_Grow_apply : K.lookup f_Grow_apply = some ⟨oc_Grow_apply, od_Grow_apply, .func (PySem.W.fnOf "apply" "Grow.apply" (defArgs s_Grow_apply) (defBody s_Grow_apply) (defScope s_Grow_apply) .none kV_Grow_apply dc_Grow_apply pm_Grow_apply an_Grow_apply cd_Grow_apply ct_Grow_apply), sl_Grow_apply⟩)
    (c_Grow_apply : PySem.W.codeIn K cd_Grow_apply "Grow.apply" = true)
    (k_Grow_apply : PySem.W.keepIn K (.ref f_Grow_apply) = true)
    : ∃ fd : FuncData, (∀ (s : Shared) (u : Value), BindsTo s fd ⟨[u], []⟩ [("_law_script", u)]) ∧ ∀ base : Heap, K.In base → base.Ns mainGlobals mg → FnT l.prog w K mg base 13 fa fd ["_law_script"] sp_law := by
  have e := hfa.symm.trans (PySem.W.mg_of X G a_law)
  cases e
  have F_common_divisor := fun_mk (st := s_common_divisor) l_common_divisor c_common_divisor k_common_divisor
  have b_common_divisor := F_common_divisor.binds (ps := ["one", "other"]) fun _ _ _ _ _ _ us hl => match us, hl with | [_, _], _ => rfl
  have m_common_divisor := PySem.W.mg_of X G a_common_divisor
  have F_lowest_terms := fun_mk (st := s_lowest_terms) l_lowest_terms c_lowest_terms k_lowest_terms
  have b_lowest_terms := F_lowest_terms.binds (ps := ["top", "bottom"]) fun _ _ _ _ _ _ us hl => match us, hl with | [_, _], _ => rfl
  have m_lowest_terms := PySem.W.mg_of X G a_lowest_terms
  have F_is_integer := fun_mk (st := s_is_integer) l_is_integer c_is_integer k_is_integer
  have b_is_integer := F_is_integer.binds (ps := ["value"]) fun _ _ _ _ _ _ us hl => match us, hl with | [_], _ => rfl
  have m_is_integer := PySem.W.mg_of X G a_is_integer
  have F_is_positive := fun_mk (st := s_is_positive) l_is_positive c_is_positive k_is_positive
  have b_is_positive := F_is_positive.binds (ps := ["value"]) fun _ _ _ _ _ _ us hl => match us, hl with | [_], _ => rfl
  have m_is_positive := PySem.W.mg_of X G a_is_positive
  have F_l_cell := fun_mk (st := s_l_cell) l_l_cell c_l_cell k_l_cell
  have b_l_cell := F_l_cell.binds (ps := ["_law_script", "_law_k"]) fun _ _ _ _ _ _ us hl => match us, hl with | [_, _], _ => rfl
  have m_l_cell := PySem.W.mg_of X G a_l_cell
  have F_l_pool := fun_mk (st := s_l_pool) l_l_pool c_l_pool k_l_pool
  have b_l_pool := F_l_pool.binds (ps := ["_law_figure"]) fun _ _ _ _ _ _ us hl => match us, hl with | [_], _ => rfl
  have m_l_pool := PySem.W.mg_of X G a_l_pool
  have F_l_draw := fun_mk (st := s_l_draw) l_l_draw c_l_draw k_l_draw
  have b_l_draw := F_l_draw.binds (ps := ["_law_pool_here", "_law_most"]) fun _ _ _ _ _ _ us hl => match us, hl with | [_, _], _ => rfl
  have m_l_draw := PySem.W.mg_of X G a_l_draw
  have F_l_low := fun_mk (st := s_l_low) l_l_low c_l_low k_l_low
  have b_l_low := F_l_low.binds (ps := ["_law_high_part", "_law_low_part"]) fun _ _ _ _ _ _ us hl => match us, hl with | [_, _], _ => rfl
  have m_l_low := PySem.W.mg_of X G a_l_low
  have F_is_fraction := fun_mk (st := s_is_fraction) l_is_fraction c_is_fraction k_is_fraction
  have b_is_fraction := F_is_fraction.binds (ps := ["value"]) fun _ _ _ _ _ _ us hl => match us, hl with | [_], _ => rfl
  have m_is_fraction := PySem.W.mg_of X G a_is_fraction
  have F_check_fractions := fun_mk (st := s_check_fractions) l_check_fractions c_check_fractions k_check_fractions
  have b_check_fractions := F_check_fractions.binds (ps := ["values"]) fun _ _ _ _ _ _ us hl => match us, hl with | [_], _ => rfl
  have m_check_fractions := PySem.W.mg_of X G a_check_fractions
  have F_as_fraction := fun_mk (st := s_as_fraction) l_as_fraction c_as_fraction k_as_fraction
  have b_as_fraction := F_as_fraction.binds (ps := ["side"]) fun _ _ _ _ _ _ us hl => match us, hl with | [_], _ => rfl
  have m_as_fraction := PySem.W.mg_of X G a_as_fraction
  have F_product := fun_mk (st := s_product) l_product c_product k_product
  have hba_product : ∀ us : List Value, bindArgs (PySem.W.fnOf "product" "product" (defArgs s_product) (defBody s_product) (defScope s_product) .none kV_product dc_product pm_product an_product cd_product ct_product) ⟨us, []⟩ = (newTuple us >>= fun t => pure [(("fractions" : Str), t)]) := fun us => by cases us <;> rfl
  have m_product := PySem.W.mg_of X G a_product
  have F_quotient := fun_mk (st := s_quotient) l_quotient c_quotient k_quotient
  have b_quotient := F_quotient.binds (ps := ["one", "other"]) fun _ _ _ _ _ _ us hl => match us, hl with | [_, _], _ => rfl
  have m_quotient := PySem.W.mg_of X G a_quotient
  have F_order := fun_mk (st := s_order) l_order c_order k_order
  have b_order := F_order.binds (ps := ["left", "right"]) fun _ _ _ _ _ _ us hl => match us, hl with | [_, _], _ => rfl
  have m_order := PySem.W.mg_of X G a_order
  have F_compare := fun_mk (st := s_compare) l_compare c_compare k_compare
  have b_compare := F_compare.binds (ps := ["one", "other"]) fun _ _ _ _ _ _ us hl => match us, hl with | [_, _], _ => rfl
  have m_compare := PySem.W.mg_of X G a_compare
  have F_check_size := fun_mk (st := s_check_size) l_check_size c_check_size k_check_size
  have b_check_size := F_check_size.binds (ps := ["size"]) fun _ _ _ _ _ _ us hl => match us, hl with | [_], _ => rfl
  have m_check_size := PySem.W.mg_of X G a_check_size
  have F_Size_init := fun_mk (st := s_Size_init) l_Size_init c_Size_init k_Size_init
  have b_Size_init := F_Size_init.binds (ps := ["self", "width", "height"]) fun _ _ _ _ _ _ us hl => match us, hl with | [_, _, _], _ => rfl
  have F_Size_mul := fun_mk (st := s_Size_mul) l_Size_mul c_Size_mul k_Size_mul
  have b_Size_mul := F_Size_mul.binds (ps := ["self", "other"]) fun _ _ _ _ _ _ us hl => match us, hl with | [_, _], _ => rfl
  have F_check_box := fun_mk (st := s_check_box) l_check_box c_check_box k_check_box
  have b_check_box := F_check_box.binds (ps := ["width", "height"]) fun _ _ _ _ _ _ us hl => match us, hl with | [_, _], _ => rfl
  have m_check_box := PySem.W.mg_of X G a_check_box
  have F_Scaling_init := fun_mk (st := s_Scaling_init) l_Scaling_init c_Scaling_init k_Scaling_init
  have b_Scaling_init := F_Scaling_init.binds (ps := ["self", "width", "height", "cover"]) fun _ _ _ _ _ _ us hl => match us, hl with | [_, _, _, _], _ => rfl
  have F_Scaling_factor := fun_mk (st := s_Scaling_factor) l_Scaling_factor c_Scaling_factor k_Scaling_factor
  have b_Scaling_factor := F_Scaling_factor.binds (ps := ["self", "size"]) fun _ _ _ _ _ _ us hl => match us, hl with | [_, _], _ => rfl
  have F_Shrink_init : FunD K "__init__" "Shrink.__init__" (defArgs s_Shrink_init) (defBody s_Shrink_init) (defScope s_Shrink_init) [] [("cover", .bl false)] f_Shrink_init _ := ⟨⟨_, _, _, _, _, _, _, _, _, _, rfl, l_Shrink_init, c_Shrink_init, .inl ⟨rfl, rfl⟩, .inr ⟨D_Shrink_init, rfl, by intro z hz; simp only [List.mem_cons, List.not_mem_nil, or_false] at hz; subst hz; exact ⟨_, kd_Shrink_init_cover, rfl⟩⟩⟩, k_Shrink_init⟩
  have F_Grow_init : FunD K "__init__" "Grow.__init__" (defArgs s_Grow_init) (defBody s_Grow_init) (defScope s_Grow_init) [] [("cover", .bl false)] f_Grow_init _ := ⟨⟨_, _, _, _, _, _, _, _, _, _, rfl, l_Grow_init, c_Grow_init, .inl ⟨rfl, rfl⟩, .inr ⟨D_Grow_init, rfl, by intro z hz; simp only [List.mem_cons, List.not_mem_nil, or_false] at hz; subst hz; exact ⟨_, kd_Grow_init_cover, rfl⟩⟩⟩, k_Grow_init⟩
  have F_Shrink_apply := fun_mk (st := s_Shrink_apply) l_Shrink_apply c_Shrink_apply k_Shrink_apply
  have b_Shrink_apply := F_Shrink_apply.binds (ps := ["self", "size"]) fun _ _ _ _ _ _ us hl => match us, hl with | [_, _], _ => rfl
  have F_Grow_apply := fun_mk (st := s_Grow_apply) l_Grow_apply c_Grow_apply k_Grow_apply
  have b_Grow_apply := F_Grow_apply.binds (ps := ["self", "size"]) fun _ _ _ _ _ _ us hl => match us, hl with | [_, _], _ => rfl
  have F_l_mul := fun_mk (st := s_l_mul) l_l_mul c_l_mul k_l_mul
  have b_l_mul := F_l_mul.binds (ps := ["_law_one", "_law_more"]) fun _ _ _ _ _ _ us hl => match us, hl with | [_, _], _ => rfl
  have m_l_mul := PySem.W.mg_of X G a_l_mul
  have F_l_div := fun_mk (st := s_l_div) l_l_div c_l_div k_l_div
  have b_l_div := F_l_div.binds (ps := ["_law_one", "_law_more"]) fun _ _ _ _ _ _ us hl => match us, hl with | [_, _], _ => rfl
  have m_l_div := PySem.W.mg_of X G a_l_div
  have F_l_less := fun_mk (st := s_l_less) l_l_less c_l_less k_l_less
  have b_l_less := F_l_less.binds (ps := ["_law_one", "_law_more"]) fun _ _ _ _ _ _ us hl => match us, hl with | [_, _], _ => rfl
  have m_l_less := PySem.W.mg_of X G a_l_less
  have F_l_part := fun_mk (st := s_l_part) l_l_part c_l_part k_l_part
  have b_l_part := F_l_part.binds (ps := ["_law_pool_here", "_law_great"]) fun _ _ _ _ _ _ us hl => match us, hl with | [_, _], _ => rfl
  have m_l_part := PySem.W.mg_of X G a_l_part
  have F_l_sides := fun_mk (st := s_l_sides) l_l_sides c_l_sides k_l_sides
  have b_l_sides := F_l_sides.binds (ps := ["_law_pool_here", "_law_great"]) fun _ _ _ _ _ _ us hl => match us, hl with | [_, _], _ => rfl
  have m_l_sides := PySem.W.mg_of X G a_l_sides
  have F_l_side := fun_mk (st := s_l_side) l_l_side c_l_side k_l_side
  have b_l_side := F_l_side.binds (ps := ["_law_pool_here", "_law_great"]) fun _ _ _ _ _ _ us hl => match us, hl with | [_, _], _ => rfl
  have m_l_side := PySem.W.mg_of X G a_l_side
  have F_l_made := fun_mk (st := s_l_made) l_l_made c_l_made k_l_made
  have b_l_made := F_l_made.binds (ps := ["_law_spec"]) fun _ _ _ _ _ _ us hl => match us, hl with | [_], _ => rfl
  have m_l_made := PySem.W.mg_of X G a_l_made
  have F_l_pair := fun_mk (st := s_l_pair) l_l_pair c_l_pair k_l_pair
  have b_l_pair := F_l_pair.binds (ps := ["_law_told"]) fun _ _ _ _ _ _ us hl => match us, hl with | [_], _ => rfl
  have m_l_pair := PySem.W.mg_of X G a_l_pair
  have F_l_sized := fun_mk (st := s_l_sized) l_l_sized c_l_sized k_l_sized
  have b_l_sized := F_l_sized.binds (ps := ["_law_sides_here"]) fun _ _ _ _ _ _ us hl => match us, hl with | [_], _ => rfl
  have m_l_sized := PySem.W.mg_of X G a_l_sized
  have F_l_after := fun_mk (st := s_l_after) l_l_after c_l_after k_l_after
  have b_l_after := F_l_after.binds (ps := ["_law_sides_here", "_law_spec"]) fun _ _ _ _ _ _ us hl => match us, hl with | [_, _], _ => rfl
  have m_l_after := PySem.W.mg_of X G a_l_after
  have F_l_step_right := fun_mk (st := s_l_step_right) l_l_step_right c_l_step_right k_l_step_right
  have b_l_step_right := F_l_step_right.binds (ps := ["_law_spec", "_law_sides_here"]) fun _ _ _ _ _ _ us hl => match us, hl with | [_, _], _ => rfl
  have m_l_step_right := PySem.W.mg_of X G a_l_step_right
  have F_l_edges := fun_mk (st := s_l_edges) l_l_edges c_l_edges k_l_edges
  have b_l_edges := F_l_edges.binds (ps := ["_law_one", "_law_more"]) fun _ _ _ _ _ _ us hl => match us, hl with | [_, _], _ => rfl
  have m_l_edges := PySem.W.mg_of X G a_l_edges
  have F_l_right := fun_mk (st := s_l_right) l_l_right c_l_right k_l_right
  have b_l_right := F_l_right.binds (ps := ["_law_pool_here"]) fun _ _ _ _ _ _ us hl => match us, hl with | [_], _ => rfl
  have m_l_right := PySem.W.mg_of X G a_l_right
  have F_law := fun_mk (st := s_law) l_law c_law k_law
  have b_law := F_law.binds (ps := ["_law_script"]) fun _ _ _ _ _ _ us hl => match us, hl with | [_], _ => rfl
  have m_law := PySem.W.mg_of X G a_law
  have kb_Grow_init_3_cover : CallB K _ ["self", "width", "height", "cover"] 3 ["cover"] (fun ts zs => pickG [(0, 0), (0, 1), (0, 2), (2, 0)] ts [] zs) := FunK.cb F_Grow_init 3 ["cover"] [(0, 0), (0, 1), (0, 2), (2, 0)] fun _ _ _ _ _ _ us ws h1 h2 => match us, ws, h1, h2 with | [_, _, _], [_], _, _ => rfl
  have kb_Shrink_init_3_cover : CallB K _ ["self", "width", "height", "cover"] 3 ["cover"] (fun ts zs => pickG [(0, 0), (0, 1), (0, 2), (2, 0)] ts [] zs) := FunK.cb F_Shrink_init 3 ["cover"] [(0, 0), (0, 1), (0, 2), (2, 0)] fun _ _ _ _ _ _ us ws h1 h2 => match us, ws, h1, h2 with | [_, _, _], [_], _, _ => rfl
  have kb_Shrink_apply_1_size : CallB K _ ["self", "size"] 1 ["size"] (fun ts zs => pickG [(0, 0), (2, 0)] ts [] zs) := Fun.cb F_Shrink_apply 1 ["size"] [(0, 0), (2, 0)] fun _ _ _ _ _ _ us ws h1 h2 => match us, ws, h1, h2 with | [_], [_], _, _ => rfl
  have kb_Grow_apply_1_size : CallB K _ ["self", "size"] 1 ["size"] (fun ts zs => pickG [(0, 0), (2, 0)] ts [] zs) := Fun.cb F_Grow_apply 1 ["size"] [(0, 0), (2, 0)] fun _ _ _ _ _ _ us ws h1 h2 => match us, ws, h1, h2 with | [_], [_], _, _ => rfl
  have cd_Shrink_init_1 : CallD K _ ["self", "width", "height", "cover"] [.bl false] := FunK.cd F_Shrink_init 3 (by simp) rfl (DefT.bl (DefT.nil)) fun D _ _ _ _ _ us ks h1 h2 => match us, ks, h1, h2 with | [_, _, _], [_], _, _ => ⟨_, _, _, _, _, _, rfl, rfl, rfl⟩
  have n_isinstance := PySem.W.mg_none_of X G z_isinstance
  have n_bool := PySem.W.mg_none_of X G z_bool
  have n_int := PySem.W.mg_none_of X G z_int
  have n_len := PySem.W.mg_none_of X G z_len
  have n_abs := PySem.W.mg_none_of X G z_abs
  have n_divmod := PySem.W.mg_none_of X G z_divmod
  have n_tuple := PySem.W.mg_none_of X G z_tuple
  have n_repr := PySem.W.mg_none_of X G z_repr
  have n_all := PySem.W.mg_none_of X G z_all
  have n_range := PySem.W.mg_none_of X G z_range
  have n_min := PySem.W.mg_none_of X G z_min
  have n_max := PySem.W.mg_none_of X G z_max
  have c_MOST_SIDE := PySem.W.mg_of X G a_MOST_SIDE
  have m_Size := PySem.W.mg_of X G ca_Size
  have cl_Size : Cls K C_Size := ⟨cg_Size, ch_Size, cp_Size, cs_Size⟩
  have is_Size : InsC K C_Size := ⟨cl_Size, is1_Size, is2_Size, is3_Size, is4_Size⟩
  have nf_Size_width : InF K C_Size "width" := ⟨cl_Size, nq_Size_width⟩
  have nf_Size_height : InF K C_Size "height" := ⟨cl_Size, nq_Size_height⟩
  have M_Size : Mk K C_Size f_Size_init := ⟨cm_Size, ci_Size, cf2_Size, ck_Size⟩
  have m_Scaling := PySem.W.mg_of X G ca_Scaling
  have cl_Scaling : Cls K C_Scaling := ⟨cg_Scaling, ch_Scaling, cp_Scaling, cs_Scaling⟩
  have cr_Scaling : ClX.CRead K C_Scaling (.type "type") := ⟨cr1_Scaling, cr2_Scaling⟩
  have cf_Scaling_init := cfq_Scaling_init
  have m_Shrink := PySem.W.mg_of X G ca_Shrink
  have cl_Shrink : Cls K C_Shrink := ⟨cg_Shrink, ch_Shrink, cp_Shrink, cs_Shrink⟩
  have nf_Shrink_width : InF K C_Shrink "width" := ⟨cl_Shrink, nq_Shrink_width⟩
  have nf_Shrink_height : InF K C_Shrink "height" := ⟨cl_Shrink, nq_Shrink_height⟩
  have nf_Shrink_cover : InF K C_Shrink "cover" := ⟨cl_Shrink, nq_Shrink_cover⟩
  have m_Grow := PySem.W.mg_of X G ca_Grow
  have cl_Grow : Cls K C_Grow := ⟨cg_Grow, ch_Grow, cp_Grow, cs_Grow⟩
  have nf_Grow_width : InF K C_Grow "width" := ⟨cl_Grow, nq_Grow_width⟩
  have nf_Grow_height : InF K C_Grow "height" := ⟨cl_Grow, nq_Grow_height⟩
  have nf_Grow_cover : InF K C_Grow "cover" := ⟨cl_Grow, nq_Grow_cover⟩
  have bo_Size_mul : BinOwn K C_Size f_Size_mul .Mult := ⟨kb_bo1, bo2, bo3, none, bo4, .inl rfl⟩
  have me_Shrink_factor : Meth K C_Shrink "factor" f_Scaling_factor := ⟨mq_Shrink_factor, mi_Shrink_factor, k_Scaling_factor⟩
  have bt_Size_tuple : BinTy K C_Size .Mult "tuple" := ⟨⟨_, bt1_Size_tuple⟩, ⟨_, bt2_Size_tuple⟩, bt3_Size_tuple⟩
  have me_Grow_factor : Meth K C_Grow "factor" f_Scaling_factor := ⟨mq_Grow_factor, mi_Grow_factor, k_Scaling_factor⟩
  have M_Grow : Mk K C_Grow f_Grow_init := ⟨cm_Grow, ci_Grow, cf2_Grow, ck_Grow⟩
  have M_Shrink : Mk K C_Shrink f_Shrink_init := ⟨cm_Shrink, ci_Shrink, cf2_Shrink, ck_Shrink⟩
  have me_Shrink_apply : Meth K C_Shrink "apply" f_Shrink_apply := ⟨mq_Shrink_apply, mi_Shrink_apply, k_Shrink_apply⟩
  have me_Grow_apply : Meth K C_Grow "apply" f_Grow_apply := ⟨mq_Grow_apply, mi_Grow_apply, k_Grow_apply⟩
  refine ⟨PySem.W.fnOf "law" "law" (defArgs s_law) (defBody s_law) (defScope s_law) .none kV_law dc_law pm_law an_law cd_law ct_law, fun s u => .of_eq rfl, fun base inB nsB => ?_⟩
  have G_common_divisor := ok_common_divisor (P := l.prog) (w := w) (mg := mg) (base := base) F_common_divisor 
  have G_lowest_terms := ok_lowest_terms (P := l.prog) (w := w) (mg := mg) (base := base) F_lowest_terms G_common_divisor m_common_divisor k_common_divisor b_common_divisor
  have G_is_integer := ok_is_integer (P := l.prog) (w := w) (mg := mg) (base := base) F_is_integer n_isinstance n_bool n_int
  have G_is_positive := ok_is_positive (P := l.prog) (w := w) (mg := mg) (base := base) F_is_positive G_is_integer m_is_integer k_is_integer b_is_integer
  have G_l_cell := ok_l_cell (P := l.prog) (w := w) (mg := mg) (base := base) F_l_cell n_len
  have G_l_pool := ok_l_pool (P := l.prog) (w := w) (mg := mg) (base := base) F_l_pool n_abs
  have G_l_draw := ok_l_draw (P := l.prog) (w := w) (mg := mg) (base := base) F_l_draw n_divmod
  have G_l_low := ok_l_low (P := l.prog) (w := w) (mg := mg) (base := base) F_l_low 
  have G_is_fraction := ok_is_fraction (P := l.prog) (w := w) (mg := mg) (base := base) F_is_fraction n_len n_isinstance n_tuple G_common_divisor m_common_divisor k_common_divisor b_common_divisor G_is_positive m_is_positive k_is_positive b_is_positive
  have G_check_fractions := ok_check_fractions (P := l.prog) (w := w) (mg := mg) (base := base) F_check_fractions G_is_fraction m_is_fraction k_is_fraction b_is_fraction
  have G_as_fraction := ok_as_fraction (P := l.prog) (w := w) (mg := mg) (base := base) F_as_fraction G_check_fractions m_check_fractions k_check_fractions b_check_fractions G_is_positive m_is_positive k_is_positive b_is_positive
  have G_product := ok_product (P := l.prog) (w := w) (mg := mg) (base := base) F_product G_lowest_terms m_lowest_terms k_lowest_terms b_lowest_terms G_check_fractions m_check_fractions k_check_fractions b_check_fractions hba_product
  have G_quotient := ok_quotient (P := l.prog) (w := w) (mg := mg) (base := base) F_quotient G_lowest_terms m_lowest_terms k_lowest_terms b_lowest_terms G_check_fractions m_check_fractions k_check_fractions b_check_fractions
  have G_order := ok_order (P := l.prog) (w := w) (mg := mg) (base := base) F_order 
  have G_compare := ok_compare (P := l.prog) (w := w) (mg := mg) (base := base) F_compare G_order m_order k_order b_order G_check_fractions m_check_fractions k_check_fractions b_check_fractions
  have G_check_size := ok_check_size (P := l.prog) (w := w) (mg := mg) (base := base) F_check_size n_isinstance m_Size is_Size
  have G_Size_init := ok_Size_init (P := l.prog) (w := w) (mg := mg) (base := base) F_Size_init G_as_fraction m_as_fraction k_as_fraction b_as_fraction nf_Size_width nf_Size_height
  have G_Size_mul := ok_Size_mul (P := l.prog) (w := w) (mg := mg) (base := base) F_Size_mul G_Size_init b_Size_init G_product m_product k_product G_as_fraction m_as_fraction k_as_fraction b_as_fraction m_Size M_Size nf_Size_width nf_Size_height
  have G_check_box := ok_check_box (P := l.prog) (w := w) (mg := mg) (base := base) F_check_box c_MOST_SIDE G_is_positive m_is_positive k_is_positive b_is_positive
  have G_Scaling_init := ok_Scaling_init (P := l.prog) (w := w) (mg := mg) (base := base) F_Scaling_init G_check_box m_check_box k_check_box b_check_box
  have G_Scaling_factor := ok_Scaling_factor (P := l.prog) (w := w) (mg := mg) (base := base) F_Scaling_factor G_compare m_compare k_compare b_compare G_quotient m_quotient k_quotient b_quotient nf_Size_width nf_Size_height
  have G_Shrink_init := ok_Shrink_init (P := l.prog) (w := w) (mg := mg) (base := base) F_Shrink_init G_Scaling_init b_Scaling_init m_Scaling cr_Scaling cf_Scaling_init k_Scaling_init nf_Shrink_width nf_Shrink_height nf_Shrink_cover
  have G_Grow_init := ok_Grow_init (P := l.prog) (w := w) (mg := mg) (base := base) F_Grow_init G_Scaling_init b_Scaling_init m_Scaling cr_Scaling cf_Scaling_init k_Scaling_init nf_Grow_width nf_Grow_height nf_Grow_cover
  have G_Shrink_apply := ok_Shrink_apply (P := l.prog) (w := w) (mg := mg) (base := base) F_Shrink_apply G_compare m_compare k_compare b_compare G_Size_mul b_Size_mul G_Scaling_factor b_Scaling_factor G_check_size m_check_size k_check_size b_check_size bo_Size_mul cl_Shrink me_Shrink_factor nf_Shrink_width nf_Shrink_height nf_Shrink_cover bt_Size_tuple
  have G_Grow_apply := ok_Grow_apply (P := l.prog) (w := w) (mg := mg) (base := base) F_Grow_apply G_compare m_compare k_compare b_compare G_Size_mul b_Size_mul G_Scaling_factor b_Scaling_factor G_check_size m_check_size k_check_size b_check_size bo_Size_mul cl_Grow me_Grow_factor nf_Grow_width nf_Grow_height nf_Grow_cover bt_Size_tuple
  have G_l_mul := ok_l_mul (P := l.prog) (w := w) (mg := mg) (base := base) F_l_mul G_l_low m_l_low k_l_low b_l_low
  have G_l_div := ok_l_div (P := l.prog) (w := w) (mg := mg) (base := base) F_l_div G_l_low m_l_low k_l_low b_l_low
  have G_l_less := ok_l_less (P := l.prog) (w := w) (mg := mg) (base := base) F_l_less 
  have G_l_part := ok_l_part (P := l.prog) (w := w) (mg := mg) (base := base) F_l_part G_l_low m_l_low k_l_low b_l_low G_l_draw m_l_draw k_l_draw b_l_draw
  have G_l_sides := ok_l_sides (P := l.prog) (w := w) (mg := mg) (base := base) F_l_sides G_l_part m_l_part k_l_part b_l_part G_l_mul m_l_mul k_l_mul b_l_mul G_l_low m_l_low k_l_low b_l_low G_l_draw m_l_draw k_l_draw b_l_draw
  have G_l_side := ok_l_side (P := l.prog) (w := w) (mg := mg) (base := base) F_l_side G_l_draw m_l_draw k_l_draw b_l_draw
  have G_l_made := ok_l_made (P := l.prog) (w := w) (mg := mg) (base := base) F_l_made G_Grow_init kb_Grow_init_3_cover G_Shrink_init kb_Shrink_init_3_cover m_Grow M_Grow m_Shrink M_Shrink
  have G_l_pair := ok_l_pair (P := l.prog) (w := w) (mg := mg) (base := base) F_l_pair n_isinstance m_Size is_Size nf_Size_width nf_Size_height
  have G_l_sized := ok_l_sized (P := l.prog) (w := w) (mg := mg) (base := base) F_l_sized G_Size_init b_Size_init m_Size M_Size
  have G_l_after := ok_l_after (P := l.prog) (w := w) (mg := mg) (base := base) F_l_after G_l_less m_l_less k_l_less b_l_less G_l_mul m_l_mul k_l_mul b_l_mul G_l_div m_l_div k_l_div b_l_div
  have G_l_step_right := ok_l_step_right (P := l.prog) (w := w) (mg := mg) (base := base) F_l_step_right n_repr n_isinstance n_all G_l_pair m_l_pair k_l_pair b_l_pair G_l_after m_l_after k_l_after b_l_after G_Shrink_apply b_Shrink_apply kb_Shrink_apply_1_size G_Grow_apply b_Grow_apply kb_Grow_apply_1_size G_l_sized m_l_sized k_l_sized b_l_sized G_l_made m_l_made k_l_made b_l_made m_Size cl_Shrink me_Shrink_apply cl_Grow me_Grow_apply is_Size
  have G_l_edges := ok_l_edges (P := l.prog) (w := w) (mg := mg) (base := base) F_l_edges G_l_low m_l_low k_l_low b_l_low
  have G_l_right := ok_l_right (P := l.prog) (w := w) (mg := mg) (base := base) F_l_right n_range G_l_step_right m_l_step_right k_l_step_right b_l_step_right G_l_edges m_l_edges k_l_edges b_l_edges G_l_sides m_l_sides k_l_sides b_l_sides G_l_side m_l_side k_l_side b_l_side
  have G_law := ok_law (P := l.prog) (w := w) (mg := mg) (base := base) F_law n_range n_len n_min n_max n_all G_l_right m_l_right k_l_right b_l_right G_l_pool m_l_pool k_l_pool b_l_pool G_l_cell m_l_cell k_l_cell b_l_cell G_Grow_init kb_Grow_init_3_cover G_l_pair m_l_pair k_l_pair b_l_pair G_Shrink_apply b_Shrink_apply G_Grow_apply b_Grow_apply G_Size_init b_Size_init G_Shrink_init cd_Shrink_init_1 kb_Shrink_init_3_cover m_Grow M_Grow cl_Shrink me_Shrink_apply cl_Grow me_Grow_apply m_Size M_Size m_Shrink M_Shrink
  exact G_law
end Gd
open PySem PySem.W PyProof.Rows
set_option maxRecDepth 100000 in
set_option maxHeartbeats 0 in
theorem PySem.Challenge.cw_sizechains_k15_scalings_to_cover_holds : PySem.Challenge.rw_sizechains_k15_scalings_to_cover.Holds := by
  w_on; o_law
  refine PySem.W.holds_open (q := Gd.q0) (loose := Gd.loose0) (Xt := Gd.seen0) (XP := PySem.W.XL Gd.q0 Gd.lv0) Gd.left0 (PySem.W.kHook Gd.K0 Gd.as0 Gd.as0_ok).of
    (PySem.W.kHook Gd.K0 Gd.as0 Gd.as0_ok).keeps (fun s h => PySem.W.xl_of s (Bool.and_eq_true_iff.mp h).1) PySem.W.XL.keeps
    (by rfl) (by rfl) (by rfl) (fun s h => PySem.W.recFacts_of (Bool.and_eq_true_iff.mp h).2) (by rfl) (by assumption) (by decide +kernel)
    ⟨rfl, rfl, rfl, rfl, rfl, by decide +kernel⟩ ?hw ?hc
  (case hw => w_witness2)
  k_fill
  refine Gd.walkT (l := PySem.Challenge.rw_sizechains_k15_scalings_to_cover) (k := 13) (x := "_law_script") rfl rfl ⟨rfl, by decide, by decide⟩ (fun w h Y => PySem.W.kIn_of Y) ?F
  case F =>
    intro w mg fa h KX G hmg
    refine' Gd.all_mk KX G hmg ?a_common_divisor ?l_common_divisor ?c_common_divisor ?k_common_divisor ?a_lowest_terms ?l_lowest_terms ?c_lowest_terms ?k_lowest_terms ?a_is_integer ?l_is_integer ?c_is_integer ?k_is_integer ?a_is_positive ?l_is_positive ?c_is_positive ?k_is_positive ?a_l_cell ?l_l_cell ?c_l_cell ?k_l_cell ?a_l_pool ?l_l_pool ?c_l_pool ?k_l_pool ?a_l_draw ?l_l_draw ?c_l_draw ?k_l_draw ?a_l_low ?l_l_low ?c_l_low ?k_l_low ?a_is_fraction ?l_is_fraction ?c_is_fraction ?k_is_fraction ?a_check_fractions ?l_check_fractions ?c_check_fractions ?k_check_fractions ?a_as_fraction ?l_as_fraction ?c_as_fraction ?k_as_fraction ?a_product ?l_product ?c_product ?k_product ?a_quotient ?l_quotient ?c_quotient ?k_quotient ?a_order ?l_order ?c_order ?k_order ?a_compare ?l_compare ?c_compare ?k_compare ?a_check_size ?l_check_size ?c_check_size ?k_check_size ?a_check_box ?l_check_box ?c_check_box ?k_check_box ?a_l_mul ?l_l_mul ?c_l_mul ?k_l_mul ?a_l_div ?l_l_div ?c_l_div ?k_l_div ?a_l_less ?l_l_less ?c_l_less ?k_l_less ?a_l_part ?l_l_part ?c_l_part ?k_l_part ?a_l_sides ?l_l_sides ?c_l_sides ?k_l_sides ?a_l_side ?l_l_side ?c_l_side ?k_l_side ?a_l_made ?l_l_made ?c_l_made ?k_l_made ?a_l_pair ?l_l_pair ?c_l_pair ?k_l_pair ?a_l_sized ?l_l_sized ?c_l_sized ?k_l_sized ?a_l_after ?l_l_after ?c_l_after ?k_l_after ?a_l_step_right ?l_l_step_right ?c_l_step_right ?k_l_step_right ?a_l_edges ?l_l_edges ?c_l_edges ?k_l_edges ?a_l_right ?l_l_right ?c_l_right ?k_l_right ?a_law ?l_law ?c_law ?k_law ?z_isinstance ?z_bool ?z_int ?z_len ?z_abs ?z_divmod ?z_tuple ?z_repr ?z_all ?z_range ?z_min ?z_max ?a_MOST_SIDE ?ca_Size ?cg_Size ?ch_Size ?cp_Size ?cs_Size ?is1_Size ?is2_Size ?is3_Size ?is4_Size ?nq_Size_width ?nq_Size_height ?cm_Size ?ck_Size ?ci_Size ?cf2_Size ?ca_Scaling ?cg_Scaling ?ch_Scaling ?cp_Scaling ?cs_Scaling ?cr1_Scaling ?cr2_Scaling ?cfq_Scaling_init ?ca_Shrink ?cg_Shrink ?ch_Shrink ?cp_Shrink ?cs_Shrink ?nq_Shrink_width ?nq_Shrink_height ?nq_Shrink_cover ?ca_Grow ?cg_Grow ?ch_Grow ?cp_Grow ?cs_Grow ?nq_Grow_width ?nq_Grow_height ?nq_Grow_cover ?kb_bo1 ?bo2 ?bo3 ?bo4 ?mq_Shrink_factor ?mi_Shrink_factor ?bt1_Size_tuple ?bt2_Size_tuple ?bt3_Size_tuple ?mq_Grow_factor ?mi_Grow_factor ?cm_Grow ?ck_Grow ?ci_Grow ?cf2_Grow ?cm_Shrink ?ck_Shrink ?ci_Shrink ?cf2_Shrink ?mq_Shrink_apply ?mi_Shrink_apply ?mq_Grow_apply ?mi_Grow_apply ?l_Size_init ?c_Size_init ?k_Size_init ?l_Size_mul ?c_Size_mul ?k_Size_mul ?l_Scaling_init ?c_Scaling_init ?k_Scaling_init ?l_Scaling_factor ?c_Scaling_factor ?k_Scaling_factor ?l_Shrink_init ?c_Shrink_init ?k_Shrink_init ?kd_Shrink_init_cover ?l_Grow_init ?c_Grow_init ?k_Grow_init ?kd_Grow_init_cover ?l_Shrink_apply ?c_Shrink_apply ?k_Shrink_apply ?l_Grow_apply ?c_Grow_apply ?k_Grow_apply
    (case a_common_divisor => first | k_is | kernel_rfl | rfl | decide +kernel)
    (case l_common_divisor => first | k_is | kernel_rfl | rfl | decide +kernel)
    (case c_common_divisor => first | k_is | kernel_rfl | rfl | decide +kernel)
    (case k_common_divisor => first | k_is | kernel_rfl | rfl | decide +kernel)
    (case a_lowest_terms => first | k_is | kernel_rfl | rfl | decide +kernel)
    (case l_lowest_terms => first | k_is | kernel_rfl | rfl | decide +kernel)
    (case c_lowest_terms => first | k_is | kernel_rfl | rfl | decide +kernel)
    (case k_lowest_terms => first | k_is | kernel_rfl | rfl | decide +kernel)
    (case a_is_integer => first | k_is | kernel_rfl | rfl | decide +kernel)
    (case l_is_integer => first | k_is | kernel_rfl | rfl | decide +kernel)
    (case c_is_integer => first | k_is | kernel_rfl | rfl | decide +kernel)
    (case k_is_integer => first | k_is | kernel_rfl | rfl | decide +kernel)
    (case a_is_positive => first | k_is | kernel_rfl | rfl | decide +kernel)
    (case l_is_positive => first | k_is | kernel_rfl | rfl | decide +kernel)
    (case c_is_positive => first | k_is | kernel_rfl | rfl | decide +kernel)
    (case k_is_positive => first | k_is | kernel_rfl | rfl | decide +kernel)
    (case a_l_cell => first | k_is | kernel_rfl | rfl | decide +kernel)
    (case l_l_cell => first | k_is | kernel_rfl | rfl | decide +kernel)
    (case c_l_cell => first | k_is | kernel_rfl | rfl | decide +kernel)
    (case k_l_cell => first | k_is | kernel_rfl | rfl | decide +kernel)
    (case a_l_pool => first | k_is | kernel_rfl | rfl | decide +kernel)
    (case l_l_pool => first | k_is | kernel_rfl | rfl | decide +kernel)
    (case c_l_pool => first | k_is | kernel_rfl | rfl | decide +kernel)
    (case k_l_pool => first | k_is | kernel_rfl | rfl | decide +kernel)
    (case a_l_draw => first | k_is | kernel_rfl | rfl | decide +kernel)
    (case l_l_draw => first | k_is | kernel_rfl | rfl | decide +kernel)
    (case c_l_draw => first | k_is | kernel_rfl | rfl | decide +kernel)
    (case k_l_draw => first | k_is | kernel_rfl | rfl | decide +kernel)
    (case a_l_low => first | k_is | kernel_rfl | rfl | decide +kernel)
    (case l_l_low => first | k_is | kernel_rfl | rfl | decide +kernel)
    (case c_l_low => first | k_is | kernel_rfl | rfl | decide +kernel)
    (case k_l_low => first | k_is | kernel_rfl | rfl | decide +kernel)
    (case a_is_fraction => first | k_is | kernel_rfl | rfl | decide +kernel)
    (case l_is_fraction => first | k_is | kernel_rfl | rfl | decide +kernel)
    (case c_is_fraction => first | k_is | kernel_rfl | rfl | decide +kernel)
    (case k_is_fraction => first | k_is | kernel_rfl | rfl | decide +kernel)
    (case a_check_fractions => first | k_is | kernel_rfl | rfl | decide +kernel)
    (case l_check_fractions => first | k_is | kernel_rfl | rfl | decide +kernel)
    (case c_check_fractions => first | k_is | kernel_rfl | rfl | decide +kernel)
    (case k_check_fractions => first | k_is | kernel_rfl | rfl | decide +kernel)
    (case a_as_fraction => first | k_is | kernel_rfl | rfl | decide +kernel)
    (case l_as_fraction => first | k_is | kernel_rfl | rfl | decide +kernel)
    (case c_as_fraction => first | k_is | kernel_rfl | rfl | decide +kernel)
    (case k_as_fraction => first | k_is | kernel_rfl | rfl | decide +kernel)
    (case a_product => first | k_is | kernel_rfl | rfl | decide +kernel)
    (case l_product => first | k_is | kernel_rfl | rfl | decide +kernel)
    (case c_product => first | k_is | kernel_rfl | rfl | decide +kernel)
    (case k_product => first | k_is | kernel_rfl | rfl | decide +kernel)
    (case a_quotient => first | k_is | kernel_rfl | rfl | decide +kernel)
    (case l_quotient => first | k_is | kernel_rfl | rfl | decide +kernel)
    (case c_quotient => first | k_is | kernel_rfl | rfl | decide +kernel)
    (case k_quotient => first | k_is | kernel_rfl | rfl | decide +kernel)
    (case a_order => first | k_is | kernel_rfl | rfl | decide +kernel)
    (case l_order => first | k_is | kernel_rfl | rfl | decide +kernel)
    (case c_order => first | k_is | kernel_rfl | rfl | decide +kernel)
    (case k_order => first | k_is | kernel_rfl | rfl | decide +kernel)
    (case a_compare => first | k_is | kernel_rfl | rfl | decide +kernel)
    (case l_compare => first | k_is | kernel_rfl | rfl | decide +kernel)
    (case c_compare => first | k_is | kernel_rfl | rfl | decide +kernel)
    (case k_compare => first | k_is | kernel_rfl | rfl | decide +kernel)
    (case a_check_size => first | k_is | kernel_rfl | rfl | decide +kernel)
    (case l_check_size => first | k_is | kernel_rfl | rfl | decide +kernel)
    (case c_check_size => first | k_is | kernel_rfl | rfl | decide +kernel)
    (case k_check_size => first | k_is | kernel_rfl | rfl | decide +kernel)
    (case a_check_box => first | k_is | kernel_rfl | rfl | decide +kernel)
    (case l_check_box => first | k_is | kernel_rfl | rfl | decide +kernel)
    (case c_check_box => first | k_is | kernel_rfl | rfl | decide +kernel)
    (case k_check_box => first | k_is | kernel_rfl | rfl | decide +kernel)
    (case a_l_mul => first | k_is | kernel_rfl | rfl | decide +kernel)
    (case l_l_mul => first | k_is | kernel_rfl | rfl | decide +kernel)
    (case c_l_mul => first | k_is | kernel_rfl | rfl | decide +kernel)
    (case k_l_mul => first | k_is | kernel_rfl | rfl | decide +kernel)
    (case a_l_div => first | k_is | kernel_rfl | rfl | decide +kernel)
    (case l_l_div => first | k_is | kernel_rfl | rfl | decide +kernel)
    (case c_l_div => first | k_is | kernel_rfl | rfl | decide +kernel)
    (case k_l_div => first | k_is | kernel_rfl | rfl | decide +kernel)
    (case a_l_less => first | k_is | kernel_rfl | rfl | decide +kernel)
    (case l_l_less => first | k_is | kernel_rfl | rfl | decide +kernel)
    (case c_l_less => first | k_is | kernel_rfl | rfl | decide +kernel)
    (case k_l_less => first | k_is | kernel_rfl | rfl | decide +kernel)
    (case a_l_part => first | k_is | kernel_rfl | rfl | decide +kernel)
    (case l_l_part => first | k_is | kernel_rfl | rfl | decide +kernel)
    (case c_l_part => first | k_is | kernel_rfl | rfl | decide +kernel)
    (case k_l_part => first | k_is | kernel_rfl | rfl | decide +kernel)
    (case a_l_sides => first | k_is | kernel_rfl | rfl | decide +kernel)
    (case l_l_sides => first | k_is | kernel_rfl | rfl | decide +kernel)
    (case c_l_sides => first | k_is | kernel_rfl | rfl | decide +kernel)
    (case k_l_sides => first | k_is | kernel_rfl | rfl | decide +kernel)
    (case a_l_side => first | k_is | kernel_rfl | rfl | decide +kernel)
    (case l_l_side => first | k_is | kernel_rfl | rfl | decide +kernel)
    (case c_l_side => first | k_is | kernel_rfl | rfl | decide +kernel)
    (case k_l_side => first | k_is | kernel_rfl | rfl | decide +kernel)
    (case a_l_made => first | k_is | kernel_rfl | rfl | decide +kernel)
    (case l_l_made => first | k_is | kernel_rfl | rfl | decide +kernel)
    (case c_l_made => first | k_is | kernel_rfl | rfl | decide +kernel)
    (case k_l_made => first | k_is | kernel_rfl | rfl | decide +kernel)
    (case a_l_pair => first | k_is | kernel_rfl | rfl | decide +kernel)
    (case l_l_pair => first | k_is | kernel_rfl | rfl | decide +kernel)
    (case c_l_pair => first | k_is | kernel_rfl | rfl | decide +kernel)
    (case k_l_pair => first | k_is | kernel_rfl | rfl | decide +kernel)
    (case a_l_sized => first | k_is | kernel_rfl | rfl | decide +kernel)
    (case l_l_sized => first | k_is | kernel_rfl | rfl | decide +kernel)
    (case c_l_sized => first | k_is | kernel_rfl | rfl | decide +kernel)
    (case k_l_sized => first | k_is | kernel_rfl | rfl | decide +kernel)
    (case a_l_after => first | k_is | kernel_rfl | rfl | decide +kernel)
    (case l_l_after => first | k_is | kernel_rfl | rfl | decide +kernel)
    (case c_l_after => first | k_is | kernel_rfl | rfl | decide +kernel)
    (case k_l_after => first | k_is | kernel_rfl | rfl | decide +kernel)
    (case a_l_step_right => first | k_is | kernel_rfl | rfl | decide +kernel)
    (case l_l_step_right => first | k_is | kernel_rfl | rfl | decide +kernel)
    (case c_l_step_right => first | k_is | kernel_rfl | rfl | decide +kernel)
    (case k_l_step_right => first | k_is | kernel_rfl | rfl | decide +kernel)
    (case a_l_edges => first | k_is | kernel_rfl | rfl | decide +kernel)
    (case l_l_edges => first | k_is | kernel_rfl | rfl | decide +kernel)
    (case c_l_edges => first | k_is | kernel_rfl | rfl | decide +kernel)
    (case k_l_edges => first | k_is | kernel_rfl | rfl | decide +kernel)
    (case a_l_right => first | k_is | kernel_rfl | rfl | decide +kernel)
    (case l_l_right => first | k_is | kernel_rfl | rfl | decide +kernel)
    (case c_l_right => first | k_is | kernel_rfl | rfl | decide +kernel)
    (case k_l_right => first | k_is | kernel_rfl | rfl | decide +kernel)
    (case a_law => first | k_is | kernel_rfl | rfl | decide +kernel)
    (case l_law => first | k_is | kernel_rfl | rfl | decide +kernel)
    (case c_law => first | k_is | kernel_rfl | rfl | decide +kernel)
    (case k_law => first | k_is | kernel_rfl | rfl | decide +kernel)
    (case z_isinstance => first | k_is | kernel_rfl | rfl | decide +kernel)
    (case z_bool => first | k_is | kernel_rfl | rfl | decide +kernel)
    (case z_int => first | k_is | kernel_rfl | rfl | decide +kernel)
    (case z_len => first | k_is | kernel_rfl | rfl | decide +kernel)
    (case z_abs => first | k_is | kernel_rfl | rfl | decide +kernel)
    (case z_divmod => first | k_is | kernel_rfl | rfl | decide +kernel)
    (case z_tuple => first | k_is | kernel_rfl | rfl | decide +kernel)
    (case z_repr => first | k_is | kernel_rfl | rfl | decide +kernel)
    (case z_all => first | k_is | kernel_rfl | rfl | decide +kernel)
    (case z_range => first | k_is | kernel_rfl | rfl | decide +kernel)
    (case z_min => first | k_is | kernel_rfl | rfl | decide +kernel)
    (case z_max => first | k_is | kernel_rfl | rfl | decide +kernel)
    (case a_MOST_SIDE => first | k_is | kernel_rfl | rfl | decide +kernel)
    (case ca_Size => first | k_is | kernel_rfl | rfl | decide +kernel)
    (case cg_Size => first | k_is | kernel_rfl | rfl | decide +kernel)
    (case ch_Size => first | k_is | kernel_rfl | rfl | decide +kernel)
    (case cp_Size => first | k_is | kernel_rfl | rfl | decide +kernel)
    (case cs_Size => first | k_is | kernel_rfl | rfl | decide +kernel)
    (case is1_Size => first | k_is | kernel_rfl | rfl | decide +kernel)
    (case is2_Size => first | k_is | kernel_rfl | rfl | decide +kernel)
    (case is3_Size => first | k_is | kernel_rfl | rfl | decide +kernel)
    (case is4_Size => first | k_is | kernel_rfl | rfl | decide +kernel)
    (case nq_Size_width => first | k_is | kernel_rfl | rfl | decide +kernel)
    (case nq_Size_height => first | k_is | kernel_rfl | rfl | decide +kernel)
    (case cm_Size => first | k_is | kernel_rfl | rfl | decide +kernel)
    (case ck_Size => first | k_is | kernel_rfl | rfl | decide +kernel)
    (case ci_Size => first | k_is | kernel_rfl | rfl | decide +kernel)
    (case cf2_Size => first | k_is | kernel_rfl | rfl | decide +kernel)
    (case ca_Scaling => first | k_is | kernel_rfl | rfl | decide +kernel)
    (case cg_Scaling => first | k_is | kernel_rfl | rfl | decide +kernel)
    (case ch_Scaling => first | k_is | kernel_rfl | rfl | decide +kernel)
    (case cp_Scaling => first | k_is | kernel_rfl | rfl | decide +kernel)
    (case cs_Scaling => first | k_is | kernel_rfl | rfl | decide +kernel)
    (case cr1_Scaling => first | k_is | kernel_rfl | rfl | decide +kernel)
    (case cr2_Scaling => first | k_is | kernel_rfl | rfl | decide +kernel)
    (case cfq_Scaling_init => first | k_is | kernel_rfl | rfl | decide +kernel)
    (case ca_Shrink => first | k_is | kernel_rfl | rfl | decide +kernel)
    (case cg_Shrink => first | k_is | kernel_rfl | rfl | decide +kernel)
    (case ch_Shrink => first | k_is | kernel_rfl | rfl | decide +kernel)
    (case cp_Shrink => first | k_is | kernel_rfl | rfl | decide +kernel)
    (case cs_Shrink => first | k_is | kernel_rfl | rfl | decide +kernel)
    (case nq_Shrink_width => first | k_is | kernel_rfl | rfl | decide +kernel)
    (case nq_Shrink_height => first | k_is | kernel_rfl | rfl | decide +kernel)
    (case nq_Shrink_cover => first | k_is | kernel_rfl | rfl | decide +kernel)
    (case ca_Grow => first | k_is | kernel_rfl | rfl | decide +kernel)
    (case cg_Grow => first | k_is | kernel_rfl | rfl | decide +kernel)
    (case ch_Grow => first | k_is | kernel_rfl | rfl | decide +kernel)
    (case cp_Grow => first | k_is | kernel_rfl | rfl | decide +kernel)
    (case cs_Grow => first | k_is | kernel_rfl | rfl | decide +kernel)
    (case nq_Grow_width => first | k_is | kernel_rfl | rfl | decide +kernel)
    (case nq_Grow_height => first | k_is | kernel_rfl | rfl | decide +kernel)
    (case nq_Grow_cover => first | k_is | kernel_rfl | rfl | decide +kernel)
    (case kb_bo1 => first | k_is | kernel_rfl | rfl | decide +kernel)
    (case bo2 => first | k_is | kernel_rfl | rfl | decide +kernel)
    (case bo3 => first | k_is | kernel_rfl | rfl | decide +kernel)
    (case bo4 => first | k_is | kernel_rfl | rfl | decide +kernel)
    (case mq_Shrink_factor => first | k_is | kernel_rfl | rfl | decide +kernel)
    (case mi_Shrink_factor => first | k_is | kernel_rfl | rfl | decide +kernel)
    (case bt1_Size_tuple => first | k_is | kernel_rfl | rfl | decide +kernel)
    (case bt2_Size_tuple => first | k_is | kernel_rfl | rfl | decide +kernel)
    (case bt3_Size_tuple => first | k_is | kernel_rfl | rfl | decide +kernel)
    (case mq_Grow_factor => first | k_is | kernel_rfl | rfl | decide +kernel)
    (case mi_Grow_factor => first | k_is | kernel_rfl | rfl | decide +kernel)
    (case cm_Grow => first | k_is | kernel_rfl | rfl | decide +kernel)
    (case ck_Grow => first | k_is | kernel_rfl | rfl | decide +kernel)
    (case ci_Grow => first | k_is | kernel_rfl | rfl | decide +kernel)
    (case cf2_Grow => first | k_is | kernel_rfl | rfl | decide +kernel)
    (case cm_Shrink => first | k_is | kernel_rfl | rfl | decide +kernel)
    (case ck_Shrink => first | k_is | kernel_rfl | rfl | decide +kernel)
    (case ci_Shrink => first | k_is | kernel_rfl | rfl | decide +kernel)
    (case cf2_Shrink => first | k_is | kernel_rfl | rfl | decide +kernel)
    (case mq_Shrink_apply => first | k_is | kernel_rfl | rfl | decide +kernel)
    (case mi_Shrink_apply => first | k_is | kernel_rfl | rfl | decide +kernel)
    (case mq_Grow_apply => first | k_is | kernel_rfl | rfl | decide +kernel)
    (case mi_Grow_apply => first | k_is | kernel_rfl | rfl | decide +kernel)
    (case l_Size_init => first | k_is | kernel_rfl | rfl | decide +kernel)
    (case c_Size_init => first | k_is | kernel_rfl | rfl | decide +kernel)
    (case k_Size_init => first | k_is | kernel_rfl | rfl | decide +kernel)
    (case l_Size_mul => first | k_is | kernel_rfl | rfl | decide +kernel)
    (case c_Size_mul => first | k_is | kernel_rfl | rfl | decide +kernel)
    (case k_Size_mul => first | k_is | kernel_rfl | rfl | decide +kernel)
    (case l_Scaling_init => first | k_is | kernel_rfl | rfl | decide +kernel)
    (case c_Scaling_init => first | k_is | kernel_rfl | rfl | decide +kernel)
    (case k_Scaling_init => first | k_is | kernel_rfl | rfl | decide +kernel)
    (case l_Scaling_factor => first | k_is | kernel_rfl | rfl | decide +kernel)
    (case c_Scaling_factor => first | k_is | kernel_rfl | rfl | decide +kernel)
    (case k_Scaling_factor => first | k_is | kernel_rfl | rfl | decide +kernel)
    (case l_Shrink_init => first | k_is | kernel_rfl | rfl | decide +kernel)
    (case c_Shrink_init => first | k_is | kernel_rfl | rfl | decide +kernel)
    (case k_Shrink_init => first | k_is | kernel_rfl | rfl | decide +kernel)
    (case kd_Shrink_init_cover => first | k_is | kernel_rfl | rfl | decide +kernel)
    (case l_Grow_init => first | k_is | kernel_rfl | rfl | decide +kernel)
    (case c_Grow_init => first | k_is | kernel_rfl | rfl | decide +kernel)
    (case k_Grow_init => first | k_is | kernel_rfl | rfl | decide +kernel)
    (case kd_Grow_init_cover => first | k_is | kernel_rfl | rfl | decide +kernel)
    (case l_Shrink_apply => first | k_is | kernel_rfl | rfl | decide +kernel)
    (case c_Shrink_apply => first | k_is | kernel_rfl | rfl | decide +kernel)
    (case k_Shrink_apply => first | k_is | kernel_rfl | rfl | decide +kernel)
    (case l_Grow_apply => first | k_is | kernel_rfl | rfl | decide +kernel)
    (case c_Grow_apply => first | k_is | kernel_rfl | rfl | decide +kernel)
    (case k_Grow_apply => first | k_is | kernel_rfl | rfl | decide +kernel)
